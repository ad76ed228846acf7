/- Texts that others want. -/
import Derived.Test.YtkmlfkbpcgkpaaaGreatDoorM0
import Derived.Test.YtkmlfkbpcgkpaaaGreatDoorM2
import Derived.Test.YtkmlfkbpcgkpaaaGreatDoorMC
import Derived.Test.YtkmlfkbpcgkpaaaGreatDoorMD
import Derived.Test.YtkmlfkbpcgkpaaaGreatDoorWDDw
namespace Go.Proofs.YtkmlfkbpcgkpaaaGreatDoor
open Go.RowKit Go.Lib Go.Op
set_option maxHeartbeats 8000000
set_option maxRecDepth 100000
section
variable {w : World} {R T : Nat} {L : List XTok} {s : DS}
theorem zfC {t : XTok} {r : List XTok} (hb : s.bad=false) (hl : s.l=t :: r) : dNamed s=(decide (t.k=1) && nameB t.b):=by
 unfold dNamed
 rw [hb,hl]
 rfl
theorem zeS (h : DdR w R T L s) : Calls Tryz.prog 185 #[.pointer (some ⟨R,0,none⟩)] w fun e w'=>e=.returned (.bool (dNamed s))∧Below w.heap.size w w':=by
 obtain ⟨a,c,h1⟩:=h
 have c0:=h1.c0
 have c1:=h1.c1
 have c2:=h1.c2
 have hle:=h1.le
 have hlen:=h1.len
 cases hb : s.bad with
 | true =>
   have hz : dNamed s=false:=by unfold dNamed;rw [hb];rfl
   rw [hz]
   rw [hb] at c2
   clear h1 hb hle hlen hz
   go_enter Tryz.func185,Tryz.ntmps185
   go_wp2_with fail
   go_quiet (fail)
   have HB1 : Hid (Below w.heap.size w (w.drewN nq)):=below_drewN (Below.refl _ _) _
   go_wp2
   go_ret
   exact ⟨rfl,HB1.out⟩
 | false =>
   rw [hb] at c2
   cases hl : s.l with
   | nil =>
     have hz : dNamed s=false:=by unfold dNamed;rw [hl];simp
     rw [hz]
     rw [hl,List.length_nil,Nat.sub_zero] at c1
     obtain ⟨n,hn⟩ : ∃ n,L.length=n:=⟨_,rfl⟩
     rw [hn] at c0 c1
     clear h1 hb hl hz hle hlen hn
     go_enter Tryz.func185,Tryz.ntmps185
     go_wp2_with fail
     go_quiet (fail)
     have HB1 : Hid (Below w.heap.size w (w.drewN nq)):=below_drewN (Below.refl _ _) _
     go_wp2
     go_ret
     exact ⟨rfl,HB1.out⟩
   | cons t r =>
     rw [zfC hb hl]
     obtain ⟨o,rfl,hlt,h0,h2,h3⟩:=h1.first hl
     have hd:=(h1.head hl).2.1
     have HN:=hid (fun W=>zan t.b W (by omega))
     obtain ⟨z,hz⟩ : ∃ z,nameB t.b=z:=⟨_,rfl⟩
     rw [hz] at HN ⊢
     obtain ⟨n,hn⟩ : ∃ n,L.length=n:=⟨_,rfl⟩
     obtain ⟨p,hp⟩ : ∃ p,L.length - s.l.length=p:=⟨_,rfl⟩
     rw [hp] at c1 h0 h2 h3 hlt
     rw [hn] at c0 hlt
     clear h1 hb hl hle hlen hn hp hz hd
     obtain ⟨tb,htb⟩ : ∃ tb,strB t.b=tb:=⟨_,rfl⟩
     rw [htb] at h2 HN
     clear htb h3
     by_cases h1k : t.k=1
     ·rw [decide_eq_true h1k,Bool.true_and]
      rw [h1k] at h0
      have c0 : w.drew.cell? _=_:=c0
      have c1 : w.drew.cell? _=_:=c1
      have c2 : w.drew.cell? _=_:=c2
      have h0 : w.drew.cell? _=some (.int .i64 1):=h0
      have h2 : w.drew.cell? _=_:=h2
      clear h1k
      go_enter Tryz.func185,Tryz.ntmps185
      go_wp2_with fail
      refine wp_region_held_drew (S:=fun W=>W.cell? ⟨R,0,none⟩=some (.slice (some ⟨T,o,none⟩) n c)∧W.cell? ⟨R,1,none⟩=some (.int .i64 p)∧W.cell? ⟨R,2,none⟩=some (.bool false)∧W.cell? ⟨T,o+p*3,none⟩=some (.int .i64 1)∧W.cell? ⟨T,o+p*3+1,none⟩=some (.string tb)) (by kernel_rfl) ⟨c0,c1,c2,h0,h2⟩ (fun hHeld0=>?_)
      refine tK 0 3 (h:=?_)
      try simp only [Act.put,sI,sZ,sS]
      refine tK 1 4 (h:=?_)
      try simp only [Act.put,sI,sZ,sS]
      refine tK 2 5 (h:=?_)
      try simp only [Act.put,sI,sZ,sS]
      refine tK 3 6 (h:=?_)
      try simp only [Act.put,sI,sZ,sS]
      refine tK 4 7 (h:=?_)
      try simp only [Act.put,sI,sZ,sS]
      refine tK 5 8 (h:=?_)
      try simp only [Act.put,sI,sZ,sS]
      refine tK 6 9 (h:=?_)
      try simp only [Act.put,sI,sZ,sS]
      refine tK 7 10 (h:=?_)
      try simp only [Act.put,sI,sZ,sS]
      refine tK 8 11 (h:=?_)
      try simp only [Act.put,sI,sZ,sS]
      refine tK 9 12 (h:=?_)
      try simp only [Act.put,sI,sZ,sS]
      refine tK 10 13 (h:=?_)
      try simp only [Act.put,sI,sZ,sS]
      refine tK 11 14 (h:=?_)
      try simp only [Act.put,sI,sZ,sS]
      refine tK 12 15 (h:=?_)
      try simp only [Act.put,sI,sZ,sS]
      refine tK 13 16 (h:=?_)
      try simp only [Act.put,sI,sZ,sS]
      refine tK 14 17 (h:=?_)
      try simp only [Act.put,sI,sZ,sS]
      refine tK 15 18 (h:=?_)
      try simp only [Act.put,sI,sZ,sS]
      refine tK 16 19 (h:=?_)
      try simp only [Act.put,sI,sZ,sS]
      refine tK 17 20 (h:=?_)
      try simp only [Act.put,sI,sZ,sS]
      refine tK 18 21 (h:=?_)
      try simp only [Act.put,sI,sZ,sS]
      refine tK 19 22 (h:=?_)
      try simp only [Act.put,sI,sZ,sS]
      refine tK 20 23 (h:=?_)
      try simp only [Act.put,sI,sZ,sS]
      refine tK 21 24 (h:=?_)
      try simp only [Act.put,sI,sZ,sS]
      refine tK 22 25 (h:=?_)
      try simp only [Act.put,sI,sZ,sS]
      refine tK 23 26 (h:=?_)
      try simp only [Act.put,sI,sZ,sS]
      refine tK 24 27 (h:=?_)
      try simp only [Act.put,sI,sZ,sS]
      refine tK 25 28 (h:=?_)
      try simp only [Act.put,sI,sZ,sS]
      refine tK 26 29 (h:=?_)
      try simp only [Act.put,sI,sZ,sS]
      refine tK 27 30 (h:=?_)
      try simp only [Act.put,sI,sZ,sS]
      refine tK 28 31 (h:=?_)
      try simp only [Act.put,sI,sZ,sS]
      refine tK 29 32 (h:=?_)
      try simp only [Act.put,sI,sZ,sS]
      refine tK 30 33 (h:=?_)
      try simp only [Act.put,sI,sZ,sS]
      refine tK 31 34 (h:=?_)
      try simp only [Act.put,sI,sZ,sS]
      refine tK 32 35 (h:=?_)
      try simp only [Act.put,sI,sZ,sS]
      refine tK 33 36 (h:=?_)
      try simp only [Act.put,sI,sZ,sS]
      refine tK 34 37 (h:=?_)
      try simp only [Act.put,sI,sZ,sS]
      refine tK 35 38 (h:=?_)
      try simp only [Act.put,sI,sZ,sS]
      refine tK 36 39 (h:=?_)
      try simp only [Act.put,sI,sZ,sS]
      refine tK 37 40 (h:=?_)
      try simp only [Act.put,sI,sZ,sS]
      refine tK 38 41 (h:=?_)
      try simp only [Act.put,sI,sZ,sS]
      refine tK 39 42 (h:=?_)
      try simp only [Act.put,sI,sZ,sS]
      refine tK 40 43 (h:=?_)
      try simp only [Act.put,sI,sZ,sS]
      refine tK 41 44 (h:=?_)
      try simp only [Act.put,sI,sZ,sS]
      refine tK 42 45 (h:=?_)
      try simp only [Act.put,sI,sZ,sS]
      refine wpAnyH_ready (rs:=[43]) (by kernel_rfl) (by simp) ?_
      refine AllReadyH.cons (o:=_) rfl (fun K hK=>?_) AllReadyH.nil
      dsimp only [List.getElem_toArray,List.getElem_cons_succ,List.getElem_cons_zero]
      go_simp
      go_at_call 51
      (with_reducible refine (HN.out _).mono ?_)
      rintro e w1 ⟨rfl,hb1⟩
      have HB1:=hid ((zae (Below.refl w.heap.size w)).trans hb1)
      have d0:=zaa hb1 c0
      have d1:=zaa hb1 c1
      have d2:=zaa hb1 c2
      have d3:=zaa hb1 h0
      have d4:=zaa hb1 h2
      clear hb1
      go_wp2_with fail
      refine hK.out _ _ ⟨d0,d1,d2,d3,d4⟩ (fun hHeld1=>?_)
      clear hK K
      try simp only [Act.put,sI,sZ,sS]
      refine tK 44 47 (h:=?_)
      try simp only [Act.put,sI,sZ,sS]
      refine tK 45 2 (h:=?_)
      try simp only [Act.put,sI,sZ,sS]
      refine wpAnyH_done (by kernel_rfl) ?_ _
      go_wp2
      go_ret
      exact ⟨rfl,HB1.out⟩
     ·have tk : ((t.k : Int) == 1)=false:=by rw [beq_eq_false_iff_ne];omega
      rw [decide_eq_false h1k,Bool.false_and]
      clear h1k
      go_enter Tryz.func185,Tryz.ntmps185
      go_wp2_with fail
      go_quiet (fail)
      have HB1 : Hid (Below w.heap.size w (w.drewN nq)):=below_drewN (Below.refl _ _) _
      go_wp2
      go_ret
      exact ⟨rfl,HB1.out⟩
theorem zaL (h : DdR w R T L s) : Calls Tryz.prog 144 #[.pointer (some ⟨R,0,none⟩)] w fun e w'=>e=.returned (.string (strB (dName s).1))∧DdTo R T L (dName s).2 w w':=by
 have HN:=hid (zeS h)
 have H:=hid h
 cases hz : dNamed s with
 | false =>
   have hs : dName s=([],dFail s):=by unfold dName;rw [hz];rfl
   rw [hs]
   rw [hz] at HN
   clear hz hs h
   go_enter Tryz.func144,Tryz.ntmps144
   go_wp2_with fail
   with_reducible refine HN.out.mono ?_
   rintro e w1 ⟨rfl,hb1⟩
   have HB1:=hid hb1
   have HF:=hid (zam (H.out.keep hb1))
   clear hb1
   go_wp2_with fail
   with_reducible refine HF.out.mono ?_
   rintro e w2 ⟨rfl,hd2⟩
   have HD2:=hid (DdTo.after HB1.out hd2)
   clear hd2
   go_wp2
   go_ret
   exact ⟨rfl,HD2.out⟩
 | true =>
   obtain ⟨t,r,hl⟩ : ∃ t r,s.l=t :: r:=by
    unfold dNamed at hz
    cases hl : s.l with
    | nil=>rw [hl] at hz;simp at hz
    | cons t r=>exact ⟨t,r,rfl⟩
   have hs : dName s=(t.b,dSkip s):=by unfold dName dHead;rw [hz,hl];rfl
   rw [hs]
   rw [hz] at HN
   have HL:=hid hl
   clear hz hs h hl
   go_enter Tryz.func144,Tryz.ntmps144
   go_wp2_with fail
   with_reducible refine HN.out.mono ?_
   rintro e w1 ⟨rfl,hb1⟩
   have HB1:=hid hb1
   clear hb1
   obtain ⟨a,c,h1⟩:=H.out.keep HB1.out
   have h2:=h1.skip HL.out rfl
   have H2:=hid h2
   have c1:=h1.c1
   have c0:=h1.c0
   have f1:=h1.f 1
   have hlen:=h1.len
   obtain ⟨o,rfl,hlt,d0,d1,d2⟩:=h1.first HL.out
   have htr:=h1.tr
   have e1:=(TFr.at (w:=w1) R 1 (.int .i64 (((L.length - s.l.length : Nat) : Int)+1))).cell d1 (Nat.ne_of_lt htr)
   have e0:=h2.c0
   have e2:=h2.c1
   have hlen2 : (L.length - (dSkip s).l.length : Nat)=(L.length - s.l.length)+1:=by
    have:=h1.le
    unfold dSkip
    rw [HL.out] at this ⊢
    simp only [List.tail_cons,List.length_cons] at this ⊢
    omega
   rw [hlen2] at e2
   have hw : IntKind.i64.wrap (((L.length - s.l.length : Nat) : Int)+1)=((L.length - s.l.length : Nat) : Int)+1:=IntWalk.i64_in _ (by omega)
   obtain ⟨p,hp⟩ : ∃ p,L.length - s.l.length=p:=⟨_,rfl⟩
   obtain ⟨n,hn⟩ : ∃ n,L.length=n:=⟨_,rfl⟩
   rw [hp] at c1 hw H2 d0 d1 d2 hlt e1 e0 e2
   rw [hn] at c0 hlt hlen e0
   have hw2 : IntKind.i64.wrap ((p : Int)+1 - 1)=(p : Int):=by rw [show (p : Int)+1 - 1=(p : Int) by omega];exact IntWalk.i64_in _ (by omega)
   have hi1 : (p : Int)+1 - 1=(p : Int):=by omega
   clear h1 h2 hp hn hlen2 d0 d2 c0
   go_wp2_with fail
   go_quiet (fail)
   have HD : Hid (DdTo R T L (dSkip s) w ((w1.setCell ⟨R,1,none⟩ (.int .i64 ((p : Int)+1))).drewN nq)):=(DdTo.mk ⟨_,c,H2.out⟩ ((TFr.of_below HB1.out).trans (TFr.at _ _ _))).then (below_drewN (Below.refl _ _) _)
   go_wp2
   go_ret
   exact ⟨rfl,HD.out⟩
theorem zhV (s : ByteArray) {k : Nat} (h : k < s.size) : s.data.toList[k]?=some s[k]:=by
 rw [List.getElem?_eq_getElem (by simpa using h)]
 rfl
theorem zhW (b : List UInt8) (k : Nat) : decF 0 (b.take k)≤decF 0 b:=by
 have h : decF 0 b=decF (decF 0 (b.take k)) (b.drop k):=by
  unfold decF
  rw [← List.foldl_append,List.take_append_drop]
 rw [h]
 exact zeO _ _
theorem zb4 (h : DdR w R T L s) : Calls Tryz.prog 143 #[.pointer (some ⟨R,0,none⟩)] w fun e w'=>e=.returned (.int .i64 (dNum s).1)∧DdTo R T L (dNum s).2 w w':=by
 have HF:=hid (fun W hW=>zam (h.keep (w':=W) hW))
 obtain ⟨a,c,h1⟩:=h
 have H:=hid h1
 have c0:=h1.c0
 have c1:=h1.c1
 have c2:=h1.c2
 have hle:=h1.le
 have hlen:=h1.len
 cases hb : s.bad with
 | true =>
   have hz : dNum s=(0,dFail s):=by unfold dNum;rw [hb];rfl
   rw [hz]
   rw [hb] at c2
   clear h1 hb hle hlen hz H
   go_enter Tryz.func143,Tryz.ntmps143
   go_wp2_with fail
   go_quiet (fail)
   have HB1 : Hid (Below w.heap.size w (w.drewN nq)):=below_drewN (Below.refl _ _) _
   have HF2:=hid (HF.out _ HB1.out)
   go_wp2_with (go_at_call 146;(with_reducible refine HF2.out.mono ?_);rintro e w2 ⟨rfl,hd2⟩;have HD2:=hid (DdTo.after HB1.out hd2);clear hd2)
   go_ret
   exact ⟨rfl,HD2.out⟩
 | false =>
   rw [hb] at c2
   cases hl : s.l with
   | nil =>
     have hz : dNum s=(0,dFail s):=by unfold dNum dKind;rw [hl,if_neg (by simp)]
     rw [hz]
     rw [hl,List.length_nil,Nat.sub_zero] at c1
     obtain ⟨n,hn⟩ : ∃ n,L.length=n:=⟨_,rfl⟩
     rw [hn] at c0 c1
     clear h1 hb hl hz hle hlen hn H
     go_enter Tryz.func143,Tryz.ntmps143
     go_wp2_with fail
     go_quiet (fail)
     have HB1 : Hid (Below w.heap.size w (w.drewN nq)):=below_drewN (Below.refl _ _) _
     have HF2:=hid (HF.out _ HB1.out)
     go_wp2_with (go_at_call 146;(with_reducible refine HF2.out.mono ?_);rintro e w2 ⟨rfl,hd2⟩;have HD2:=hid (DdTo.after HB1.out hd2);clear hd2)
     go_ret
     exact ⟨rfl,HD2.out⟩
   | cons t r =>
     obtain ⟨o,rfl,hlt,h0,h2,h3⟩:=h1.first hl
     have hd:=h1.head hl
     by_cases hk : t.k=2
     ·have hz : dNum s=(((decN t.b : Nat) : Int),dSkip s):=by unfold dNum dKind dHead;rw [hl,hb,if_pos ⟨rfl,hk⟩]
      rw [hz]
      obtain ⟨_,hdig,hmax⟩:=hd.1.2.1 hk
      have hbl:=hd.2.1
      have tk : ((t.k : Int) != 2)=false:=by rw [bne_eq_false_iff_eq];omega
      have HL:=hid hl
      have hw : IntKind.i64.wrap (((L.length - s.l.length : Nat) : Int)+1)=((L.length - s.l.length : Nat) : Int)+1:=IntWalk.i64_in _ (by omega)
      obtain ⟨b,hbb⟩ : ∃ b,t.b=b:=⟨_,rfl⟩
      rw [hbb] at hdig hmax h2 hbl ⊢
      obtain ⟨sb,hsb⟩ : ∃ sb,strB b=sb:=⟨_,rfl⟩
      have hsz : sb.size=b.length:=by rw [← hsb,zap]
      have hsl : sb.data.toList=b:=by rw [← hsb,zax]
      rw [hsb] at h2
      have HSL:=hid hsl
      have HSZ:=hid hsz
      have HDG:=hid hdig
      have HMX:=hid hmax
      have hsm : sb.size≤1000:=by omega
      have H2 : Hid (∀ W,Below w.heap.size w W→DdTo R T L (dSkip s) w (W.setCell ⟨R,1,none⟩ (.int .i64 (((L.length - s.l.length : Nat) : Int)+1)))∧W.cell? ⟨R,1,none⟩=some (.int .i64 ((L.length - s.l.length : Nat) : Int))∧W.frozen? ⟨R,1,none⟩=false∧W.cell? ⟨R,0,none⟩=some (.slice (some ⟨T,o,none⟩) L.length c)∧W.cell? ⟨T,o+(L.length - s.l.length)*3+1,none⟩=some (.string sb)):=fun W hW=>by
       have k:=H.out.keep hW
       exact ⟨⟨⟨_,c,k.skip HL.out rfl⟩,(TFr.of_below hW).trans (TFr.at _ _ _)⟩,k.c1,k.f 1,k.c0,zaa hW h2⟩
      obtain ⟨n,hn⟩ : ∃ n,L.length=n:=⟨_,rfl⟩
      obtain ⟨p,hp⟩ : ∃ p,L.length - s.l.length=p:=⟨_,rfl⟩
      rw [hp] at c1 h0 h2 h3 hlt hw H2
      rw [hn] at c0 hlt H2
      clear h1 hb hl hz hle hlen hn hp hd hk hbb hsb hsz hsl hdig hmax hbl HF H
      go_enter Tryz.func143,Tryz.ntmps143
      go_wp2_with fail
      go_quiet (fail)
      have hb1 : Below w.heap.size w (w.drewN nq):=below_drewN (Below.refl _ _) _
      generalize w.drewN nq=w1 at hb1 ⊢
      obtain ⟨_,e1,e2,e3,e4⟩:=H2.out _ hb1
      have HB1:=hid hb1
      clear c0 c1 c2 h0 h2 h3 hb1
      go_wp2_with fail
      go_quiet (fail)
      have hb2 : Below w.heap.size w (w1.drewN nq):=below_drewN HB1.out _
      generalize w1.drewN nq=w2 at hb2 ⊢
      obtain ⟨H3,g1,g2,g3,g4⟩:=H2.out _ hb2
      have H4:=hid H3
      clear e1 e2 e3 e4 H3 hb2 H2
      go_wp2_with fail
      go_loop [3,5] (fun v i=>∃ k m : Nat,v=.int .i64 m∧i=.int .i64 k∧k≤sb.size∧Hid (m=decF 0 (b.take k))) (fun _ i=>sb.size - (RowKit.intOf i).toNat)
      case atStart=>exact ⟨0,0,rfl,rfl,Nat.zero_le _,by show 0=decF 0 (b.take 0);simp [decF]⟩
      case round =>
       obtain ⟨k,m,rfl,rfl,hk,HK⟩:=hrel
       by_cases hlt2 : k < sb.size
       ·have hget:=zhV sb hlt2
        rw [HSL.out] at hget
        have hst:=zeQ hget
        rw [← HK.out] at hst
        have hle:=zhW b (k+1)
        have hmx:=HMX.out
        unfold decN at hmx
        rw [hst] at hle
        have hx:=HDG.out _ (List.mem_of_getElem? hget)
        unfold xdigit at hx
        simp only [Bool.and_eq_true,decide_eq_true_eq] at hx
        obtain ⟨hx1,hx2⟩:=hx
        have HN : Hid (dstep m sb[k]=decF 0 (b.take (k+1))):=hst.symm
        unfold dstep at hle
        have hw1 : (((sb[k].toNat : Int) - 48) % 256)=(sb[k].toNat : Int) - 48:=by omega
        have hm : IntKind.i64.wrap (10*(m : Int))=10*(m : Int):=IntWalk.i64_in _ (by omega)
        have hbnd : 10*m+(sb[k].toNat - 48)≤1099511627776:=by omega
        clear hget hst hmx hle
        go_wp2
        go_round
        case rel=>exact ⟨k+1,dstep m sb[k],by unfold dstep;go_num,by go_num,by omega,HN⟩
        case measure=>simp [RowKit.intOf];omega
       ·have hkk : k=b.length:=by have:=HSZ.out;omega
        have HE : Hid ((m : Int)=((decN b : Nat) : Int)):=by
         show _=_
         rw [HK.out,hkk,List.take_length]
         rfl
        clear HK hkk
        go_wp2
        go_ret
        exact ⟨zaS HE.out,H4.out⟩
     ·have hz : dNum s=(0,dFail s):=by unfold dNum dKind;rw [hl,if_neg (fun e=>hk e.2)]
      rw [hz]
      have tk : ((t.k : Int) != 2)=true:=by rw [bne_iff_ne];omega
      obtain ⟨n,hn⟩ : ∃ n,L.length=n:=⟨_,rfl⟩
      obtain ⟨p,hp⟩ : ∃ p,L.length - s.l.length=p:=⟨_,rfl⟩
      rw [hp] at c1 h0 h2 h3 hlt
      rw [hn] at c0 hlt
      clear h1 hb hl hz hle hlen hn hp hk hd H
      go_enter Tryz.func143,Tryz.ntmps143
      go_wp2_with fail
      go_quiet (fail)
      have HB1 : Hid (Below w.heap.size w (w.drewN nq)):=below_drewN (Below.refl _ _) _
      have HF2:=hid (HF.out _ HB1.out)
      go_wp2_with (go_at_call 146;(with_reducible refine HF2.out.mono ?_);rintro e w2 ⟨rfl,hd2⟩;have HD2:=hid (DdTo.after HB1.out hd2);clear hd2)
      go_ret
      exact ⟨rfl,HD2.out⟩
end
theorem zke {w : World} {a : Option Addr} {c : Nat} {vk vn : Int} {vs : List UInt8} (m : Nat) (hm : 0 < m) (hm7 : m≤100) (hs : vs.length≤1000000) : Calls Tryz.prog 50 #[.agg #[.int .i64 1,.int .i64 vk,.int .i64 vn,.string (strB vs),.string ⟨#[]⟩,.string ⟨#[]⟩,.slice a 0 c],.int .i64 m] w fun e w'=>e=.returned (.bool (writeB ⟨vk,vn,vs⟩))∧Below w.heap.size w w':=by
 have ht : decide ((m : Int) < 1)=false:=by rw [decide_eq_false_iff_not];omega
 obtain ⟨z,hz⟩ : ∃ z,writeB ⟨vk,vn,vs⟩=z:=⟨_,rfl⟩
 rw [hz]
 have hsz : (strB vs).size=vs.length:=zap vs
 have hli : (strB vs).data.toList=vs:=zax vs
 obtain ⟨sv,hsv⟩ : ∃ sv,strB vs=sv:=⟨_,rfl⟩
 rw [hsv] at hsz hli ⊢
 have hrv : rightV vk vn sv=rightB ⟨vk,vn,vs⟩:=by unfold rightV;rw [hli]
 have HVR:=hid (fun W=>rright_calls vk vn sv W (by unfold maxLen;omega))
 rw [hrv] at HVR
 have HZ:=hid hz
 have HLI:=hid hli
 have HB0:=hid ((Below.refl w.heap.size w).alloc (Nat.le_refl _) (.cells #[.int .i64 1,.int .i64 vk,.int .i64 vn,.string sv,.string ⟨#[]⟩,.string ⟨#[]⟩,.slice a 0 c] 89))
 have hq : sv.size≤1000000:=by omega
 clear hz hli hsv hrv hsz hs
 go_enter Tryz.func50,Tryz.ntmps50
 go_wp2
 go_loopw [7] (fun i wr=>∃ j : Nat,i=.int .i64 j∧j≤sv.size∧Hid (∀ x∈vs.take j,inkB x=true)∧Hid (wr=w.alloc (.cells #[.int .i64 1,.int .i64 vk,.int .i64 vn,.string sv,.string ⟨#[]⟩,.string ⟨#[]⟩,.slice a 0 c] 89))) (fun i _=>sv.size - (RowKit.intOf i).toNat)
 case atStart=>exact ⟨0,rfl,Nat.zero_le _,hid (fun x hx=>by simp at hx),hid rfl⟩
 case round =>
  obtain ⟨j,rfl,hj,HK,HW⟩:=hrel
  have hw:=HW.out
  subst hw
  clear HW
  by_cases hlt : j < sv.size
  ·obtain ⟨x,hx⟩ : ∃ x,sv[j]=x:=⟨_,rfl⟩
   have hget : vs[j]?=some x:=by rw [← HLI.out,← hx];exact zhV sv hlt
   have Hx:=hid hget
   have hx8:=x.toNat_lt
   have hstep:=fun hch : inkB x=true=>(fun y hy=>by
    rw [List.take_add_one,Hx.out] at hy
    rcases List.mem_append.1 hy with hy|hy
    ·exact HK.out y hy
    ·obtain rfl : y=x:=by simpa using hy
     exact hch : ∀ y∈vs.take (j+1),inkB y=true)
   have hfail:=fun hch : inkB x=false=>(show z=false by
    rw [← HZ.out]
    unfold writeB
    rw [show vs.all inkB=false from List.all_eq_false.2 ⟨x,List.mem_of_getElem? Hx.out,by simp [hch]⟩]
    rfl)
   unfold inkB at hstep hfail
   have hi:=zba sv hlt hx (m:=x.toNat) rfl
   clear hx hget
   generalize x.toNat=n at *
   have hw : IntKind.i64.wrap ((j : Int)+1)=((j+1 : Nat) : Int):=by rw [IntWalk.i64_in _ (by omega)];omega
   by_cases a1 : n < 32
   ·have hz0:=hfail (by simp;omega)
    subst hz0
    have t1 : decide (n < 32)=true:=decide_eq_true a1
    have t1' : decide ((n : Int) < 32)=true:=decide_eq_true (by omega)
    clear hstep hfail
    go_wp2
    go_ret
    exact ⟨rfl,HB0.out⟩
   have t1 : decide ((n : Int) < 32)=false:=decide_eq_false (by omega)
   by_cases a2 : 126 < n
   ·have hz0:=hfail (by simp;omega)
    subst hz0
    have t2 : decide (126 < n)=true:=decide_eq_true a2
    have t2' : decide (126 < (n : Int))=true:=decide_eq_true (by omega)
    clear hstep hfail
    go_wp2
    go_ret
    exact ⟨rfl,HB0.out⟩
   have t2 : decide (126 < (n : Int))=false:=decide_eq_false (by omega)
   by_cases a3 : n=39
   ·have hz0:=hfail (by simp;omega)
    subst hz0
    subst a3
    clear hstep hfail
    go_wp2
    go_ret
    exact ⟨rfl,HB0.out⟩
   have t3 : ((n : Int) == 39)=false:=by rw [beq_eq_false_iff_ne];omega
   have hn:=hstep (by simp;omega)
   have HN:=hid hn
   clear hstep hfail hn
   go_wp2
   exact ⟨⟨j+1,rfl,hlt,HN,hid (by first|rfl|trivial)⟩,by simp [RowKit.intOf];omega⟩
  ·have hje : j=sv.size:=by omega
   subst hje
   have hall : vs.all inkB=true:=by
    rw [List.all_eq_true]
    intro y hy
    have h1:=HK.out y
    rw [List.take_of_length_le (by rw [← HLI.out];simp)] at h1
    exact h1 hy
   have hz2 : rightB ⟨vk,vn,vs⟩=z:=by rw [← HZ.out];unfold writeB;rw [hall];rfl
   rw [hz2] at HVR
   clear hall hz2 HK hj
   go_wp2_with fail
   with_reducible refine (HVR.out _).mono ?_
   rintro e w2 ⟨rfl,rfl⟩
   go_wp2
   go_ret
   exact ⟨rfl,HB0.out.alloc HB0.out.size _⟩
section
variable {w : World} {c : Nat}
theorem zjF (m : Nat) (hm : 0 < m) (hm7 : m≤100) {g o : Nat} {y z : PEx} {ay az : Option Addr} {qy cy qz cz : Nat} (r1 r2 : Bool) (yc0 : w.cell? ⟨g,o,none⟩=some (.int .i64 y.k)) (yc1 : w.cell? ⟨g,o+1,none⟩=some (.int .i64 y.v.k)) (yc2 : w.cell? ⟨g,o+2,none⟩=some (.int .i64 y.v.n)) (yc3 : w.cell? ⟨g,o+3,none⟩=some (.string (strB y.v.s))) (yc4 : w.cell? ⟨g,o+4,none⟩=some (.string (strB y.x))) (yc5 : w.cell? ⟨g,o+5,none⟩=some (.string (strB y.f))) (yc6 : w.cell? ⟨g,o+6,none⟩=some (.slice ay qy cy)) (zc0 : w.cell? ⟨g,o+7,none⟩=some (.int .i64 z.k)) (zc1 : w.cell? ⟨g,o+8,none⟩=some (.int .i64 z.v.k)) (zc2 : w.cell? ⟨g,o+9,none⟩=some (.int .i64 z.v.n)) (zc3 : w.cell? ⟨g,o+10,none⟩=some (.string (strB z.v.s))) (zc4 : w.cell? ⟨g,o+11,none⟩=some (.string (strB z.x))) (zc5 : w.cell? ⟨g,o+12,none⟩=some (.string (strB z.f))) (zc6 : w.cell? ⟨g,o+13,none⟩=some (.slice az qz cz)) (h1 : ∀ W,Below w.heap.size w W→Calls Tryz.prog 50 #[exV y (.slice ay qy cy),.int .i64 ((m : Int) - 1)] W fun e w'=>e=.returned (.bool r1)∧Below W.heap.size W w') (h2 : ∀ W,Below w.heap.size w W→Calls Tryz.prog 50 #[exV z (.slice az qz cz),.int .i64 ((m : Int) - 1)] W fun e w'=>e=.returned (.bool r2)∧Below W.heap.size W w') : Calls Tryz.prog 50 #[.agg #[.int .i64 7,.int .i64 0,.int .i64 0,.string ⟨#[]⟩,.string ⟨#[]⟩,.string ⟨#[]⟩,.slice (some ⟨g,o,none⟩) 2 c],.int .i64 m] w fun e w'=>e=.returned (.bool (r1 && r2))∧Below w.heap.size w w':=by
 have hb0:=(Below.refl w.heap.size w).alloc (Nat.le_refl _) (.cells #[.int .i64 7,.int .i64 0,.int .i64 0,.string ⟨#[]⟩,.string ⟨#[]⟩,.string ⟨#[]⟩,.slice (some ⟨g,o,none⟩) 2 c] 89)
 have ht : decide ((m : Int) < 1)=false:=by rw [decide_eq_false_iff_not];omega
 have hwr : IntKind.i64.wrap ((m : Int) - 1)=(m : Int) - 1:=IntWalk.i64_in _ (by omega)
 have HM6:=hid (tnew w #[.int .i64 7,.int .i64 0,.int .i64 0,.string ⟨#[]⟩,.string ⟨#[]⟩,.string ⟨#[]⟩,.slice (some ⟨g,o,none⟩) 2 c] 89 6 rfl)
 have y0:=zaa hb0 yc0
 have y1:=zaa hb0 yc1
 have y2:=zaa hb0 yc2
 have y3:=zaa hb0 yc3
 have y4:=zaa hb0 yc4
 have y5:=zaa hb0 yc5
 have y6:=zaa hb0 yc6
 have Z0:=hid zc0
 have Z1:=hid zc1
 have Z2:=hid zc2
 have Z3:=hid zc3
 have Z4:=hid zc4
 have Z5:=hid zc5
 have Z6:=hid zc6
 have H1:=hid (h1 _ hb0)
 have H2:=hid h2
 have HB0:=hid hb0
 simp only [xexV] at H1 H2
 clear hm hb0 h1 h2 yc0 yc1 yc2 yc3 yc4 yc5 yc6 zc0 zc1 zc2 zc3 zc4 zc5 zc6
 cases r1 with
 | false =>
   rw [Bool.false_and]
   go_enter Tryz.func50,Tryz.ntmps50
   go_wp2_with fail
   with_reducible refine H1.out.mono ?_
   rintro e w1 ⟨rfl,hb1⟩
   have HB1:=hid (HB0.out.trans (hb1.mono HB0.out.size))
   clear hb1 y0 y1 y2 y3 y4 y5 y6
   go_wp2
   go_ret
   exact ⟨rfl,HB1.out⟩
 | true =>
   rw [Bool.true_and]
   go_enter Tryz.func50,Tryz.ntmps50
   go_wp2_with fail
   with_reducible refine H1.out.mono ?_
   rintro e w1 ⟨rfl,hb1⟩
   have hB1:=HB0.out.trans (hb1.mono HB0.out.size)
   have m6:=zaa hb1 HM6.out
   have z0:=zaa hB1 Z0.out
   have z1:=zaa hB1 Z1.out
   have z2:=zaa hB1 Z2.out
   have z3:=zaa hB1 Z3.out
   have z4:=zaa hB1 Z4.out
   have z5:=zaa hB1 Z5.out
   have z6:=zaa hB1 Z6.out
   have H3:=hid (H2.out _ hB1)
   have HB1:=hid hB1
   clear hb1 hB1 y0 y1 y2 y3 y4 y5 y6 H2
   go_wp2_with fail
   with_reducible refine H3.out.mono ?_
   rintro e w2 ⟨rfl,hb2⟩
   have HB2:=hid (HB1.out.trans (hb2.mono HB1.out.size))
   clear hb2 z0 z1 z2 z3 z4 z5 z6 m6
   go_wp2
   go_ret
   exact ⟨rfl,HB2.out⟩
theorem zjG (m : Nat) (hm : 0 < m) (hm7 : m≤100) {g o : Nat} {y z : PEx} {ay az : Option Addr} {qy cy qz cz : Nat} (r1 r2 : Bool) (yc0 : w.cell? ⟨g,o,none⟩=some (.int .i64 y.k)) (yc1 : w.cell? ⟨g,o+1,none⟩=some (.int .i64 y.v.k)) (yc2 : w.cell? ⟨g,o+2,none⟩=some (.int .i64 y.v.n)) (yc3 : w.cell? ⟨g,o+3,none⟩=some (.string (strB y.v.s))) (yc4 : w.cell? ⟨g,o+4,none⟩=some (.string (strB y.x))) (yc5 : w.cell? ⟨g,o+5,none⟩=some (.string (strB y.f))) (yc6 : w.cell? ⟨g,o+6,none⟩=some (.slice ay qy cy)) (zc0 : w.cell? ⟨g,o+7,none⟩=some (.int .i64 z.k)) (zc1 : w.cell? ⟨g,o+8,none⟩=some (.int .i64 z.v.k)) (zc2 : w.cell? ⟨g,o+9,none⟩=some (.int .i64 z.v.n)) (zc3 : w.cell? ⟨g,o+10,none⟩=some (.string (strB z.v.s))) (zc4 : w.cell? ⟨g,o+11,none⟩=some (.string (strB z.x))) (zc5 : w.cell? ⟨g,o+12,none⟩=some (.string (strB z.f))) (zc6 : w.cell? ⟨g,o+13,none⟩=some (.slice az qz cz)) (h1 : ∀ W,Below w.heap.size w W→Calls Tryz.prog 50 #[exV y (.slice ay qy cy),.int .i64 ((m : Int) - 1)] W fun e w'=>e=.returned (.bool r1)∧Below W.heap.size W w') (h2 : ∀ W,Below w.heap.size w W→Calls Tryz.prog 50 #[exV z (.slice az qz cz),.int .i64 ((m : Int) - 1)] W fun e w'=>e=.returned (.bool r2)∧Below W.heap.size W w') : Calls Tryz.prog 50 #[.agg #[.int .i64 8,.int .i64 0,.int .i64 0,.string ⟨#[]⟩,.string ⟨#[]⟩,.string ⟨#[]⟩,.slice (some ⟨g,o,none⟩) 2 c],.int .i64 m] w fun e w'=>e=.returned (.bool (r1 && r2))∧Below w.heap.size w w':=by
 have hb0:=(Below.refl w.heap.size w).alloc (Nat.le_refl _) (.cells #[.int .i64 8,.int .i64 0,.int .i64 0,.string ⟨#[]⟩,.string ⟨#[]⟩,.string ⟨#[]⟩,.slice (some ⟨g,o,none⟩) 2 c] 89)
 have ht : decide ((m : Int) < 1)=false:=by rw [decide_eq_false_iff_not];omega
 have hwr : IntKind.i64.wrap ((m : Int) - 1)=(m : Int) - 1:=IntWalk.i64_in _ (by omega)
 have HM6:=hid (tnew w #[.int .i64 8,.int .i64 0,.int .i64 0,.string ⟨#[]⟩,.string ⟨#[]⟩,.string ⟨#[]⟩,.slice (some ⟨g,o,none⟩) 2 c] 89 6 rfl)
 have y0:=zaa hb0 yc0
 have y1:=zaa hb0 yc1
 have y2:=zaa hb0 yc2
 have y3:=zaa hb0 yc3
 have y4:=zaa hb0 yc4
 have y5:=zaa hb0 yc5
 have y6:=zaa hb0 yc6
 have Z0:=hid zc0
 have Z1:=hid zc1
 have Z2:=hid zc2
 have Z3:=hid zc3
 have Z4:=hid zc4
 have Z5:=hid zc5
 have Z6:=hid zc6
 have H1:=hid (h1 _ hb0)
 have H2:=hid h2
 have HB0:=hid hb0
 simp only [xexV] at H1 H2
 clear hm hb0 h1 h2 yc0 yc1 yc2 yc3 yc4 yc5 yc6 zc0 zc1 zc2 zc3 zc4 zc5 zc6
 cases r1 with
 | false =>
   rw [Bool.false_and]
   go_enter Tryz.func50,Tryz.ntmps50
   go_wp2_with fail
   with_reducible refine H1.out.mono ?_
   rintro e w1 ⟨rfl,hb1⟩
   have HB1:=hid (HB0.out.trans (hb1.mono HB0.out.size))
   clear hb1 y0 y1 y2 y3 y4 y5 y6
   go_wp2
   go_ret
   exact ⟨rfl,HB1.out⟩
 | true =>
   rw [Bool.true_and]
   go_enter Tryz.func50,Tryz.ntmps50
   go_wp2_with fail
   with_reducible refine H1.out.mono ?_
   rintro e w1 ⟨rfl,hb1⟩
   have hB1:=HB0.out.trans (hb1.mono HB0.out.size)
   have m6:=zaa hb1 HM6.out
   have z0:=zaa hB1 Z0.out
   have z1:=zaa hB1 Z1.out
   have z2:=zaa hB1 Z2.out
   have z3:=zaa hB1 Z3.out
   have z4:=zaa hB1 Z4.out
   have z5:=zaa hB1 Z5.out
   have z6:=zaa hB1 Z6.out
   have H3:=hid (H2.out _ hB1)
   have HB1:=hid hB1
   clear hb1 hB1 y0 y1 y2 y3 y4 y5 y6 H2
   go_wp2_with fail
   with_reducible refine H3.out.mono ?_
   rintro e w2 ⟨rfl,hb2⟩
   have HB2:=hid (HB1.out.trans (hb2.mono HB1.out.size))
   clear hb2 z0 z1 z2 z3 z4 z5 z6 m6
   go_wp2
   go_ret
   exact ⟨rfl,HB2.out⟩
end
theorem zkd {w : World} {a : Option Addr} {c n : Nat} {v : PVal} {x f : List UInt8} {k : Int} (hk : ¬ k=1) (hv0 : ¬ v=noV) (m : Nat) (hm : 0 < m) (hm7 : m≤100) : Calls Tryz.prog 50 #[.agg #[.int .i64 k,.int .i64 v.k,.int .i64 v.n,.string (strB v.s),.string (strB x),.string (strB f),.slice a n c],.int .i64 m] w fun e w'=>e=.returned (.bool false)∧Below w.heap.size w w':=by
 obtain ⟨vk,vn,vs⟩:=v
 dsimp only
 by_cases e1 : vk=0
 ·subst e1
  by_cases e2 : vn=0
  ·subst e2
   exact zjM m hm hm7 hk (fun h=>hv0 (by rw [zao] at h;rw [h];rfl))
  ·exact zjL m hm hm7 hk e2
 ·exact zjK m hm hm7 hk e1
theorem zbj {l : List UInt8} (h : ¬ l=[]) : ¬ (strB l).toList=[]:=fun e=>h ((zao l).symm.trans e)
theorem zbY {K : Nat→Prop} : ∀ (d : Nat) (_ : d≤100) (x : PEx) (_ : XBd x) (w : World) (e : Nat) (a : Option Addr) (c : Nat) (_ : ExK K w e (.slice a x.ks.length c) x.ks),Calls Tryz.prog 50 #[exV x (.slice a x.ks.length c),.int .i64 d] w fun e w'=>e=.returned (.bool (rightX d x))∧Below w.heap.size w w'
 | 0,_,x,_,w,e,a,c,_=>zjJ (w:=w) (a:=a) (c:=c) (n:=x.ks.length) (vk:=x.v.k) (vn:=x.v.n) (vs:=x.v.s) (x:=x.x) (f:=x.f) x.k
 | d+1,hd,.mk k v x f ks,hb,w,e,a,c,h=>by
   obtain ⟨_,_,_,_,_,hv,hx,hf,hk⟩:=hb
   show Calls Tryz.prog 50 #[.agg #[.int .i64 k,.int .i64 v.k,.int .i64 v.n,.string (strB v.s),.string (strB x),.string (strB f),.slice a ks.length c],.int .i64 ((d+1 : Nat) : Int)] w _
   have h' : ExK K w e (.slice a ks.length c) ks:=h
   by_cases k1 : k=1
   ·subst k1
    rw [zdp]
    by_cases hn : ks.length=0
    ·by_cases hxe : x=[]
     ·by_cases hfe : f=[]
      ·subst hxe hfe
       rw [hn,show decide (([] : List UInt8)=[]∧([] : List UInt8)=[]∧0=0)=true from by simp,Bool.true_and]
       exact zke (vk:=v.k) (vn:=v.n) (vs:=v.s) (d+1) (Nat.succ_pos d) hd hv
      ·rw [show decide (x=[]∧f=[]∧ks.length=0)=false from decide_eq_false (fun h=>hfe h.2.1),Bool.false_and,hn]
       subst hxe
       exact zjI (d+1) (Nat.succ_pos d) hd (zbj hfe)
     ·rw [show decide (x=[]∧f=[]∧ks.length=0)=false from decide_eq_false (fun h=>hxe h.1),Bool.false_and,hn]
      exact zjH (d+1) (Nat.succ_pos d) hd (zbj hxe)
    ·rw [show decide (x=[]∧f=[]∧ks.length=0)=false from decide_eq_false (fun h=>hn h.2.2),Bool.false_and]
     exact zhP (d+1) (Nat.succ_pos d) hd (k:=1) (by decide) (by decide) (Nat.pos_of_ne_zero hn)
   by_cases hv0 : ¬ v=noV
   ·have hr : rightX (d+1) (.mk k v x f ks)=false:=by
     rw [zaY,if_neg k1]
     split
     ·rw [decide_eq_false (fun h=>hv0 h.1)];rfl
     ·split
      ·rw [decide_eq_false (fun h=>hv0 h.1)];rfl
      ·split
       ·rw [decide_eq_false (fun h=>hv0 h.1)];rfl
       ·rfl
    rw [hr]
    exact zkd k1 hv0 (d+1) (Nat.succ_pos d) hd
   have hv1:=Decidable.not_not.1 hv0
   subst hv1
   clear hv0 hv
   by_cases k7 : k=7∨k=8
   ·rw [zbB d k k7]
    by_cases hxe : x=[]
    ·by_cases hfe : f=[]
     ·subst hxe hfe
      rw [show decide (noV=noV∧([] : List UInt8)=[]∧([] : List UInt8)=[])=true from by simp,Bool.true_and]
      by_cases hn : ks.length=2
      ·obtain ⟨y,z,rfl⟩:=zhk hn
       cases e with
       | zero=>exact absurd h'.2 (by simp)
       | succ e =>
       obtain ⟨a',c',ea,hc⟩:=h'
       injection ea with ea1 ea2 ea3
       subst ea1
       obtain ⟨g,o,ky,rfl,_,⟨y0,y1,y2,y3,y4,y5,y6⟩,hky⟩:=hc 0 y rfl
       obtain ⟨g',o',kz,eg,_,⟨q0,q1,q2,q3,q4,q5,q6⟩,hkz⟩:=hc 1 z rfl
       injection eg with eg
       injection eg with eg1 eg2
       subst eg1 eg2
       obtain ⟨ay,cy,rfl⟩:=hky.slice
       obtain ⟨az,cz,rfl⟩:=hkz.slice
       simp only [Nat.zero_mul,Nat.one_mul,Nat.add_zero] at y0 y1 y2 y3 y4 y5 y6 q0 q1 q2 q3 q4 q5 q6
       rw [show twoB (rightX d) [y,z]=(rightX d y && rightX d z) from rfl]
       have hcast : (((d+1 : Nat) : Int) - 1)=(d : Int):=by omega
       have i1:=fun W (hW : Below w.heap.size w W)=>zbY d (by omega) y (hk y (by simp)) W e ay cy (hky.keep (TFr.of_below hW))
       have i2:=fun W (hW : Below w.heap.size w W)=>zbY d (by omega) z (hk z (by simp)) W e az cz (hkz.keep (TFr.of_below hW))
       rw [← hcast] at i1 i2
       rcases k7 with rfl|rfl
       ·exact zjF (c:=c) (d+1) (Nat.succ_pos d) hd (rightX d y) (rightX d z) y0 y1 y2 y3 y4 y5 y6 q0 q1 q2 q3 q4 q5 q6 i1 i2
       ·exact zjG (c:=c) (d+1) (Nat.succ_pos d) hd (rightX d y) (rightX d z) y0 y1 y2 y3 y4 y5 y6 q0 q1 q2 q3 q4 q5 q6 i1 i2
      ·rw [zhl hn]
       rcases k7 with rfl|rfl
       ·exact zhN (d+1) (Nat.succ_pos d) hd hn
       ·exact zhO (d+1) (Nat.succ_pos d) hd hn
     ·rw [show decide (noV=noV∧x=[]∧f=[])=false from decide_eq_false (fun h=>hfe h.2.2),Bool.false_and]
      subst hxe
      rcases k7 with rfl|rfl
      ·exact ziR (d+1) (Nat.succ_pos d) hd (zbj hfe)
      ·exact ziT (d+1) (Nat.succ_pos d) hd (zbj hfe)
    ·rw [show decide (noV=noV∧x=[]∧f=[])=false from decide_eq_false (fun h=>hxe h.2.1),Bool.false_and]
     rcases k7 with rfl|rfl
     ·exact ziQ (d+1) (Nat.succ_pos d) hd (zbj hxe)
     ·exact ziS (d+1) (Nat.succ_pos d) hd (zbj hxe)
   have n7 : ¬ k=7:=fun h=>k7 (.inl h)
   have n8 : ¬ k=8:=fun h=>k7 (.inr h)
   by_cases hn : ks.length=0
   ·by_cases k3 : k=3
    ·subst k3
     rw [zce,hn,show decide (noV=noV∧f=[]∧0=0)=decide (f=[]) from by simp]
     exact ziX (d+1) (Nat.succ_pos d) hd hx
    by_cases k2 : k=2∨k=4∨k=5∨k=6
    ·rw [zaO d k k2,hn,show decide (noV=noV∧0=0)=true from by simp,Bool.true_and]
     rcases k2 with rfl|rfl|rfl|rfl
     ·exact zhQ (d+1) (Nat.succ_pos d) hd hx hf
     ·exact zhR (d+1) (Nat.succ_pos d) hd hx hf
     ·exact zhS (d+1) (Nat.succ_pos d) hd hx hf
     ·exact zhT (d+1) (Nat.succ_pos d) hd hx hf
    rw [zcH d k k1 k3 k2 k7,hn]
    have n2 : ¬ k=2:=fun h=>k2 (.inl h)
    have n4 : ¬ k=4:=fun h=>k2 (.inr (.inl h))
    have n5 : ¬ k=5:=fun h=>k2 (.inr (.inr (.inl h)))
    have n6 : ¬ k=6:=fun h=>k2 (.inr (.inr (.inr h)))
    by_cases hxe : x=[]
    ·by_cases hfe : f=[]
     ·subst hxe hfe
      exact ziW (d+1) (Nat.succ_pos d) hd n2 k3 n4 n5 n6 k1 n7 n8
     ·subst hxe
      exact ziV (d+1) (Nat.succ_pos d) hd n2 k3 n4 n5 n6 k1 n7 n8 (zbj hfe)
    ·exact ziU (d+1) (Nat.succ_pos d) hd n2 k3 n4 n5 n6 k1 n7 n8 (zbj hxe)
   ·have hr : rightX (d+1) (.mk k noV x f ks)=false:=by
     rw [zaY,if_neg k1]
     split
     ·rw [decide_eq_false (fun h=>hn h.2.2)];rfl
     ·split
      ·rw [decide_eq_false (fun h=>hn h.2)];rfl
      ·first|rfl|rw [if_neg k7]
    rw [hr]
    exact zhP (d+1) (Nat.succ_pos d) hd n7 n8 (Nat.pos_of_ne_zero hn)
def DxTo (R T : Nat) (L : List XTok) (p : PEx × DS) (w : World) (e : Ending) (w' : World) : Prop:=∃ kv d,e=.returned (exV p.1 kv)∧ExK (· < w.heap.size) w' d kv p.1.ks∧DdTo R T L p.2 w w'
section
variable {w : World} {R T : Nat} {L : List XTok} {s : DS}
theorem zaR (h : DdR w R T L s) (k : Int) : Calls Tryz.prog 234 #[.pointer (some ⟨R,0,none⟩),.int .i64 k] w (DxTo R T L (dField s k) w):=by
 have H:=hid h
 have hR:=h.lt
 obtain ⟨a,ha⟩ : ∃ a,dName s=a:=⟨_,rfl⟩
 obtain ⟨b,hb⟩ : ∃ b,dName (dMust a.2 4 [46])=b:=⟨_,rfl⟩
 have hs : dField s k=(.mk k noV a.1 b.1 [],b.2):=by unfold dField;rw [ha,hb]
 rw [hs]
 have HBB:=hid hb
 have hb1:=(Below.refl w.heap.size w).alloc (Nat.le_refl _) (.cells #[.int .i64 0,.int .i64 0,.int .i64 0,.string ⟨#[]⟩,.string ⟨#[]⟩,.string ⟨#[]⟩,.slice none 0 0] 89)
 have hb2:=hb1.alloc hb1.size (.cells #[.int .i64 k,.int .i64 0,.int .i64 0,.string ⟨#[]⟩,.string ⟨#[]⟩,.string ⟨#[]⟩,.slice none 0 0] 89)
 have hx4:=(XBlk.new w (.int .i64 0) (.int .i64 0) (.int .i64 0) (.string ⟨#[]⟩) (.string ⟨#[]⟩) (.string ⟨#[]⟩) (.slice none 0 0)).keep (TFr.of_below (K:=fun _=>False) ((Below.refl _ _).alloc (Nat.le_refl _) (.cells #[.int .i64 k,.int .i64 0,.int .i64 0,.string ⟨#[]⟩,.string ⟨#[]⟩,.string ⟨#[]⟩,.slice none 0 0] 89))) id
 have hx5:=XBlk.new (w.alloc (.cells #[.int .i64 0,.int .i64 0,.int .i64 0,.string ⟨#[]⟩,.string ⟨#[]⟩,.string ⟨#[]⟩,.slice none 0 0] 89)) (.int .i64 k) (.int .i64 0) (.int .i64 0) (.string ⟨#[]⟩) (.string ⟨#[]⟩) (.string ⟨#[]⟩) (.slice none 0 0)
 rw [show (w.alloc (.cells #[.int .i64 0,.int .i64 0,.int .i64 0,.string ⟨#[]⟩,.string ⟨#[]⟩,.string ⟨#[]⟩,.slice none 0 0] 89)).heap.size=w.heap.size+1 by simp] at hx5
 have HN:=hid (zaL (h.keep hb2))
 rw [ha] at HN
 have HB2:=hid hb2
 have HX4:=hid hx4
 have HX5:=hid hx5
 clear h ha hb hs hb1 hb2 hx4 hx5
 go_enter Tryz.func234,Tryz.ntmps234
 go_wp2_with fail
 with_reducible refine HN.out.mono ?_
 rintro e w1 ⟨rfl,hd1⟩
 have hf1:=hd1.fr
 have y4:=hid (HX4.out.keep hf1 (by omega))
 have y5:=HX5.out.keep hf1 (by omega)
 have D1:=hid (DdTo.after HB2.out hd1)
 clear hd1 hf1
 have Y5:=hid (y5.set4 (.string (strB a.1)))
 obtain ⟨c0,c1,c2,c3,c4,c5,c6,f0,f1,f2,f3,f4,f5,f6⟩:=y5.all
 have D2:=hid (D1.out.set hR (b:=w.heap.size+1) (by omega) 4 (.string (strB a.1)))
 have Y4:=hid (y4.out.keep (TFr.at (w.heap.size+1) 4 (.string (strB a.1))) (by omega))
 clear y4 y5
 have HND : Hid (Calls Tryz.prog 139 #[.pointer (some ⟨R,0,none⟩),.int .i64 4,.string ⟨#[46]⟩] (w1.setCell ⟨w.heap.size+1,4,none⟩ (.string (strB a.1))) fun e w'=>e=.returned (.tuple #[])∧DdTo R T L (dMust a.2 4 [46]) (w1.setCell ⟨w.heap.size+1,4,none⟩ (.string (strB a.1))) w'):=zat D2.out.rd [46]
 go_wp2_with fail
 with_reducible refine HND.out.mono ?_
 rintro e w3 ⟨rfl,hd3⟩
 have V4:=hid (Y4.out.keep hd3.fr (by omega))
 have V5:=hid (Y5.out.keep hd3.fr (by omega))
 have D4:=hid (D2.out.trans hd3)
 have HN2:=zaL hd3.rd
 rw [HBB.out] at HN2
 have HN3:=hid HN2
 clear hd3 Y4 Y5 HN2 c0 c1 c2 c3 c4 c5 c6 f0 f1 f2 f3 f4 f5 f6
 go_wp2_with fail
 with_reducible refine HN3.out.mono ?_
 rintro e w4 ⟨rfl,hd4⟩
 have U4:=hid ((V4.out.keep hd4.fr (by omega)).keep (TFr.at (w.heap.size+1) 5 (.string (strB b.1))) (by omega))
 have u5:=V5.out.keep hd4.fr (by omega)
 obtain ⟨c0,c1,c2,c3,c4,c5,c6,f0,f1,f2,f3,f4,f5,f6⟩:=u5.all
 obtain ⟨d0,d1,d2,d3,d4,d5,d6,g0,g1,g2,g3,g4,g5,g6⟩:=(u5.set5 (.string (strB b.1))).all
 obtain ⟨r0,r1,r2,r3,r4,r5,r6,h0,h1,h2,h3,h4,h5,h6⟩:=U4.out.all
 have D5:=hid ((D4.out.trans hd4).set hR (b:=w.heap.size+1) (by omega) 5 (.string (strB b.1)))
 clear hd4 V4 V5 u5 U4 HBB HN HN3
 go_wp2
 refine bodyPost_ret (v:=exV (.mk k noV a.1 b.1 []) (.slice none 0 0)) (by simp [results,Tryz.results234,go_sem,r0,r1,r2,r3,r4,r5,r6];rfl) rfl ⟨_,0,rfl,ExK.nil _ _,?_⟩
 exact D5.out.set7 hR (Nat.le_refl _) _ _ _ _ _ _ _
end
def leftD (R : Nat) (w : World) : Nat:=match w.cell? ⟨R,0,none⟩,w.cell? ⟨R,1,none⟩ with
 | some (.slice _ n _),some (.int _ p)=>n - p.toNat
 | _,_=>0
theorem zaD {w : World} {R T : Nat} {L : List XTok} {s : DS} (h : DdR w R T L s) : leftD R w=s.l.length:=by
 obtain ⟨a,c,h⟩:=h
 have:=h.le
 unfold leftD
 rw [h.c0,h.c1]
 dsimp only
 omega
theorem DxTo.plain {R T : Nat} {L : List XTok} {p : PEx × DS} {x : PEx} {s : DS} (hp : p=(x,s)) {f : Nat} {v : Array Value} {w : World} (h : Calls Tryz.prog f v w (DxTo R T L p w)) : Calls Tryz.prog f v w fun e w'=>∃ kv d,e=.returned (exV x kv)∧ExK (· < w.heap.size) w' d kv x.ks∧DdTo R T L s w w':=by
 subst hp
 exact h
structure DxIn (R T : Nat) (L : List XTok) (B b2 b3 M : Nat) (tm : DS→PEx × DS) (z : PEx × DS) (w wr : World) (n : Nat) (x : PEx) (s : DS) (d : Nat) (a : Option Addr) (m c : Nat) : Prop where
 res : XBlk wr b2 (.int .i64 0) (.int .i64 0) (.int .i64 0) (.string ⟨#[]⟩) (.string ⟨#[]⟩) (.string ⟨#[]⟩) (.slice none 0 0)
 own : XBlk wr b3 (.int .i64 x.k) (.int .i64 x.v.k) (.int .i64 x.v.n) (.string (strB x.v.s)) (.string (strB x.x)) (.string (strB x.f)) (.slice a m c)
 kids : ExK (fun g=>g < B∨g=b3) wr d (.slice a m c) x.ks
 rt : DdTo R T L s w wr
 is : dSums tm n x s=z
 len : s.l.length≤n∧s.l.length≤M
 ok : s.deep≤6
 b2 : w.heap.size≤b2∧b2 < B
 b3 : B≤b3
 big : B≤wr.heap.size
theorem zdw {tm : DS→PEx × DS} {n : Nat} {x : PEx} {s : DS} (h1 : dIs s 4 [43]=false) (h2 : dIs s 4 [45]=false) : dSums tm n x s=(x,s):=by
 cases n with
 | zero=>rfl
 | succ n=>rw [dSums,h1,h2];rfl
theorem zc7 {w : World} {R T : Nat} {L : List XTok} {s : DS} {tm : DS→PEx × DS} {m n : Nat} (hterm : ∀ (w : World) (s : DS),DdR w R T L s→s.deep≤6→s.l.length≤m→Calls Tryz.prog 218 #[.pointer (some ⟨R,0,none⟩)] w (DxTo R T L (tm s) w))
 (hle : ∀ s,(tm s).2.l.length≤s.l.length) (hdp : ∀ s,(tm s).2.deep=s.deep) (h : DdR w R T L s) (hok : s.deep≤6) (hm : s.l.length≤m) (hn : s.l.length≤n) : Calls Tryz.prog 183 #[.pointer (some ⟨R,0,none⟩)] w (DxTo R T L (dExpr tm n s) w):=by
 have hR:=h.lt
 obtain ⟨z,hz⟩ : ∃ z,dExpr tm n s=z:=⟨_,rfl⟩
 rw [hz]
 have hb0:=(Below.refl w.heap.size w).alloc (Nat.le_refl _) (.cells #[.int .i64 0,.int .i64 0,.int .i64 0,.string ⟨#[]⟩,.string ⟨#[]⟩,.string ⟨#[]⟩,.slice none 0 0] 89)
 have hx2:=XBlk.new w (.int .i64 0) (.int .i64 0) (.int .i64 0) (.string ⟨#[]⟩) (.string ⟨#[]⟩) (.string ⟨#[]⟩) (.slice none 0 0)
 obtain ⟨⟨x1,s1⟩,hxs⟩ : ∃ z,tm s=z:=⟨_,rfl⟩
 have HT:=hid (DxTo.plain hxs (hterm _ s (h.keep hb0) hok hm))
 have HB0:=hid hb0
 have HX2:=hid hx2
 have HTM:=hid hterm
 have hsz0 : (w.alloc (.cells #[.int .i64 0,.int .i64 0,.int .i64 0,.string ⟨#[]⟩,.string ⟨#[]⟩,.string ⟨#[]⟩,.slice none 0 0] 89)).heap.size=w.heap.size+1:=by simp
 clear h hb0 hx2 hterm
 go_enter Tryz.func183,Tryz.ntmps183
 go_wp2_with fail
 with_reducible refine HT.out.mono ?_
 rintro e w1 ⟨kv,d,rfl,hkv,hd1⟩
 have hz1 : dSums tm n x1 s1=z:=by rw [← hz];unfold dExpr;rw [hxs]
 have hl1:=hle s
 have hp1:=hdp s
 rw [hxs] at hl1 hp1
 obtain ⟨a1,m1,rfl⟩:=hkv.slice
 obtain ⟨q1,hq1⟩ : ∃ q,x1.ks.length=q:=⟨_,rfl⟩
 have hkids:=hkv
 rw [hq1] at hkids ⊢
 dsimp only at hl1 hp1
 have hbz:=hd1.fr.size
 rw [hsz0] at hbz
 have HI:=hid (show DxIn R T L (w.heap.size+1) w.heap.size w1.heap.size m tm z w (w1.alloc (.cells #[.int .i64 x1.k,.int .i64 x1.v.k,.int .i64 x1.v.n,.string (strB x1.v.s),.string (strB x1.x),.string (strB x1.f),.slice a1 q1 m1] 89)) n x1 s1 d a1 q1 m1 from by
  have hb1:=(Below.refl w1.heap.size w1).alloc (Nat.le_refl _) (.cells #[.int .i64 x1.k,.int .i64 x1.v.k,.int .i64 x1.v.n,.string (strB x1.v.s),.string (strB x1.x),.string (strB x1.f),.slice a1 q1 m1] 89)
  refine ⟨(HX2.out.keep hd1.fr (by omega)).keep (TFr.of_below (K:=fun _=>False) hb1) id,XBlk.new _ _ _ _ _ _ _ _,?_,(DdTo.after HB0.out hd1).then hb1,hz1,⟨by omega,by omega⟩,by omega,⟨Nat.le_refl _,by omega⟩,hbz,?_⟩
  ·rw [hsz0] at hkids
   exact (ExK.ne (Nat.le_refl _) hkids).keepR (TFr.of_below (K:=(·=R)) hb1) (.inl (by omega))
  ·have:=hb1.size
   omega)
 clear hz1 hl1 hp1 hd1 hkv hkids hxs hq1 hz HX2 HB0
 simp only [xexV]
 go_wp2
 go_loopw [4,5] (fun _ _ wr=>∃ (n : Nat) (x : PEx) (s : DS) (d : Nat) (a : Option Addr) (q c : Nat),Hid (DxIn R T L (w.heap.size+1) w.heap.size w1.heap.size m tm z w wr n x s d a q c)) (fun _ _ wr=>leftD R wr)
 case atStart=>exact ⟨n,x1,s1,d,a1,q1,m1,HI⟩
 case round =>
  obtain ⟨n2,x,s2,d2,a2,q2,cc,HE⟩:=hrel
  have hE:=HE.out
  have HL:=hid (zaD hE.rt.rd)
  obtain ⟨ra,rc,hrd⟩:=hE.rt.rd
  have b2:=hrd.c2
  have D3:=hid hE.rt
  have O3:=hid hE.own
  have R3:=hid hE.res
  have K3:=hid hE.kids
  have HI:=hid (And.intro hE.is (And.intro hE.len hE.ok))
  have HZ:=hid (And.intro hE.b3 hE.big)
  clear hE HE hrd
  cases hbad : s2.bad with
  | true =>
    rw [hbad] at b2
    have hstop:=zdw (tm:=tm) (n:=n2) (x:=x) (zbl hbad 4 [43]) (zbl hbad 4 [45])
    clear hbad
    have hz : z=(x,s2):=by rw [← HI.out.1];exact hstop
    subst hz
    obtain ⟨c0,c1,c2,c3,c4,c5,c6,_,_,_,_,_,_,_⟩:=O3.out.all
    obtain ⟨r0,r1,r2,r3,r4,r5,r6,h0,h1,h2,h3,h4,h5,h6⟩:=R3.out.all
    clear HI hstop
    go_wp2
    refine bodyPost_ret (v:=exV x (.slice a2 q2 cc)) (by simp [results,Tryz.results183,go_sem,r0,r1,r2,r3,r4,r5,r6];rfl) rfl ⟨_,d2,rfl,?_,D3.out.set7 hR (Nat.le_refl _) _ _ _ _ _ _ _⟩
    exact (K3.out.set7 (.inl (by omega)) _ _ _ _ _ _ _).mono (fun k hk=>.inl (Nat.lt_of_lt_of_le hk (Nat.le_succ _)))
  | false =>
    rw [hbad] at b2
    clear hbad
    cases hp : dIs s2 4 [43] with
    | true =>
      have HC:=hid (zaj D3.out.rd [43])
      rw [hp,zah hp] at HC
      have HC2 : Hid (Calls Tryz.prog 141 #[.pointer (some ⟨R,0,none⟩),.int .i64 4,.string ⟨#[43]⟩] wr fun e w'=>e=.returned (.bool true)∧DdTo R T L (dSkip s2) wr w'):=HC.out
      clear HC
      go_wp2_with fail
      with_reducible refine HC2.out.mono ?_
      rintro e w3 ⟨rfl,hd3⟩
      clear b2
      have D3:=hid (D3.out.trans hd3)
      have O3:=hid (O3.out.keep hd3.fr (by have:=HZ.out.1;omega))
      have R3:=hid (R3.out.keep hd3.fr (by omega))
      have K3:=hid (K3.out.keepR hd3.fr (.inl (by omega)))
      have HZ:=hid (And.intro HZ.out.1 (Nat.le_trans HZ.out.2 hd3.fr.size))
      clear hd3 HC2
      have hlt:=zaI hp
      obtain ⟨n3,rfl⟩ : ∃ n3,n2=n3+1:=by
       have h2:=HI.out.2.1.1
       exact ⟨n2 - 1,by omega⟩
      obtain ⟨⟨y,s4⟩,hys⟩ : ∃ z,tm (dSkip s2)=z:=⟨_,rfl⟩
      have hle4:=hle (dSkip s2)
      have hdp4:=hdp (dSkip s2)
      rw [hys] at hle4 hdp4
      dsimp only at hle4 hdp4
      have his : dSums tm n3 (.mk 7 noV [] [] [x,y]) s4=z:=by
       rw [← HI.out.1,dSums,hp,if_pos rfl,hys]
      have HN:=hid (And.intro his (And.intro (show s4.l.length≤n3∧s4.l.length≤m by have:=HI.out.2.1;omega) (show s4.deep≤6 by rw [hdp4];exact HI.out.2.2)))
      have HLT:=hid (show s4.l.length < s2.l.length by omega)
      have HT2:=hid (DxTo.plain hys (HTM.out w3 (dSkip s2) D3.out.rd HI.out.2.2 (by have:=HI.out.2.1.2;omega)))
      have hbad:=hp
      clear hlt hle4 hdp4 hys his HI hp hbad
      go_wp2_with fail
      with_reducible refine HT2.out.mono ?_
      rintro e w4 ⟨kv,dy,rfl,hkv,hd4⟩
      obtain ⟨a4,m4,rfl⟩:=hkv.slice
      obtain ⟨q4,hq4⟩ : ∃ q,y.ks.length=q:=⟨_,rfl⟩
      rw [hq4] at hkv ⊢
      have D4:=hid (D3.out.trans hd4)
      have o4:=O3.out.keep hd4.fr (by have:=HZ.out.1;omega)
      have r4':=R3.out.keep hd4.fr (by omega)
      have k4:=K3.out.keepR hd4.fr (.inl (by omega))
      have hb5:=(Below.refl w4.heap.size w4).alloc (Nat.le_refl _) (.cells #[.int .i64 y.k,.int .i64 y.v.k,.int .i64 y.v.n,.string (strB y.v.s),.string (strB y.x),.string (strB y.f),.slice a4 q4 m4] 89)
      have hb6:=hb5.alloc hb5.size (.cells #[.int .i64 x.k,.int .i64 x.v.k,.int .i64 x.v.n,.string (strB x.v.s),.string (strB x.x),.string (strB x.f),.slice a2 q2 cc,.int .i64 y.k,.int .i64 y.v.k,.int .i64 y.v.n,.string (strB y.v.s),.string (strB y.x),.string (strB y.f),.slice a4 q4 m4] 89)
      have o5:=o4.keep (TFr.of_below (K:=fun _=>False) hb5) id
      have o6:=o4.keep (TFr.of_below (K:=fun _=>False) hb6) id
      have hz4 : w.heap.size+1≤w4.heap.size:=Nat.le_trans HZ.out.2 hd4.fr.size
      have hb3lt : w1.heap.size < w3.heap.size:=O3.out.lt
      have R6:=hid ((r4'.keep (TFr.of_below (K:=fun _=>False) hb6) id).past (b':=w1.heap.size) (by omega) (.int .i64 7) (.int .i64 0) (.int .i64 0) (.string ⟨#[]⟩) (.string ⟨#[]⟩) (.string ⟨#[]⟩) (.slice (some ⟨w4.heap.size+1,0,none⟩) 2 2))
      have O7:=hid (o6.setAll (.int .i64 7) (.int .i64 0) (.int .i64 0) (.string ⟨#[]⟩) (.string ⟨#[]⟩) (.string ⟨#[]⟩) (.slice (some ⟨w4.heap.size+1,0,none⟩) 2 2))
      have D7:=hid ((D4.out.then hb6).set7 hR (b:=w1.heap.size) (by have:=HZ.out.1;omega) (.int .i64 7) (.int .i64 0) (.int .i64 0) (.string ⟨#[]⟩) (.string ⟨#[]⟩) (.string ⟨#[]⟩) (.slice (some ⟨w4.heap.size+1,0,none⟩) 2 2))
      have KK:=hid (show ExK (fun g=>g < w.heap.size+1∨g=w1.heap.size) (((((((((w4.alloc (.cells #[.int .i64 y.k,.int .i64 y.v.k,.int .i64 y.v.n,.string (strB y.v.s),.string (strB y.x),.string (strB y.f),.slice a4 q4 m4] 89)).alloc (.cells #[.int .i64 x.k,.int .i64 x.v.k,.int .i64 x.v.n,.string (strB x.v.s),.string (strB x.x),.string (strB x.f),.slice a2 q2 cc,.int .i64 y.k,.int .i64 y.v.k,.int .i64 y.v.n,.string (strB y.v.s),.string (strB y.x),.string (strB y.f),.slice a4 q4 m4] 89)).setCell ⟨w1.heap.size,0,none⟩ (.int .i64 7)).setCell ⟨w1.heap.size,1,none⟩ (.int .i64 0)).setCell ⟨w1.heap.size,2,none⟩ (.int .i64 0)).setCell ⟨w1.heap.size,3,none⟩ (.string ⟨#[]⟩)).setCell ⟨w1.heap.size,4,none⟩ (.string ⟨#[]⟩)).setCell ⟨w1.heap.size,5,none⟩ (.string ⟨#[]⟩)).setCell ⟨w1.heap.size,6,none⟩ (.slice (some ⟨w4.heap.size+1,0,none⟩) 2 2)) (max d2 dy+1) (.slice (some ⟨w4.heap.size+1,0,none⟩) 2 2) [x,y] from by
       have hx:=(k4.keepR (TFr.of_below (K:=(·=R)) hb6) (.inl (by omega))).le (Nat.le_max_left d2 dy)
       have hy:=((hkv.mono (K':=fun g=>g < w.heap.size+1∨g=w1.heap.size) (fun k hk=>hk.elim (fun h=>Nat.lt_of_lt_of_le h HZ.out.2) (fun h=>h ▸ hb3lt))).keepR (TFr.of_below (K:=(·=R)) hb6) (.inl (by omega))).le (Nat.le_max_right d2 dy)
       have hg : ¬ (w4.heap.size+1 < w.heap.size+1∨w4.heap.size+1=w1.heap.size):=by have:=hd4.fr.size;omega
       have hblk : ((w4.alloc (.cells #[.int .i64 y.k,.int .i64 y.v.k,.int .i64 y.v.n,.string (strB y.v.s),.string (strB y.x),.string (strB y.f),.slice a4 q4 m4] 89)).alloc (.cells #[.int .i64 x.k,.int .i64 x.v.k,.int .i64 x.v.n,.string (strB x.v.s),.string (strB x.x),.string (strB x.f),.slice a2 q2 cc,.int .i64 y.k,.int .i64 y.v.k,.int .i64 y.v.n,.string (strB y.v.s),.string (strB y.x),.string (strB y.f),.slice a4 q4 m4] 89)).heap[w4.heap.size+1]?=some (.cells #[.int .i64 x.k,.int .i64 x.v.k,.int .i64 x.v.n,.string (strB x.v.s),.string (strB x.x),.string (strB x.f),.slice a2 q2 cc,.int .i64 y.k,.int .i64 y.v.k,.int .i64 y.v.n,.string (strB y.v.s),.string (strB y.x),.string (strB y.f),.slice a4 q4 m4] 89 (0,0)):=by
        have:=heap_alloc_new (w4.alloc (.cells #[.int .i64 y.k,.int .i64 y.v.k,.int .i64 y.v.n,.string (strB y.v.s),.string (strB y.x),.string (strB y.f),.slice a4 q4 m4] 89)) (.cells #[.int .i64 x.k,.int .i64 x.v.k,.int .i64 x.v.n,.string (strB x.v.s),.string (strB x.x),.string (strB x.f),.slice a2 q2 cc,.int .i64 y.k,.int .i64 y.v.k,.int .i64 y.v.n,.string (strB y.v.s),.string (strB y.x),.string (strB y.f),.slice a4 q4 m4] 89 (0,0))
        simpa using this
       exact (ExK.pair hx hy hg hblk).set7 (.inr rfl) _ _ _ _ _ _ _)
      have HBIG:=hid (show w.heap.size+1≤w4.heap.size+1+1 by omega)
      obtain ⟨c0,c1,c2,c3,c4,c5,c6,_,_,_,_,_,_,_⟩:=o5.all
      obtain ⟨e0,e1,e2,e3,e4,e5,e6,f0,f1,f2,f3,f4,f5,f6⟩:=o6.all
      clear o4 o5 o6 r4' k4 hkv hd4 hb5 hb6 hq4 O3 R3 K3 D3 D4 HT2
      simp only [xexV]
      go_wp2
      clear c0 c1 c2 c3 c4 c5 c6 e0 e1 e2 e3 e4 e5 e6 f0 f1 f2 f3 f4 f5 f6
      refine ⟨⟨n3,.mk 7 noV [] [] [x,y],s4,max d2 dy+1,some ⟨w4.heap.size+1,0,none⟩,2,2,?_⟩,?_⟩
      ·exact ⟨R6.out,O7.out,KK.out,D7.out,HN.out.1,HN.out.2.1,HN.out.2.2,⟨Nat.le_refl _,Nat.lt_succ_self _⟩,HZ.out.1,by simpa using HBIG.out⟩
      ·rw [zaD D7.out.rd,HL.out]
       exact HLT.out
    | false =>
      have HC:=hid (zaj D3.out.rd [43])
      rw [hp,zai hp] at HC
      have HC2 : Hid (Calls Tryz.prog 141 #[.pointer (some ⟨R,0,none⟩),.int .i64 4,.string ⟨#[43]⟩] wr fun e w'=>e=.returned (.bool false)∧DdTo R T L s2 wr w'):=HC.out
      clear HC
      go_wp2_with fail
      with_reducible refine HC2.out.mono ?_
      rintro e w3 ⟨rfl,hd3⟩
      clear b2
      have D3:=hid (D3.out.trans hd3)
      have O3:=hid (O3.out.keep hd3.fr (by have:=HZ.out.1;omega))
      have R3:=hid (R3.out.keep hd3.fr (by omega))
      have K3:=hid (K3.out.keepR hd3.fr (.inl (by omega)))
      have HZ:=hid (And.intro HZ.out.1 (Nat.le_trans HZ.out.2 hd3.fr.size))
      clear hd3 HC2
      have hp0:=hp
      clear hp
      cases hp : dIs s2 4 [45] with
      | true =>
        have HC:=hid (zaj D3.out.rd [45])
        rw [hp,zah hp] at HC
        have HC2 : Hid (Calls Tryz.prog 141 #[.pointer (some ⟨R,0,none⟩),.int .i64 4,.string ⟨#[45]⟩] w3 fun e w'=>e=.returned (.bool true)∧DdTo R T L (dSkip s2) w3 w'):=HC.out
        clear HC
        go_wp2_with fail
        with_reducible refine HC2.out.mono ?_
        rintro e w5 ⟨rfl,hd5⟩
        have D3:=hid (D3.out.trans hd5)
        have O3:=hid (O3.out.keep hd5.fr (by have:=HZ.out.1;omega))
        have R3:=hid (R3.out.keep hd5.fr (by omega))
        have K3:=hid (K3.out.keepR hd5.fr (.inl (by omega)))
        have HZ:=hid (And.intro HZ.out.1 (Nat.le_trans HZ.out.2 hd5.fr.size))
        clear hd5 HC2
        have hlt:=zaI hp
        obtain ⟨n3,rfl⟩ : ∃ n3,n2=n3+1:=by
         have h2:=HI.out.2.1.1
         exact ⟨n2 - 1,by omega⟩
        obtain ⟨⟨y,s4⟩,hys⟩ : ∃ z,tm (dSkip s2)=z:=⟨_,rfl⟩
        have hle4:=hle (dSkip s2)
        have hdp4:=hdp (dSkip s2)
        rw [hys] at hle4 hdp4
        dsimp only at hle4 hdp4
        have his : dSums tm n3 (.mk 8 noV [] [] [x,y]) s4=z:=by
         rw [← HI.out.1,dSums,hp0,hp,if_neg (by simp),if_pos rfl,hys]
        have HN:=hid (And.intro his (And.intro (show s4.l.length≤n3∧s4.l.length≤m by have:=HI.out.2.1;omega) (show s4.deep≤6 by rw [hdp4];exact HI.out.2.2)))
        have HLT:=hid (show s4.l.length < s2.l.length by omega)
        have HT2:=hid (DxTo.plain hys (HTM.out w5 (dSkip s2) D3.out.rd HI.out.2.2 (by have:=HI.out.2.1.2;omega)))
        have hbad:=hp
        clear hlt hle4 hdp4 hys his HI hp hp0 hbad
        go_wp2_with fail
        with_reducible refine HT2.out.mono ?_
        rintro e w4 ⟨kv,dy,rfl,hkv,hd4⟩
        obtain ⟨a4,m4,rfl⟩:=hkv.slice
        obtain ⟨q4,hq4⟩ : ∃ q,y.ks.length=q:=⟨_,rfl⟩
        rw [hq4] at hkv ⊢
        have D4:=hid (D3.out.trans hd4)
        have o4:=O3.out.keep hd4.fr (by have:=HZ.out.1;omega)
        have r4':=R3.out.keep hd4.fr (by omega)
        have k4:=K3.out.keepR hd4.fr (.inl (by omega))
        have hb5:=(Below.refl w4.heap.size w4).alloc (Nat.le_refl _) (.cells #[.int .i64 y.k,.int .i64 y.v.k,.int .i64 y.v.n,.string (strB y.v.s),.string (strB y.x),.string (strB y.f),.slice a4 q4 m4] 89)
        have hb6:=hb5.alloc hb5.size (.cells #[.int .i64 x.k,.int .i64 x.v.k,.int .i64 x.v.n,.string (strB x.v.s),.string (strB x.x),.string (strB x.f),.slice a2 q2 cc,.int .i64 y.k,.int .i64 y.v.k,.int .i64 y.v.n,.string (strB y.v.s),.string (strB y.x),.string (strB y.f),.slice a4 q4 m4] 89)
        have o5:=o4.keep (TFr.of_below (K:=fun _=>False) hb5) id
        have o6:=o4.keep (TFr.of_below (K:=fun _=>False) hb6) id
        have hz4 : w.heap.size+1≤w4.heap.size:=Nat.le_trans HZ.out.2 hd4.fr.size
        have hb3lt : w1.heap.size < w5.heap.size:=O3.out.lt
        have R6:=hid ((r4'.keep (TFr.of_below (K:=fun _=>False) hb6) id).past (b':=w1.heap.size) (by omega) (.int .i64 8) (.int .i64 0) (.int .i64 0) (.string ⟨#[]⟩) (.string ⟨#[]⟩) (.string ⟨#[]⟩) (.slice (some ⟨w4.heap.size+1,0,none⟩) 2 2))
        have O7:=hid (o6.setAll (.int .i64 8) (.int .i64 0) (.int .i64 0) (.string ⟨#[]⟩) (.string ⟨#[]⟩) (.string ⟨#[]⟩) (.slice (some ⟨w4.heap.size+1,0,none⟩) 2 2))
        have D7:=hid ((D4.out.then hb6).set7 hR (b:=w1.heap.size) (by have:=HZ.out.1;omega) (.int .i64 8) (.int .i64 0) (.int .i64 0) (.string ⟨#[]⟩) (.string ⟨#[]⟩) (.string ⟨#[]⟩) (.slice (some ⟨w4.heap.size+1,0,none⟩) 2 2))
        have KK:=hid (show ExK (fun g=>g < w.heap.size+1∨g=w1.heap.size) (((((((((w4.alloc (.cells #[.int .i64 y.k,.int .i64 y.v.k,.int .i64 y.v.n,.string (strB y.v.s),.string (strB y.x),.string (strB y.f),.slice a4 q4 m4] 89)).alloc (.cells #[.int .i64 x.k,.int .i64 x.v.k,.int .i64 x.v.n,.string (strB x.v.s),.string (strB x.x),.string (strB x.f),.slice a2 q2 cc,.int .i64 y.k,.int .i64 y.v.k,.int .i64 y.v.n,.string (strB y.v.s),.string (strB y.x),.string (strB y.f),.slice a4 q4 m4] 89)).setCell ⟨w1.heap.size,0,none⟩ (.int .i64 8)).setCell ⟨w1.heap.size,1,none⟩ (.int .i64 0)).setCell ⟨w1.heap.size,2,none⟩ (.int .i64 0)).setCell ⟨w1.heap.size,3,none⟩ (.string ⟨#[]⟩)).setCell ⟨w1.heap.size,4,none⟩ (.string ⟨#[]⟩)).setCell ⟨w1.heap.size,5,none⟩ (.string ⟨#[]⟩)).setCell ⟨w1.heap.size,6,none⟩ (.slice (some ⟨w4.heap.size+1,0,none⟩) 2 2)) (max d2 dy+1) (.slice (some ⟨w4.heap.size+1,0,none⟩) 2 2) [x,y] from by
         have hx:=(k4.keepR (TFr.of_below (K:=(·=R)) hb6) (.inl (by omega))).le (Nat.le_max_left d2 dy)
         have hy:=((hkv.mono (K':=fun g=>g < w.heap.size+1∨g=w1.heap.size) (fun k hk=>hk.elim (fun h=>Nat.lt_of_lt_of_le h HZ.out.2) (fun h=>h ▸ hb3lt))).keepR (TFr.of_below (K:=(·=R)) hb6) (.inl (by omega))).le (Nat.le_max_right d2 dy)
         have hg : ¬ (w4.heap.size+1 < w.heap.size+1∨w4.heap.size+1=w1.heap.size):=by have:=hd4.fr.size;omega
         have hblk : ((w4.alloc (.cells #[.int .i64 y.k,.int .i64 y.v.k,.int .i64 y.v.n,.string (strB y.v.s),.string (strB y.x),.string (strB y.f),.slice a4 q4 m4] 89)).alloc (.cells #[.int .i64 x.k,.int .i64 x.v.k,.int .i64 x.v.n,.string (strB x.v.s),.string (strB x.x),.string (strB x.f),.slice a2 q2 cc,.int .i64 y.k,.int .i64 y.v.k,.int .i64 y.v.n,.string (strB y.v.s),.string (strB y.x),.string (strB y.f),.slice a4 q4 m4] 89)).heap[w4.heap.size+1]?=some (.cells #[.int .i64 x.k,.int .i64 x.v.k,.int .i64 x.v.n,.string (strB x.v.s),.string (strB x.x),.string (strB x.f),.slice a2 q2 cc,.int .i64 y.k,.int .i64 y.v.k,.int .i64 y.v.n,.string (strB y.v.s),.string (strB y.x),.string (strB y.f),.slice a4 q4 m4] 89 (0,0)):=by
          have:=heap_alloc_new (w4.alloc (.cells #[.int .i64 y.k,.int .i64 y.v.k,.int .i64 y.v.n,.string (strB y.v.s),.string (strB y.x),.string (strB y.f),.slice a4 q4 m4] 89)) (.cells #[.int .i64 x.k,.int .i64 x.v.k,.int .i64 x.v.n,.string (strB x.v.s),.string (strB x.x),.string (strB x.f),.slice a2 q2 cc,.int .i64 y.k,.int .i64 y.v.k,.int .i64 y.v.n,.string (strB y.v.s),.string (strB y.x),.string (strB y.f),.slice a4 q4 m4] 89 (0,0))
          simpa using this
         exact (ExK.pair hx hy hg hblk).set7 (.inr rfl) _ _ _ _ _ _ _)
        have HBIG:=hid (show w.heap.size+1≤w4.heap.size+1+1 by omega)
        obtain ⟨c0,c1,c2,c3,c4,c5,c6,_,_,_,_,_,_,_⟩:=o5.all
        obtain ⟨e0,e1,e2,e3,e4,e5,e6,f0,f1,f2,f3,f4,f5,f6⟩:=o6.all
        clear o4 o5 o6 r4' k4 hkv hd4 hb5 hb6 hq4 O3 R3 K3 D3 D4 HT2
        simp only [xexV]
        go_wp2
        clear c0 c1 c2 c3 c4 c5 c6 e0 e1 e2 e3 e4 e5 e6 f0 f1 f2 f3 f4 f5 f6
        refine ⟨⟨n3,.mk 8 noV [] [] [x,y],s4,max d2 dy+1,some ⟨w4.heap.size+1,0,none⟩,2,2,?_⟩,?_⟩
        ·exact ⟨R6.out,O7.out,KK.out,D7.out,HN.out.1,HN.out.2.1,HN.out.2.2,⟨Nat.le_refl _,Nat.lt_succ_self _⟩,HZ.out.1,by simpa using HBIG.out⟩
        ·rw [zaD D7.out.rd,HL.out]
         exact HLT.out
      | false =>
        have HC:=hid (zaj D3.out.rd [45])
        rw [hp,zai hp] at HC
        have HC2 : Hid (Calls Tryz.prog 141 #[.pointer (some ⟨R,0,none⟩),.int .i64 4,.string ⟨#[45]⟩] w3 fun e w'=>e=.returned (.bool false)∧DdTo R T L s2 w3 w'):=HC.out
        clear HC
        go_wp2_with fail
        with_reducible refine HC2.out.mono ?_
        rintro e w5 ⟨rfl,hd5⟩
        have D3:=hid (D3.out.trans hd5)
        have O3:=hid (O3.out.keep hd5.fr (by have:=HZ.out.1;omega))
        have R3:=hid (R3.out.keep hd5.fr (by omega))
        have K3:=hid (K3.out.keepR hd5.fr (.inl (by omega)))
        have HZ:=hid (And.intro HZ.out.1 (Nat.le_trans HZ.out.2 hd5.fr.size))
        clear hd5 HC2
        have hstop:=zdw (tm:=tm) (n:=n2) (x:=x) hp0 hp
        clear hp hp0
        have hz : z=(x,s2):=by rw [← HI.out.1];exact hstop
        subst hz
        obtain ⟨c0,c1,c2,c3,c4,c5,c6,_,_,_,_,_,_,_⟩:=O3.out.all
        obtain ⟨r0,r1,r2,r3,r4,r5,r6,h0,h1,h2,h3,h4,h5,h6⟩:=R3.out.all
        clear HI hstop
        go_wp2
        refine bodyPost_ret (v:=exV x (.slice a2 q2 cc)) (by simp [results,Tryz.results183,go_sem,r0,r1,r2,r3,r4,r5,r6];rfl) rfl ⟨_,d2,rfl,?_,D3.out.set7 hR (Nat.le_refl _) _ _ _ _ _ _ _⟩
        exact (K3.out.set7 (.inl (by omega)) _ _ _ _ _ _ _).mono (fun k hk=>.inl (Nat.lt_of_lt_of_le hk (Nat.le_succ _)))
end Go.Proofs.YtkmlfkbpcgkpaaaGreatDoor

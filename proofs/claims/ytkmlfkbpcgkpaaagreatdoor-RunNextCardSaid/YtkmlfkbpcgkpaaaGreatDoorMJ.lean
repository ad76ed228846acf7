/- Texts that others want. -/
import Derived.Test.YtkmlfkbpcgkpaaaGreatDoorM0
import Derived.Test.YtkmlfkbpcgkpaaaGreatDoorM3
import Derived.Test.YtkmlfkbpcgkpaaaGreatDoorMI
import Derived.Test.YtkmlfkbpcgkpaaaGreatDoorWDDw
namespace Go.Proofs.YtkmlfkbpcgkpaaaGreatDoor
open Go.RowKit Go.Lib Go.Op
set_option maxHeartbeats 8000000
set_option maxRecDepth 100000
theorem XIn.blank {w : World} {l : List UInt8} {f a : Nat} {acc : List XTok} {v : Value} {W : World} (h : XIn w l f a acc v W) {c : UInt8} (hc : l[a]?=some c) (hb : xblank c=true) : XIn w l f (a+1) acc v W:=by
 obtain ⟨h1,h2,h3,h4,h5,h6⟩:=h
 obtain ⟨hlt,he⟩:=List.getElem?_eq_some_iff.1 hc
 refine ⟨hlt,by omega,?_,h4,h5,h6⟩
 rw [h3,List.drop_eq_getElem_cons hlt,he,zfB hb]
theorem zd2 {c : UInt8} {t : List UInt8} (h : xletter c=true) {n : Nat} (hn : (if 16 < manyL xin (c :: t) then 0 else manyL xin (c :: t))=n) : firstX (c :: t)=(if n=0 then 0 else 1,n):=by
 have hm : 1≤manyL xin (c :: t):=by
  rw [zav,if_pos (by unfold xin;rw [h];rfl)]
  omega
 show firstC c t=_
 unfold firstC
 rw [if_pos h]
 subst hn
 split
 ·rfl
 ·rw [if_neg (by omega)]
theorem ze1 {c : UInt8} {t : List UInt8} (h : xletter c=false) (hd : xdigit c=true) {n : Nat} (hn : (if rightN ((c :: t).take (manyL xdigit (c :: t))) then manyL xdigit (c :: t) else 0)=n) : firstX (c :: t)=(if n=0 then 0 else 2,n):=by
 have hm : 1≤manyL xdigit (c :: t):=by
  rw [zav,if_pos hd]
  omega
 show firstC c t=_
 unfold firstC
 rw [if_neg (by rw [h];simp),if_pos hd]
 subst hn
 split
 ·rw [if_neg (by omega)]
 ·rfl
theorem zfO {c : UInt8} {t : List UInt8} (h : xletter c=false) (hd : xdigit c=false) (h39 : c.toNat=39) {n : Nat} (hn : quotN t=n) : firstX (c :: t)=(if n=0 then 0 else 3,n):=by
 show firstC c t=_
 unfold firstC
 rw [if_neg (by rw [h];simp),if_neg (by rw [hd];simp),if_pos h39]
 subst hn
 unfold quotN
 split
 ·rfl
 ·rw [if_neg (by omega)]
theorem zfP {c : UInt8} {t : List UInt8} (h : xletter c=false) (hd : xdigit c=false) (h39 : ¬ c.toNat=39) {n : Nat} (hn : signN c t=n) : firstX (c :: t)=(if n=0 then 0 else 4,n):=by
 show firstC c t=_
 unfold firstC
 rw [if_neg (by rw [h];simp),if_neg (by rw [hd];simp),if_neg h39]
 subst hn
 unfold signN
 split
 ·rfl
 ·split <;> rfl
theorem zfQ (w : World) (s : ByteArray) (l : List UInt8) (hl : s.data.toList=l) (hs : s.size≤100000) :
 Calls Tryz.prog 81 #[.string s] w (ReadQ w (readX l)):=by
 have hlen : l.length=s.size:=by rw [← hl];simp
 by_cases hlong : 512 < s.size
 ·have hr : readX l=([],2,0):=by unfold readX;rw [if_pos (by omega)]
  have Hr:=hid hr
  clear hr hl hlen
  go_enter Tryz.func81,Tryz.ntmps81
  go_wp2
  refine bodyPost_ret (v:=.tuple #[.slice none 0 0,.int .i64 2,.int .i64 0]) (by simp [results,Tryz.results81,go_sem]) rfl ?_
  exact ReadQ.mk Hr.out rfl rfl (XOwn.nil _ _) (Below.refl _ _)
 have Hl:=hid hl
 have Hlen:=hid hlen
 have HR0 : Hid (readX l=appX [] (lexX (s.size+1) (l.drop 0) 0 ([] : List XTok).length)):=by
  show _=_
  rw [zij _ (zeb _ _ _ _).1]
  unfold readX
  rw [if_neg (by omega),hlen]
  rfl
 have HX0 : Hid (XIn w l (s.size+1) 0 [] (.slice none 0 0) w):=⟨Nat.zero_le _,by omega,HR0.out,by simp,XOwn.nil _ _,Below.refl _ _⟩
 clear hl hlen HR0
 go_enter Tryz.func81,Tryz.ntmps81
 go_wp2
 go_loopw [5,6,7,8,9] (fun v i x y z wr=>∃ (f a : Nat) (acc : List XTok),i=.int .i64 a∧Hid (XIn w l f a acc v wr)) (fun _ i _ _ _ _=>s.size - (RowKit.intOf i).toNat)
 case atStart=>exact ⟨s.size+1,0,[],rfl,HX0⟩
 case round =>
  clear HX0
  obtain ⟨f,a,acc,rfl,HX⟩:=hrel
  have hX:=HX.out
  obtain ⟨h1,h2,h3,h4,h5,h6⟩:=hX
  rw [Hlen.out] at h1 h2
  obtain ⟨f,rfl⟩ : ∃ g,f=g+1:=⟨f - 1,by omega⟩
  have H3:=hid h3
  have HO:=hid h5
  have HB:=hid h6
  obtain ⟨va,vc,rfl⟩:=h5.slice
  clear h3 h5 h6
  obtain ⟨q,hq⟩ : ∃ q,acc.length=q:=⟨_,rfl⟩
  have Hq:=hid hq
  rw [hq] at h4 ⊢
  clear hq
  by_cases hlt : a < s.size
  ·have hget:=zbL s hlt
   rw [Hl.out] at hget
   obtain ⟨c,hc⟩ : ∃ c,s[a]=c:=⟨_,rfl⟩
   rw [hc] at hget
   obtain ⟨m,hm⟩ : ∃ m,c.toNat=m:=⟨_,rfl⟩
   have hi:=zba s hlt hc hm
   have Hget:=hid hget
   have Hm:=hid hm
   have hdr : l.drop a=c :: l.drop (a+1):=by
    obtain ⟨h7,h8⟩:=List.getElem?_eq_some_iff.1 hget
    rw [List.drop_eq_getElem_cons h7,h8]
   have Hdr:=hid hdr
   clear hget hdr hc hm
   by_cases h32 : m=32
   ·have HN : Hid (XIn w l (f+1) (a+1) acc (.slice va acc.length vc) wr):=HX.out.blank Hget.out (by unfold xblank;rw [Hm.out];simp [h32])
    rw [Hq.out] at HN
    have t1 : ((m : Int) == 32)=true:=by rw [beq_iff_eq];omega
    clear h32
    go_wp2
    refine ⟨⟨f+1,a+1,acc,by go_num,HN⟩,?_⟩
    simp [RowKit.intOf]
    omega
   have t1 : ((m : Int) == 32)=false:=by rw [beq_eq_false_iff_ne];omega
   by_cases h10 : m=10
   ·have HN : Hid (XIn w l (f+1) (a+1) acc (.slice va acc.length vc) wr):=HX.out.blank Hget.out (by unfold xblank;rw [Hm.out];simp [h10])
    rw [Hq.out] at HN
    have t2 : ((m : Int) == 10)=true:=by rw [beq_iff_eq];omega
    clear h10
    go_wp2
    refine ⟨⟨f+1,a+1,acc,by go_num,HN⟩,?_⟩
    simp [RowKit.intOf]
    omega
   have t2 : ((m : Int) == 10)=false:=by rw [beq_eq_false_iff_ne];omega
   have Hm0 : Hid (manyL xblank (l.drop a)=0):=by
    show _=_
    rw [Hdr.out,zav,if_neg (by unfold xblank;rw [Hm.out];simp [h32,h10])]
   have Hnb : Hid (¬ (l.drop a).length≤manyL xblank (l.drop a)):=by
    show ¬ _
    rw [Hm0.out,List.length_drop,Hlen.out]
    omega
   have Hdd : Hid ((l.drop a).drop (manyL xblank (l.drop a))=l.drop a):=by
    show _=_
    rw [Hm0.out,List.drop_zero]
   have hyl : (s.extract a s.size).data.toList=l.drop a:=by rw [Pa.extract_from,Hl.out]
   have hyz : (s.extract a s.size).size≤1000:=by
    have e:=zkp (s.extract a s.size)
    rw [← e,hyl,List.length_drop,Hlen.out];omega
   have hyc : (s.extract a s.size).data.toList=c :: l.drop (a+1):=by rw [hyl,Hdr.out]
   have HBT : Hid (∀ k,Below w.heap.size w (wr.alloc (.cells #[.int .i64 k,.string ⟨#[]⟩,.int .i64 a] 148))):=fun k=>HB.out.alloc HB.out.size _
   clear h32 h10
   have HLe : Hid (∀ W,Calls Tryz.prog 133 #[.int .u8 m] W fun e w'=>e=.returned (.bool (xletter c))∧W=w'):=fun W=>by rw [← Hm.out];exact zbZ c W
   have HDi : Hid (∀ W,Calls Tryz.prog 135 #[.int .u8 m] W fun e w'=>e=.returned (.bool (xdigit c))∧W=w'):=fun W=>by rw [← Hm.out];exact za5 c W
   have hfle : Hid (∀ k n,firstX (l.drop a)=(k,n)→a+n≤s.size):=fun k n h=>by
    have:=zcz (l.drop a)
    rw [h,List.length_drop,Hlen.out] at this
    dsimp only at this
    omega
   have htk : Hid (∀ n,a+n≤s.size→(s.extract a (a+n)).data.toList=(l.drop a).take n):=fun n hn=>by
    rw [zf2,Hl.out,List.drop_take]
    congr 1
    omega
   have HAP : Hid (∀ (k : Nat) (tx : ByteArray) (tb : List UInt8),tx=strB tb→∀ w2,Below wr.heap.size wr w2→∀ {n : Nat},firstX (l.drop a)=(k,n)→n≠0→tb=textX k ((l.drop a).take n)→q≠128→∃ a9 l9 c9 w9,(Builtin.append_ #[140,140] 140 #[.slice va q vc,.slice (some ⟨w2.heap.size,0,none⟩) 1 1]).run Tryz.prog (w2.alloc (.cells #[.int .i64 k,.string tx,.int .i64 a] 148))=.ok (.slice a9 l9 c9) w9∧Hid (XIn w l f (a+n) (acc++[⟨k,tb,a⟩]) (.slice a9 l9 c9) w9)):=by
    intro k tx tb htx w2 hb2 n hfx hn0 htb h128
    subst htx
    have hbw : Below w.heap.size w w2:=HB.out.trans (hb2.mono HB.out.size)
    have hba:=hbw.alloc hbw.size (.cells #[.int .i64 k,.string (strB tb),.int .i64 a] 148)
    have hown : XOwn (w2.alloc (.cells #[.int .i64 k,.string (strB tb),.int .i64 a] 148)) w.heap.size (.slice va q vc) acc:=by
     have h:=(HO.out.below hb2).below ((Below.refl _ _).alloc (Nat.le_refl _) (.cells #[.int .i64 k,.string (strB tb),.int .i64 a] 148))
     rw [Hq.out] at h
     exact h
    obtain ⟨v9,w9,hr9,ho9,hg9⟩:=hown.append hba.size (by rw [Hq.out];omega) ⟨k,tb,a⟩ w2.heap.size (heap_alloc_new w2 _) 140
    obtain ⟨a9,c9,rfl⟩:=ho9.slice
    refine ⟨a9,_,c9,w9,hr9,?_⟩
    rw [htb] at ho9 ⊢
    have h:=XIn.step HX.out Hm0.out (by rw [Hlen.out];omega) (show firstX (l.drop (a+0))=(k,n) by rw [Nat.add_zero];exact hfx) hn0 (by rw [Hq.out];exact h128) ho9 (hba.grown hg9 hba.size (fun j hj=>(hown.lt j hj).1))
    exact h
   cases hlb : xletter c with
   | true =>
     obtain ⟨n,hn⟩ : ∃ n : Nat,(if 16 < manyL xin (c :: l.drop (a+1)) then 0 else manyL xin (c :: l.drop (a+1)))=n:=⟨_,rfl⟩
     have HL : Hid (∀ W,Calls Tryz.prog 133 #[.int .u8 m] W fun e w'=>e=.returned (.bool true)∧W=w'):=fun W=>by rw [← hlb];exact HLe.out W
     have HN : Hid (∀ W,Calls Tryz.prog 134 #[.string (s.extract a s.size)] W fun e w'=>e=.returned (.int .i64 n)∧W=w'):=fun W=>by
      have h:=zeM (s.extract a s.size) W hyz (fun c hc=>by rw [hyc] at hc;injection hc with hc;rw [← hc];exact hlb)
      rw [hyc] at h
      rw [← hn]
      exact h
     have Hfx : Hid (firstX (l.drop a)=(if n=0 then 0 else 1,n)):=by show _=_;rw [Hdr.out];exact zd2 hlb hn
     have HNL : Hid (n≠0→a+n≤s.size):=fun _=>hfle.out _ _ Hfx.out
     have HTX : Hid (n≠0→s.extract a (a+n)=strB (textX 1 ((l.drop a).take n))):=fun h0=>zf3 (by rw [htk.out n (HNL.out h0)];rfl)
     clear hlb hn hyl hyz hyc HLe HDi hfle htk Hget Hdr
     by_cases hn0 : n=0
     ·subst hn0
      have hres : readX l=([],71,a):=by
       rw [H3.out,zbp Hnb.out (by rw [Hdd.out,Hfx.out]),Hm0.out]
       unfold appX
       simp
      have Hres:=hid hres
      clear hres HAP
      go_wp2_with fail
      with_reducible refine (HL.out _).mono ?_
      rintro e w1 ⟨rfl,rfl⟩
      go_wp2_with fail
      with_reducible refine (HN.out _).mono ?_
      rintro e w1 ⟨rfl,rfl⟩
      go_wp2
      refine bodyPost_ret (v:=.tuple #[.slice none 0 0,.int .i64 71,.int .i64 a]) (by simp [results,Tryz.results81,go_sem]) rfl ?_
      exact ReadQ.mk Hres.out rfl rfl (XOwn.nil _ _) (HBT.out _)
     have tz : ((n : Int) == 0)=false:=by rw [beq_eq_false_iff_ne];omega
     by_cases h128 : q=128
     ·have hres : readX l=([],2,a):=by
       rw [H3.out,zbq Hnb.out (by rw [Hdd.out,Hfx.out];exact hn0) (by rw [Hq.out];exact h128),Hm0.out]
       unfold appX
       simp
      have Hres:=hid hres
      have tq : ((q : Int) == 128)=true:=by rw [beq_iff_eq];omega
      clear hres HAP
      go_wp2_with fail
      with_reducible refine (HL.out _).mono ?_
      rintro e w1 ⟨rfl,rfl⟩
      go_wp2_with fail
      with_reducible refine (HN.out _).mono ?_
      rintro e w1 ⟨rfl,rfl⟩
      go_wp2
      refine bodyPost_ret (v:=.tuple #[.slice none 0 0,.int .i64 2,.int .i64 a]) (by simp [results,Tryz.results81,go_sem]) rfl ?_
      exact ReadQ.mk Hres.out rfl rfl (XOwn.nil _ _) (HBT.out _)
     have tq : ((q : Int) == 128)=false:=by rw [beq_eq_false_iff_ne];omega
     have htx : (s.extract a (a+n))=strB (textX 1 ((l.drop a).take n)):=HTX.out hn0
     have hnle:=HNL.out hn0
     have hw2 : IntKind.i64.wrap ((a : Int)+(n : Int))=(a : Int)+(n : Int):=IntWalk.i64_in _ (by omega)
     have hz1 : (0 : Int)≤(a : Int)+(n : Int):=by omega
     have hz2 : (a : Int)+(n : Int)≤(s.size : Int):=by omega
     have hz3 : ((a : Int)+(n : Int)).toNat=a+n:=by omega
     have hz4 : (a : Int)≤(a : Int)+(n : Int):=by omega
     have hr : ∃ a9 l9 c9 w9,(Builtin.append_ #[140,140] 140 #[.slice va q vc,.slice (some ⟨wr.heap.size+1,0,none⟩) 1 1]).run Tryz.prog ((wr.alloc (.cells #[.int .i64 1,.string (s.extract a (a+n)),.int .i64 a] 148)).alloc (.cells #[.int .i64 1,.string (s.extract a (a+n)),.int .i64 a] 148))=.ok (.slice a9 l9 c9) w9∧Hid (XIn w l f (a+n) (acc++[⟨1,textX 1 ((l.drop a).take n),a⟩]) (.slice a9 l9 c9) w9):=by
      have h:=HAP.out 1 (s.extract a (a+n)) (textX 1 ((l.drop a).take n)) htx (wr.alloc (.cells #[.int .i64 1,.string (s.extract a (a+n)),.int .i64 a] 148)) ((Below.refl _ _).alloc (Nat.le_refl _) _) (show firstX (l.drop a)=(1,n) by rw [Hfx.out,if_neg hn0]) hn0 rfl h128
      rw [World.size_alloc] at h
      exact h
     obtain ⟨a9,l9,c9,w9,hr9,HF9⟩:=hr
     clear htx HTX H3 Hnb Hdd Hfx HAP
     go_wp2_with fail
     with_reducible refine (HL.out _).mono ?_
     rintro e w1 ⟨rfl,rfl⟩
     go_wp2_with fail
     with_reducible refine (HN.out _).mono ?_
     rintro e w1 ⟨rfl,rfl⟩
     go_wp2_with (at_builtin;refine Lib.wpList_append_run _ rfl _ _ _ _ rfl _ _ rfl rfl _ _ hr9 ?_;clear hr9)
     refine ⟨⟨f,a+n,_,by go_num,HF9⟩,?_⟩
     simp [RowKit.intOf]
     omega
   | false =>
     have HL : Hid (∀ W,Calls Tryz.prog 133 #[.int .u8 m] W fun e w'=>e=.returned (.bool false)∧W=w'):=fun W=>by rw [← hlb];exact HLe.out W
     cases hdb : xdigit c with
     | true =>
       obtain ⟨n,hn⟩ : ∃ n : Nat,(if rightN ((c :: l.drop (a+1)).take (manyL xdigit (c :: l.drop (a+1)))) then manyL xdigit (c :: l.drop (a+1)) else 0)=n:=⟨_,rfl⟩
       have HD : Hid (∀ W,Calls Tryz.prog 135 #[.int .u8 m] W fun e w'=>e=.returned (.bool true)∧W=w'):=fun W=>by rw [← hdb];exact HDi.out W
       have HN : Hid (∀ W,Calls Tryz.prog 136 #[.string (s.extract a s.size)] W fun e w'=>e=.returned (.int .i64 n)∧W=w'):=fun W=>by
        have h:=zde (s.extract a s.size) W hyz c (l.drop (a+1)) hyc hdb
        rw [hyc] at h
        rw [← hn]
        exact h
       have Hfx : Hid (firstX (l.drop a)=(if n=0 then 0 else 2,n)):=by show _=_;rw [Hdr.out];exact ze1 hlb hdb hn
       have HNL : Hid (n≠0→a+n≤s.size):=fun _=>hfle.out _ _ Hfx.out
       have HTX : Hid (n≠0→s.extract a (a+n)=strB (textX 2 ((l.drop a).take n))):=fun h0=>zf3 (by rw [htk.out n (HNL.out h0)];rfl)
       clear hlb hdb hn hyl hyz hyc HLe HDi hfle htk Hget Hdr
       by_cases hn0 : n=0
       ·subst hn0
        have hres : readX l=([],71,a):=by
         rw [H3.out,zbp Hnb.out (by rw [Hdd.out,Hfx.out]),Hm0.out]
         unfold appX
         simp
        have Hres:=hid hres
        clear hres HAP
        go_wp2_with fail
        with_reducible refine (HL.out _).mono ?_
        rintro e w1 ⟨rfl,rfl⟩
        go_wp2_with fail
        with_reducible refine (HD.out _).mono ?_
        rintro e w1 ⟨rfl,rfl⟩
        go_wp2_with fail
        with_reducible refine (HN.out _).mono ?_
        rintro e w1 ⟨rfl,rfl⟩
        go_wp2
        refine bodyPost_ret (v:=.tuple #[.slice none 0 0,.int .i64 71,.int .i64 a]) (by simp [results,Tryz.results81,go_sem]) rfl ?_
        exact ReadQ.mk Hres.out rfl rfl (XOwn.nil _ _) (HBT.out _)
       have tz : ((n : Int) == 0)=false:=by rw [beq_eq_false_iff_ne];omega
       by_cases h128 : q=128
       ·have hres : readX l=([],2,a):=by
         rw [H3.out,zbq Hnb.out (by rw [Hdd.out,Hfx.out];exact hn0) (by rw [Hq.out];exact h128),Hm0.out]
         unfold appX
         simp
        have Hres:=hid hres
        have tq : ((q : Int) == 128)=true:=by rw [beq_iff_eq];omega
        clear hres HAP
        go_wp2_with fail
        with_reducible refine (HL.out _).mono ?_
        rintro e w1 ⟨rfl,rfl⟩
        go_wp2_with fail
        with_reducible refine (HD.out _).mono ?_
        rintro e w1 ⟨rfl,rfl⟩
        go_wp2_with fail
        with_reducible refine (HN.out _).mono ?_
        rintro e w1 ⟨rfl,rfl⟩
        go_wp2
        refine bodyPost_ret (v:=.tuple #[.slice none 0 0,.int .i64 2,.int .i64 a]) (by simp [results,Tryz.results81,go_sem]) rfl ?_
        exact ReadQ.mk Hres.out rfl rfl (XOwn.nil _ _) (HBT.out _)
       have tq : ((q : Int) == 128)=false:=by rw [beq_eq_false_iff_ne];omega
       have htx : (s.extract a (a+n))=strB (textX 2 ((l.drop a).take n)):=HTX.out hn0
       have hnle:=HNL.out hn0
       have hw2 : IntKind.i64.wrap ((a : Int)+(n : Int))=(a : Int)+(n : Int):=IntWalk.i64_in _ (by omega)
       have hz1 : (0 : Int)≤(a : Int)+(n : Int):=by omega
       have hz2 : (a : Int)+(n : Int)≤(s.size : Int):=by omega
       have hz3 : ((a : Int)+(n : Int)).toNat=a+n:=by omega
       have hz4 : (a : Int)≤(a : Int)+(n : Int):=by omega
       have hr : ∃ a9 l9 c9 w9,(Builtin.append_ #[140,140] 140 #[.slice va q vc,.slice (some ⟨wr.heap.size+1,0,none⟩) 1 1]).run Tryz.prog ((wr.alloc (.cells #[.int .i64 2,.string (s.extract a (a+n)),.int .i64 a] 148)).alloc (.cells #[.int .i64 2,.string (s.extract a (a+n)),.int .i64 a] 148))=.ok (.slice a9 l9 c9) w9∧Hid (XIn w l f (a+n) (acc++[⟨2,textX 2 ((l.drop a).take n),a⟩]) (.slice a9 l9 c9) w9):=by
        have h:=HAP.out 2 (s.extract a (a+n)) (textX 2 ((l.drop a).take n)) htx (wr.alloc (.cells #[.int .i64 2,.string (s.extract a (a+n)),.int .i64 a] 148)) ((Below.refl _ _).alloc (Nat.le_refl _) _) (show firstX (l.drop a)=(2,n) by rw [Hfx.out,if_neg hn0]) hn0 rfl h128
        rw [World.size_alloc] at h
        exact h
       obtain ⟨a9,l9,c9,w9,hr9,HF9⟩:=hr
       clear htx HTX H3 Hnb Hdd Hfx HAP
       go_wp2_with fail
       with_reducible refine (HL.out _).mono ?_
       rintro e w1 ⟨rfl,rfl⟩
       go_wp2_with fail
       with_reducible refine (HD.out _).mono ?_
       rintro e w1 ⟨rfl,rfl⟩
       go_wp2_with fail
       with_reducible refine (HN.out _).mono ?_
       rintro e w1 ⟨rfl,rfl⟩
       go_wp2_with (at_builtin;refine Lib.wpList_append_run _ rfl _ _ _ _ rfl _ _ rfl rfl _ _ hr9 ?_;clear hr9)
       refine ⟨⟨f,a+n,_,by go_num,HF9⟩,?_⟩
       simp [RowKit.intOf]
       omega
     | false =>
       have HD : Hid (∀ W,Calls Tryz.prog 135 #[.int .u8 m] W fun e w'=>e=.returned (.bool false)∧W=w'):=fun W=>by rw [← hdb];exact HDi.out W
       by_cases h39 : m=39
       ·obtain ⟨n,hn⟩ : ∃ n : Nat,quotN (l.drop (a+1))=n:=⟨_,rfl⟩
        have HN : Hid (∀ W,Calls Tryz.prog 137 #[.string (s.extract a s.size)] W fun e w'=>e=.returned (.int .i64 n)∧W=w'):=fun W=>by
         have h:=zdT (s.extract a s.size) W hyz c (l.drop (a+1)) hyc
         rw [← hn]
         exact h
        have Hfx : Hid (firstX (l.drop a)=(if n=0 then 0 else 3,n)):=by show _=_;rw [Hdr.out];exact zfO hlb hdb (by rw [Hm.out];exact h39) hn
        have HNL : Hid (n≠0→a+n≤s.size):=fun _=>hfle.out _ _ Hfx.out
        have HN2 : Hid (n≠0→2≤n):=fun _=>by
         rw [← hn]
         rename_i h0
         rw [← hn] at h0
         unfold quotN at h0 ⊢
         split
         ·rename_i e
          rw [if_pos e] at h0
          exact absurd rfl h0
         ·omega
        have HTX : Hid (n≠0→s.extract (a+1) (a+n - 1)=strB (textX 3 ((l.drop a).take n))):=fun h0=>zf3 (by
         have hh:=HNL.out h0
         have hh2:=HN2.out h0
         unfold textX
         rw [if_pos rfl,List.length_take,List.length_drop,Hlen.out,Nat.min_eq_left (by omega),zf2,Hl.out,List.drop_take,List.drop_take,List.drop_drop,List.take_take]
         congr 1
         omega)
        have t3 : ((m : Int) == 39)=true:=by rw [beq_iff_eq];omega
        clear hlb hdb hn hyl hyz hyc HLe HDi hfle htk Hget Hdr h39
        by_cases hn0 : n=0
        ·subst hn0
         have hres : readX l=([],71,a):=by
          rw [H3.out,zbp Hnb.out (by rw [Hdd.out,Hfx.out]),Hm0.out]
          unfold appX
          simp
         have Hres:=hid hres
         clear hres HAP
         go_wp2_with fail
         with_reducible refine (HL.out _).mono ?_
         rintro e w1 ⟨rfl,rfl⟩
         go_wp2_with fail
         with_reducible refine (HD.out _).mono ?_
         rintro e w1 ⟨rfl,rfl⟩
         go_wp2_with fail
         with_reducible refine (HN.out _).mono ?_
         rintro e w1 ⟨rfl,rfl⟩
         go_wp2
         refine bodyPost_ret (v:=.tuple #[.slice none 0 0,.int .i64 71,.int .i64 a]) (by simp [results,Tryz.results81,go_sem]) rfl ?_
         exact ReadQ.mk Hres.out rfl rfl (XOwn.nil _ _) (HBT.out _)
        have tz : ((n : Int) == 0)=false:=by rw [beq_eq_false_iff_ne];omega
        by_cases h128 : q=128
        ·have hres : readX l=([],2,a):=by
          rw [H3.out,zbq Hnb.out (by rw [Hdd.out,Hfx.out];exact hn0) (by rw [Hq.out];exact h128),Hm0.out]
          unfold appX
          simp
         have Hres:=hid hres
         have tq : ((q : Int) == 128)=true:=by rw [beq_iff_eq];omega
         clear hres HAP
         go_wp2_with fail
         with_reducible refine (HL.out _).mono ?_
         rintro e w1 ⟨rfl,rfl⟩
         go_wp2_with fail
         with_reducible refine (HD.out _).mono ?_
         rintro e w1 ⟨rfl,rfl⟩
         go_wp2_with fail
         with_reducible refine (HN.out _).mono ?_
         rintro e w1 ⟨rfl,rfl⟩
         go_wp2
         refine bodyPost_ret (v:=.tuple #[.slice none 0 0,.int .i64 2,.int .i64 a]) (by simp [results,Tryz.results81,go_sem]) rfl ?_
         exact ReadQ.mk Hres.out rfl rfl (XOwn.nil _ _) (HBT.out _)
        have tq : ((q : Int) == 128)=false:=by rw [beq_eq_false_iff_ne];omega
        have htx : (s.extract (a+1) (a+n - 1))=strB (textX 3 ((l.drop a).take n)):=HTX.out hn0
        have hnle:=HNL.out hn0
        have hw2 : IntKind.i64.wrap ((a : Int)+(n : Int))=(a : Int)+(n : Int):=IntWalk.i64_in _ (by omega)
        have hz1 : (0 : Int)≤(a : Int)+(n : Int):=by omega
        have hz2 : (a : Int)+(n : Int)≤(s.size : Int):=by omega
        have hz3 : ((a : Int)+(n : Int)).toNat=a+n:=by omega
        have hz4 : (a : Int)≤(a : Int)+(n : Int):=by omega
        have hn2:=HN2.out hn0
        have hw3 : IntKind.i64.wrap ((a : Int)+1)=(a : Int)+1:=IntWalk.i64_in _ (by omega)
        have hw4 : IntKind.i64.wrap ((a : Int)+(n : Int) - 1)=(a : Int)+(n : Int) - 1:=IntWalk.i64_in _ (by omega)
        have hy1 : (0 : Int)≤(a : Int)+1:=by omega
        have hy2 : (a : Int)+(n : Int) - 1≤(s.size : Int):=by omega
        have hy3 : ((a : Int)+(n : Int) - 1).toNat=a+n - 1:=by omega
        have hy4 : (a : Int)+1≤(a : Int)+(n : Int) - 1:=by omega
        have hy5 : ((a : Int)+1).toNat=a+1:=by omega
        have hr : ∃ a9 l9 c9 w9,(Builtin.append_ #[140,140] 140 #[.slice va q vc,.slice (some ⟨wr.heap.size+1,0,none⟩) 1 1]).run Tryz.prog ((wr.alloc (.cells #[.int .i64 3,.string (s.extract (a+1) (a+n - 1)),.int .i64 a] 148)).alloc (.cells #[.int .i64 3,.string (s.extract (a+1) (a+n - 1)),.int .i64 a] 148))=.ok (.slice a9 l9 c9) w9∧Hid (XIn w l f (a+n) (acc++[⟨3,textX 3 ((l.drop a).take n),a⟩]) (.slice a9 l9 c9) w9):=by
         have h:=HAP.out 3 (s.extract (a+1) (a+n - 1)) (textX 3 ((l.drop a).take n)) htx (wr.alloc (.cells #[.int .i64 3,.string (s.extract (a+1) (a+n - 1)),.int .i64 a] 148)) ((Below.refl _ _).alloc (Nat.le_refl _) _) (show firstX (l.drop a)=(3,n) by rw [Hfx.out,if_neg hn0]) hn0 rfl h128
         rw [World.size_alloc] at h
         exact h
        obtain ⟨a9,l9,c9,w9,hr9,HF9⟩:=hr
        clear htx HTX H3 Hnb Hdd Hfx HAP
        go_wp2_with fail
        with_reducible refine (HL.out _).mono ?_
        rintro e w1 ⟨rfl,rfl⟩
        go_wp2_with fail
        with_reducible refine (HD.out _).mono ?_
        rintro e w1 ⟨rfl,rfl⟩
        go_wp2_with fail
        with_reducible refine (HN.out _).mono ?_
        rintro e w1 ⟨rfl,rfl⟩
        go_wp2_with (at_builtin;refine Lib.wpList_append_run _ rfl _ _ _ _ rfl _ _ rfl rfl _ _ hr9 ?_;clear hr9)
        refine ⟨⟨f,a+n,_,by go_num,HF9⟩,?_⟩
        simp [RowKit.intOf]
        omega
       ·obtain ⟨n,hn⟩ : ∃ n : Nat,signN c (l.drop (a+1))=n:=⟨_,rfl⟩
        have HN : Hid (∀ W,Calls Tryz.prog 138 #[.string (s.extract a s.size)] W fun e w'=>e=.returned (.int .i64 n)∧Below W.heap.size W w'):=fun W=>by
         have h:=zeN (s.extract a s.size) W hyz c (l.drop (a+1)) hyc
         rw [← hn]
         exact h
        have Hfx : Hid (firstX (l.drop a)=(if n=0 then 0 else 4,n)):=by show _=_;rw [Hdr.out];exact zfP hlb hdb (by rw [Hm.out];exact h39) hn
        have HNL : Hid (n≠0→a+n≤s.size):=fun _=>hfle.out _ _ Hfx.out
        have HTX : Hid (n≠0→s.extract a (a+n)=strB (textX 4 ((l.drop a).take n))):=fun h0=>zf3 (by rw [htk.out n (HNL.out h0)];rfl)
        have t3 : ((m : Int) == 39)=false:=by rw [beq_eq_false_iff_ne];omega
        clear hlb hdb hn hyl hyz hyc HLe HDi hfle htk Hget Hdr h39
        by_cases hn0 : n=0
        ·subst hn0
         have hres : readX l=([],71,a):=by
          rw [H3.out,zbp Hnb.out (by rw [Hdd.out,Hfx.out]),Hm0.out]
          unfold appX
          simp
         have Hres:=hid hres
         clear hres HAP
         go_wp2_with fail
         with_reducible refine (HL.out _).mono ?_
         rintro e w1 ⟨rfl,rfl⟩
         go_wp2_with fail
         with_reducible refine (HD.out _).mono ?_
         rintro e w1 ⟨rfl,rfl⟩
         go_wp2_with fail
         with_reducible refine (HN.out _).mono ?_
         rintro e w1 ⟨rfl,hb1⟩
         have HBs:=hid hb1
         have X1:=hid ((Blk.new wr #[.int .i64 4,.string ⟨#[]⟩,.int .i64 a] 148).low hb1)
         clear hb1
         go_wp2
         refine bodyPost_ret (v:=.tuple #[.slice none 0 0,.int .i64 71,.int .i64 a]) (by simp [results,Tryz.results81,go_sem]) rfl ?_
         exact ReadQ.mk Hres.out rfl rfl (XOwn.nil _ _) ((HBT.out _).trans (HBs.out.mono (HBT.out _).size))
        have tz : ((n : Int) == 0)=false:=by rw [beq_eq_false_iff_ne];omega
        by_cases h128 : q=128
        ·have hres : readX l=([],2,a):=by
          rw [H3.out,zbq Hnb.out (by rw [Hdd.out,Hfx.out];exact hn0) (by rw [Hq.out];exact h128),Hm0.out]
          unfold appX
          simp
         have Hres:=hid hres
         have tq : ((q : Int) == 128)=true:=by rw [beq_iff_eq];omega
         clear hres HAP
         go_wp2_with fail
         with_reducible refine (HL.out _).mono ?_
         rintro e w1 ⟨rfl,rfl⟩
         go_wp2_with fail
         with_reducible refine (HD.out _).mono ?_
         rintro e w1 ⟨rfl,rfl⟩
         go_wp2_with fail
         with_reducible refine (HN.out _).mono ?_
         rintro e w1 ⟨rfl,hb1⟩
         have HBs:=hid hb1
         have X1:=hid ((Blk.new wr #[.int .i64 4,.string ⟨#[]⟩,.int .i64 a] 148).low hb1)
         clear hb1
         go_wp2
         refine bodyPost_ret (v:=.tuple #[.slice none 0 0,.int .i64 2,.int .i64 a]) (by simp [results,Tryz.results81,go_sem]) rfl ?_
         exact ReadQ.mk Hres.out rfl rfl (XOwn.nil _ _) ((HBT.out _).trans (HBs.out.mono (HBT.out _).size))
        have tq : ((q : Int) == 128)=false:=by rw [beq_eq_false_iff_ne];omega
        have htx : (s.extract a (a+n))=strB (textX 4 ((l.drop a).take n)):=HTX.out hn0
        have hnle:=HNL.out hn0
        have hw2 : IntKind.i64.wrap ((a : Int)+(n : Int))=(a : Int)+(n : Int):=IntWalk.i64_in _ (by omega)
        have hz1 : (0 : Int)≤(a : Int)+(n : Int):=by omega
        have hz2 : (a : Int)+(n : Int)≤(s.size : Int):=by omega
        have hz3 : ((a : Int)+(n : Int)).toNat=a+n:=by omega
        have hz4 : (a : Int)≤(a : Int)+(n : Int):=by omega
        have HTXX:=hid htx
        have HFX:=hid (show firstX (l.drop a)=(4,n) by rw [Hfx.out,if_neg hn0])
        clear htx HTX H3 Hnb Hdd Hfx
        go_wp2_with fail
        with_reducible refine (HL.out _).mono ?_
        rintro e w1 ⟨rfl,rfl⟩
        go_wp2_with fail
        with_reducible refine (HD.out _).mono ?_
        rintro e w1 ⟨rfl,rfl⟩
        go_wp2_with fail
        with_reducible refine (HN.out _).mono ?_
        rintro e w1 ⟨rfl,hb1⟩
        have HBs:=hid hb1
        have X1:=hid ((Blk.new wr #[.int .i64 4,.string ⟨#[]⟩,.int .i64 a] 148).low hb1)
        clear hb1
        have x0:=zab X1.out (k:=0) rfl
        have x1:=zab X1.out (k:=1) rfl
        have x2:=zab X1.out (k:=2) rfl
        have fx1:=zac X1.out (k:=1)
        have hsz:=X1.out.lt
        have X2:=X1.out.set 1 (.string (s.extract a (a+n))) rfl
        have y0:=zab X2 (k:=0) rfl
        have y1:=zab X2 (k:=1) rfl
        have y2:=zab X2 (k:=2) rfl
        have hr : ∃ a9 l9 c9 w9,(Builtin.append_ #[140,140] 140 #[.slice va q vc,.slice (some ⟨w1.heap.size,0,none⟩) 1 1]).run Tryz.prog ((w1.setCell ⟨wr.heap.size,1,none⟩ (.string (s.extract a (a+n)))).alloc (.cells #[.int .i64 4,.string (s.extract a (a+n)),.int .i64 a] 148))=.ok (.slice a9 l9 c9) w9∧Hid (XIn w l f (a+n) (acc++[⟨4,textX 4 ((l.drop a).take n),a⟩]) (.slice a9 l9 c9) w9):=by
         have hbz : Below wr.heap.size wr (w1.setCell ⟨wr.heap.size,1,none⟩ (.string (s.extract a (a+n)))):=by
          have h1:=((Below.refl wr.heap.size wr).alloc (Nat.le_refl _) (.cells #[.int .i64 4,.string ⟨#[]⟩,.int .i64 a] 148)).trans (HBs.out.mono (by simp))
          exact ((TFr.of_below (K:=fun k=>wr.heap.size≤k) h1).setCell (p:=⟨wr.heap.size,1,none⟩) (fun _=>Nat.le_refl _) _).below (Nat.le_refl _) (fun k hk=>hk)
         have h:=HAP.out 4 (s.extract a (a+n)) (textX 4 ((l.drop a).take n)) HTXX.out (w1.setCell ⟨wr.heap.size,1,none⟩ (.string (s.extract a (a+n)))) hbz HFX.out hn0 rfl h128
         rw [World.size_setCell] at h
         exact h
        obtain ⟨a9,l9,c9,w9,hr9,HF9⟩:=hr
        clear HAP X2
        go_wp2_with (at_builtin;refine Lib.wpList_append_run _ rfl _ _ _ _ rfl _ _ rfl rfl _ _ hr9 ?_;clear hr9)
        refine ⟨⟨f,a+n,_,by go_num,HF9⟩,?_⟩
        simp [RowKit.intOf]
        omega
  ·obtain rfl : a=s.size:=by omega
   have hres : readX l=(acc,0,0):=by
    rw [H3.out,zf1 (by rw [List.length_drop,Hlen.out];omega)]
    unfold appX
    simp
   have Hres:=hid hres
   clear hres
   have HO2 : Hid (XOwn wr w.heap.size (.slice va q vc) acc):=by
    show XOwn _ _ _ _
    have h:=HO.out
    rw [Hq.out] at h
    exact h
   go_wp2
   refine bodyPost_ret (v:=.tuple #[.slice va q vc,.int .i64 0,.int .i64 0]) (by simp [results,Tryz.results81,go_sem]) rfl ?_
   exact ReadQ.mk Hres.out rfl rfl HO2.out HB.out
theorem zh8 {t : XTok} (h : GoodT t) : WTok t:=by
 obtain ⟨r,z,h1,h2,h3,_⟩:=h
 cases r with
 | nil =>
   rw [firstX] at h1
   injection h1 with _ e
   exact absurd e.symm h2
 | cons c u =>
   have h4 : firstC c u=(t.k,z):=h1
   unfold firstC at h4
   split at h4
   ·rename_i hc
    split at h4
    ·injection h4 with _ e
     exact absurd e.symm h2
    ·rename_i hn
     injection h4 with e1 e2
     rw [← e1,← e2] at h3
     have h3' : t.b=(c :: u).take (manyL xin (c :: u)):=h3
     have hm : manyL xin (c :: u)=manyL xin u+1:=by
      rw [zav,if_pos]
      unfold xin
      rw [hc]
      rfl
     have hall:=za9 xin (c :: u)
     rw [← h3'] at hall
     rw [hm,List.take_succ_cons] at h3'
     rw [h3'] at hall
     have hlet : letterB c=true:=by
      unfold xletter at hc
      unfold letterB
      simp only [Bool.and_eq_true,decide_eq_true_eq] at hc ⊢
      exact hc
     refine ⟨fun _=>?_,fun hk=>(by rw [← e1] at hk;cases hk),fun _=>by rw [h3'];simp⟩
     rw [h3']
     show (letterB c && (decide ((u.take (manyL xin u)).length≤15) && (u.take (manyL xin u)).all charB))=true
     rw [hlet,Bool.true_and,Bool.and_eq_true,decide_eq_true_eq,List.all_eq_true]
     refine ⟨?_,fun x hx=>?_⟩
     ·rw [List.length_take]
      omega
     ·have hx2:=hall x (List.mem_cons_of_mem _ hx)
      unfold xin xletter xdigit at hx2
      unfold charB letterB
      simp only [Bool.and_eq_true,Bool.or_eq_true,decide_eq_true_eq] at hx2 ⊢
      omega
   ·split at h4
    ·rename_i hd
     split at h4
     ·rename_i hr
      injection h4 with e1 e2
      rw [← e1,← e2] at h3
      have h3' : t.b=(c :: u).take (manyL xdigit (c :: u)):=h3
      have hm : manyL xdigit (c :: u)=manyL xdigit u+1:=by rw [zav,if_pos hd]
      have hall:=za9 xdigit (c :: u)
      rw [hm,List.take_succ_cons] at h3' hr hall
      refine ⟨fun hk=>(by rw [← e1] at hk;cases hk),fun _=>?_,fun hk=>(by rw [← e1] at hk;rcases hk with hk|hk <;> cases hk)⟩
      rw [h3']
      obtain ⟨v,hv,h0,h9⟩:=zcf hd hr
      have hp:=zeP hall
      rw [hv] at hp
      split at hp
      ·injection hp with hp
       refine ⟨?_,hall,?_⟩
       ·unfold numZ
        rw [hv]
        exact hp
       ·unfold decN
        omega
      ·cases hp
     ·injection h4 with _ e
      exact absurd e.symm h2
    ·split at h4
     ·split at h4
      ·injection h4 with _ e
       exact absurd e.symm h2
      ·injection h4 with e1 e2
       exact ⟨fun hk=>(by rw [← e1] at hk;cases hk),fun hk=>(by rw [← e1] at hk;cases hk),fun hk=>(by rw [← e1] at hk;rcases hk with hk|hk <;> cases hk)⟩
     ·have hsign : ∀ m,(4,m+1)=(t.k,z)→WTok t:=fun m hm=>by
       injection hm with e1 e2
       rw [← e1,← e2] at h3
       have h3' : t.b=(c :: u).take (m+1):=h3
       exact ⟨fun hk=>(by rw [← e1] at hk;cases hk),fun hk=>(by rw [← e1] at hk;cases hk),fun _=>by rw [h3',List.take_succ_cons];simp⟩
      split at h4
      ·exact hsign 1 h4
      ·split at h4
       ·exact hsign 0 h4
       ·injection h4 with _ e
        exact absurd e.symm h2
theorem DdR.made {W : World} {v : Value} {ts : List XTok} {B : Nat} (ho : XOwn W B v ts) (hts : ∀ t∈ts,DTok t) (hlen : ts.length≤500) (hpos : 0 < W.heap.size) : ∃ T,DdR (W.alloc (.cells #[v,.int .i64 0,.bool false,.int .i64 0] 145)) W.heap.size T ts ⟨ts,0,false⟩∧T < W.heap.size∧(ts≠[]→B≤T)∧∀ a n c,v=.slice a n c→TokL T (W.alloc (.cells #[v,.int .i64 0,.bool false,.int .i64 0] 145)) a ts:=by
 have hb:=(Below.refl W.heap.size W).alloc (Nat.le_refl _) (.cells #[v,.int .i64 0,.bool false,.int .i64 0] 145)
 have hblk : (W.alloc (.cells #[v,.int .i64 0,.bool false,.int .i64 0] 145)).heap[W.heap.size]?=some (.cells #[v,.int .i64 0,.bool false,.int .i64 0] 145 (0,0)):=heap_alloc_new W _
 rcases ho.2 with ⟨rfl,h0⟩|⟨g,cap,cur,rfl,hB,hg,hn,hc,hs,ht⟩
 ·have hnil : ts=[]:=List.eq_nil_of_length_eq_zero h0
  subst hnil
  exact ⟨0,⟨none,0,⟨hblk,List.suffix_refl _,fun j x hj=>(by simp at hj),hpos,Nat.zero_le _,fun t ht=>(by cases ht),Nat.zero_le _⟩⟩,hpos,fun h=>absurd rfl h,fun a n c _ j x hj=>(by simp at hj)⟩
 ·have hglt : g < W.heap.size:=(Array.getElem?_eq_some_iff.1 hg).1
  have hcl : ∀ j t,ts[j]?=some t→∀ r u,t.cells[r]?=some u→W.cell? ⟨g,j*3+r,none⟩=some u:=fun j t hj r u hu=>by
   have e : ∀ (l : List XTok) (j : Nat),l[j]?=some t→(flatX l)[j*3+r]?=some u:=fun l=>by
    induction l with
    | nil=>intro j h;simp at h
    | cons y l ih =>
      intro j h
      have hyl : y.cells.length=3:=by simp [XTok.cells]
      cases j with
      | zero =>
        obtain rfl : y=t:=by simpa using h
        have hr : r < y.cells.length:=(List.getElem?_eq_some_iff.1 hu).1
        rw [flatX,Nat.zero_mul,Nat.zero_add,List.getElem?_append_left hr]
        exact hu
      | succ j =>
        rw [flatX,List.getElem?_append_right (by rw [hyl];omega),hyl,show (j+1)*3+r - 3=j*3+r by omega]
        exact ih j (by simpa using h)
   have h1:=e ts j hj
   have h2:=(List.getElem?_eq_some_iff.1 h1).1
   rw [cell_of_row W g _ cur 148 (0,0) hg]
   rw [← ht,List.getElem?_take,if_pos (by rw [← zef];exact h2)] at h1
   simpa using h1
  have htk : TokL g (W.alloc (.cells #[.slice (some ⟨g,0,none⟩) ts.length cap,.int .i64 0,.bool false,.int .i64 0] 145)) (some ⟨g,0,none⟩) ts:=fun j t hj=>by
   refine ⟨0,rfl,?_,?_,?_⟩
   ·rw [Nat.zero_add];exact zaa hb (hcl j t hj 0 _ rfl)
   ·rw [Nat.zero_add];exact zaa hb (hcl j t hj 1 _ rfl)
   ·rw [Nat.zero_add];exact zaa hb (hcl j t hj 2 _ rfl)
  refine ⟨g,⟨some ⟨g,0,none⟩,cap,⟨by rw [hblk];simp,List.suffix_refl _,htk,hglt,hlen,hts,Nat.zero_le _⟩⟩,hglt,fun _=>hB,fun a n c e=>?_⟩
  injection e with e1 e2 e3
  subst e1
  exact htk
theorem zfH {l : List UInt8} {ts : List XTok} (hts : ∀ t∈ts,GoodT t) (n : Nat) :
 ((dQuery n ⟨ts,0,false⟩).2.bad=false∧(queryT l.length n ⟨ts,0,-1⟩).2.wrong=-1∧(dQuery n ⟨ts,0,false⟩).1=(queryT l.length n ⟨ts,0,-1⟩).1) ∨
 ((dQuery n ⟨ts,0,false⟩).2.bad=true∧(queryT l.length n ⟨ts,0,-1⟩).2.wrong=dAt l.length (dQuery n ⟨ts,0,false⟩).2):=by
 rcases (zjO (E:=l.length) n).good ⟨ts,0,false⟩ ⟨rfl,Nat.zero_le _,fun t ht=>zh8 (hts t ht)⟩ with ⟨h1,h2,h3⟩|⟨h1,_,h3⟩
 ·exact .inl ⟨h1.1,by rw [show (⟨ts,0,-1⟩ : RS)=lift ⟨ts,0,false⟩ from rfl,h2];rfl,h3⟩
 ·exact .inr ⟨h1,h3⟩
def RightSaid : Prop:=∀ (K : Nat→Prop) (w : World) (a b : Option Addr) (q c r d : Nat) (p : PQu),QuAt K w a q c b r d p→QuB p →
 Calls Tryz.prog 20 #[.agg #[.slice a q c,.slice b r d,.int .i64 p.within,.string (strB p.by_),.int .i64 p.pick]] w fun e w'=>e=.returned (.bool (rightQ p))∧Below w.heap.size w w'
theorem zbu (hright : RightSaid) {w : World} (l : List UInt8) (hl : l.length≤100000) : Calls Tryz.prog 44 #[.string (strB l)] w (PaTo (parseI l) w):=by
 have hb0:=(Below.refl w.heap.size w).alloc (Nat.le_refl _) (.cells #[.slice none 0 0,.slice none 0 0,.int .i64 0,.string ⟨#[]⟩,.int .i64 0] 26)
 have hx2:=Blk.new w #[.slice none 0 0,.slice none 0 0,.int .i64 0,.string ⟨#[]⟩,.int .i64 0] 26
 have hrd:=zfQ (w.alloc (.cells #[.slice none 0 0,.slice none 0 0,.int .i64 0,.string ⟨#[]⟩,.int .i64 0] 26)) (strB l) l (zax l) (by rw [zap];exact hl)
 obtain ⟨⟨ts,er,at_⟩,hts⟩ : ∃ z,readX l=z:=⟨_,rfl⟩
 rw [hts] at hrd
 have HRD : Hid (Calls Tryz.prog 81 #[.string (strB l)] (w.alloc (.cells #[.slice none 0 0,.slice none 0 0,.int .i64 0,.string ⟨#[]⟩,.int .i64 0] 26)) fun e w'=>∃ v,e=.returned (.tuple #[v,.int .i64 er,.int .i64 at_])∧XOwn w' (w.alloc (.cells #[.slice none 0 0,.slice none 0 0,.int .i64 0,.string ⟨#[]⟩,.int .i64 0] 26)).heap.size v ts∧Below (w.alloc (.cells #[.slice none 0 0,.slice none 0 0,.int .i64 0,.string ⟨#[]⟩,.int .i64 0] 26)).heap.size (w.alloc (.cells #[.slice none 0 0,.slice none 0 0,.int .i64 0,.string ⟨#[]⟩,.int .i64 0] 26)) w'):=hid hrd
 have HB0:=hid hb0
 have HX2:=hid hx2
 by_cases he : ¬ er=0
 ·have hp : parseI l=(noQ,(er : Int),(at_ : Int)):=by
   unfold parseI
   rw [hts]
   rw [if_pos he]
  rw [hp]
  have ht : ((er : Int) != 0)=true:=by rw [bne_iff_ne];omega
  clear hl hb0 hx2 hrd hts hp he hright
  go_enter Tryz.func44,Tryz.ntmps44
  go_wp2_with fail
  with_reducible refine HRD.out.mono ?_
  rintro e w1 ⟨v,rfl,ho,hb1⟩
  obtain ⟨va,vc,rfl⟩:=ho.slice
  have q2:=HX2.out.low hb1
  have r0:=zab q2 (k:=0) rfl
  have fr0:=zac q2 (k:=0)
  have r1:=zab q2 (k:=1) rfl
  have fr1:=zac q2 (k:=1)
  have r2:=zab q2 (k:=2) rfl
  have fr2:=zac q2 (k:=2)
  have r3:=zab q2 (k:=3) rfl
  have fr3:=zac q2 (k:=3)
  have r4:=zab q2 (k:=4) rfl
  have fr4:=zac q2 (k:=4)
  have HB1:=hid (HB0.out.trans (hb1.mono HB0.out.size))
  clear ho hb1 q2
  go_wp2
  refine bodyPost_ret (v:=.tuple #[.agg #[.slice none 0 0,.slice none 0 0,.int .i64 0,.string ⟨#[]⟩,.int .i64 0],.int .i64 er,.int .i64 at_]) (by simp [results,Tryz.results44,go_sem,r0,r1,r2,r3,r4]) rfl (PaTo.zero ?_)
  exact zhr HB1.out (Nat.le_refl _) _ _ _ _ _
 have he:=Decidable.not_not.1 he
 subst he
 have HRD0 : Hid (Calls Tryz.prog 81 #[.string (strB l)] (w.alloc (.cells #[.slice none 0 0,.slice none 0 0,.int .i64 0,.string ⟨#[]⟩,.int .i64 0] 26)) fun e w'=>∃ v,e=.returned (.tuple #[v,.int .i64 0,.int .i64 at_])∧XOwn w' (w.alloc (.cells #[.slice none 0 0,.slice none 0 0,.int .i64 0,.string ⟨#[]⟩,.int .i64 0] 26)).heap.size v ts∧Below (w.alloc (.cells #[.slice none 0 0,.slice none 0 0,.int .i64 0,.string ⟨#[]⟩,.int .i64 0] 26)).heap.size (w.alloc (.cells #[.slice none 0 0,.slice none 0 0,.int .i64 0,.string ⟨#[]⟩,.int .i64 0] 26)) w'):=HRD
 clear HRD he
 have HRD:=HRD0
 clear HRD0
 obtain ⟨htk,hlen,hgt,_,hl5⟩:=zdq hts
 obtain ⟨⟨qq,sq⟩,hq⟩ : ∃ z,dQuery (ts.length+1) ⟨ts,0,false⟩=z:=⟨_,rfl⟩
 have hsame:=zfH (l:=l) hgt (ts.length+1)
 have hqb:=(zep (E:=l.length) (s:=⟨ts,0,-1⟩) (ts.length+1) ⟨fun t ht=>(htk t ht).1,by show ts.length≤_;omega⟩)
 rw [hq] at hsame
 dsimp only at hsame
 obtain ⟨res,hres⟩ : ∃ z,parseI l=z:=⟨_,rfl⟩
 rw [hres]
 obtain ⟨⟨qt,st⟩,hqt⟩ : ∃ z,queryT l.length (ts.length+1) ⟨ts,0,-1⟩=z:=⟨_,rfl⟩
 rw [hqt] at hsame hqb
 dsimp only at hsame hqb
 have hp0 : parseI l=if st.wrong≠-1 then (noQ,81,st.wrong) else if rightQ qt then (qt,0,0) else (noQ,2,0):=by
  unfold parseI
  rw [hts]
  dsimp only
  rw [if_neg (by simp),hqt]
 have hp : (sq.bad=false∧QuB qq∧(if rightQ qq then (qq,0,0) else (noQ,2,0))=res)∨(sq.bad=true∧(noQ,81,((dAt l.length sq : Nat) : Int))=res):=by
  rw [← hres,hp0]
  rcases hsame with ⟨h1,h2,h3⟩|⟨h1,h2⟩
  ·subst h3
   exact .inl ⟨h1,hqb,(if_neg (fun h=>h h2)).symm⟩
  ·have hne : st.wrong≠-1:=by omega
   refine .inr ⟨h1,?_⟩
   rw [if_pos hne,h2]
 have HRES:=hid hp
 have HTK : Hid ((∀ t∈ts,DTok t)∧ts.length≤128):=hid ⟨fun t ht=>⟨zh8 (hgt t ht),(htk t ht).1,(htk t ht).2.1⟩,hlen⟩
 have HQ:=hid hq
 have HRG:=hid hright
 obtain ⟨E,hE⟩ : ∃ E,l.length=E:=⟨_,rfl⟩
 have hsE : (strB l).size=E:=by rw [zap];exact hE
 rw [hE] at HRES
 have HE:=hid (show E≤1000000 by omega)
 obtain ⟨sv,hsv⟩ : ∃ sv,strB l=sv:=⟨_,rfl⟩
 rw [hsv] at HRD hsE ⊢
 clear hl hb0 hx2 hrd hts hp htk hlen hgt hl5 hq hqb hsame hres hE hsv hright hqt hp0
 go_enter Tryz.func44,Tryz.ntmps44
 go_wp2_with fail
 with_reducible refine HRD.out.mono ?_
 rintro e w1 ⟨v,rfl,ho,hb1⟩
 obtain ⟨va,vc,rfl⟩:=ho.slice
 obtain ⟨nt,hnt⟩ : ∃ n,ts.length=n:=⟨_,rfl⟩
 obtain ⟨T,hmade,hTlt,hTB,htoks⟩:=DdR.made ho HTK.out.1 (by have:=HTK.out.2;omega) (by have:=hb1.size;have:=HX2.out.lt;omega)
 have hqc:=zeY hmade (Nat.zero_le _) (n:=ts.length+1) (Nat.lt_succ_self _)
 rw [HQ.out] at hqc
 rw [hnt] at hqc ⊢
 have HNT:=hid hnt
 have HQC:=hid hqc
 have hba:=(Below.refl w1.heap.size w1).alloc (Nat.le_refl _) (.cells #[.slice va nt vc,.int .i64 0,.bool false,.int .i64 0] 145)
 have X3:=hid ((HX2.out.low hb1).low hba)
 have hsz1 : w.heap.size < w1.heap.size:=by have:=hb1.size;have:=HX2.out.lt;omega
 have HB1:=hid ((HB0.out.trans (hb1.mono HB0.out.size)).trans (hba.mono (Nat.le_of_lt hsz1)))
 have hszE : ((sv.size : Nat) : Int)=(E : Int):=by rw [hsE]
 have HSZ:=hid hsz1
 have HTS:=hid (And.intro hTlt (And.intro (fun hne : ts≠[]=>show w.heap.size < T from by have:=hTB hne;have:=HX2.out.lt;have h8 : (w.alloc (.cells #[.slice none 0 0,.slice none 0 0,.int .i64 0,.string ⟨#[]⟩,.int .i64 0] 26)).heap.size=w.heap.size+1:=by simp
                                                                                         omega) (htoks _ _ _ rfl)))
 rw [hnt] at HTS
 clear ho hb1 hmade hba hqc hnt hsz1 HTK HRD HQ hTlt hTB htoks
 go_wp2_with fail
 with_reducible refine HQC.out.mono ?_
 rintro e w2 ⟨a,q,c,b,r,d,rfl,hits,hprs,hrt⟩
 have hb3:=(Below.refl w2.heap.size w2).alloc (Nat.le_refl _) (.cells #[.slice a q c,.slice b r d,.int .i64 qq.within,.string (strB qq.by_),.int .i64 qq.pick] 26)
 have x4:=(X3.out.keep hrt.fr (by have:=HSZ.out;omega)).low hb3
 have X4:=hid x4
 have hsa : (w1.alloc (.cells #[.slice va nt vc,.int .i64 0,.bool false,.int .i64 0] 145)).heap.size=w1.heap.size+1:=by simp
 have hb2 : Below w.heap.size w w2:=HB1.out.trans (hrt.fr.below (B:=w.heap.size) (by rw [hsa];have:=HSZ.out;omega) (fun k hk=>by rw [hk];exact Nat.le_of_lt HSZ.out))
 have HB3:=hid (hb2.trans (hb3.mono hb2.size))
 obtain ⟨ra,rc,hrd⟩:=hrt.rd
 have hrd3:=hrd.keep hb3
 have HR3:=hid hrd3
 have HT3:=hid ((HTS.out.2.2.keep hrt.fr (Nat.ne_of_lt HTS.out.1)).keep (TFr.of_below (K:=fun _=>False) hb3) id)
 have m0:=hrd3.c0
 have m1:=hrd3.c1
 have m2:=hrd3.c2
 rw [HNT.out] at m0 m1
 have hK : ∀ k,k < w.heap.size→k < (w1.alloc (.cells #[.slice va nt vc,.int .i64 0,.bool false,.int .i64 0] 145)).heap.size:=fun k hk=>by rw [hsa];have:=HSZ.out;omega
 have KI:=hid (hits.low hb3)
 have KP:=hid (hprs.low hb3)
 have HK:=hid hK
 have hKb : w.heap.size < (w1.alloc (.cells #[.slice va nt vc,.int .i64 0,.bool false,.int .i64 0] 145)).heap.size:=by rw [hsa];have:=HSZ.out;omega
 have HKB:=hid hKb
 clear hKb
 have r0:=zab x4 (k:=0) rfl
 have fr0:=zac x4 (k:=0)
 have r1:=zab x4 (k:=1) rfl
 have fr1:=zac x4 (k:=1)
 have r2:=zab x4 (k:=2) rfl
 have fr2:=zac x4 (k:=2)
 have r3:=zab x4 (k:=3) rfl
 have fr3:=zac x4 (k:=3)
 have r4:=zab x4 (k:=4) rfl
 have fr4:=zac x4 (k:=4)
 clear hits hprs hrt hrd hrd3 hb2 hb3 hK x4 X3 HQC hsa
 rcases HRES.out with ⟨hbad,hqb,hr⟩|⟨hbad,hr⟩
 ·rw [hbad] at m2
  have HRT:=hid (HRG.out _ (w2.alloc (.cells #[.slice a q c,.slice b r d,.int .i64 qq.within,.string (strB qq.by_),.int .i64 qq.pick] 26)) _ _ _ _ _ _ _ ⟨KI.out,KP.out⟩ hqb)
  clear hbad hqb HRES m0 m1
  cases hz : rightQ qq with
  | false =>
    rw [hz] at HRT hr
    rw [if_neg (by simp)] at hr
    subst hr
    clear KI KP hz
    clear r0 r1 r2 r3 r4 fr0 fr1 fr2 fr3 fr4
    have x9:=zab (Blk.new w2 #[.slice a q c,.slice b r d,.int .i64 qq.within,.string (strB qq.by_),.int .i64 qq.pick] 26) (k:=0) rfl
    go_wp2_with fail
    with_reducible refine HRT.out.mono ?_
    rintro e w5 ⟨rfl,hb5⟩
    have x5:=X4.out.low hb5
    have r0:=zab x5 (k:=0) rfl
    have fr0:=zac x5 (k:=0)
    have r1:=zab x5 (k:=1) rfl
    have fr1:=zac x5 (k:=1)
    have r2:=zab x5 (k:=2) rfl
    have fr2:=zac x5 (k:=2)
    have r3:=zab x5 (k:=3) rfl
    have fr3:=zac x5 (k:=3)
    have r4:=zab x5 (k:=4) rfl
    have fr4:=zac x5 (k:=4)
    have HB5:=hid (HB3.out.trans (hb5.mono HB3.out.size))
    clear hb5 x5 m2 x9
    go_wp2
    refine bodyPost_ret (v:=.tuple #[.agg #[.slice none 0 0,.slice none 0 0,.int .i64 0,.string ⟨#[]⟩,.int .i64 0],.int .i64 2,.int .i64 0]) (by simp [results,Tryz.results44,go_sem,r0,r1,r2,r3,r4]) rfl (PaTo.zero ?_)
    exact zhr HB5.out (Nat.le_refl _) _ _ _ _ _
  | true =>
    rw [hz] at HRT hr
    rw [if_pos rfl] at hr
    subst hr
    clear hz
    clear r0 r1 r2 r3 r4 fr0 fr1 fr2 fr3 fr4
    go_wp2_with fail
    with_reducible refine HRT.out.mono ?_
    rintro e w5 ⟨rfl,hb5⟩
    have x5:=X4.out.low hb5
    have y5:=(Blk.new w2 #[.slice a q c,.slice b r d,.int .i64 qq.within,.string (strB qq.by_),.int .i64 qq.pick] 26).low hb5
    have r0:=zab x5 (k:=0) rfl
    have fr0:=zac x5 (k:=0)
    have r1:=zab x5 (k:=1) rfl
    have fr1:=zac x5 (k:=1)
    have r2:=zab x5 (k:=2) rfl
    have fr2:=zac x5 (k:=2)
    have r3:=zab x5 (k:=3) rfl
    have fr3:=zac x5 (k:=3)
    have r4:=zab x5 (k:=4) rfl
    have fr4:=zac x5 (k:=4)
    obtain ⟨s0,s1,s2,s3,s4⟩:=c5w y5
    have HB5:=hid (HB3.out.trans (hb5.mono HB3.out.size))
    have KI5:=hid (KI.out.low hb5)
    have KP5:=hid (KP.out.low hb5)
    clear hb5 x5 y5 m2
    go_wp2
    refine bodyPost_ret (v:=.tuple #[.agg #[.slice a q c,.slice b r d,.int .i64 qq.within,.string (strB qq.by_),.int .i64 qq.pick],.int .i64 0,.int .i64 0]) (by simp [results,Tryz.results44,go_sem,r0,r1,r2,r3,r4]) rfl ⟨a,q,c,b,r,d,rfl,⟨?_,?_⟩,zhr HB5.out (Nat.le_refl _) _ _ _ _ _⟩
    ·exact (((((KI5.out.set (b:=w.heap.size) HKB.out _ _).set (b:=w.heap.size) HKB.out _ _).set (b:=w.heap.size) HKB.out _ _).set (b:=w.heap.size) HKB.out _ _).set (b:=w.heap.size) HKB.out _ _).mono HK.out
    ·exact (((((KP5.out.set (b:=w.heap.size) HKB.out _ _).set (b:=w.heap.size) HKB.out _ _).set (b:=w.heap.size) HKB.out _ _).set (b:=w.heap.size) HKB.out _ _).set (b:=w.heap.size) HKB.out _ _).mono HK.out
 ·rw [hbad] at m2
  obtain ⟨z,hz⟩ : ∃ z : Int,((dAt E sq : Nat) : Int)=z:=⟨_,rfl⟩
  rw [hz] at hr
  subst hr
  clear KI KP HRES HRG hbad
  cases hsl : sq.l with
  | nil =>
    rw [hsl,List.length_nil,Nat.sub_zero] at m1
    have hat : dAt E sq=E:=by unfold dAt;rw [hsl]
    rw [hat] at hz
    subst hz
    clear hsl hat HR3 HT3
    go_wp2
    refine bodyPost_ret (v:=.tuple #[.agg #[.slice none 0 0,.slice none 0 0,.int .i64 0,.string ⟨#[]⟩,.int .i64 0],.int .i64 81,.int .i64 E]) (by simp [results,Tryz.results44,go_sem,r0,r1,r2,r3,r4]) rfl (PaTo.zero ?_)
    exact zhr HB3.out (Nat.le_refl _) _ _ _ _ _
  | cons t rr =>
    obtain ⟨o,hva,hlt,hTw,d2⟩ : ∃ o,va=some ⟨T,o,none⟩∧nt - sq.l.length < nt∧w.heap.size < T∧(w2.alloc (.cells #[.slice a q c,.slice b r d,.int .i64 qq.within,.string (strB qq.by_),.int .i64 qq.pick] 26)).cell? ⟨T,o+(nt - sq.l.length)*3+2,none⟩=some (.int .i64 t.at_):=by
     obtain ⟨pre,hpre⟩:=HR3.out.suf
     rw [hsl] at hpre
     have hlen : pre.length+(rr.length+1)=nt:=by rw [← HNT.out,← hpre];simp
     have hj : ts[nt - sq.l.length]?=some t:=by
      rw [hsl,List.length_cons,← hpre,List.getElem?_append_right (by omega),show nt - (rr.length+1) - pre.length=0 by omega]
      rfl
     obtain ⟨o,e,_,_,h2⟩:=HT3.out _ _ hj
     exact ⟨o,e,by rw [hsl,List.length_cons];omega,HTS.out.2.1 (by rw [← hpre];simp),h2⟩
    subst hva
    have hat : dAt E sq=t.at_:=by unfold dAt;rw [hsl]
    rw [hat] at hz
    subst hz
    obtain ⟨p,hp⟩ : ∃ p,nt - sq.l.length=p:=⟨_,rfl⟩
    rw [hp] at m1 hlt d2
    have hne1 : w1.heap.size≠w.heap.size:=by have:=HSZ.out;omega
    have hne2 : T≠w.heap.size:=by omega
    clear hsl hat HR3 HT3 HTS hp
    go_wp2_with fail
    have g1 : (w2.alloc (.cells #[.slice a q c,.slice b r d,.int .i64 qq.within,.string (strB qq.by_),.int .i64 qq.pick] 26)).drew.cell? ⟨w1.heap.size,1,none⟩=some (.int .i64 (p : Nat)):=m1
    have g2 : (w2.alloc (.cells #[.slice a q c,.slice b r d,.int .i64 qq.within,.string (strB qq.by_),.int .i64 qq.pick] 26)).drew.cell? ⟨T,o+p*3+2,none⟩=some (.int .i64 t.at_):=d2
    have u0 : (w2.alloc (.cells #[.slice a q c,.slice b r d,.int .i64 qq.within,.string (strB qq.by_),.int .i64 qq.pick] 26)).drew.cell? ⟨w.heap.size,0,none⟩=_:=r0
    have fu0 : (w2.alloc (.cells #[.slice a q c,.slice b r d,.int .i64 qq.within,.string (strB qq.by_),.int .i64 qq.pick] 26)).drew.frozen? ⟨w.heap.size,0,none⟩=false:=fr0
    have u1 : (w2.alloc (.cells #[.slice a q c,.slice b r d,.int .i64 qq.within,.string (strB qq.by_),.int .i64 qq.pick] 26)).drew.cell? ⟨w.heap.size,1,none⟩=_:=r1
    have fu1 : (w2.alloc (.cells #[.slice a q c,.slice b r d,.int .i64 qq.within,.string (strB qq.by_),.int .i64 qq.pick] 26)).drew.frozen? ⟨w.heap.size,1,none⟩=false:=fr1
    have u2 : (w2.alloc (.cells #[.slice a q c,.slice b r d,.int .i64 qq.within,.string (strB qq.by_),.int .i64 qq.pick] 26)).drew.cell? ⟨w.heap.size,2,none⟩=_:=r2
    have fu2 : (w2.alloc (.cells #[.slice a q c,.slice b r d,.int .i64 qq.within,.string (strB qq.by_),.int .i64 qq.pick] 26)).drew.frozen? ⟨w.heap.size,2,none⟩=false:=fr2
    have u3 : (w2.alloc (.cells #[.slice a q c,.slice b r d,.int .i64 qq.within,.string (strB qq.by_),.int .i64 qq.pick] 26)).drew.cell? ⟨w.heap.size,3,none⟩=_:=r3
    have fu3 : (w2.alloc (.cells #[.slice a q c,.slice b r d,.int .i64 qq.within,.string (strB qq.by_),.int .i64 qq.pick] 26)).drew.frozen? ⟨w.heap.size,3,none⟩=false:=fr3
    have u4 : (w2.alloc (.cells #[.slice a q c,.slice b r d,.int .i64 qq.within,.string (strB qq.by_),.int .i64 qq.pick] 26)).drew.cell? ⟨w.heap.size,4,none⟩=_:=r4
    have fu4 : (w2.alloc (.cells #[.slice a q c,.slice b r d,.int .i64 qq.within,.string (strB qq.by_),.int .i64 qq.pick] 26)).drew.frozen? ⟨w.heap.size,4,none⟩=false:=fr4
    refine wp_region_held_drew (S:=fun W=>W.cell? ⟨w1.heap.size,1,none⟩=some (.int .i64 (p : Nat))∧W.cell? ⟨T,o+p*3+2,none⟩=some (.int .i64 t.at_)) (by kernel_rfl) ⟨g1,g2⟩ (fun hHeld=>?_)
    refine tK 0 37 (h:=?_)
    try simp only [Act.put,sI,sZ,sS]
    refine tK 1 38 (h:=?_)
    try simp only [Act.put,sI,sZ,sS]
    refine tK 2 39 (h:=?_)
    try simp only [Act.put,sI,sZ,sS]
    refine tK 3 40 (h:=?_)
    try simp only [Act.put,sI,sZ,sS]
    refine tK 4 41 (h:=?_)
    try simp only [Act.put,sI,sZ,sS]
    refine tK 5 42 (h:=?_)
    try simp only [Act.put,sI,sZ,sS]
    refine tK 6 43 (h:=?_)
    try simp only [Act.put,sI,sZ,sS]
    refine tK 7 44 (h:=?_)
    try simp only [Act.put,sI,sZ,sS]
    refine tK 8 45 (h:=?_)
    try simp only [Act.put,sI,sZ,sS]
    refine wpAnyH_ready (rs:=[9]) (by kernel_rfl) (by simp) ?_
    refine AllReadyH.cons (o:=_) rfl (fun K hK=>?_) AllReadyH.nil
    dsimp only [List.getElem_toArray,List.getElem_cons_succ,List.getElem_cons_zero]
    go_simp
    refine hK.out _ _ ⟨zek hne1 g1 _ _ _ _ _,zek hne2 g2 _ _ _ _ _⟩ (fun hHeld2=>?_)
    clear hK K
    try simp only [Act.put,sI,sZ,sS]
    refine tK 10 3 (h:=?_)
    try simp only [Act.put,sI,sZ,sS]
    refine tK 11 4 (h:=?_)
    try simp only [Act.put,sI,sZ,sS]
    refine wpAnyH_done (by kernel_rfl) ?_ _
    clear hHeld hHeld2 g1 g2 u0 u1 u2 u3 u4 fu0 fu1 fu2 fu3 fu4 m0 m1 m2 d2
    go_wp2
    refine bodyPost_ret (v:=.tuple #[.agg #[.slice none 0 0,.slice none 0 0,.int .i64 0,.string ⟨#[]⟩,.int .i64 0],.int .i64 81,.int .i64 t.at_]) (by simp [results,Tryz.results44,go_sem,r0,r1,r2,r3,r4]) rfl (PaTo.zero ?_)
    exact zae (zhr HB3.out (Nat.le_refl _) _ _ _ _ _)
end Go.Proofs.YtkmlfkbpcgkpaaaGreatDoor

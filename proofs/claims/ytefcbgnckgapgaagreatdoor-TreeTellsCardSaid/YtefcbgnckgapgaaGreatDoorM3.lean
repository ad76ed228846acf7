/- Queries: predicates. | Queries: predicates, one behind the other. | Queries: whole ones. | Queries: what may be a name; names that are unlike. -/
import Derived.Test.YtefcbgnckgapgaaGreatDoorM2
import Derived.Deep.DeepCutAuto
import Derived.Test.YtefcbgnckgapgaaGreatDoorTS
namespace Go.Proofs.YtefcbgnckgapgaaGreatDoor
open Go.RowKit Go.Lib Go.Op
theorem exprN_calls {R T E : Nat} {n : Nat} {w : World} {s : RS} (h : RdR w R T E s) (hok : DeepOk s) (hn : s.l.length < n) : Calls Tryz.prog 88 #[.pointer (some ⟨R,0,none⟩)] w (ExTo R T E (exprT E (termT E n) n s) w) :=
 expr_calls (m:=n - 1) (fun w s h hok hm=>term_calls n w s h hok (by omega)) (termT_le n) (termT_deep n) h hok (by omega) (by omega)
set_option maxHeartbeats 2000000 in
set_option maxRecDepth 100000 in
theorem pred_calls {w : World} {R T E : Nat} {s : RS} {n : Nat} (h : RdR w R T E s) (hok : DeepOk s) (hn : s.l.length < n) : Calls Tryz.prog 41 #[.pointer (some ⟨R,0,none⟩)] w fun e w'=>∃ xa xq xc ya yq yc,e=.returned (.agg #[.int .i64 (predT E n s).1.cmp,.int .i64 (predT E n s).1.l.k,.int .i64 (predT E n s).1.l.v.k,.int .i64 (predT E n s).1.l.v.n,.string (strB (predT E n s).1.l.v.s),.string (strB (predT E n s).1.l.x),.string (strB (predT E n s).1.l.f),.slice xa xq xc,.int .i64 (predT E n s).1.r.k,.int .i64 (predT E n s).1.r.v.k,.int .i64 (predT E n s).1.r.v.n,.string (strB (predT E n s).1.r.v.s),.string (strB (predT E n s).1.r.x),.string (strB (predT E n s).1.r.f),.slice ya yq yc])∧predD.P (· < w.heap.size) w' (.int .i64 (predT E n s).1.cmp :: (exL (predT E n s).1.l (.slice xa xq xc)++exL (predT E n s).1.r (.slice ya yq yc))) (predT E n s).1∧RdTo R T E (predT E n s).2 w w':=by
 have hR:=h.lt
 obtain ⟨⟨x,s1⟩,hx⟩ : ∃ z,exprT E (termT E n) n s=z:=⟨_,rfl⟩
 obtain ⟨⟨cm,s2⟩,hc⟩ : ∃ z,chooseT E s1 4 cmpsL=z:=⟨_,rfl⟩
 obtain ⟨⟨y,s3⟩,hy⟩ : ∃ z,exprT E (termT E n) n s2=z:=⟨_,rfl⟩
 have hit : predT E n s=(⟨x,(cm : Int),y⟩,s3):=by
  unfold predT
  rw [hx]
  dsimp only
  rw [hc]
  dsimp only
  rw [hy]
 rw [hit]
 have hl1:=exprT_le (E:=E) (termT_le (E:=E) n) n s
 have hp1:=exprT_deep (E:=E) (termT_deep (E:=E) n) n s
 rw [hx] at hl1 hp1
 have hl2:=chooseT_le (E:=E) (s:=s1) 4 cmpsL
 have hp2:=chooseT_deep (E:=E) (s:=s1) 4 cmpsL
 rw [hc] at hl2 hp2
 dsimp only at hl1 hp1 hl2 hp2
 have hok2 : DeepOk s2:=(hok.le hp1 hl1).le hp2 hl2
 have hb1:=(Below.refl w.heap.size w).alloc (Nat.le_refl _) (.cells #[.int .i64 0,.int .i64 0,.int .i64 0,.int .i64 0,.string ⟨#[]⟩,.string ⟨#[]⟩,.string ⟨#[]⟩,.slice none 0 0,.int .i64 0,.int .i64 0,.int .i64 0,.string ⟨#[]⟩,.string ⟨#[]⟩,.string ⟨#[]⟩,.slice none 0 0] 42)
 have hb2:=hb1.alloc hb1.size (.cells #[.int .i64 0,.int .i64 0,.int .i64 0,.int .i64 0,.string ⟨#[]⟩,.string ⟨#[]⟩,.string ⟨#[]⟩,.slice none 0 0,.int .i64 0,.int .i64 0,.int .i64 0,.string ⟨#[]⟩,.string ⟨#[]⟩,.string ⟨#[]⟩,.slice none 0 0] 42)
 have P2:=hid ((Blk.new w #[.int .i64 0,.int .i64 0,.int .i64 0,.int .i64 0,.string ⟨#[]⟩,.string ⟨#[]⟩,.string ⟨#[]⟩,.slice none 0 0,.int .i64 0,.int .i64 0,.int .i64 0,.string ⟨#[]⟩,.string ⟨#[]⟩,.string ⟨#[]⟩,.slice none 0 0] 42).low ((Below.refl _ _).alloc (Nat.le_refl _) (.cells #[.int .i64 0,.int .i64 0,.int .i64 0,.int .i64 0,.string ⟨#[]⟩,.string ⟨#[]⟩,.string ⟨#[]⟩,.slice none 0 0,.int .i64 0,.int .i64 0,.int .i64 0,.string ⟨#[]⟩,.string ⟨#[]⟩,.string ⟨#[]⟩,.slice none 0 0] 42)))
 have hp3:=Blk.new (w.alloc (.cells #[.int .i64 0,.int .i64 0,.int .i64 0,.int .i64 0,.string ⟨#[]⟩,.string ⟨#[]⟩,.string ⟨#[]⟩,.slice none 0 0,.int .i64 0,.int .i64 0,.int .i64 0,.string ⟨#[]⟩,.string ⟨#[]⟩,.string ⟨#[]⟩,.slice none 0 0] 42)) #[.int .i64 0,.int .i64 0,.int .i64 0,.int .i64 0,.string ⟨#[]⟩,.string ⟨#[]⟩,.string ⟨#[]⟩,.slice none 0 0,.int .i64 0,.int .i64 0,.int .i64 0,.string ⟨#[]⟩,.string ⟨#[]⟩,.string ⟨#[]⟩,.slice none 0 0] 42
 rw [show (w.alloc (.cells #[.int .i64 0,.int .i64 0,.int .i64 0,.int .i64 0,.string ⟨#[]⟩,.string ⟨#[]⟩,.string ⟨#[]⟩,.slice none 0 0,.int .i64 0,.int .i64 0,.int .i64 0,.string ⟨#[]⟩,.string ⟨#[]⟩,.string ⟨#[]⟩,.slice none 0 0] 42)).heap.size=w.heap.size+1 by simp] at hp3
 have P3:=hid hp3
 have D0:=hid (RdTo.of_below h hb2)
 have HX:=hid (ExTo.plain hx (exprN_calls D0.out.rd hok hn))
 have HS:=hid (And.intro hc (And.intro hy (And.intro hok2 (show s2.l.length < n by omega))))
 have HSZ:=hid hp3.lt
 clear h hb1 hb2 hp3 hx hc hy hit hl1 hp1 hl2 hp2 hok hok2 hn
 go_enter Tryz.func41,Tryz.ntmps41
 go_wp2_with fail
 with_reducible refine HX.out.mono ?_
 rintro e w1 ⟨kv,dx,rfl,hkv,hd1⟩
 obtain ⟨xa,xc,rfl⟩:=hkv.slice
 obtain ⟨xq,hxq⟩ : ∃ q,x.ks.length=q:=⟨_,rfl⟩
 rw [hxq] at hkv ⊢
 have q3:=P3.out.keep hd1.fr (by omega)
 have c1:=tcell q3 (k:=1) rfl
 have c2:=tcell q3 (k:=2) rfl
 have c3:=tcell q3 (k:=3) rfl
 have c4:=tcell q3 (k:=4) rfl
 have c5:=tcell q3 (k:=5) rfl
 have c6:=tcell q3 (k:=6) rfl
 have c7:=tcell q3 (k:=7) rfl
 have fc1:=tfrozen q3 (k:=1)
 have fc2:=tfrozen q3 (k:=2)
 have fc3:=tfrozen q3 (k:=3)
 have fc4:=tfrozen q3 (k:=4)
 have fc5:=tfrozen q3 (k:=5)
 have fc6:=tfrozen q3 (k:=6)
 have fc7:=tfrozen q3 (k:=7)
 have D1:=hid (((((((((D0.out.trans hd1).set hR (b:=w.heap.size+1) (by omega) 1 (.int .i64 x.k)).set hR (b:=w.heap.size+1) (by omega) 2 (.int .i64 x.v.k)).set hR (b:=w.heap.size+1) (by omega) 3 (.int .i64 x.v.n)).set hR (b:=w.heap.size+1) (by omega) 4 (.string (strB x.v.s))).set hR (b:=w.heap.size+1) (by omega) 5 (.string (strB x.x))).set hR (b:=w.heap.size+1) (by omega) 6 (.string (strB x.f))).set hR (b:=w.heap.size+1) (by omega) 7 (.slice xa xq xc)))
 have Q2:=hid (((((((((P2.out.keep hd1.fr (by omega)).at (b':=w.heap.size+1) (by omega) 1 (.int .i64 x.k)).at (b':=w.heap.size+1) (by omega) 2 (.int .i64 x.v.k)).at (b':=w.heap.size+1) (by omega) 3 (.int .i64 x.v.n)).at (b':=w.heap.size+1) (by omega) 4 (.string (strB x.v.s))).at (b':=w.heap.size+1) (by omega) 5 (.string (strB x.x))).at (b':=w.heap.size+1) (by omega) 6 (.string (strB x.f))).at (b':=w.heap.size+1) (by omega) 7 (.slice xa xq xc)))
 have Q3:=hid ((((((((q3.set 1 (.int .i64 x.k) (cs':=#[.int .i64 0,.int .i64 x.k,.int .i64 0,.int .i64 0,.string ⟨#[]⟩,.string ⟨#[]⟩,.string ⟨#[]⟩,.slice none 0 0,.int .i64 0,.int .i64 0,.int .i64 0,.string ⟨#[]⟩,.string ⟨#[]⟩,.string ⟨#[]⟩,.slice none 0 0]) rfl).set 2 (.int .i64 x.v.k) (cs':=#[.int .i64 0,.int .i64 x.k,.int .i64 x.v.k,.int .i64 0,.string ⟨#[]⟩,.string ⟨#[]⟩,.string ⟨#[]⟩,.slice none 0 0,.int .i64 0,.int .i64 0,.int .i64 0,.string ⟨#[]⟩,.string ⟨#[]⟩,.string ⟨#[]⟩,.slice none 0 0]) rfl).set 3 (.int .i64 x.v.n) (cs':=#[.int .i64 0,.int .i64 x.k,.int .i64 x.v.k,.int .i64 x.v.n,.string ⟨#[]⟩,.string ⟨#[]⟩,.string ⟨#[]⟩,.slice none 0 0,.int .i64 0,.int .i64 0,.int .i64 0,.string ⟨#[]⟩,.string ⟨#[]⟩,.string ⟨#[]⟩,.slice none 0 0]) rfl).set 4 (.string (strB x.v.s)) (cs':=#[.int .i64 0,.int .i64 x.k,.int .i64 x.v.k,.int .i64 x.v.n,.string (strB x.v.s),.string ⟨#[]⟩,.string ⟨#[]⟩,.slice none 0 0,.int .i64 0,.int .i64 0,.int .i64 0,.string ⟨#[]⟩,.string ⟨#[]⟩,.string ⟨#[]⟩,.slice none 0 0]) rfl).set 5 (.string (strB x.x)) (cs':=#[.int .i64 0,.int .i64 x.k,.int .i64 x.v.k,.int .i64 x.v.n,.string (strB x.v.s),.string (strB x.x),.string ⟨#[]⟩,.slice none 0 0,.int .i64 0,.int .i64 0,.int .i64 0,.string ⟨#[]⟩,.string ⟨#[]⟩,.string ⟨#[]⟩,.slice none 0 0]) rfl).set 6 (.string (strB x.f)) (cs':=#[.int .i64 0,.int .i64 x.k,.int .i64 x.v.k,.int .i64 x.v.n,.string (strB x.v.s),.string (strB x.x),.string (strB x.f),.slice none 0 0,.int .i64 0,.int .i64 0,.int .i64 0,.string ⟨#[]⟩,.string ⟨#[]⟩,.string ⟨#[]⟩,.slice none 0 0]) rfl).set 7 (.slice xa xq xc) (cs':=#[.int .i64 0,.int .i64 x.k,.int .i64 x.v.k,.int .i64 x.v.n,.string (strB x.v.s),.string (strB x.x),.string (strB x.f),.slice xa xq xc,.int .i64 0,.int .i64 0,.int .i64 0,.string ⟨#[]⟩,.string ⟨#[]⟩,.string ⟨#[]⟩,.slice none 0 0]) rfl))
 have K1:=hid ((((((((hkv.set (b:=w.heap.size+1) HSZ.out 1 (.int .i64 x.k)).set (b:=w.heap.size+1) HSZ.out 2 (.int .i64 x.v.k)).set (b:=w.heap.size+1) HSZ.out 3 (.int .i64 x.v.n)).set (b:=w.heap.size+1) HSZ.out 4 (.string (strB x.v.s))).set (b:=w.heap.size+1) HSZ.out 5 (.string (strB x.x))).set (b:=w.heap.size+1) HSZ.out 6 (.string (strB x.f))).set (b:=w.heap.size+1) HSZ.out 7 (.slice xa xq xc)))
 have HC:=hid (fun W=>cmps_calls W)
 have HSX:=hid HSZ.out
 clear hkv hxq hd1 q3 D0 P2 P3 HX
 simp only [xexV]
 go_wp2_with fail
 with_reducible refine (HC.out _).mono ?_
 rintro e w2 ⟨rfl,hb2⟩
 clear c1 c2 c3 c4 c5 c6 c7 fc1 fc2 fc3 fc4 fc5 fc6 fc7
 have D2:=hid (D1.out.then hb2)
 have P2:=hid (Q2.out.low hb2)
 have P3:=hid (Q3.out.low hb2)
 have K2:=hid (K1.out.keep (TFr.of_below hb2))
 have hch:=chooseS_calls D2.out.rd cmpsL rfl
 rw [HS.out.1] at hch
 have HH:=hid hch
 clear hb2 hch D1 Q2 Q3 K1 HC
 go_wp2_with fail
 with_reducible refine HH.out.mono ?_
 rintro e w3 ⟨rfl,hd3⟩
 have q3:=P3.out.keep hd3.fr (by omega)
 have c0:=tcell q3 (k:=0) rfl
 have fc0:=tfrozen q3 (k:=0)
 have D3:=hid (((D2.out.trans hd3).set hR (b:=w.heap.size+1) (by omega) 0 (.int .i64 cm)))
 have Q2:=hid (((P2.out.keep hd3.fr (by omega)).at (b':=w.heap.size+1) (by omega) 0 (.int .i64 cm)))
 have hq3:=(q3.set 0 (.int .i64 cm) (cs':=#[.int .i64 cm,.int .i64 x.k,.int .i64 x.v.k,.int .i64 x.v.n,.string (strB x.v.s),.string (strB x.x),.string (strB x.f),.slice xa xq xc,.int .i64 0,.int .i64 0,.int .i64 0,.string ⟨#[]⟩,.string ⟨#[]⟩,.string ⟨#[]⟩,.slice none 0 0]) rfl)
 have Q3:=hid hq3
 have K3:=hid (((K2.out.keepR hd3.fr (Nat.lt_trans (Nat.lt_trans hR (Nat.lt_succ_self _)) HSX.out)).set (b:=w.heap.size+1) HSX.out 0 (.int .i64 cm)))
 have HY:=hid (ExTo.plain HS.out.2.1 (exprN_calls D3.out.rd HS.out.2.2.1 HS.out.2.2.2))
 have HSY:=hid hq3.lt
 clear hd3 q3 hq3 D2 P2 P3 K2 HH
 go_wp2_with fail
 with_reducible refine HY.out.mono ?_
 rintro e w4 ⟨kv,dy,rfl,hkv,hd4⟩
 clear c0 fc0
 obtain ⟨ya,yc,rfl⟩:=hkv.slice
 obtain ⟨yq,hyq⟩ : ∃ q,y.ks.length=q:=⟨_,rfl⟩
 rw [hyq] at hkv ⊢
 have q3:=Q3.out.keep hd4.fr (by omega)
 have c8:=tcell q3 (k:=8) rfl
 have c9:=tcell q3 (k:=9) rfl
 have c10:=tcell q3 (k:=10) rfl
 have c11:=tcell q3 (k:=11) rfl
 have c12:=tcell q3 (k:=12) rfl
 have c13:=tcell q3 (k:=13) rfl
 have c14:=tcell q3 (k:=14) rfl
 have fc8:=tfrozen q3 (k:=8)
 have fc9:=tfrozen q3 (k:=9)
 have fc10:=tfrozen q3 (k:=10)
 have fc11:=tfrozen q3 (k:=11)
 have fc12:=tfrozen q3 (k:=12)
 have fc13:=tfrozen q3 (k:=13)
 have fc14:=tfrozen q3 (k:=14)
 have D4:=hid (((((((((D3.out.trans hd4).set hR (b:=w.heap.size+1) (by omega) 8 (.int .i64 y.k)).set hR (b:=w.heap.size+1) (by omega) 9 (.int .i64 y.v.k)).set hR (b:=w.heap.size+1) (by omega) 10 (.int .i64 y.v.n)).set hR (b:=w.heap.size+1) (by omega) 11 (.string (strB y.v.s))).set hR (b:=w.heap.size+1) (by omega) 12 (.string (strB y.x))).set hR (b:=w.heap.size+1) (by omega) 13 (.string (strB y.f))).set hR (b:=w.heap.size+1) (by omega) 14 (.slice ya yq yc)))
 have p2:=((((((((Q2.out.keep hd4.fr (by omega)).at (b':=w.heap.size+1) (by omega) 8 (.int .i64 y.k)).at (b':=w.heap.size+1) (by omega) 9 (.int .i64 y.v.k)).at (b':=w.heap.size+1) (by omega) 10 (.int .i64 y.v.n)).at (b':=w.heap.size+1) (by omega) 11 (.string (strB y.v.s))).at (b':=w.heap.size+1) (by omega) 12 (.string (strB y.x))).at (b':=w.heap.size+1) (by omega) 13 (.string (strB y.f))).at (b':=w.heap.size+1) (by omega) 14 (.slice ya yq yc))
 have p3:=(((((((q3.set 8 (.int .i64 y.k) (cs':=#[.int .i64 cm,.int .i64 x.k,.int .i64 x.v.k,.int .i64 x.v.n,.string (strB x.v.s),.string (strB x.x),.string (strB x.f),.slice xa xq xc,.int .i64 y.k,.int .i64 0,.int .i64 0,.string ⟨#[]⟩,.string ⟨#[]⟩,.string ⟨#[]⟩,.slice none 0 0]) rfl).set 9 (.int .i64 y.v.k) (cs':=#[.int .i64 cm,.int .i64 x.k,.int .i64 x.v.k,.int .i64 x.v.n,.string (strB x.v.s),.string (strB x.x),.string (strB x.f),.slice xa xq xc,.int .i64 y.k,.int .i64 y.v.k,.int .i64 0,.string ⟨#[]⟩,.string ⟨#[]⟩,.string ⟨#[]⟩,.slice none 0 0]) rfl).set 10 (.int .i64 y.v.n) (cs':=#[.int .i64 cm,.int .i64 x.k,.int .i64 x.v.k,.int .i64 x.v.n,.string (strB x.v.s),.string (strB x.x),.string (strB x.f),.slice xa xq xc,.int .i64 y.k,.int .i64 y.v.k,.int .i64 y.v.n,.string ⟨#[]⟩,.string ⟨#[]⟩,.string ⟨#[]⟩,.slice none 0 0]) rfl).set 11 (.string (strB y.v.s)) (cs':=#[.int .i64 cm,.int .i64 x.k,.int .i64 x.v.k,.int .i64 x.v.n,.string (strB x.v.s),.string (strB x.x),.string (strB x.f),.slice xa xq xc,.int .i64 y.k,.int .i64 y.v.k,.int .i64 y.v.n,.string (strB y.v.s),.string ⟨#[]⟩,.string ⟨#[]⟩,.slice none 0 0]) rfl).set 12 (.string (strB y.x)) (cs':=#[.int .i64 cm,.int .i64 x.k,.int .i64 x.v.k,.int .i64 x.v.n,.string (strB x.v.s),.string (strB x.x),.string (strB x.f),.slice xa xq xc,.int .i64 y.k,.int .i64 y.v.k,.int .i64 y.v.n,.string (strB y.v.s),.string (strB y.x),.string ⟨#[]⟩,.slice none 0 0]) rfl).set 13 (.string (strB y.f)) (cs':=#[.int .i64 cm,.int .i64 x.k,.int .i64 x.v.k,.int .i64 x.v.n,.string (strB x.v.s),.string (strB x.x),.string (strB x.f),.slice xa xq xc,.int .i64 y.k,.int .i64 y.v.k,.int .i64 y.v.n,.string (strB y.v.s),.string (strB y.x),.string (strB y.f),.slice none 0 0]) rfl).set 14 (.slice ya yq yc) (cs':=#[.int .i64 cm,.int .i64 x.k,.int .i64 x.v.k,.int .i64 x.v.n,.string (strB x.v.s),.string (strB x.x),.string (strB x.f),.slice xa xq xc,.int .i64 y.k,.int .i64 y.v.k,.int .i64 y.v.n,.string (strB y.v.s),.string (strB y.x),.string (strB y.f),.slice ya yq yc]) rfl)
 have hR3 : R < (w3.setCell ⟨w.heap.size+1,0,none⟩ (.int .i64 cm)).heap.size:=Nat.lt_trans hR (Nat.lt_trans (Nat.lt_succ_self _) HSY.out)
 have K4:=hid (((((((((K3.out.keepR hd4.fr (Nat.lt_trans (Nat.lt_trans hR (Nat.lt_succ_self _)) HSX.out)).set (b:=w.heap.size+1) HSX.out 8 (.int .i64 y.k)).set (b:=w.heap.size+1) HSX.out 9 (.int .i64 y.v.k)).set (b:=w.heap.size+1) HSX.out 10 (.int .i64 y.v.n)).set (b:=w.heap.size+1) HSX.out 11 (.string (strB y.v.s))).set (b:=w.heap.size+1) HSX.out 12 (.string (strB y.x))).set (b:=w.heap.size+1) HSX.out 13 (.string (strB y.f))).set (b:=w.heap.size+1) HSX.out 14 (.slice ya yq yc)))
 have K5:=hid ((((((((hkv.set (b:=w.heap.size+1) HSY.out 8 (.int .i64 y.k)).set (b:=w.heap.size+1) HSY.out 9 (.int .i64 y.v.k)).set (b:=w.heap.size+1) HSY.out 10 (.int .i64 y.v.n)).set (b:=w.heap.size+1) HSY.out 11 (.string (strB y.v.s))).set (b:=w.heap.size+1) HSY.out 12 (.string (strB y.x))).set (b:=w.heap.size+1) HSY.out 13 (.string (strB y.f))).set (b:=w.heap.size+1) HSY.out 14 (.slice ya yq yc)))
 have d0:=tcell p3 (k:=0) rfl
 have d1:=tcell p3 (k:=1) rfl
 have d2:=tcell p3 (k:=2) rfl
 have d3:=tcell p3 (k:=3) rfl
 have d4:=tcell p3 (k:=4) rfl
 have d5:=tcell p3 (k:=5) rfl
 have d6:=tcell p3 (k:=6) rfl
 have d7:=tcell p3 (k:=7) rfl
 have d8:=tcell p3 (k:=8) rfl
 have d9:=tcell p3 (k:=9) rfl
 have d10:=tcell p3 (k:=10) rfl
 have d11:=tcell p3 (k:=11) rfl
 have d12:=tcell p3 (k:=12) rfl
 have d13:=tcell p3 (k:=13) rfl
 have d14:=tcell p3 (k:=14) rfl
 have fd0:=tfrozen p3 (k:=0)
 have fd1:=tfrozen p3 (k:=1)
 have fd2:=tfrozen p3 (k:=2)
 have fd3:=tfrozen p3 (k:=3)
 have fd4:=tfrozen p3 (k:=4)
 have fd5:=tfrozen p3 (k:=5)
 have fd6:=tfrozen p3 (k:=6)
 have fd7:=tfrozen p3 (k:=7)
 have fd8:=tfrozen p3 (k:=8)
 have fd9:=tfrozen p3 (k:=9)
 have fd10:=tfrozen p3 (k:=10)
 have fd11:=tfrozen p3 (k:=11)
 have fd12:=tfrozen p3 (k:=12)
 have fd13:=tfrozen p3 (k:=13)
 have fd14:=tfrozen p3 (k:=14)
 have r0:=tcell p2 (k:=0) rfl
 have r1:=tcell p2 (k:=1) rfl
 have r2:=tcell p2 (k:=2) rfl
 have r3:=tcell p2 (k:=3) rfl
 have r4:=tcell p2 (k:=4) rfl
 have r5:=tcell p2 (k:=5) rfl
 have r6:=tcell p2 (k:=6) rfl
 have r7:=tcell p2 (k:=7) rfl
 have r8:=tcell p2 (k:=8) rfl
 have r9:=tcell p2 (k:=9) rfl
 have r10:=tcell p2 (k:=10) rfl
 have r11:=tcell p2 (k:=11) rfl
 have r12:=tcell p2 (k:=12) rfl
 have r13:=tcell p2 (k:=13) rfl
 have r14:=tcell p2 (k:=14) rfl
 have fr0:=tfrozen p2 (k:=0)
 have fr1:=tfrozen p2 (k:=1)
 have fr2:=tfrozen p2 (k:=2)
 have fr3:=tfrozen p2 (k:=3)
 have fr4:=tfrozen p2 (k:=4)
 have fr5:=tfrozen p2 (k:=5)
 have fr6:=tfrozen p2 (k:=6)
 have fr7:=tfrozen p2 (k:=7)
 have fr8:=tfrozen p2 (k:=8)
 have fr9:=tfrozen p2 (k:=9)
 have fr10:=tfrozen p2 (k:=10)
 have fr11:=tfrozen p2 (k:=11)
 have fr12:=tfrozen p2 (k:=12)
 have fr13:=tfrozen p2 (k:=13)
 have fr14:=tfrozen p2 (k:=14)
 clear hkv hyq hd4 q3 p2 p3 D3 Q2 Q3 K3 HY HS
 simp only [xexV]
 go_wp2
 refine bodyPost_ret (v:=.agg #[.int .i64 cm,.int .i64 x.k,.int .i64 x.v.k,.int .i64 x.v.n,.string (strB x.v.s),.string (strB x.x),.string (strB x.f),.slice xa xq xc,.int .i64 y.k,.int .i64 y.v.k,.int .i64 y.v.n,.string (strB y.v.s),.string (strB y.x),.string (strB y.f),.slice ya yq yc]) (by simp [results,Tryz.results41,go_sem,r0,r1,r2,r3,r4,r5,r6,r7,r8,r9,r10,r11,r12,r13,r14]) rfl ⟨xa,xq,xc,ya,yq,yc,rfl,?_,?_⟩
 ·have e1 : (w.heap.size : Nat) < w.heap.size+1:=Nat.lt_succ_self _
  refine ⟨xa,xq,xc,ya,yq,yc,max dx dy,rfl,?_,?_⟩
  ·have hk:=(((((((((((((((K4.out.set (b:=w.heap.size) (Nat.lt_trans e1 HSX.out) 0 (.int .i64 cm)).set (b:=w.heap.size) (Nat.lt_trans e1 HSX.out) 1 (.int .i64 x.k)).set (b:=w.heap.size) (Nat.lt_trans e1 HSX.out) 2 (.int .i64 x.v.k)).set (b:=w.heap.size) (Nat.lt_trans e1 HSX.out) 3 (.int .i64 x.v.n)).set (b:=w.heap.size) (Nat.lt_trans e1 HSX.out) 4 (.string (strB x.v.s))).set (b:=w.heap.size) (Nat.lt_trans e1 HSX.out) 5 (.string (strB x.x))).set (b:=w.heap.size) (Nat.lt_trans e1 HSX.out) 6 (.string (strB x.f))).set (b:=w.heap.size) (Nat.lt_trans e1 HSX.out) 7 (.slice xa xq xc)).set (b:=w.heap.size) (Nat.lt_trans e1 HSX.out) 8 (.int .i64 y.k)).set (b:=w.heap.size) (Nat.lt_trans e1 HSX.out) 9 (.int .i64 y.v.k)).set (b:=w.heap.size) (Nat.lt_trans e1 HSX.out) 10 (.int .i64 y.v.n)).set (b:=w.heap.size) (Nat.lt_trans e1 HSX.out) 11 (.string (strB y.v.s))).set (b:=w.heap.size) (Nat.lt_trans e1 HSX.out) 12 (.string (strB y.x))).set (b:=w.heap.size) (Nat.lt_trans e1 HSX.out) 13 (.string (strB y.f))).set (b:=w.heap.size) (Nat.lt_trans e1 HSX.out) 14 (.slice ya yq yc))
   exact (hk.le (Nat.le_max_left dx dy)).mono (fun k hk=>Nat.lt_trans (Nat.lt_trans hk e1) HSX.out)
  ·have hk:=(((((((((((((((K5.out.set (b:=w.heap.size) (Nat.lt_trans e1 HSY.out) 0 (.int .i64 cm)).set (b:=w.heap.size) (Nat.lt_trans e1 HSY.out) 1 (.int .i64 x.k)).set (b:=w.heap.size) (Nat.lt_trans e1 HSY.out) 2 (.int .i64 x.v.k)).set (b:=w.heap.size) (Nat.lt_trans e1 HSY.out) 3 (.int .i64 x.v.n)).set (b:=w.heap.size) (Nat.lt_trans e1 HSY.out) 4 (.string (strB x.v.s))).set (b:=w.heap.size) (Nat.lt_trans e1 HSY.out) 5 (.string (strB x.x))).set (b:=w.heap.size) (Nat.lt_trans e1 HSY.out) 6 (.string (strB x.f))).set (b:=w.heap.size) (Nat.lt_trans e1 HSY.out) 7 (.slice xa xq xc)).set (b:=w.heap.size) (Nat.lt_trans e1 HSY.out) 8 (.int .i64 y.k)).set (b:=w.heap.size) (Nat.lt_trans e1 HSY.out) 9 (.int .i64 y.v.k)).set (b:=w.heap.size) (Nat.lt_trans e1 HSY.out) 10 (.int .i64 y.v.n)).set (b:=w.heap.size) (Nat.lt_trans e1 HSY.out) 11 (.string (strB y.v.s))).set (b:=w.heap.size) (Nat.lt_trans e1 HSY.out) 12 (.string (strB y.x))).set (b:=w.heap.size) (Nat.lt_trans e1 HSY.out) 13 (.string (strB y.f))).set (b:=w.heap.size) (Nat.lt_trans e1 HSY.out) 14 (.slice ya yq yc))
   exact (hk.le (Nat.le_max_right dx dy)).mono (fun k hk=>Nat.lt_trans (Nat.lt_trans hk e1) HSY.out)
 ·exact (((((((((((((((D4.out.set hR (b:=w.heap.size) (Nat.le_refl _) 0 (.int .i64 cm)).set hR (b:=w.heap.size) (Nat.le_refl _) 1 (.int .i64 x.k)).set hR (b:=w.heap.size) (Nat.le_refl _) 2 (.int .i64 x.v.k)).set hR (b:=w.heap.size) (Nat.le_refl _) 3 (.int .i64 x.v.n)).set hR (b:=w.heap.size) (Nat.le_refl _) 4 (.string (strB x.v.s))).set hR (b:=w.heap.size) (Nat.le_refl _) 5 (.string (strB x.x))).set hR (b:=w.heap.size) (Nat.le_refl _) 6 (.string (strB x.f))).set hR (b:=w.heap.size) (Nat.le_refl _) 7 (.slice xa xq xc)).set hR (b:=w.heap.size) (Nat.le_refl _) 8 (.int .i64 y.k)).set hR (b:=w.heap.size) (Nat.le_refl _) 9 (.int .i64 y.v.k)).set hR (b:=w.heap.size) (Nat.le_refl _) 10 (.int .i64 y.v.n)).set hR (b:=w.heap.size) (Nat.le_refl _) 11 (.string (strB y.v.s))).set hR (b:=w.heap.size) (Nat.le_refl _) 12 (.string (strB y.x))).set hR (b:=w.heap.size) (Nat.le_refl _) 13 (.string (strB y.f))).set hR (b:=w.heap.size) (Nat.le_refl _) 14 (.slice ya yq yc))
end Go.Proofs.YtefcbgnckgapgaaGreatDoor
namespace Go.Proofs.YtefcbgnckgapgaaGreatDoor
open Go.RowKit Go.Lib Go.Op
set_option maxHeartbeats 1000000 in
set_option maxRecDepth 100000 in
theorem rowP_calls {w : World} {R T E : Nat} {s : RS} {one : RS→PPr × RS} {m n : Nat} (hone : ∀ (w : World) (s : RS),RdR w R T E s→DeepOk s→s.l.length≤m→Calls Tryz.prog 41 #[.pointer (some ⟨R,0,none⟩)] w fun e w'=>∃ xa xq xc ya yq yc,e=.returned (.agg #[.int .i64 (one s).1.cmp,.int .i64 (one s).1.l.k,.int .i64 (one s).1.l.v.k,.int .i64 (one s).1.l.v.n,.string (strB (one s).1.l.v.s),.string (strB (one s).1.l.x),.string (strB (one s).1.l.f),.slice xa xq xc,.int .i64 (one s).1.r.k,.int .i64 (one s).1.r.v.k,.int .i64 (one s).1.r.v.n,.string (strB (one s).1.r.v.s),.string (strB (one s).1.r.x),.string (strB (one s).1.r.f),.slice ya yq yc])∧predD.P (· < w.heap.size) w' (.int .i64 (one s).1.cmp :: (exL (one s).1.l (.slice xa xq xc)++exL (one s).1.r (.slice ya yq yc))) (one s).1∧RdTo R T E (one s).2 w w')
 (hle : ∀ s,(one s).2.l.length≤s.l.length) (hdp : ∀ s,(one s).2.deep=s.deep) (b : List UInt8) (h : RdR w R T E s) (hok : DeepOk s) (hm : s.l.length≤m) (hn : s.l.length≤n) (h5 : s.l.length≤500) :
 Calls Tryz.prog 40 #[.pointer (some ⟨R,0,none⟩),.string (strB b),.func (.func 41) #[.pointer (some ⟨R,0,none⟩)] #[]] w (RowTo predD R T E (row1T E b one n s) w):=by
 have hR:=h.lt
 obtain ⟨z,hz⟩ : ∃ z,row1T E b one n s=z:=⟨_,rfl⟩
 rw [hz]
 obtain ⟨⟨y,s1⟩,hys⟩ : ∃ z,one s=z:=⟨_,rfl⟩
 have HO:=hone w s h hok hm
 have hl1:=hle s
 have hp1:=hdp s
 rw [hys] at HO hl1 hp1
 dsimp only at HO hl1 hp1
 have HO1:=hid HO
 have HON:=hid hone
 have hz1 : rowT E b one n [y] s1=z:=by rw [← hz];unfold row1T;rw [hys]
 have HW:=hid (fun W=>word_mark (strB b) W)
 have HX:=hid (And.intro hz1 (And.intro (show s1.l.length≤n∧s1.l.length≤m∧[y].length+s1.l.length≤501 from ⟨by omega,by omega,by simp;omega⟩) (hok.le hp1 hl1)))
 clear hone HO hz hz1 hl1 hp1 hys h hok hm hn h5
 go_enter Tryz.func40,Tryz.ntmps40
 go_wp2_with fail
 with_reducible refine HO1.out.mono ?_
 rintro e w1 ⟨xa,xq,xc,ya,yq,yc,rfl,hp,hd1⟩
 have HI : Hid (RowIn predD R T E m 42 b one z w (w1.alloc (.cells #[.int .i64 y.cmp,.int .i64 y.l.k,.int .i64 y.l.v.k,.int .i64 y.l.v.n,.string (strB y.l.v.s),.string (strB y.l.x),.string (strB y.l.f),.slice xa xq xc,.int .i64 y.r.k,.int .i64 y.r.v.k,.int .i64 y.r.v.n,.string (strB y.r.v.s),.string (strB y.r.x),.string (strB y.r.f),.slice ya yq yc] 42)) (.slice (some ⟨w1.heap.size,0,none⟩) 1 1) n [y] s1):=by
  have hb1:=(Below.refl w1.heap.size w1).alloc (Nat.le_refl _) (.cells #[.int .i64 y.cmp,.int .i64 y.l.k,.int .i64 y.l.v.k,.int .i64 y.l.v.n,.string (strB y.l.v.s),.string (strB y.l.x),.string (strB y.l.f),.slice xa xq xc,.int .i64 y.r.k,.int .i64 y.r.v.k,.int .i64 y.r.v.n,.string (strB y.r.v.s),.string (strB y.r.x),.string (strB y.r.f),.slice ya yq yc] 42)
  refine ⟨OwnP.first hd1.fr.size (heap_alloc_new w1 _) ?_,hd1.then hb1,HX.out.1,HX.out.2.1,HX.out.2.2⟩
  exact predD.ne' hb1 (show predD.P (· < w.heap.size) w1 (.int .i64 y.cmp :: (exL y.l (.slice xa xq xc)++exL y.r (.slice ya yq yc))) y from hp)
 clear hd1 HX HO1 hp
 go_wp2
 go_loopw [7] (fun v wr=>∃ (n : Nat) (l : List PPr) (s : RS),Hid (RowIn predD R T E m 42 b one z w wr v n l s)) (fun _ wr=>leftN R wr)
 case atStart=>exact ⟨n,[y],s1,HI⟩
 case round =>
  clear HI
  obtain ⟨n2,l,s2,HE⟩:=hrel
  have hE:=HE.out
  obtain ⟨va,vc,rfl⟩:=hE.own.slice
  have HL:=hid (leftN_is hE.rt.rd)
  go_wp2_with fail
  with_reducible refine (HW.out _).mono ?_
  rintro e w2 ⟨rfl,hb2⟩
  have D2:=hid (hE.rt.then hb2)
  have O2:=hid (hE.own.keep (TFr.of_below (K:=fun _=>False) hb2) (fun _ h=>h.elim))
  have HZ:=hid (And.intro hE.is (And.intro hE.len hE.ok))
  have htk:=takeW_calls D2.out.rd b
  have HTK:=hid htk
  clear hb2 hE HE htk
  cases hp : isT E s2 1 b with
  | false =>
    have hz:=HZ.out.1
    rw [rowT_end hp] at hz
    subst hz
    rw [hp,takeT_no hp] at HTK
    clear hp HZ
    go_wp2_with fail
    with_reducible refine HTK.out.mono ?_
    rintro e w3 ⟨rfl,hd3⟩
    have D3:=hid (D2.out.trans hd3)
    have O3:=hid (O2.out.keep hd3.fr (fun k e=>by omega))
    clear hd3 D2 O2
    go_wp2
    go_ret
    exact ⟨_,rfl,O3.out.row,D3.out⟩
  | true =>
    obtain ⟨n3,rfl⟩ : ∃ n3,n2=n3+1:=by
     have h1:=takeT_lt hp (by decide)
     have h2:=HZ.out.2.1.1
     exact ⟨n2 - 1,by omega⟩
    have hlt:=takeT_lt hp (by decide)
    obtain ⟨s3,hs3⟩ : ∃ s3,(takeT E s2 1 b).2=s3:=⟨_,rfl⟩
    have hdp3:=takeT_deep (E:=E) (s:=s2) 1 b
    rw [hs3] at hlt hdp3
    obtain ⟨⟨y2,s4⟩,hys⟩ : ∃ z,one s3=z:=⟨_,rfl⟩
    have hok3 : DeepOk s3:=HZ.out.2.2.le hdp3 (Nat.le_of_lt hlt)
    have hle4:=hle s3
    have hdp4:=hdp s3
    have his:=HZ.out.1
    rw [rowT_more hp,hs3,hys] at his
    rw [hp,hs3] at HTK
    rw [hys] at hle4 hdp4
    dsimp only at hle4 hdp4 his
    have HN:=hid (And.intro his (And.intro (show s4.l.length≤n3∧s4.l.length≤m∧(l++[y2]).length+s4.l.length≤501 by have:=HZ.out.2.1;rw [List.length_append];simp;omega) (hok3.le hdp4 hle4)))
    have HLT:=hid (And.intro (show s4.l.length < s2.l.length by omega) (show l.length≤1000 by have:=HZ.out.2.1;omega))
    have HT2 : Hid (∀ W,RdR W R T E s3→Calls Tryz.prog 41 #[.pointer (some ⟨R,0,none⟩)] W fun e w'=>∃ xa xq xc ya yq yc,e=.returned (.agg #[.int .i64 y2.cmp,.int .i64 y2.l.k,.int .i64 y2.l.v.k,.int .i64 y2.l.v.n,.string (strB y2.l.v.s),.string (strB y2.l.x),.string (strB y2.l.f),.slice xa xq xc,.int .i64 y2.r.k,.int .i64 y2.r.v.k,.int .i64 y2.r.v.n,.string (strB y2.r.v.s),.string (strB y2.r.x),.string (strB y2.r.f),.slice ya yq yc])∧predD.P (· < W.heap.size) w' (.int .i64 y2.cmp :: (exL y2.l (.slice xa xq xc)++exL y2.r (.slice ya yq yc))) y2∧RdTo R T E s4 W w'):=fun W hW=>by
     have h:=HON.out W s3 hW hok3 (by have:=HZ.out.2.1;omega)
     rw [hys] at h
     exact h
    obtain ⟨q,hq⟩ : ∃ q,l.length=q:=⟨_,rfl⟩
    have HQ:=hid hq
    rw [hq] at O2 ⊢
    clear hlt hdp3 hok3 hle4 hdp4 hys his HZ hp hq hs3
    go_wp2_with fail
    with_reducible refine HTK.out.mono ?_
    rintro e w3 ⟨rfl,hd3⟩
    have HT3:=hid (HT2.out w3 hd3.rd)
    have D3:=hid (D2.out.trans hd3)
    have O3:=hid (O2.out.keep hd3.fr (fun k e=>by omega))
    clear hd3 D2 O2 HTK HT2
    go_wp2_with fail
    with_reducible refine HT3.out.mono ?_
    rintro e w4 ⟨xa,xq,xc,ya,yq,yc,rfl,hp,hd4⟩
    have HAP : ∃ a9 l9 c9 w9,(Builtin.append_ #[24,24] 24 #[.slice va q vc,.slice (some ⟨w4.heap.size,0,none⟩) 1 1]).run Tryz.prog (w4.alloc (.cells #[.int .i64 y2.cmp,.int .i64 y2.l.k,.int .i64 y2.l.v.k,.int .i64 y2.l.v.n,.string (strB y2.l.v.s),.string (strB y2.l.x),.string (strB y2.l.f),.slice xa xq xc,.int .i64 y2.r.k,.int .i64 y2.r.v.k,.int .i64 y2.r.v.n,.string (strB y2.r.v.s),.string (strB y2.r.x),.string (strB y2.r.f),.slice ya yq yc] 42))=.ok (.slice a9 l9 c9) w9∧Hid (OwnP predD w9 w.heap.size 42 (.slice a9 l9 c9) (l++[y2]))∧Hid (RdTo R T E s4 w w9):=by
     have hb5:=(Below.refl w4.heap.size w4).alloc (Nat.le_refl _) (.cells #[.int .i64 y2.cmp,.int .i64 y2.l.k,.int .i64 y2.l.v.k,.int .i64 y2.l.v.n,.string (strB y2.l.v.s),.string (strB y2.l.x),.string (strB y2.l.f),.slice xa xq xc,.int .i64 y2.r.k,.int .i64 y2.r.v.k,.int .i64 y2.r.v.n,.string (strB y2.r.v.s),.string (strB y2.r.x),.string (strB y2.r.f),.slice ya yq yc] 42)
     have o5:=(O3.out.keep hd4.fr (fun k e=>by omega)).keep (TFr.of_below (K:=fun _=>False) hb5) (fun _ h=>h.elim)
     have hw3:=O3.out.own
     have hB:=D3.out.fr.size
     have hpp:=predD.at' (B:=w.heap.size) (v:=.slice va q vc) hb5 hw3 hB (show predD.P (· < w3.heap.size) w4 (.int .i64 y2.cmp :: (exL y2.l (.slice xa xq xc)++exL y2.r (.slice ya yq yc))) y2 from hp)
     obtain ⟨v9,w9,hr,ho,hg⟩:=OwnP.append (ts:=24) (ty:=24) (by kernel_rfl) predI rfl (by decide) (by decide) o5 (by have:=hd4.fr.size;have:=hb5.size;omega) HLT.out.2 hpp (heap_alloc_new w4 _)
     obtain ⟨a9,c9,rfl⟩:=ho.slice
     exact ⟨a9,_,c9,w9,hr,ho,((D3.out.trans hd4).then hb5).grown hR hg (fun k hk=>(o5.own k hk).1)⟩
    obtain ⟨a9,l9,c9,w9,hr9,O9,D9⟩:=HAP
    clear hd4 O3 D3 HT3 hp
    go_wp2_with (at_builtin;refine Lib.wpList_append_run _ rfl _ _ _ _ rfl _ _ rfl rfl _ _ hr9 ?_;clear hr9)
    refine ⟨⟨n3,l++[y2],s4,?_⟩,?_⟩
    ·exact ⟨O9.out,D9.out,HN.out.1,HN.out.2.1,HN.out.2.2⟩
    ·rw [leftN_is D9.out.rd,HL.out]
     exact HLT.out.1
end Go.Proofs.YtefcbgnckgapgaaGreatDoor
namespace Go.Proofs.YtefcbgnckgapgaaGreatDoor
open Go.RowKit Go.Lib Go.Op
structure QIn (R T E : Nat) (w wc : World) (s : RS) (c0 c1 c2 c3 c4 : Value) (its : List PIt) (prs : List PPr) : Prop where
 res : Blk wc w.heap.size #[.slice none 0 0,.slice none 0 0,.int .i64 0,.string ⟨#[]⟩,.int .i64 0] 26
 own : Blk wc (w.heap.size+1) #[c0,c1,c2,c3,c4] 26
 iR : RowK itemD (· < w.heap.size+2) wc c0 its
 pR : RowK predD (· < w.heap.size+2) wc c1 prs
 rt : RdTo R T E s w wc
 big : w.heap.size+2≤wc.heap.size
section
variable {R T E : Nat} {w wc w' : World} {s s' : RS} {c0 c1 c2 c3 c4 : Value} {its : List PIt} {prs : List PPr}
theorem QIn.low (h : QIn R T E w wc s c0 c1 c2 c3 c4 its prs) (hb : Below wc.heap.size wc w') : QIn R T E w w' s c0 c1 c2 c3 c4 its prs :=
 ⟨h.res.low hb,h.own.low hb,h.iR.low hb,h.pR.low hb,h.rt.then hb,Nat.le_trans h.big hb.size⟩
theorem QIn.step (h : QIn R T E w wc s c0 c1 c2 c3 c4 its prs) (hR : R < w.heap.size) (hd : RdTo R T E s' wc w') : QIn R T E w w' s' c0 c1 c2 c3 c4 its prs :=
 ⟨h.res.keep hd.fr (by omega),h.own.keep hd.fr (by omega),h.iR.keepR hd.fr (by show R < _;omega),h.pR.keepR hd.fr (by show R < _;omega),h.rt.trans hd,Nat.le_trans h.big hd.fr.size⟩
theorem QIn.set0 (h : QIn R T E w wc s c0 c1 c2 c3 c4 its prs) (hR : R < w.heap.size) {v : Value} {its' : List PIt} (hv : RowK itemD (· < w.heap.size+2) wc v its') : QIn R T E w (wc.setCell ⟨w.heap.size+1,0,none⟩ v) s v c1 c2 c3 c4 its' prs :=
 ⟨h.res.at (by omega) _ _,h.own.set 0 v rfl,hv.set (by show _ < _;omega) _ _,h.pR.set (by show _ < _;omega) _ _,h.rt.set hR (by omega) _ _,by simpa using h.big⟩
theorem QIn.set1 (h : QIn R T E w wc s c0 c1 c2 c3 c4 its prs) (hR : R < w.heap.size) {v : Value} {prs' : List PPr} (hv : RowK predD (· < w.heap.size+2) wc v prs') : QIn R T E w (wc.setCell ⟨w.heap.size+1,1,none⟩ v) s c0 v c2 c3 c4 its prs' :=
 ⟨h.res.at (by omega) _ _,h.own.set 1 v rfl,h.iR.set (by show _ < _;omega) _ _,hv.set (by show _ < _;omega) _ _,h.rt.set hR (by omega) _ _,by simpa using h.big⟩
theorem QIn.set2 (h : QIn R T E w wc s c0 c1 c2 c3 c4 its prs) (hR : R < w.heap.size) (v : Value) : QIn R T E w (wc.setCell ⟨w.heap.size+1,2,none⟩ v) s c0 c1 v c3 c4 its prs :=
 ⟨h.res.at (by omega) _ _,h.own.set 2 v rfl,h.iR.set (by show _ < _;omega) _ _,h.pR.set (by show _ < _;omega) _ _,h.rt.set hR (by omega) _ _,by simpa using h.big⟩
theorem QIn.set3 (h : QIn R T E w wc s c0 c1 c2 c3 c4 its prs) (hR : R < w.heap.size) (v : Value) : QIn R T E w (wc.setCell ⟨w.heap.size+1,3,none⟩ v) s c0 c1 c2 v c4 its prs :=
 ⟨h.res.at (by omega) _ _,h.own.set 3 v rfl,h.iR.set (by show _ < _;omega) _ _,h.pR.set (by show _ < _;omega) _ _,h.rt.set hR (by omega) _ _,by simpa using h.big⟩
theorem QIn.set4 (h : QIn R T E w wc s c0 c1 c2 c3 c4 its prs) (hR : R < w.heap.size) (v : Value) : QIn R T E w (wc.setCell ⟨w.heap.size+1,4,none⟩ v) s c0 c1 c2 c3 v its prs :=
 ⟨h.res.at (by omega) _ _,h.own.set 4 v rfl,h.iR.set (by show _ < _;omega) _ _,h.pR.set (by show _ < _;omega) _ _,h.rt.set hR (by omega) _ _,by simpa using h.big⟩
end
def QuTo (R T E : Nat) (p : PQu × RS) (w : World) (e : Ending) (w' : World) : Prop:=∃ a q c b r d,e=.returned (.agg #[.slice a q c,.slice b r d,.int .i64 p.1.within,.string (strB p.1.by_),.int .i64 p.1.pick]) ∧
 RowK itemD (· < w.heap.size) w' (.slice a q c) p.1.its∧RowK predD (· < w.heap.size) w' (.slice b r d) p.1.prs∧RdTo R T E p.2 w w'
set_option maxHeartbeats 2000000 in
set_option maxRecDepth 100000 in
theorem query_calls {w : World} {R T E : Nat} {s : RS} {n : Nat} (h : RdR w R T E s) (hok : DeepOk s) (hn : s.l.length < n) (h5 : s.l.length≤500) : Calls Tryz.prog 12 #[.pointer (some ⟨R,0,none⟩)] w (QuTo R T E (queryT E n s) w):=by
 have hR:=h.lt
 obtain ⟨s0,hs0⟩ : ∃ s0,needT E s 1 wSeq=s0:=⟨_,rfl⟩
 obtain ⟨⟨its,s1⟩,hs1⟩ : ∃ z,row1T E wThen (itemT E n) n s0=z:=⟨_,rfl⟩
 obtain ⟨pw,hpw⟩ : ∃ z,isT E s1 1 wWhere=z:=⟨_,rfl⟩
 obtain ⟨s1',hs1'⟩ : ∃ z,(takeT E s1 1 wWhere).2=z:=⟨_,rfl⟩
 obtain ⟨⟨prs,s2⟩,hs2⟩ : ∃ z,(if pw then row1T E wAnd (predT E n) n s1' else ([],s1'))=z:=⟨_,rfl⟩
 obtain ⟨s3,hs3⟩ : ∃ s3,needT E s2 1 wWithin=s3:=⟨_,rfl⟩
 obtain ⟨⟨wi,s4⟩,hs4⟩ : ∃ z,numberT E s3=z:=⟨_,rfl⟩
 obtain ⟨pb,hpb⟩ : ∃ z,isT E s4 1 wBy=z:=⟨_,rfl⟩
 obtain ⟨s4',hs4'⟩ : ∃ z,(takeT E s4 1 wBy).2=z:=⟨_,rfl⟩
 obtain ⟨⟨bb,s5⟩,hs5⟩ : ∃ z,(if pb then nameT E s4' else ([],s4'))=z:=⟨_,rfl⟩
 obtain ⟨pk,hpk⟩ : ∃ z,isT E s5 1 wPick=z:=⟨_,rfl⟩
 obtain ⟨s5',hs5'⟩ : ∃ z,(takeT E s5 1 wPick).2=z:=⟨_,rfl⟩
 obtain ⟨⟨kk,s6⟩,hs6⟩ : ∃ z,(if pk then chooseT E s5' 1 picksL else (1,s5'))=z:=⟨_,rfl⟩
 have hit : queryT E n s=(⟨its,prs,wi,bb,(kk : Int)⟩,if s6.l=[] then s6 else failT E s6):=by
  unfold queryT
  have e1 : (if isT E s1 1 wWhere then row1T E wAnd (predT E n) n (takeT E s1 1 wWhere).2 else ([],s1))=(prs,s2):=by
   rw [hpw,← hs2]
   cases pw with
   | true=>rw [hs1'];rfl
   | false=>rw [← hs1',takeT_no hpw]
  have e2 : (if isT E s4 1 wBy then nameT E (takeT E s4 1 wBy).2 else ([],s4))=(bb,s5):=by
   rw [hpb,← hs5]
   cases pb with
   | true=>rw [hs4'];rfl
   | false=>rw [← hs4',takeT_no hpb]
  have e3 : (if isT E s5 1 wPick then chooseT E (takeT E s5 1 wPick).2 1 picksL else (1,s5))=(kk,s6):=by
   rw [hpk,← hs6]
   cases pk with
   | true=>rw [hs5'];rfl
   | false=>rw [← hs5',takeT_no hpk]
  rw [hs0,hs1]
  dsimp only
  rw [e1]
  dsimp only
  rw [hs3,hs4]
  dsimp only
  rw [e2]
  dsimp only
  rw [e3]
 rw [hit]
 obtain ⟨sf,hsf⟩ : ∃ sf,(if s6.l=[] then s6 else failT E s6)=sf:=⟨_,rfl⟩
 rw [hsf]
 have HSF:=hid hsf
 clear hsf
 have hok0 : DeepOk s0:=by rw [← hs0];exact hok.le (needT_deep _ _) (needT_le _ _)
 have hl0 : s0.l.length≤s.l.length:=by rw [← hs0];exact needT_le _ _
 have hl1:=row1T_le (E:=E) (b:=wThen) (one:=itemT E n) (fun _=>itemT_le) n s0
 have hd1:=row1T_deep (E:=E) (b:=wThen) (one:=itemT E n) (fun _=>itemT_deep) n s0
 rw [hs1] at hl1 hd1
 dsimp only at hl1 hd1
 have hok1 : DeepOk s1':=by rw [← hs1'];exact (hok0.le hd1 hl1).le (takeT_deep _ _) (takeT_le _ _)
 have hl1' : s1'.l.length≤s1.l.length:=by rw [← hs1'];exact takeT_le _ _
 have hb1:=(Below.refl w.heap.size w).alloc (Nat.le_refl _) (.cells #[.slice none 0 0,.slice none 0 0,.int .i64 0,.string ⟨#[]⟩,.int .i64 0] 26)
 have hb2:=hb1.alloc hb1.size (.cells #[.slice none 0 0,.slice none 0 0,.int .i64 0,.string ⟨#[]⟩,.int .i64 0] 26)
 have P2:=(Blk.new w #[.slice none 0 0,.slice none 0 0,.int .i64 0,.string ⟨#[]⟩,.int .i64 0] 26).low ((Below.refl _ _).alloc (Nat.le_refl _) (.cells #[.slice none 0 0,.slice none 0 0,.int .i64 0,.string ⟨#[]⟩,.int .i64 0] 26))
 have hp3:=Blk.new (w.alloc (.cells #[.slice none 0 0,.slice none 0 0,.int .i64 0,.string ⟨#[]⟩,.int .i64 0] 26)) #[.slice none 0 0,.slice none 0 0,.int .i64 0,.string ⟨#[]⟩,.int .i64 0] 26
 rw [show (w.alloc (.cells #[.slice none 0 0,.slice none 0 0,.int .i64 0,.string ⟨#[]⟩,.int .i64 0] 26)).heap.size=w.heap.size+1 by simp] at hp3
 have QA : Hid (QIn R T E w ((w.alloc (.cells #[.slice none 0 0,.slice none 0 0,.int .i64 0,.string ⟨#[]⟩,.int .i64 0] 26)).alloc (.cells #[.slice none 0 0,.slice none 0 0,.int .i64 0,.string ⟨#[]⟩,.int .i64 0] 26)) s (.slice none 0 0) (.slice none 0 0) (.int .i64 0) (.string ⟨#[]⟩) (.int .i64 0) [] []) :=
  ⟨P2,hp3,RowK.nil _ _ _,RowK.nil _ _ _,RdTo.of_below h hb2,by have:=hp3.lt;omega⟩
 have HL:=hid (And.intro hok0 (And.intro (show s0.l.length≤n∧s0.l.length≤500∧s0.l.length < n by omega) (And.intro hok1 (show s1'.l.length≤n∧s1'.l.length≤500∧s1'.l.length < n by omega))))
 have H0:=hid hs0
 have H1:=hid hs1
 have HPW:=hid (And.intro hpw hs1')
 have H2:=hid hs2
 have H3:=hid hs3
 have H4:=hid hs4
 have HPB:=hid (And.intro hpb hs4')
 have H5:=hid hs5
 have HPK:=hid (And.intro hpk hs5')
 have H6:=hid hs6
 clear h hb1 hb2 hp3 P2 hs0 hs1 hpw hs1' hs2 hs3 hs4 hpb hs4' hs5 hpk hs5' hs6 hit hok0 hok1 hl0 hl1 hd1 hl1' hok hn h5
 go_enter Tryz.func12,Tryz.ntmps12
 have HM:=hid (show ∀ W,Calls Tryz.prog 36 #[.string ⟨#[115,101,113]⟩] W (fun e w'=>e=.returned (.agg #[.int .i64 1,.string ⟨#[115,101,113]⟩])∧Below W.heap.size W w') from fun W=>word_mark _ W)
 go_wp2_with fail
 with_reducible refine (HM.out _).mono ?_
 rintro e w1 ⟨rfl,hb⟩
 have QB:=hid (QA.out.low hb)
 clear hb HM QA
 have hc:=needW_calls QB.out.rt.rd wSeq
 rw [H0.out] at hc
 have HC : Hid (Calls Tryz.prog 35 #[.pointer (some ⟨R,0,none⟩),.agg #[.int .i64 1,.string ⟨#[115,101,113]⟩]] w1 fun e w'=>e=.returned (.tuple #[])∧RdTo R T E s0 w1 w'):=hc
 clear hc
 go_wp2_with fail
 with_reducible refine HC.out.mono ?_
 rintro e w2 ⟨rfl,hd⟩
 have QC:=hid (QB.out.step hR hd)
 clear hd HC QB
 have hc:=rowI_calls (m:=s0.l.length) (n:=n) (one:=itemT E n) (fun w s h hok hm=>item_calls h hok (by have:=HL.out.2.1;omega) (by have:=HL.out.2.1;omega)) (fun _=>itemT_le) (fun _=>itemT_deep) wThen QC.out.rt.rd HL.out.1 (Nat.le_refl _) HL.out.2.1.1 HL.out.2.1.2.1
 rw [H1.out] at hc
 have HC : Hid (Calls Tryz.prog 37 #[.pointer (some ⟨R,0,none⟩),.string ⟨#[116,104,101,110]⟩,.func (.func 38) #[.pointer (some ⟨R,0,none⟩)] #[]] w2 (RowTo itemD R T E (its,s1) w2)):=hc
 clear hc
 go_wp2_with fail
 with_reducible refine HC.out.mono ?_
 rintro e w3 ⟨v,rfl,hrw,hd⟩
 obtain ⟨a,c,rfl⟩:=hrw.slice
 obtain ⟨q,hq⟩ : ∃ q,(its,s1).1.length=q:=⟨_,rfl⟩
 rw [hq] at hrw ⊢
 dsimp only at hd hrw
 have qd:=QC.out.step hR hd
 have c0:=tcell qd.own (k:=0) rfl
 have fc0:=tfrozen qd.own (k:=0)
 have QD:=hid (qd.set0 hR (v:=.slice a q c) (hrw.mono (fun k hk=>Nat.lt_of_lt_of_le hk QC.out.big)))
 clear hq hrw hd qd QC HC
 have HM:=hid (show ∀ W,Calls Tryz.prog 36 #[.string ⟨#[119,104,101,114,101]⟩] W (fun e w'=>e=.returned (.agg #[.int .i64 1,.string ⟨#[119,104,101,114,101]⟩])∧Below W.heap.size W w') from fun W=>word_mark _ W)
 go_wp2_with fail
 with_reducible refine (HM.out _).mono ?_
 rintro e w4 ⟨rfl,hb⟩
 have QE:=hid (QD.out.low hb)
 clear hb HM QD
 clear c0 fc0
 have hc:=takeW_calls QE.out.rt.rd wWhere
 rw [HPW.out.1,HPW.out.2] at hc
 have HC : Hid (Calls Tryz.prog 39 #[.pointer (some ⟨R,0,none⟩),.agg #[.int .i64 1,.string ⟨#[119,104,101,114,101]⟩]] w4 fun e w'=>e=.returned (.bool pw)∧RdTo R T E s1' w4 w'):=hc
 clear hc
 go_wp2_with fail
 with_reducible refine HC.out.mono ?_
 rintro e w5 ⟨rfl,hd⟩
 have QF:=hid (QE.out.step hR hd)
 clear hd HC QE
 go_upto_if 14 with fail
 go_cut [] from 12 (fun wc=>∃ b r d,Hid (QIn R T E w wc s2 (.slice a q c) (.slice b r d) (.int .i64 0) (.string ⟨#[]⟩) (.int .i64 0) its prs))
 case first =>
  cases pw with
  | false =>
    have h:=H2.out
    rw [if_neg (by simp)] at h
    injection h with h1 h2
    subst h1 h2
    go_wp2_with fail
    go_meet
    exact ⟨_,_,_,QF⟩
  | true =>
    have h:=H2.out
    rw [if_pos rfl] at h
    have hc:=rowP_calls (m:=s1'.l.length) (n:=n) (one:=predT E n) (fun w s h hok hm=>pred_calls h hok (by have:=HL.out.2.2.2;omega)) (fun _=>predT_le) (fun _=>predT_deep) wAnd QF.out.rt.rd HL.out.2.2.1 (Nat.le_refl _) HL.out.2.2.2.1 HL.out.2.2.2.2.1
    rw [h] at hc
    have HC : Hid (Calls Tryz.prog 40 #[.pointer (some ⟨R,0,none⟩),.string ⟨#[97,110,100]⟩,.func (.func 41) #[.pointer (some ⟨R,0,none⟩)] #[]] w5 (RowTo predD R T E (prs,s2) w5)):=hc
    clear hc h
    go_wp2_with fail
    with_reducible refine HC.out.mono ?_
    rintro e w6 ⟨v,rfl,hrw,hd⟩
    obtain ⟨b,d,rfl⟩:=hrw.slice
    obtain ⟨r,hr⟩ : ∃ q,(prs,s2).1.length=q:=⟨_,rfl⟩
    rw [hr] at hrw ⊢
    dsimp only at hd hrw
    have qd:=QF.out.step hR hd
    have c1:=tcell qd.own (k:=1) rfl
    have fc1:=tfrozen qd.own (k:=1)
    have QG:=hid (qd.set1 hR (v:=.slice b r d) (hrw.mono (fun k hk=>Nat.lt_of_lt_of_le hk QF.out.big)))
    clear hr hrw hd qd QF HC
    go_wp2_with fail
    go_meet
    exact ⟨b,r,d,QG⟩
 case rest =>
  obtain ⟨b,r,d,QG⟩:=hcut
  clear QF
  have HM:=hid (show ∀ W,Calls Tryz.prog 36 #[.string ⟨#[119,105,116,104,105,110]⟩] W (fun e w'=>e=.returned (.agg #[.int .i64 1,.string ⟨#[119,105,116,104,105,110]⟩])∧Below W.heap.size W w') from fun W=>word_mark _ W)
  go_wp2_with fail
  with_reducible refine (HM.out _).mono ?_
  rintro e w7 ⟨rfl,hb⟩
  have QH:=hid (QG.out.low hb)
  clear hb HM QG
  have hc:=needW_calls QH.out.rt.rd wWithin
  rw [H3.out] at hc
  have HC : Hid (Calls Tryz.prog 35 #[.pointer (some ⟨R,0,none⟩),.agg #[.int .i64 1,.string ⟨#[119,105,116,104,105,110]⟩]] w7 fun e w'=>e=.returned (.tuple #[])∧RdTo R T E s3 w7 w'):=hc
  clear hc
  go_wp2_with fail
  with_reducible refine HC.out.mono ?_
  rintro e w8 ⟨rfl,hd⟩
  have QI:=hid (QH.out.step hR hd)
  clear hd HC QH
  have hc:=numberR_calls QI.out.rt.rd
  rw [H4.out] at hc
  have HC:=hid hc
  clear hc
  go_wp2_with fail
  with_reducible refine HC.out.mono ?_
  rintro e w9 ⟨rfl,hd⟩
  have qd:=QI.out.step hR hd
  have c2:=tcell qd.own (k:=2) rfl
  have fc2:=tfrozen qd.own (k:=2)
  have QJ:=hid (qd.set2 hR (.int .i64 (wi,s4).1))
  clear hd qd QI HC
  dsimp only at QJ
  dsimp only
  have HM:=hid (show ∀ W,Calls Tryz.prog 36 #[.string ⟨#[98,121]⟩] W (fun e w'=>e=.returned (.agg #[.int .i64 1,.string ⟨#[98,121]⟩])∧Below W.heap.size W w') from fun W=>word_mark _ W)
  go_wp2_with fail
  with_reducible refine (HM.out _).mono ?_
  rintro e w10 ⟨rfl,hb⟩
  have QK:=hid (QJ.out.low hb)
  clear hb HM QJ
  clear c2 fc2
  have hc:=takeW_calls QK.out.rt.rd wBy
  rw [HPB.out.1,HPB.out.2] at hc
  have HC : Hid (Calls Tryz.prog 39 #[.pointer (some ⟨R,0,none⟩),.agg #[.int .i64 1,.string ⟨#[98,121]⟩]] w10 fun e w'=>e=.returned (.bool pb)∧RdTo R T E s4' w10 w'):=hc
  clear hc
  go_wp2_with fail
  with_reducible refine HC.out.mono ?_
  rintro e w11 ⟨rfl,hd⟩
  have QL:=hid (QK.out.step hR hd)
  clear hd HC QK
  go_upto_if 28 with fail
  go_cut [] from 26 (fun wc=>Hid (QIn R T E w wc s5 (.slice a q c) (.slice b r d) (.int .i64 wi) (.string (strB bb)) (.int .i64 0) its prs))
  case first =>
   cases pb with
   | false =>
     have h:=H5.out
     rw [if_neg (by simp)] at h
     injection h with h1 h2
     subst h1 h2
     go_wp2_with fail
     go_meet
     exact QL
   | true =>
     have h:=H5.out
     rw [if_pos rfl] at h
     have hc:=nameR_calls QL.out.rt.rd
     rw [h] at hc
     have HC:=hid hc
     clear hc h
     go_wp2_with fail
     with_reducible refine HC.out.mono ?_
     rintro e w12 ⟨rfl,hd⟩
     have qd:=QL.out.step hR hd
     have c3:=tcell qd.own (k:=3) rfl
     have fc3:=tfrozen qd.own (k:=3)
     have QM:=hid (qd.set3 hR (.string (strB bb)))
     clear hd qd QL HC
     go_wp2_with fail
     go_meet
     exact QM
  case rest =>
   have QM:=hcut
   clear hcut QL
   have hq4:=QM.out
   have c4:=tcell hq4.own (k:=4) rfl
   have fc4:=tfrozen hq4.own (k:=4)
   have QN:=hid (hq4.set4 hR (.int .i64 1))
   clear QM hq4
   have HM:=hid (show ∀ W,Calls Tryz.prog 36 #[.string ⟨#[112,105,99,107]⟩] W (fun e w'=>e=.returned (.agg #[.int .i64 1,.string ⟨#[112,105,99,107]⟩])∧Below W.heap.size W w') from fun W=>word_mark _ W)
   go_wp2_with fail
   with_reducible refine (HM.out _).mono ?_
   rintro e w14 ⟨rfl,hb⟩
   have QO:=hid (QN.out.low hb)
   clear hb HM QN
   clear c4 fc4
   have hc:=takeW_calls QO.out.rt.rd wPick
   rw [HPK.out.1,HPK.out.2] at hc
   have HC : Hid (Calls Tryz.prog 39 #[.pointer (some ⟨R,0,none⟩),.agg #[.int .i64 1,.string ⟨#[112,105,99,107]⟩]] w14 fun e w'=>e=.returned (.bool pk)∧RdTo R T E s5' w14 w'):=hc
   clear hc
   go_wp2_with fail
   with_reducible refine HC.out.mono ?_
   rintro e w15 ⟨rfl,hd⟩
   have QP:=hid (QO.out.step hR hd)
   clear hd HC QO
   go_upto_if 35 with fail
   go_cut [] from 33 (fun wc=>Hid (QIn R T E w wc s6 (.slice a q c) (.slice b r d) (.int .i64 wi) (.string (strB bb)) (.int .i64 kk) its prs))
   case first =>
    cases pk with
    | false =>
      have h:=H6.out
      rw [if_neg (by simp)] at h
      injection h with h1 h2
      subst h1 h2
      go_wp2_with fail
      go_meet
      exact QP
    | true =>
      have h:=H6.out
      rw [if_pos rfl] at h
      have HPI:=hid (fun W=>picks_calls W)
      go_wp2_with fail
      with_reducible refine (HPI.out _).mono ?_
      rintro e w16 ⟨rfl,hb⟩
      have QQ:=hid (QP.out.low hb)
      have hc:=chooseW_calls QQ.out.rt.rd picksL rfl
      rw [h] at hc
      have HC:=hid hc
      clear hc h hb
      go_wp2_with fail
      with_reducible refine HC.out.mono ?_
      rintro e w17 ⟨rfl,hd⟩
      have qd:=QQ.out.step hR hd
      have c4:=tcell qd.own (k:=4) rfl
      have fc4:=tfrozen qd.own (k:=4)
      have QR:=hid (qd.set4 hR (.int .i64 kk))
      clear hd qd QQ HC
      go_wp2_with fail
      go_meet
      exact QR
   case rest =>
    have QR:=hcut
    clear hcut QP
    obtain ⟨la,lc,k0⟩:=QR.out.rt.rd
    have l0:=k0.c0
    clear k0
    by_cases hl : s6.l=[]
    ·have hsf:=HSF.out
     rw [if_pos hl] at hsf
     subst hsf
     rw [hl] at l0
     simp only [List.length_nil] at l0
     have hqf:=QR.out
     have d0:=tcell hqf.own (k:=0) rfl
     have d1:=tcell hqf.own (k:=1) rfl
     have d2:=tcell hqf.own (k:=2) rfl
     have d3:=tcell hqf.own (k:=3) rfl
     have d4:=tcell hqf.own (k:=4) rfl
     have fd0:=tfrozen hqf.own (k:=0)
     have fd1:=tfrozen hqf.own (k:=1)
     have fd2:=tfrozen hqf.own (k:=2)
     have fd3:=tfrozen hqf.own (k:=3)
     have fd4:=tfrozen hqf.own (k:=4)
     have r0:=tcell hqf.res (k:=0) rfl
     have r1:=tcell hqf.res (k:=1) rfl
     have r2:=tcell hqf.res (k:=2) rfl
     have r3:=tcell hqf.res (k:=3) rfl
     have r4:=tcell hqf.res (k:=4) rfl
     have fr0:=tfrozen hqf.res (k:=0)
     have fr1:=tfrozen hqf.res (k:=1)
     have fr2:=tfrozen hqf.res (k:=2)
     have fr3:=tfrozen hqf.res (k:=3)
     have fr4:=tfrozen hqf.res (k:=4)
     clear hqf
     go_wp2
     refine bodyPost_ret (v:=.agg #[.slice a q c,.slice b r d,.int .i64 wi,.string (strB bb),.int .i64 kk]) (by simp [results,Tryz.results12,go_sem,r0,r1,r2,r3,r4]) rfl ⟨a,q,c,b,r,d,rfl,?_,?_,?_⟩
     ·have hk:=((((QR.out.iR.set (b:=w.heap.size) (by show _ < _;omega) 0 (.slice a q c)).set (b:=w.heap.size) (by show _ < _;omega) 1 (.slice b r d)).set (b:=w.heap.size) (by show _ < _;omega) 2 (.int .i64 wi)).set (b:=w.heap.size) (by show _ < _;omega) 3 (.string (strB bb))).set (b:=w.heap.size) (by show _ < _;omega) 4 (.int .i64 kk)
      exact hk.mono (fun k hk=>Nat.lt_trans hk (by omega))
     ·have hk:=((((QR.out.pR.set (b:=w.heap.size) (by show _ < _;omega) 0 (.slice a q c)).set (b:=w.heap.size) (by show _ < _;omega) 1 (.slice b r d)).set (b:=w.heap.size) (by show _ < _;omega) 2 (.int .i64 wi)).set (b:=w.heap.size) (by show _ < _;omega) 3 (.string (strB bb))).set (b:=w.heap.size) (by show _ < _;omega) 4 (.int .i64 kk)
      exact hk.mono (fun k hk=>Nat.lt_trans hk (by omega))
     ·exact ((((QR.out.rt.set hR (Nat.le_refl _) _ _).set hR (Nat.le_refl _) _ _).set hR (Nat.le_refl _) _ _).set hR (Nat.le_refl _) _ _).set hR (Nat.le_refl _) _ _
    ·have hsf:=HSF.out
     rw [if_neg hl] at hsf
     subst hsf
     obtain ⟨lq,hlq⟩ : ∃ q,s6.l.length=q:=⟨_,rfl⟩
     have hpos : 0 < lq:=by
      rw [← hlq]
      exact List.length_pos_iff.2 hl
     rw [hlq] at l0
     have ht : decide (0 < lq)=true:=decide_eq_true hpos
     have HF:=hid (fail_calls QR.out.rt.rd)
     clear hlq hl
     go_wp2_with fail
     with_reducible refine HF.out.mono ?_
     rintro e w18 ⟨rfl,hd⟩
     have QS:=hid (QR.out.step hR hd)
     clear hd QR HF
     have hqf:=QS.out
     have d0:=tcell hqf.own (k:=0) rfl
     have d1:=tcell hqf.own (k:=1) rfl
     have d2:=tcell hqf.own (k:=2) rfl
     have d3:=tcell hqf.own (k:=3) rfl
     have d4:=tcell hqf.own (k:=4) rfl
     have fd0:=tfrozen hqf.own (k:=0)
     have fd1:=tfrozen hqf.own (k:=1)
     have fd2:=tfrozen hqf.own (k:=2)
     have fd3:=tfrozen hqf.own (k:=3)
     have fd4:=tfrozen hqf.own (k:=4)
     have r0:=tcell hqf.res (k:=0) rfl
     have r1:=tcell hqf.res (k:=1) rfl
     have r2:=tcell hqf.res (k:=2) rfl
     have r3:=tcell hqf.res (k:=3) rfl
     have r4:=tcell hqf.res (k:=4) rfl
     have fr0:=tfrozen hqf.res (k:=0)
     have fr1:=tfrozen hqf.res (k:=1)
     have fr2:=tfrozen hqf.res (k:=2)
     have fr3:=tfrozen hqf.res (k:=3)
     have fr4:=tfrozen hqf.res (k:=4)
     clear hqf
     go_wp2
     refine bodyPost_ret (v:=.agg #[.slice a q c,.slice b r d,.int .i64 wi,.string (strB bb),.int .i64 kk]) (by simp [results,Tryz.results12,go_sem,r0,r1,r2,r3,r4]) rfl ⟨a,q,c,b,r,d,rfl,?_,?_,?_⟩
     ·have hk:=((((QS.out.iR.set (b:=w.heap.size) (by show _ < _;omega) 0 (.slice a q c)).set (b:=w.heap.size) (by show _ < _;omega) 1 (.slice b r d)).set (b:=w.heap.size) (by show _ < _;omega) 2 (.int .i64 wi)).set (b:=w.heap.size) (by show _ < _;omega) 3 (.string (strB bb))).set (b:=w.heap.size) (by show _ < _;omega) 4 (.int .i64 kk)
      exact hk.mono (fun k hk=>Nat.lt_trans hk (by omega))
     ·have hk:=((((QS.out.pR.set (b:=w.heap.size) (by show _ < _;omega) 0 (.slice a q c)).set (b:=w.heap.size) (by show _ < _;omega) 1 (.slice b r d)).set (b:=w.heap.size) (by show _ < _;omega) 2 (.int .i64 wi)).set (b:=w.heap.size) (by show _ < _;omega) 3 (.string (strB bb))).set (b:=w.heap.size) (by show _ < _;omega) 4 (.int .i64 kk)
      exact hk.mono (fun k hk=>Nat.lt_trans hk (by omega))
     ·exact ((((QS.out.rt.set hR (Nat.le_refl _) _ _).set hR (Nat.le_refl _) _ _).set hR (Nat.le_refl _) _ _).set hR (Nat.le_refl _) _ _).set hR (Nat.le_refl _) _ _
end Go.Proofs.YtefcbgnckgapgaaGreatDoor
namespace Go.Proofs.YtefcbgnckgapgaaGreatDoor
open Go.RowKit Go.Lib Go.Op
set_option maxRecDepth 100000 in
theorem nameOk_calls (b : List UInt8) (w : World) (hb : b.length≤1000000) : Calls Tryz.prog 26 #[.string (strB b)] w fun e w'=>e=.returned (.bool (nameB b))∧Below w.heap.size w w':=by
 have hw:=word_calls (strB b) w (by rw [strB_size];unfold maxLen;omega)
 rw [strB_list] at hw
 have HK:=hid (fun W=>key_calls b W)
 unfold nameB
 cases h1 : wordB b with
 | false =>
   rw [h1] at hw
   have HW:=hid hw
   clear hw hb h1
   go_enter Tryz.func26,Tryz.ntmps26
   go_wp2_with (go_at_call 74;(with_reducible refine HW.out.mono ?_);rintro e w1 ⟨rfl,hb1⟩;have HB1:=hid hb1;clear hb1)
   go_ret
   exact ⟨rfl,HB1.out⟩
 | true =>
   rw [h1] at hw
   have HW:=hid hw
   obtain ⟨z,hz⟩ : ∃ z,keyB b=z:=⟨_,rfl⟩
   rw [hz] at HK ⊢
   clear hw hb h1 hz
   go_enter Tryz.func26,Tryz.ntmps26
   go_wp2_with (first
    | (go_at_call 74;(with_reducible refine HW.out.mono ?_);rintro e w1 ⟨rfl,hb1⟩;have HB1:=hid hb1;clear hb1)
    | (go_at_call 75;(with_reducible refine (HK.out _).mono ?_);rintro e w2 ⟨rfl,rfl⟩))
   go_ret
   exact ⟨tbool (by cases z <;> rfl),HB1.out⟩
theorem RowK.nameAt {K : Nat→Prop} {w : World} {a : Option Addr} {c : Nat} {l : List (List UInt8)} (h : RowK nameD K w (.slice a l.length c) l) {j : Nat} {b : List UInt8} (hj : l[j]?=some b) : ∃ g o,a=some ⟨g,o,none⟩∧w.cell? ⟨g,o+j,none⟩=some (.string (strB b)):=by
 obtain ⟨a',c',e,_,h⟩:=h
 injection e with e1 e2 e3
 obtain ⟨g,o,cs,ea,hg,hp,hc⟩:=h j b hj
 have hp' : cs=[.string (strB b)]:=hp
 subst hp'
 have:=hc 0 _ rfl
 exact ⟨g,o,e1.trans ea,by simpa [nameD] using this⟩
theorem containsRow_calls {K : Nat→Prop} {w : World} {a : Option Addr} {c : Nat} {l : List (List UInt8)} (h : RowK nameD K w (.slice a l.length c) l) (hl : l.length≤1000000) (m : Nat) (hm : m≤l.length) (c' : Nat) (x : List UInt8) :
 Calls Tryz.prog 109 #[.slice a m c',.string (strB x)] w fun e w'=>e=.returned (.bool (decide (x∈l.take m)))∧w'=w:=by
 by_cases h0 : m=0
 ·subst h0
  refine (Tryz.slices_Contains_string_empty a c' (strB x) w).mono ?_
  rintro e w' ⟨rfl,rfl⟩
  exact ⟨by simp,rfl⟩
 ·have h1 : ∃ b,l[0]?=some b:=⟨_,List.getElem?_eq_getElem (by omega)⟩
  obtain ⟨b0,hb0⟩:=h1
  obtain ⟨g,o,rfl,_⟩:=h.nameAt hb0
  refine (Tryz.slices_Contains_string g o m c' (l.map strB) (strB x) w (by simpa using hm) (by omega) (fun j hj=>?_)).mono ?_
  ·rw [List.length_map] at hj
   obtain ⟨g',o',e,h2⟩:=h.nameAt (List.getElem?_eq_getElem hj)
   injection e with e
   injection e with e1 e2
   subst e1 e2
   rw [h2]
   simp [List.getD,hj]
  ·rintro e w' ⟨rfl,rfl⟩
   refine ⟨?_,rfl⟩
   have e1 : containsS ((l.map strB).take m) (strB x)=decide (x∈l.take m):=by
    rw [← List.map_take,Bool.eq_iff_iff,containsS_iff,decide_eq_true_eq,List.mem_map]
    exact ⟨fun ⟨y,hy,e⟩=>by
     have : y=x:=by rw [← strB_list y,← strB_list x,e]
     rw [← this];exact hy,fun h=>⟨x,h,rfl⟩⟩
   rw [e1]
def UnTo (l : List (List UInt8)) (j : Nat) : Prop:=(∀ b∈l.take j,nameB b=true)∧(l.take j).Nodup
theorem UnTo.next {l : List (List UInt8)} {j : Nat} {x : List UInt8} (h : UnTo l j) (hx : l[j]?=some x) (h1 : nameB x=true) (h2 : x ∉ l.take j) : UnTo l (j+1):=by
 unfold UnTo
 rw [List.take_add_one,hx]
 refine ⟨fun b hb=>?_,?_⟩
 ·rcases List.mem_append.1 hb with hb|hb
  ·exact h.1 b hb
  ·obtain rfl : b=x:=by simpa using hb
   exact h1
 ·rw [List.nodup_append]
  exact ⟨h.2,by simp,fun a ha b hb=>by
   obtain rfl : b=x:=by simpa using hb
   exact fun e=>h2 (e ▸ ha)⟩
theorem unlikeB_name {l : List (List UInt8)} {j : Nat} {x : List UInt8} (hx : l[j]?=some x) (h1 : nameB x=false) : unlikeB l=false:=by
 unfold unlikeB
 have : l.all nameB=false:=List.all_eq_false.2 ⟨x,List.mem_of_getElem? hx,by simp [h1]⟩
 rw [this];rfl
theorem unlikeB_twice {l : List (List UInt8)} {j : Nat} {x : List UInt8} (hx : l[j]?=some x) (h2 : x∈l.take j) : unlikeB l=false:=by
 unfold unlikeB
 have : ¬ l.Nodup:=fun hn=>by
  have h3 : (l.take (j+1)).Nodup:=hn.sublist (List.take_sublist _ _)
  rw [List.take_add_one,hx,List.nodup_append] at h3
  exact h3.2.2 x h2 x (by simp) rfl
 simp [this]
theorem unlikeB_all {l : List (List UInt8)} (h : UnTo l l.length) : unlikeB l=true:=by
 obtain ⟨h1,h2⟩:=h
 rw [List.take_length] at h1 h2
 unfold unlikeB
 simp only [Bool.and_eq_true,List.all_eq_true,decide_eq_true_eq]
 exact ⟨h1,h2⟩
theorem names_upto (a : Option Addr) (n c m : Nat) (hm : m≤n) (hn : n≤c) (W : World) : (Instr.slice 33 (.slice a n c) none (some (.int .i64 m)) none).run Tryz.prog W=.ok (.slice a m c) W:=by
 have hz : (sizeOf 9).run Tryz.prog W=.ok 1 W:=by kernel_rfl
 rw [run_slice_h (P:=Tryz.prog) W 33 a n c (by kernel_rfl) .i64 (m : Int) (by omega) (by omega)]
 have he : Tryz.prog.elem 33=9:=by kernel_rfl
 rw [he,hz]
 cases a <;> simp [Result.andThen,sliced,Addr.add]
set_option maxHeartbeats 1000000 in
set_option maxRecDepth 100000 in
theorem unlike_calls {K : Nat→Prop} {w : World} {a : Option Addr} {c : Nat} {l : List (List UInt8)} (h : RowK nameD K w (.slice a l.length c) l) (hl : l.length≤1000000) (hb : ∀ b∈l,b.length≤1000000) :
 Calls Tryz.prog 70 #[.slice a l.length c] w fun e w'=>e=.returned (.bool (unlikeB l))∧Below w.heap.size w w':=by
 have hc:=h.cap
 have H:=hid h
 obtain ⟨q,hq⟩ : ∃ q,l.length=q:=⟨_,rfl⟩
 have HQ:=hid hq
 have HBD:=hid hb
 obtain ⟨z,hz⟩ : ∃ z,unlikeB l=z:=⟨_,rfl⟩
 have HZ:=hid hz
 rw [hz]
 rw [hq] at hc hl ⊢
 clear h hq hb hz
 go_enter Tryz.func70,Tryz.ntmps70
 go_wp2
 go_loopw [7] (fun i wr=>∃ j : Nat,i=.int .i64 j∧j≤q∧Hid (UnTo l j)∧Hid (Below w.heap.size w wr)) (fun i _=>q - (RowKit.intOf i).toNat)
 case atStart=>exact ⟨0,rfl,Nat.zero_le _,⟨fun b hb=>by simp at hb,by simp⟩,Below.refl _ _⟩
 case round =>
  obtain ⟨j,rfl,hj,HU,HB⟩:=hrel
  by_cases hlt : j < q
  ·obtain ⟨x,hx⟩ : ∃ x,l[j]?=some x:=⟨_,List.getElem?_eq_getElem (by rw [HQ.out];exact hlt)⟩
   have hr:=H.out.low HB.out
   obtain ⟨g,o,rfl,hcell⟩:=hr.nameAt hx
   have HN:=hid (nameOk_calls x wr (HBD.out x (List.mem_of_getElem? hx)))
   have HX:=hid hx
   cases hnm : nameB x with
   | false =>
     rw [hnm] at HN
     have hz0 : z=false:=HZ.out.symm.trans (unlikeB_name hx hnm)
     subst hz0
     clear hr hx hnm
     go_wp2_with (go_at_call 26;(with_reducible refine HN.out.mono ?_);rintro e w1 ⟨rfl,hb1⟩;have HB1:=hid (HB.out.trans (hb1.mono HB.out.size));clear hb1)
     go_ret
     exact ⟨rfl,HB1.out⟩
   | true =>
     rw [hnm] at HN
     have hsl:=names_upto (some ⟨g,o,none⟩) q c j (by omega) hc
     have hr':=hr
     rw [HQ.out] at hr'
     have HCT : Hid (∀ W,Below wr.heap.size wr W→Calls Tryz.prog 109 #[.slice (some ⟨g,o,none⟩) j c,.string (strB x)] W fun e w'=>e=.returned (.bool (decide (x∈l.take j)))∧w'=W):=fun W hW=>containsRow_calls (hr.low hW) (by rw [HQ.out];exact hl) j (by rw [HQ.out];exact hj) c x
     have HNM:=hid hnm
     obtain ⟨t,ht⟩ : ∃ t,decide (x∈l.take j)=t:=⟨_,rfl⟩
     rw [ht] at HCT
     have HT:=hid ht
     clear hr hr' hx hnm ht
     cases t with
     | true =>
       have hz0 : z=false:=HZ.out.symm.trans (unlikeB_twice HX.out (of_decide_eq_true HT.out))
       subst hz0
       go_wp2_with (first
        | (go_at_call 26;(with_reducible refine HN.out.mono ?_);rintro e w1 ⟨rfl,hb1⟩;have HB1:=hid (HB.out.trans (hb1.mono HB.out.size));have HC1:=hid (HCT.out _ hb1);clear hb1)
        | (go_at_call 109;(with_reducible refine HC1.out.mono ?_);rintro e w2 ⟨rfl,rfl⟩))
       go_ret
       exact ⟨rfl,HB1.out⟩
     | false =>
       have HU2:=hid (HU.out.next HX.out HNM.out (of_decide_eq_false HT.out))
       go_wp2_with (first
        | (go_at_call 26;(with_reducible refine HN.out.mono ?_);rintro e w1 ⟨rfl,hb1⟩;have HB1:=hid (HB.out.trans (hb1.mono HB.out.size));have HC1:=hid (HCT.out _ hb1);clear hb1)
        | (go_at_call 109;(with_reducible refine HC1.out.mono ?_);rintro e w2 ⟨rfl,rfl⟩))
       go_round
       case rel=>exact ⟨j+1,by go_num,by omega,HU2,HB1⟩
       case measure=>simp [RowKit.intOf];omega
  ·have hz0 : z=true:=HZ.out.symm.trans (unlikeB_all (by rw [HQ.out,show q=j by omega];exact HU.out))
   subst hz0
   go_wp2
   go_ret
   exact ⟨rfl,HB.out⟩
end Go.Proofs.YtefcbgnckgapgaaGreatDoor

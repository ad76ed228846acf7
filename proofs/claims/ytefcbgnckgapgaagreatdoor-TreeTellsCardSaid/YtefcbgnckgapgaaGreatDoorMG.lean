/- Queries in plain words: items, predicates and a query are read of their own tokens. | Queries: texts of expressions of two. | Queries: texts of expressions, all the way down. | Queries: texts of items and of predicates. -/
import Derived.Test.YtefcbgnckgapgaaGreatDoorM7
import Derived.Test.YtefcbgnckgapgaaGreatDoorM8
namespace Go.Proofs.YtefcbgnckgapgaaGreatDoor
open Go.Lib
section
variable {E n : Nat}
end
end Go.Proofs.YtefcbgnckgapgaaGreatDoor
namespace Go.Proofs.YtefcbgnckgapgaaGreatDoor
open Go.RowKit Go.Lib Go.Op
section
variable {w : World} {c : Nat} {v : PVal} {x f : List UInt8}
set_option maxHeartbeats 2000000 in
set_option maxRecDepth 100000 in
theorem xt_two7 {g o : Nat} {y z : PEx} {ay az : Option Addr} {qy cy qz cz : Nat} {t0 t1 : List UInt8} (hl0 : t0.length≤1000000) (hl1 : t1.length≤1000000) (yc0 : w.cell? ⟨g,o,none⟩=some (.int .i64 y.k)) (yc1 : w.cell? ⟨g,o+1,none⟩=some (.int .i64 y.v.k)) (yc2 : w.cell? ⟨g,o+2,none⟩=some (.int .i64 y.v.n)) (yc3 : w.cell? ⟨g,o+3,none⟩=some (.string (strB y.v.s))) (yc4 : w.cell? ⟨g,o+4,none⟩=some (.string (strB y.x))) (yc5 : w.cell? ⟨g,o+5,none⟩=some (.string (strB y.f))) (yc6 : w.cell? ⟨g,o+6,none⟩=some (.slice ay qy cy)) (zc0 : w.cell? ⟨g,o+7,none⟩=some (.int .i64 z.k)) (zc1 : w.cell? ⟨g,o+8,none⟩=some (.int .i64 z.v.k)) (zc2 : w.cell? ⟨g,o+9,none⟩=some (.int .i64 z.v.n)) (zc3 : w.cell? ⟨g,o+10,none⟩=some (.string (strB z.v.s))) (zc4 : w.cell? ⟨g,o+11,none⟩=some (.string (strB z.x))) (zc5 : w.cell? ⟨g,o+12,none⟩=some (.string (strB z.f))) (zc6 : w.cell? ⟨g,o+13,none⟩=some (.slice az qz cz))
 (h0 : ∀ W,Below w.heap.size w W→Calls Tryz.prog 66 #[exV y (.slice ay qy cy)] W fun e w'=>e=.returned (.string (strB t0))∧Below W.heap.size W w') (h1 : ∀ W,Below w.heap.size w W→Calls Tryz.prog 66 #[exV z (.slice az qz cz)] W fun e w'=>e=.returned (.string (strB t1))∧Below W.heap.size W w') :
 Calls Tryz.prog 66 #[.agg #[.int .i64 7,.int .i64 v.k,.int .i64 v.n,.string (strB v.s),.string (strB x),.string (strB f),.slice (some ⟨g,o,none⟩) 2 c]] w fun e w'=>e=.returned (.string (strB (t0++32 :: (atL sumsL 7++32 :: (if z.k=7∨z.k=8 then 40 :: (t1++[41]) else t1)))))∧Below w.heap.size w w':=by
 have hb0:=(Below.refl w.heap.size w).alloc (Nat.le_refl _) (.cells #[.int .i64 7,.int .i64 v.k,.int .i64 v.n,.string (strB v.s),.string (strB x),.string (strB f),.slice (some ⟨g,o,none⟩) 2 c] 40)
 have HB0:=hid hb0
 have hs0 : (strB t0).size≤1000000:=by rw [strB_size];exact hl0
 have hs1 : (strB t1).size≤1000000:=by rw [strB_size];exact hl1
 have hix : ∀ W : World,(Instr.index 65 (textsV sumsL) (.int .i64 7)).run Tryz.prog W=.ok (.string ⟨#[43]⟩) W:=fun W=>by kernel_rfl
 have HC:=hid (fun W=>sums_calls W)
 have H0:=hid h0
 have H1:=hid h1
 simp only [xexV] at H0 H1
 have y32 : (⟨#[32]⟩ : ByteArray).size=1:=rfl
 have y40 : (⟨#[40]⟩ : ByteArray).size=1:=rfl
 have y41 : (⟨#[41]⟩ : ByteArray).size=1:=rfl
 have ysg : (⟨#[43]⟩ : ByteArray).size=1:=rfl
 have HD:=hid (fun W=>double_calls z.k W)
 by_cases hz : z.k=7∨z.k=8
 ·have HR : Hid (strB t0++⟨#[32]⟩++⟨#[43]⟩++⟨#[32]⟩++((⟨#[40]⟩ : ByteArray)++strB t1++⟨#[41]⟩)=strB (t0++32 :: (atL sumsL 7++32 :: (40 :: (t1++[41]))))):=by
   show strB t0++strB [32]++strB [43]++strB [32]++(strB [40]++strB t1++strB [41])=_
   rw [catT,catT,catT,catT,catT,catT]
   show strB _=strB (t0++32 :: ([43]++32 :: (40 :: (t1++[41]))))
   simp only [List.append_assoc,List.cons_append,List.nil_append]
  rw [if_pos hz]
  rw [decide_eq_true hz] at HD
  clear h0 h1 hl0 hl1 hz
  have zz0 : (w.alloc (.cells #[.int .i64 7,.int .i64 v.k,.int .i64 v.n,.string (strB v.s),.string (strB x),.string (strB f),.slice (some ⟨g,o,none⟩) 2 c] 40)).cell? ⟨g,o+7,none⟩=some (.int .i64 z.k):=tkeep hb0 zc0
  have zz1 : (w.alloc (.cells #[.int .i64 7,.int .i64 v.k,.int .i64 v.n,.string (strB v.s),.string (strB x),.string (strB f),.slice (some ⟨g,o,none⟩) 2 c] 40)).cell? ⟨g,o+7+1,none⟩=some (.int .i64 z.v.k):=tkeep hb0 zc1
  have zz2 : (w.alloc (.cells #[.int .i64 7,.int .i64 v.k,.int .i64 v.n,.string (strB v.s),.string (strB x),.string (strB f),.slice (some ⟨g,o,none⟩) 2 c] 40)).cell? ⟨g,o+7+2,none⟩=some (.int .i64 z.v.n):=tkeep hb0 zc2
  have zz3 : (w.alloc (.cells #[.int .i64 7,.int .i64 v.k,.int .i64 v.n,.string (strB v.s),.string (strB x),.string (strB f),.slice (some ⟨g,o,none⟩) 2 c] 40)).cell? ⟨g,o+7+3,none⟩=some (.string (strB z.v.s)):=tkeep hb0 zc3
  have zz4 : (w.alloc (.cells #[.int .i64 7,.int .i64 v.k,.int .i64 v.n,.string (strB v.s),.string (strB x),.string (strB f),.slice (some ⟨g,o,none⟩) 2 c] 40)).cell? ⟨g,o+7+4,none⟩=some (.string (strB z.x)):=tkeep hb0 zc4
  have zz5 : (w.alloc (.cells #[.int .i64 7,.int .i64 v.k,.int .i64 v.n,.string (strB v.s),.string (strB x),.string (strB f),.slice (some ⟨g,o,none⟩) 2 c] 40)).cell? ⟨g,o+7+5,none⟩=some (.string (strB z.f)):=tkeep hb0 zc5
  have zz6 : (w.alloc (.cells #[.int .i64 7,.int .i64 v.k,.int .i64 v.n,.string (strB v.s),.string (strB x),.string (strB f),.slice (some ⟨g,o,none⟩) 2 c] 40)).cell? ⟨g,o+7+6,none⟩=some (.slice az qz cz):=tkeep hb0 zc6
  go_enter Tryz.func66,Tryz.ntmps66
  go_wp2_with fail
  clear zz0 zz1 zz2 zz3 zz4 zz5 zz6
  (with_reducible refine (H1.out _ HB0.out).mono ?_)
  rintro e w1 ⟨rfl,hb1⟩
  have m0:=tkeep hb1 (tnew w #[.int .i64 7,.int .i64 v.k,.int .i64 v.n,.string (strB v.s),.string (strB x),.string (strB f),.slice (some ⟨g,o,none⟩) 2 c] 40 0 rfl)
  have m6:=tkeep hb1 (tnew w #[.int .i64 7,.int .i64 v.k,.int .i64 v.n,.string (strB v.s),.string (strB x),.string (strB f),.slice (some ⟨g,o,none⟩) 2 c] 40 6 rfl)
  have z0 : w1.cell? ⟨g,o+7,none⟩=some (.int .i64 z.k):=tkeep hb1 (tkeep hb0 zc0)
  have y0:=tkeep hb1 (tkeep hb0 yc0)
  have y1:=tkeep hb1 (tkeep hb0 yc1)
  have y2:=tkeep hb1 (tkeep hb0 yc2)
  have y3:=tkeep hb1 (tkeep hb0 yc3)
  have y4:=tkeep hb1 (tkeep hb0 yc4)
  have y5:=tkeep hb1 (tkeep hb0 yc5)
  have y6:=tkeep hb1 (tkeep hb0 yc6)
  have HB1:=hid (HB0.out.trans (hb1.mono HB0.out.size))
  clear hb1
  go_wp2_with fail
  (with_reducible refine (HD.out _).mono ?_)
  rintro e w2 ⟨rfl,rfl⟩
  clear yc0 zc0 yc1 zc1 yc2 zc2 yc3 zc3 yc4 zc4 yc5 zc5 yc6 zc6 hb0
  have q0 : w1.drew.cell? ⟨w.heap.size,0,none⟩=some (.int .i64 7):=m0
  have q6 : w1.drew.cell? ⟨w.heap.size,6,none⟩=some (.slice (some ⟨g,o,none⟩) 2 c):=m6
  have d0 : w1.drew.cell? ⟨g,o,none⟩=some (.int .i64 y.k):=y0
  have d1 : w1.drew.cell? ⟨g,o+1,none⟩=some (.int .i64 y.v.k):=y1
  have d2 : w1.drew.cell? ⟨g,o+2,none⟩=some (.int .i64 y.v.n):=y2
  have d3 : w1.drew.cell? ⟨g,o+3,none⟩=some (.string (strB y.v.s)):=y3
  have d4 : w1.drew.cell? ⟨g,o+4,none⟩=some (.string (strB y.x)):=y4
  have d5 : w1.drew.cell? ⟨g,o+5,none⟩=some (.string (strB y.f)):=y5
  have d6 : w1.drew.cell? ⟨g,o+6,none⟩=some (.slice ay qy cy):=y6
  go_wp2_with fail
  clear m0 m6 z0 y0 y1 y2 y3 y4 y5 y6
  refine wp_region_held_drew (S:=fun W=>W.cell? ⟨w.heap.size,0,none⟩=some (.int .i64 7)∧W.cell? ⟨w.heap.size,6,none⟩=some (.slice (some ⟨g,o,none⟩) 2 c)∧W.cell? ⟨g,o,none⟩=some (.int .i64 y.k)∧W.cell? ⟨g,o+1,none⟩=some (.int .i64 y.v.k)∧W.cell? ⟨g,o+2,none⟩=some (.int .i64 y.v.n)∧W.cell? ⟨g,o+3,none⟩=some (.string (strB y.v.s))∧W.cell? ⟨g,o+4,none⟩=some (.string (strB y.x))∧W.cell? ⟨g,o+5,none⟩=some (.string (strB y.f))∧W.cell? ⟨g,o+6,none⟩=some (.slice ay qy cy)) (by kernel_rfl) ⟨q0,q6,d0,d1,d2,d3,d4,d5,d6⟩ (fun hHeld=>?_)
  refine tK 0 61 (h:=?_)
  try simp only [Act.put,sI,sZ,sS]
  refine tK 1 62 (h:=?_)
  try simp only [Act.put,sI,sZ,sS]
  refine tK 2 63 (h:=?_)
  try simp only [Act.put,sI,sZ,sS]
  refine tK 3 64 (h:=?_)
  try simp only [Act.put,sI,sZ,sS]
  refine tK 7 68 (h:=?_)
  try simp only [Act.put,sI,sZ,sS]
  refine tK 8 69 (h:=?_)
  try simp only [Act.put,sI,sZ,sS]
  refine tK 12 73 (h:=?_)
  try simp only [Act.put,sI,sZ,sS]
  refine wpAnyH_ready (rs:=[4]) (by kernel_rfl) (by simp) ?_
  refine AllReadyH.cons (o:=_) rfl (fun K hK=>?_) AllReadyH.nil
  dsimp only [List.getElem_toArray,List.getElem_cons_succ,List.getElem_cons_zero]
  go_simp
  go_at_call 66
  (with_reducible refine (H0.out _ (vbelow_drew HB1.out)).mono ?_)
  rintro e w3 ⟨rfl,hb3⟩
  have HB3:=hid ((vbelow_drew HB1.out).trans (hb3.mono (show _≤w1.drew.heap.size from HB1.out.size)))
  have p0:=tkeep hb3 q0
  have p6:=tkeep hb3 q6
  have u0:=tkeep hb3 d0
  have u1:=tkeep hb3 d1
  have u2:=tkeep hb3 d2
  have u3:=tkeep hb3 d3
  have u4:=tkeep hb3 d4
  have u5:=tkeep hb3 d5
  have u6:=tkeep hb3 d6
  clear hb3
  go_wp2_with fail
  refine hK.out _ _ ⟨p0,p6,u0,u1,u2,u3,u4,u5,u6⟩ (fun hHelda4=>?_)
  clear hK K
  try simp only [Act.put,sI,sZ,sS]
  refine tK 5 66 (h:=?_)
  try simp only [Act.put,sI,sZ,sS]
  refine wpAnyH_ready (rs:=[6]) (by kernel_rfl) (by simp) ?_
  refine AllReadyH.cons (o:=_) rfl (fun K hK=>?_) AllReadyH.nil
  dsimp only [List.getElem_toArray,List.getElem_cons_succ,List.getElem_cons_zero]
  go_simp
  go_at_call 104
  (with_reducible refine (HC.out _).mono ?_)
  rintro e w4 ⟨rfl,hb4⟩
  have HB4:=hid (HB3.out.trans (hb4.mono HB3.out.size))
  have p0':=tkeep hb4 p0
  have p6':=tkeep hb4 p6
  have u0':=tkeep hb4 u0
  have u1':=tkeep hb4 u1
  have u2':=tkeep hb4 u2
  have u3':=tkeep hb4 u3
  have u4':=tkeep hb4 u4
  have u5':=tkeep hb4 u5
  have u6':=tkeep hb4 u6
  clear hb4
  go_wp2_with fail
  refine hK.out _ _ ⟨p0',p6',u0',u1',u2',u3',u4',u5',u6'⟩ (fun hHelda6=>?_)
  clear hK K
  try simp only [Act.put,sI,sZ,sS]
  refine tK 9 70 (h:=?_)
  try simp only [Act.put,sI,sZ,sS]
  refine tK 10 71 (h:=?_)
  try simp only [Act.put,sI,sZ,sS]
  refine tK 11 72 (h:=?_)
  try simp only [Act.put,sI,sZ,sS]
  refine tK 13 74 (h:=?_)
  try simp only [Act.put,sI,sZ,sS]
  refine tK 14 2 (h:=?_)
  try simp only [Act.put,sI,sZ,sS]
  refine wpAnyH_done (by kernel_rfl) ?_ _
  go_wp2
  go_ret
  exact ⟨by rw [← HR.out];rfl,HB4.out⟩
 ·have HR : Hid (strB t0++⟨#[32]⟩++⟨#[43]⟩++⟨#[32]⟩++strB t1=strB (t0++32 :: (atL sumsL 7++32 :: t1))):=by
   show strB t0++strB [32]++strB [43]++strB [32]++strB t1=_
   rw [catT,catT,catT,catT]
   show strB _=strB (t0++32 :: ([43]++32 :: t1))
   simp only [List.append_assoc,List.cons_append,List.nil_append]
  rw [if_neg hz]
  rw [decide_eq_false hz] at HD
  clear h0 h1 hl0 hl1 hz
  have zz0 : (w.alloc (.cells #[.int .i64 7,.int .i64 v.k,.int .i64 v.n,.string (strB v.s),.string (strB x),.string (strB f),.slice (some ⟨g,o,none⟩) 2 c] 40)).cell? ⟨g,o+7,none⟩=some (.int .i64 z.k):=tkeep hb0 zc0
  have zz1 : (w.alloc (.cells #[.int .i64 7,.int .i64 v.k,.int .i64 v.n,.string (strB v.s),.string (strB x),.string (strB f),.slice (some ⟨g,o,none⟩) 2 c] 40)).cell? ⟨g,o+7+1,none⟩=some (.int .i64 z.v.k):=tkeep hb0 zc1
  have zz2 : (w.alloc (.cells #[.int .i64 7,.int .i64 v.k,.int .i64 v.n,.string (strB v.s),.string (strB x),.string (strB f),.slice (some ⟨g,o,none⟩) 2 c] 40)).cell? ⟨g,o+7+2,none⟩=some (.int .i64 z.v.n):=tkeep hb0 zc2
  have zz3 : (w.alloc (.cells #[.int .i64 7,.int .i64 v.k,.int .i64 v.n,.string (strB v.s),.string (strB x),.string (strB f),.slice (some ⟨g,o,none⟩) 2 c] 40)).cell? ⟨g,o+7+3,none⟩=some (.string (strB z.v.s)):=tkeep hb0 zc3
  have zz4 : (w.alloc (.cells #[.int .i64 7,.int .i64 v.k,.int .i64 v.n,.string (strB v.s),.string (strB x),.string (strB f),.slice (some ⟨g,o,none⟩) 2 c] 40)).cell? ⟨g,o+7+4,none⟩=some (.string (strB z.x)):=tkeep hb0 zc4
  have zz5 : (w.alloc (.cells #[.int .i64 7,.int .i64 v.k,.int .i64 v.n,.string (strB v.s),.string (strB x),.string (strB f),.slice (some ⟨g,o,none⟩) 2 c] 40)).cell? ⟨g,o+7+5,none⟩=some (.string (strB z.f)):=tkeep hb0 zc5
  have zz6 : (w.alloc (.cells #[.int .i64 7,.int .i64 v.k,.int .i64 v.n,.string (strB v.s),.string (strB x),.string (strB f),.slice (some ⟨g,o,none⟩) 2 c] 40)).cell? ⟨g,o+7+6,none⟩=some (.slice az qz cz):=tkeep hb0 zc6
  go_enter Tryz.func66,Tryz.ntmps66
  go_wp2_with fail
  clear zz0 zz1 zz2 zz3 zz4 zz5 zz6
  (with_reducible refine (H1.out _ HB0.out).mono ?_)
  rintro e w1 ⟨rfl,hb1⟩
  have m0:=tkeep hb1 (tnew w #[.int .i64 7,.int .i64 v.k,.int .i64 v.n,.string (strB v.s),.string (strB x),.string (strB f),.slice (some ⟨g,o,none⟩) 2 c] 40 0 rfl)
  have m6:=tkeep hb1 (tnew w #[.int .i64 7,.int .i64 v.k,.int .i64 v.n,.string (strB v.s),.string (strB x),.string (strB f),.slice (some ⟨g,o,none⟩) 2 c] 40 6 rfl)
  have z0 : w1.cell? ⟨g,o+7,none⟩=some (.int .i64 z.k):=tkeep hb1 (tkeep hb0 zc0)
  have y0:=tkeep hb1 (tkeep hb0 yc0)
  have y1:=tkeep hb1 (tkeep hb0 yc1)
  have y2:=tkeep hb1 (tkeep hb0 yc2)
  have y3:=tkeep hb1 (tkeep hb0 yc3)
  have y4:=tkeep hb1 (tkeep hb0 yc4)
  have y5:=tkeep hb1 (tkeep hb0 yc5)
  have y6:=tkeep hb1 (tkeep hb0 yc6)
  have HB1:=hid (HB0.out.trans (hb1.mono HB0.out.size))
  clear hb1
  go_wp2_with fail
  (with_reducible refine (HD.out _).mono ?_)
  rintro e w2 ⟨rfl,rfl⟩
  clear yc0 zc0 yc1 zc1 yc2 zc2 yc3 zc3 yc4 zc4 yc5 zc5 yc6 zc6 hb0
  have q0 : w1.drew.cell? ⟨w.heap.size,0,none⟩=some (.int .i64 7):=m0
  have q6 : w1.drew.cell? ⟨w.heap.size,6,none⟩=some (.slice (some ⟨g,o,none⟩) 2 c):=m6
  have d0 : w1.drew.cell? ⟨g,o,none⟩=some (.int .i64 y.k):=y0
  have d1 : w1.drew.cell? ⟨g,o+1,none⟩=some (.int .i64 y.v.k):=y1
  have d2 : w1.drew.cell? ⟨g,o+2,none⟩=some (.int .i64 y.v.n):=y2
  have d3 : w1.drew.cell? ⟨g,o+3,none⟩=some (.string (strB y.v.s)):=y3
  have d4 : w1.drew.cell? ⟨g,o+4,none⟩=some (.string (strB y.x)):=y4
  have d5 : w1.drew.cell? ⟨g,o+5,none⟩=some (.string (strB y.f)):=y5
  have d6 : w1.drew.cell? ⟨g,o+6,none⟩=some (.slice ay qy cy):=y6
  go_wp2_with fail
  clear m0 m6 z0 y0 y1 y2 y3 y4 y5 y6
  refine wp_region_held_drew (S:=fun W=>W.cell? ⟨w.heap.size,0,none⟩=some (.int .i64 7)∧W.cell? ⟨w.heap.size,6,none⟩=some (.slice (some ⟨g,o,none⟩) 2 c)∧W.cell? ⟨g,o,none⟩=some (.int .i64 y.k)∧W.cell? ⟨g,o+1,none⟩=some (.int .i64 y.v.k)∧W.cell? ⟨g,o+2,none⟩=some (.int .i64 y.v.n)∧W.cell? ⟨g,o+3,none⟩=some (.string (strB y.v.s))∧W.cell? ⟨g,o+4,none⟩=some (.string (strB y.x))∧W.cell? ⟨g,o+5,none⟩=some (.string (strB y.f))∧W.cell? ⟨g,o+6,none⟩=some (.slice ay qy cy)) (by kernel_rfl) ⟨q0,q6,d0,d1,d2,d3,d4,d5,d6⟩ (fun hHeld=>?_)
  refine tK 0 61 (h:=?_)
  try simp only [Act.put,sI,sZ,sS]
  refine tK 1 62 (h:=?_)
  try simp only [Act.put,sI,sZ,sS]
  refine tK 2 63 (h:=?_)
  try simp only [Act.put,sI,sZ,sS]
  refine tK 3 64 (h:=?_)
  try simp only [Act.put,sI,sZ,sS]
  refine tK 7 68 (h:=?_)
  try simp only [Act.put,sI,sZ,sS]
  refine tK 8 69 (h:=?_)
  try simp only [Act.put,sI,sZ,sS]
  refine tK 12 73 (h:=?_)
  try simp only [Act.put,sI,sZ,sS]
  refine wpAnyH_ready (rs:=[4]) (by kernel_rfl) (by simp) ?_
  refine AllReadyH.cons (o:=_) rfl (fun K hK=>?_) AllReadyH.nil
  dsimp only [List.getElem_toArray,List.getElem_cons_succ,List.getElem_cons_zero]
  go_simp
  go_at_call 66
  (with_reducible refine (H0.out _ (vbelow_drew HB1.out)).mono ?_)
  rintro e w3 ⟨rfl,hb3⟩
  have HB3:=hid ((vbelow_drew HB1.out).trans (hb3.mono (show _≤w1.drew.heap.size from HB1.out.size)))
  have p0:=tkeep hb3 q0
  have p6:=tkeep hb3 q6
  have u0:=tkeep hb3 d0
  have u1:=tkeep hb3 d1
  have u2:=tkeep hb3 d2
  have u3:=tkeep hb3 d3
  have u4:=tkeep hb3 d4
  have u5:=tkeep hb3 d5
  have u6:=tkeep hb3 d6
  clear hb3
  go_wp2_with fail
  refine hK.out _ _ ⟨p0,p6,u0,u1,u2,u3,u4,u5,u6⟩ (fun hHeldb4=>?_)
  clear hK K
  try simp only [Act.put,sI,sZ,sS]
  refine tK 5 66 (h:=?_)
  try simp only [Act.put,sI,sZ,sS]
  refine wpAnyH_ready (rs:=[6]) (by kernel_rfl) (by simp) ?_
  refine AllReadyH.cons (o:=_) rfl (fun K hK=>?_) AllReadyH.nil
  dsimp only [List.getElem_toArray,List.getElem_cons_succ,List.getElem_cons_zero]
  go_simp
  go_at_call 104
  (with_reducible refine (HC.out _).mono ?_)
  rintro e w4 ⟨rfl,hb4⟩
  have HB4:=hid (HB3.out.trans (hb4.mono HB3.out.size))
  have p0':=tkeep hb4 p0
  have p6':=tkeep hb4 p6
  have u0':=tkeep hb4 u0
  have u1':=tkeep hb4 u1
  have u2':=tkeep hb4 u2
  have u3':=tkeep hb4 u3
  have u4':=tkeep hb4 u4
  have u5':=tkeep hb4 u5
  have u6':=tkeep hb4 u6
  clear hb4
  go_wp2_with fail
  refine hK.out _ _ ⟨p0',p6',u0',u1',u2',u3',u4',u5',u6'⟩ (fun hHeldb6=>?_)
  clear hK K
  try simp only [Act.put,sI,sZ,sS]
  refine tK 9 70 (h:=?_)
  try simp only [Act.put,sI,sZ,sS]
  refine tK 10 71 (h:=?_)
  try simp only [Act.put,sI,sZ,sS]
  refine tK 11 72 (h:=?_)
  try simp only [Act.put,sI,sZ,sS]
  refine tK 13 74 (h:=?_)
  try simp only [Act.put,sI,sZ,sS]
  refine tK 14 2 (h:=?_)
  try simp only [Act.put,sI,sZ,sS]
  refine wpAnyH_done (by kernel_rfl) ?_ _
  go_wp2
  go_ret
  exact ⟨by rw [← HR.out];rfl,HB4.out⟩
set_option maxHeartbeats 2000000 in
set_option maxRecDepth 100000 in
theorem xt_two8 {g o : Nat} {y z : PEx} {ay az : Option Addr} {qy cy qz cz : Nat} {t0 t1 : List UInt8} (hl0 : t0.length≤1000000) (hl1 : t1.length≤1000000) (yc0 : w.cell? ⟨g,o,none⟩=some (.int .i64 y.k)) (yc1 : w.cell? ⟨g,o+1,none⟩=some (.int .i64 y.v.k)) (yc2 : w.cell? ⟨g,o+2,none⟩=some (.int .i64 y.v.n)) (yc3 : w.cell? ⟨g,o+3,none⟩=some (.string (strB y.v.s))) (yc4 : w.cell? ⟨g,o+4,none⟩=some (.string (strB y.x))) (yc5 : w.cell? ⟨g,o+5,none⟩=some (.string (strB y.f))) (yc6 : w.cell? ⟨g,o+6,none⟩=some (.slice ay qy cy)) (zc0 : w.cell? ⟨g,o+7,none⟩=some (.int .i64 z.k)) (zc1 : w.cell? ⟨g,o+8,none⟩=some (.int .i64 z.v.k)) (zc2 : w.cell? ⟨g,o+9,none⟩=some (.int .i64 z.v.n)) (zc3 : w.cell? ⟨g,o+10,none⟩=some (.string (strB z.v.s))) (zc4 : w.cell? ⟨g,o+11,none⟩=some (.string (strB z.x))) (zc5 : w.cell? ⟨g,o+12,none⟩=some (.string (strB z.f))) (zc6 : w.cell? ⟨g,o+13,none⟩=some (.slice az qz cz))
 (h0 : ∀ W,Below w.heap.size w W→Calls Tryz.prog 66 #[exV y (.slice ay qy cy)] W fun e w'=>e=.returned (.string (strB t0))∧Below W.heap.size W w') (h1 : ∀ W,Below w.heap.size w W→Calls Tryz.prog 66 #[exV z (.slice az qz cz)] W fun e w'=>e=.returned (.string (strB t1))∧Below W.heap.size W w') :
 Calls Tryz.prog 66 #[.agg #[.int .i64 8,.int .i64 v.k,.int .i64 v.n,.string (strB v.s),.string (strB x),.string (strB f),.slice (some ⟨g,o,none⟩) 2 c]] w fun e w'=>e=.returned (.string (strB (t0++32 :: (atL sumsL 8++32 :: (if z.k=7∨z.k=8 then 40 :: (t1++[41]) else t1)))))∧Below w.heap.size w w':=by
 have hb0:=(Below.refl w.heap.size w).alloc (Nat.le_refl _) (.cells #[.int .i64 8,.int .i64 v.k,.int .i64 v.n,.string (strB v.s),.string (strB x),.string (strB f),.slice (some ⟨g,o,none⟩) 2 c] 40)
 have HB0:=hid hb0
 have hs0 : (strB t0).size≤1000000:=by rw [strB_size];exact hl0
 have hs1 : (strB t1).size≤1000000:=by rw [strB_size];exact hl1
 have hix : ∀ W : World,(Instr.index 65 (textsV sumsL) (.int .i64 8)).run Tryz.prog W=.ok (.string ⟨#[45]⟩) W:=fun W=>by kernel_rfl
 have HC:=hid (fun W=>sums_calls W)
 have H0:=hid h0
 have H1:=hid h1
 simp only [xexV] at H0 H1
 have y32 : (⟨#[32]⟩ : ByteArray).size=1:=rfl
 have y40 : (⟨#[40]⟩ : ByteArray).size=1:=rfl
 have y41 : (⟨#[41]⟩ : ByteArray).size=1:=rfl
 have ysg : (⟨#[45]⟩ : ByteArray).size=1:=rfl
 have HD:=hid (fun W=>double_calls z.k W)
 by_cases hz : z.k=7∨z.k=8
 ·have HR : Hid (strB t0++⟨#[32]⟩++⟨#[45]⟩++⟨#[32]⟩++((⟨#[40]⟩ : ByteArray)++strB t1++⟨#[41]⟩)=strB (t0++32 :: (atL sumsL 8++32 :: (40 :: (t1++[41]))))):=by
   show strB t0++strB [32]++strB [45]++strB [32]++(strB [40]++strB t1++strB [41])=_
   rw [catT,catT,catT,catT,catT,catT]
   show strB _=strB (t0++32 :: ([45]++32 :: (40 :: (t1++[41]))))
   simp only [List.append_assoc,List.cons_append,List.nil_append]
  rw [if_pos hz]
  rw [decide_eq_true hz] at HD
  clear h0 h1 hl0 hl1 hz
  have zz0 : (w.alloc (.cells #[.int .i64 8,.int .i64 v.k,.int .i64 v.n,.string (strB v.s),.string (strB x),.string (strB f),.slice (some ⟨g,o,none⟩) 2 c] 40)).cell? ⟨g,o+7,none⟩=some (.int .i64 z.k):=tkeep hb0 zc0
  have zz1 : (w.alloc (.cells #[.int .i64 8,.int .i64 v.k,.int .i64 v.n,.string (strB v.s),.string (strB x),.string (strB f),.slice (some ⟨g,o,none⟩) 2 c] 40)).cell? ⟨g,o+7+1,none⟩=some (.int .i64 z.v.k):=tkeep hb0 zc1
  have zz2 : (w.alloc (.cells #[.int .i64 8,.int .i64 v.k,.int .i64 v.n,.string (strB v.s),.string (strB x),.string (strB f),.slice (some ⟨g,o,none⟩) 2 c] 40)).cell? ⟨g,o+7+2,none⟩=some (.int .i64 z.v.n):=tkeep hb0 zc2
  have zz3 : (w.alloc (.cells #[.int .i64 8,.int .i64 v.k,.int .i64 v.n,.string (strB v.s),.string (strB x),.string (strB f),.slice (some ⟨g,o,none⟩) 2 c] 40)).cell? ⟨g,o+7+3,none⟩=some (.string (strB z.v.s)):=tkeep hb0 zc3
  have zz4 : (w.alloc (.cells #[.int .i64 8,.int .i64 v.k,.int .i64 v.n,.string (strB v.s),.string (strB x),.string (strB f),.slice (some ⟨g,o,none⟩) 2 c] 40)).cell? ⟨g,o+7+4,none⟩=some (.string (strB z.x)):=tkeep hb0 zc4
  have zz5 : (w.alloc (.cells #[.int .i64 8,.int .i64 v.k,.int .i64 v.n,.string (strB v.s),.string (strB x),.string (strB f),.slice (some ⟨g,o,none⟩) 2 c] 40)).cell? ⟨g,o+7+5,none⟩=some (.string (strB z.f)):=tkeep hb0 zc5
  have zz6 : (w.alloc (.cells #[.int .i64 8,.int .i64 v.k,.int .i64 v.n,.string (strB v.s),.string (strB x),.string (strB f),.slice (some ⟨g,o,none⟩) 2 c] 40)).cell? ⟨g,o+7+6,none⟩=some (.slice az qz cz):=tkeep hb0 zc6
  go_enter Tryz.func66,Tryz.ntmps66
  go_wp2_with fail
  clear zz0 zz1 zz2 zz3 zz4 zz5 zz6
  (with_reducible refine (H1.out _ HB0.out).mono ?_)
  rintro e w1 ⟨rfl,hb1⟩
  have m0:=tkeep hb1 (tnew w #[.int .i64 8,.int .i64 v.k,.int .i64 v.n,.string (strB v.s),.string (strB x),.string (strB f),.slice (some ⟨g,o,none⟩) 2 c] 40 0 rfl)
  have m6:=tkeep hb1 (tnew w #[.int .i64 8,.int .i64 v.k,.int .i64 v.n,.string (strB v.s),.string (strB x),.string (strB f),.slice (some ⟨g,o,none⟩) 2 c] 40 6 rfl)
  have z0 : w1.cell? ⟨g,o+7,none⟩=some (.int .i64 z.k):=tkeep hb1 (tkeep hb0 zc0)
  have y0:=tkeep hb1 (tkeep hb0 yc0)
  have y1:=tkeep hb1 (tkeep hb0 yc1)
  have y2:=tkeep hb1 (tkeep hb0 yc2)
  have y3:=tkeep hb1 (tkeep hb0 yc3)
  have y4:=tkeep hb1 (tkeep hb0 yc4)
  have y5:=tkeep hb1 (tkeep hb0 yc5)
  have y6:=tkeep hb1 (tkeep hb0 yc6)
  have HB1:=hid (HB0.out.trans (hb1.mono HB0.out.size))
  clear hb1
  go_wp2_with fail
  (with_reducible refine (HD.out _).mono ?_)
  rintro e w2 ⟨rfl,rfl⟩
  clear yc0 zc0 yc1 zc1 yc2 zc2 yc3 zc3 yc4 zc4 yc5 zc5 yc6 zc6 hb0
  have q0 : w1.drew.cell? ⟨w.heap.size,0,none⟩=some (.int .i64 8):=m0
  have q6 : w1.drew.cell? ⟨w.heap.size,6,none⟩=some (.slice (some ⟨g,o,none⟩) 2 c):=m6
  have d0 : w1.drew.cell? ⟨g,o,none⟩=some (.int .i64 y.k):=y0
  have d1 : w1.drew.cell? ⟨g,o+1,none⟩=some (.int .i64 y.v.k):=y1
  have d2 : w1.drew.cell? ⟨g,o+2,none⟩=some (.int .i64 y.v.n):=y2
  have d3 : w1.drew.cell? ⟨g,o+3,none⟩=some (.string (strB y.v.s)):=y3
  have d4 : w1.drew.cell? ⟨g,o+4,none⟩=some (.string (strB y.x)):=y4
  have d5 : w1.drew.cell? ⟨g,o+5,none⟩=some (.string (strB y.f)):=y5
  have d6 : w1.drew.cell? ⟨g,o+6,none⟩=some (.slice ay qy cy):=y6
  go_wp2_with fail
  clear m0 m6 z0 y0 y1 y2 y3 y4 y5 y6
  refine wp_region_held_drew (S:=fun W=>W.cell? ⟨w.heap.size,0,none⟩=some (.int .i64 8)∧W.cell? ⟨w.heap.size,6,none⟩=some (.slice (some ⟨g,o,none⟩) 2 c)∧W.cell? ⟨g,o,none⟩=some (.int .i64 y.k)∧W.cell? ⟨g,o+1,none⟩=some (.int .i64 y.v.k)∧W.cell? ⟨g,o+2,none⟩=some (.int .i64 y.v.n)∧W.cell? ⟨g,o+3,none⟩=some (.string (strB y.v.s))∧W.cell? ⟨g,o+4,none⟩=some (.string (strB y.x))∧W.cell? ⟨g,o+5,none⟩=some (.string (strB y.f))∧W.cell? ⟨g,o+6,none⟩=some (.slice ay qy cy)) (by kernel_rfl) ⟨q0,q6,d0,d1,d2,d3,d4,d5,d6⟩ (fun hHeld=>?_)
  refine tK 0 61 (h:=?_)
  try simp only [Act.put,sI,sZ,sS]
  refine tK 1 62 (h:=?_)
  try simp only [Act.put,sI,sZ,sS]
  refine tK 2 63 (h:=?_)
  try simp only [Act.put,sI,sZ,sS]
  refine tK 3 64 (h:=?_)
  try simp only [Act.put,sI,sZ,sS]
  refine tK 7 68 (h:=?_)
  try simp only [Act.put,sI,sZ,sS]
  refine tK 8 69 (h:=?_)
  try simp only [Act.put,sI,sZ,sS]
  refine tK 12 73 (h:=?_)
  try simp only [Act.put,sI,sZ,sS]
  refine wpAnyH_ready (rs:=[4]) (by kernel_rfl) (by simp) ?_
  refine AllReadyH.cons (o:=_) rfl (fun K hK=>?_) AllReadyH.nil
  dsimp only [List.getElem_toArray,List.getElem_cons_succ,List.getElem_cons_zero]
  go_simp
  go_at_call 66
  (with_reducible refine (H0.out _ (vbelow_drew HB1.out)).mono ?_)
  rintro e w3 ⟨rfl,hb3⟩
  have HB3:=hid ((vbelow_drew HB1.out).trans (hb3.mono (show _≤w1.drew.heap.size from HB1.out.size)))
  have p0:=tkeep hb3 q0
  have p6:=tkeep hb3 q6
  have u0:=tkeep hb3 d0
  have u1:=tkeep hb3 d1
  have u2:=tkeep hb3 d2
  have u3:=tkeep hb3 d3
  have u4:=tkeep hb3 d4
  have u5:=tkeep hb3 d5
  have u6:=tkeep hb3 d6
  clear hb3
  go_wp2_with fail
  refine hK.out _ _ ⟨p0,p6,u0,u1,u2,u3,u4,u5,u6⟩ (fun hHelda4=>?_)
  clear hK K
  try simp only [Act.put,sI,sZ,sS]
  refine tK 5 66 (h:=?_)
  try simp only [Act.put,sI,sZ,sS]
  refine wpAnyH_ready (rs:=[6]) (by kernel_rfl) (by simp) ?_
  refine AllReadyH.cons (o:=_) rfl (fun K hK=>?_) AllReadyH.nil
  dsimp only [List.getElem_toArray,List.getElem_cons_succ,List.getElem_cons_zero]
  go_simp
  go_at_call 104
  (with_reducible refine (HC.out _).mono ?_)
  rintro e w4 ⟨rfl,hb4⟩
  have HB4:=hid (HB3.out.trans (hb4.mono HB3.out.size))
  have p0':=tkeep hb4 p0
  have p6':=tkeep hb4 p6
  have u0':=tkeep hb4 u0
  have u1':=tkeep hb4 u1
  have u2':=tkeep hb4 u2
  have u3':=tkeep hb4 u3
  have u4':=tkeep hb4 u4
  have u5':=tkeep hb4 u5
  have u6':=tkeep hb4 u6
  clear hb4
  go_wp2_with fail
  refine hK.out _ _ ⟨p0',p6',u0',u1',u2',u3',u4',u5',u6'⟩ (fun hHelda6=>?_)
  clear hK K
  try simp only [Act.put,sI,sZ,sS]
  refine tK 9 70 (h:=?_)
  try simp only [Act.put,sI,sZ,sS]
  refine tK 10 71 (h:=?_)
  try simp only [Act.put,sI,sZ,sS]
  refine tK 11 72 (h:=?_)
  try simp only [Act.put,sI,sZ,sS]
  refine tK 13 74 (h:=?_)
  try simp only [Act.put,sI,sZ,sS]
  refine tK 14 2 (h:=?_)
  try simp only [Act.put,sI,sZ,sS]
  refine wpAnyH_done (by kernel_rfl) ?_ _
  go_wp2
  go_ret
  exact ⟨by rw [← HR.out];rfl,HB4.out⟩
 ·have HR : Hid (strB t0++⟨#[32]⟩++⟨#[45]⟩++⟨#[32]⟩++strB t1=strB (t0++32 :: (atL sumsL 8++32 :: t1))):=by
   show strB t0++strB [32]++strB [45]++strB [32]++strB t1=_
   rw [catT,catT,catT,catT]
   show strB _=strB (t0++32 :: ([45]++32 :: t1))
   simp only [List.append_assoc,List.cons_append,List.nil_append]
  rw [if_neg hz]
  rw [decide_eq_false hz] at HD
  clear h0 h1 hl0 hl1 hz
  have zz0 : (w.alloc (.cells #[.int .i64 8,.int .i64 v.k,.int .i64 v.n,.string (strB v.s),.string (strB x),.string (strB f),.slice (some ⟨g,o,none⟩) 2 c] 40)).cell? ⟨g,o+7,none⟩=some (.int .i64 z.k):=tkeep hb0 zc0
  have zz1 : (w.alloc (.cells #[.int .i64 8,.int .i64 v.k,.int .i64 v.n,.string (strB v.s),.string (strB x),.string (strB f),.slice (some ⟨g,o,none⟩) 2 c] 40)).cell? ⟨g,o+7+1,none⟩=some (.int .i64 z.v.k):=tkeep hb0 zc1
  have zz2 : (w.alloc (.cells #[.int .i64 8,.int .i64 v.k,.int .i64 v.n,.string (strB v.s),.string (strB x),.string (strB f),.slice (some ⟨g,o,none⟩) 2 c] 40)).cell? ⟨g,o+7+2,none⟩=some (.int .i64 z.v.n):=tkeep hb0 zc2
  have zz3 : (w.alloc (.cells #[.int .i64 8,.int .i64 v.k,.int .i64 v.n,.string (strB v.s),.string (strB x),.string (strB f),.slice (some ⟨g,o,none⟩) 2 c] 40)).cell? ⟨g,o+7+3,none⟩=some (.string (strB z.v.s)):=tkeep hb0 zc3
  have zz4 : (w.alloc (.cells #[.int .i64 8,.int .i64 v.k,.int .i64 v.n,.string (strB v.s),.string (strB x),.string (strB f),.slice (some ⟨g,o,none⟩) 2 c] 40)).cell? ⟨g,o+7+4,none⟩=some (.string (strB z.x)):=tkeep hb0 zc4
  have zz5 : (w.alloc (.cells #[.int .i64 8,.int .i64 v.k,.int .i64 v.n,.string (strB v.s),.string (strB x),.string (strB f),.slice (some ⟨g,o,none⟩) 2 c] 40)).cell? ⟨g,o+7+5,none⟩=some (.string (strB z.f)):=tkeep hb0 zc5
  have zz6 : (w.alloc (.cells #[.int .i64 8,.int .i64 v.k,.int .i64 v.n,.string (strB v.s),.string (strB x),.string (strB f),.slice (some ⟨g,o,none⟩) 2 c] 40)).cell? ⟨g,o+7+6,none⟩=some (.slice az qz cz):=tkeep hb0 zc6
  go_enter Tryz.func66,Tryz.ntmps66
  go_wp2_with fail
  clear zz0 zz1 zz2 zz3 zz4 zz5 zz6
  (with_reducible refine (H1.out _ HB0.out).mono ?_)
  rintro e w1 ⟨rfl,hb1⟩
  have m0:=tkeep hb1 (tnew w #[.int .i64 8,.int .i64 v.k,.int .i64 v.n,.string (strB v.s),.string (strB x),.string (strB f),.slice (some ⟨g,o,none⟩) 2 c] 40 0 rfl)
  have m6:=tkeep hb1 (tnew w #[.int .i64 8,.int .i64 v.k,.int .i64 v.n,.string (strB v.s),.string (strB x),.string (strB f),.slice (some ⟨g,o,none⟩) 2 c] 40 6 rfl)
  have z0 : w1.cell? ⟨g,o+7,none⟩=some (.int .i64 z.k):=tkeep hb1 (tkeep hb0 zc0)
  have y0:=tkeep hb1 (tkeep hb0 yc0)
  have y1:=tkeep hb1 (tkeep hb0 yc1)
  have y2:=tkeep hb1 (tkeep hb0 yc2)
  have y3:=tkeep hb1 (tkeep hb0 yc3)
  have y4:=tkeep hb1 (tkeep hb0 yc4)
  have y5:=tkeep hb1 (tkeep hb0 yc5)
  have y6:=tkeep hb1 (tkeep hb0 yc6)
  have HB1:=hid (HB0.out.trans (hb1.mono HB0.out.size))
  clear hb1
  go_wp2_with fail
  (with_reducible refine (HD.out _).mono ?_)
  rintro e w2 ⟨rfl,rfl⟩
  clear yc0 zc0 yc1 zc1 yc2 zc2 yc3 zc3 yc4 zc4 yc5 zc5 yc6 zc6 hb0
  have q0 : w1.drew.cell? ⟨w.heap.size,0,none⟩=some (.int .i64 8):=m0
  have q6 : w1.drew.cell? ⟨w.heap.size,6,none⟩=some (.slice (some ⟨g,o,none⟩) 2 c):=m6
  have d0 : w1.drew.cell? ⟨g,o,none⟩=some (.int .i64 y.k):=y0
  have d1 : w1.drew.cell? ⟨g,o+1,none⟩=some (.int .i64 y.v.k):=y1
  have d2 : w1.drew.cell? ⟨g,o+2,none⟩=some (.int .i64 y.v.n):=y2
  have d3 : w1.drew.cell? ⟨g,o+3,none⟩=some (.string (strB y.v.s)):=y3
  have d4 : w1.drew.cell? ⟨g,o+4,none⟩=some (.string (strB y.x)):=y4
  have d5 : w1.drew.cell? ⟨g,o+5,none⟩=some (.string (strB y.f)):=y5
  have d6 : w1.drew.cell? ⟨g,o+6,none⟩=some (.slice ay qy cy):=y6
  go_wp2_with fail
  clear m0 m6 z0 y0 y1 y2 y3 y4 y5 y6
  refine wp_region_held_drew (S:=fun W=>W.cell? ⟨w.heap.size,0,none⟩=some (.int .i64 8)∧W.cell? ⟨w.heap.size,6,none⟩=some (.slice (some ⟨g,o,none⟩) 2 c)∧W.cell? ⟨g,o,none⟩=some (.int .i64 y.k)∧W.cell? ⟨g,o+1,none⟩=some (.int .i64 y.v.k)∧W.cell? ⟨g,o+2,none⟩=some (.int .i64 y.v.n)∧W.cell? ⟨g,o+3,none⟩=some (.string (strB y.v.s))∧W.cell? ⟨g,o+4,none⟩=some (.string (strB y.x))∧W.cell? ⟨g,o+5,none⟩=some (.string (strB y.f))∧W.cell? ⟨g,o+6,none⟩=some (.slice ay qy cy)) (by kernel_rfl) ⟨q0,q6,d0,d1,d2,d3,d4,d5,d6⟩ (fun hHeld=>?_)
  refine tK 0 61 (h:=?_)
  try simp only [Act.put,sI,sZ,sS]
  refine tK 1 62 (h:=?_)
  try simp only [Act.put,sI,sZ,sS]
  refine tK 2 63 (h:=?_)
  try simp only [Act.put,sI,sZ,sS]
  refine tK 3 64 (h:=?_)
  try simp only [Act.put,sI,sZ,sS]
  refine tK 7 68 (h:=?_)
  try simp only [Act.put,sI,sZ,sS]
  refine tK 8 69 (h:=?_)
  try simp only [Act.put,sI,sZ,sS]
  refine tK 12 73 (h:=?_)
  try simp only [Act.put,sI,sZ,sS]
  refine wpAnyH_ready (rs:=[4]) (by kernel_rfl) (by simp) ?_
  refine AllReadyH.cons (o:=_) rfl (fun K hK=>?_) AllReadyH.nil
  dsimp only [List.getElem_toArray,List.getElem_cons_succ,List.getElem_cons_zero]
  go_simp
  go_at_call 66
  (with_reducible refine (H0.out _ (vbelow_drew HB1.out)).mono ?_)
  rintro e w3 ⟨rfl,hb3⟩
  have HB3:=hid ((vbelow_drew HB1.out).trans (hb3.mono (show _≤w1.drew.heap.size from HB1.out.size)))
  have p0:=tkeep hb3 q0
  have p6:=tkeep hb3 q6
  have u0:=tkeep hb3 d0
  have u1:=tkeep hb3 d1
  have u2:=tkeep hb3 d2
  have u3:=tkeep hb3 d3
  have u4:=tkeep hb3 d4
  have u5:=tkeep hb3 d5
  have u6:=tkeep hb3 d6
  clear hb3
  go_wp2_with fail
  refine hK.out _ _ ⟨p0,p6,u0,u1,u2,u3,u4,u5,u6⟩ (fun hHeldb4=>?_)
  clear hK K
  try simp only [Act.put,sI,sZ,sS]
  refine tK 5 66 (h:=?_)
  try simp only [Act.put,sI,sZ,sS]
  refine wpAnyH_ready (rs:=[6]) (by kernel_rfl) (by simp) ?_
  refine AllReadyH.cons (o:=_) rfl (fun K hK=>?_) AllReadyH.nil
  dsimp only [List.getElem_toArray,List.getElem_cons_succ,List.getElem_cons_zero]
  go_simp
  go_at_call 104
  (with_reducible refine (HC.out _).mono ?_)
  rintro e w4 ⟨rfl,hb4⟩
  have HB4:=hid (HB3.out.trans (hb4.mono HB3.out.size))
  have p0':=tkeep hb4 p0
  have p6':=tkeep hb4 p6
  have u0':=tkeep hb4 u0
  have u1':=tkeep hb4 u1
  have u2':=tkeep hb4 u2
  have u3':=tkeep hb4 u3
  have u4':=tkeep hb4 u4
  have u5':=tkeep hb4 u5
  have u6':=tkeep hb4 u6
  clear hb4
  go_wp2_with fail
  refine hK.out _ _ ⟨p0',p6',u0',u1',u2',u3',u4',u5',u6'⟩ (fun hHeldb6=>?_)
  clear hK K
  try simp only [Act.put,sI,sZ,sS]
  refine tK 9 70 (h:=?_)
  try simp only [Act.put,sI,sZ,sS]
  refine tK 10 71 (h:=?_)
  try simp only [Act.put,sI,sZ,sS]
  refine tK 11 72 (h:=?_)
  try simp only [Act.put,sI,sZ,sS]
  refine tK 13 74 (h:=?_)
  try simp only [Act.put,sI,sZ,sS]
  refine tK 14 2 (h:=?_)
  try simp only [Act.put,sI,sZ,sS]
  refine wpAnyH_done (by kernel_rfl) ?_ _
  go_wp2
  go_ret
  exact ⟨by rw [← HR.out];rfl,HB4.out⟩
end
end Go.Proofs.YtefcbgnckgapgaaGreatDoor
namespace Go.Proofs.YtefcbgnckgapgaaGreatDoor
open Go.RowKit Go.Lib Go.Op
theorem nameB_len {b : List UInt8} (h : nameB b=true) : b.length≤16:=by
 unfold nameB at h
 rw [Bool.and_eq_true] at h
 exact (wordB_len h.1).2
theorem itoa_short (n : Int) (h : -1099511627776≤n∧n≤1099511627776) : (itoa n).length≤30:=Nat.le_trans (itoa_length_le n (by omega) (by omega)) (by decide)
theorem valTx_len {v : PVal} (h : rightB v=true) : (valTx v).length≤70:=by
 obtain ⟨k,n,s⟩:=v
 unfold valTx
 rcases rightB_kind h with hk|hk|hk
 ·dsimp only at hk
  subst hk
  unfold rightB at h
  simp only [if_true,decide_eq_true_eq] at h
  rw [if_neg (by simp),if_neg (by simp)]
  have:=itoa_short n ⟨h.1,h.2.1⟩
  show (itoa n).length≤70
  omega
 ·dsimp only at hk
  subst hk
  unfold rightB at h
  rw [if_neg (by simp),if_pos rfl,decide_eq_true_eq] at h
  rw [if_pos rfl]
  have:=h.2
  simp only [List.length_cons,List.length_append,List.length_nil]
  dsimp only at this
  omega
 ·dsimp only at hk
  subst hk
  rw [if_neg (by simp),if_pos rfl]
  split <;> decide
theorem rightX_kinds {d : Nat} {k : Int} {v : PVal} {x f : List UInt8} {ks : List PEx} (h : rightX (d+1) (.mk k v x f ks)=true) :
 (k=1∧rightB v=true)∨(k=3∧nameB x=true)∨((k=2∨k=4∨k=5∨k=6)∧nameB x=true∧nameB f=true)∨((k=7∨k=8)∧∃ y z,ks=[y,z]∧rightX d y=true∧rightX d z=true):=by
 rw [rightX_eq] at h
 split at h
 ·rename_i hk
  rw [Bool.and_eq_true] at h
  unfold writeB at h
  rw [Bool.and_eq_true] at h
  exact .inl ⟨hk,h.2.2⟩
 ·split at h
  ·rename_i _ hk
   rw [Bool.and_eq_true] at h
   exact .inr (.inl ⟨hk,h.2⟩)
  ·split at h
   ·rename_i _ _ hk
    rw [Bool.and_eq_true,Bool.and_eq_true] at h
    exact .inr (.inr (.inl ⟨hk,h.2.1,h.2.2⟩))
   ·split at h
    ·rename_i _ _ _ hk
     rw [Bool.and_eq_true] at h
     have h2 : ks.length=2:=by
      by_cases e : ks.length=2
      ·exact e
      ·rw [twoB_no e] at h;cases h.2
     obtain ⟨y,z,rfl⟩:=two_of h2
     have h3 : (rightX d y && rightX d z)=true:=h.2
     rw [Bool.and_eq_true] at h3
     exact .inr (.inr (.inr ⟨hk,y,z,rfl,h3.1,h3.2⟩))
    ·cases h
theorem exprTx_len : ∀ (d : Nat) (x : PEx),rightX d x=true→(exprTx d x).length≤100*3 ^ d
 | 0,x,h=>by cases x;cases h
 | d+1,.mk k v x f ks,h=>by
   have hp : 0 < 3 ^ d:=Nat.pow_pos (by decide)
   rw [Nat.pow_succ]
   rcases rightX_kinds h with ⟨rfl,hv⟩|⟨rfl,hx⟩|⟨hk,hx,hf⟩|⟨hk,y,z,rfl,h1,h2⟩
   ·show (valTx v).length≤_
    have:=valTx_len hv
    omega
   ·show (atL callsL 3++40 :: (x++[41])).length≤_
    have:=nameB_len hx
    have e : (atL callsL 3).length=5:=rfl
    simp only [List.length_append,List.length_cons,List.length_nil,e]
    omega
   ·have hx:=nameB_len hx
    have hf:=nameB_len hf
    rcases hk with rfl|rfl|rfl|rfl
    ·show (x++46 :: f).length≤_
     simp only [List.length_append,List.length_cons]
     omega
    ·show (atL callsL 4++40 :: (x++46 :: (f++[41]))).length≤_
     have e : (atL callsL 4).length=3:=rfl
     simp only [List.length_append,List.length_cons,List.length_nil,e]
     omega
    ·show (atL callsL 5++40 :: (x++46 :: (f++[41]))).length≤_
     have e : (atL callsL 5).length=3:=rfl
     simp only [List.length_append,List.length_cons,List.length_nil,e]
     omega
    ·show (atL callsL 6++40 :: (x++46 :: (f++[41]))).length≤_
     have e : (atL callsL 6).length=3:=rfl
     simp only [List.length_append,List.length_cons,List.length_nil,e]
     omega
   ·have h1:=exprTx_len d y h1
    have h2:=exprTx_len d z h2
    have e7 : (atL sumsL 7).length=1:=rfl
    have e8 : (atL sumsL 8).length=1:=rfl
    rcases hk with rfl|rfl
    ·show (exprTx d y++32 :: (atL sumsL 7++32 :: (if z.k=7∨z.k=8 then 40 :: (exprTx d z++[41]) else exprTx d z))).length≤_
     split <;> simp only [List.length_append,List.length_cons,List.length_nil,e7] <;> omega
    ·show (exprTx d y++32 :: (atL sumsL 8++32 :: (if z.k=7∨z.k=8 then 40 :: (exprTx d z++[41]) else exprTx d z))).length≤_
     split <;> simp only [List.length_append,List.length_cons,List.length_nil,e8] <;> omega
set_option maxRecDepth 100000 in
theorem exprText_calls {K : Nat→Prop} : ∀ (d : Nat) (_ : d≤6) (x : PEx) (_ : rightX d x=true) (w : World) (_ : PVars w) (e : Nat) (a : Option Addr) (c : Nat) (_ : ExK K w e (.slice a x.ks.length c) x.ks),Calls Tryz.prog 66 #[exV x (.slice a x.ks.length c)] w fun e w'=>e=.returned (.string (strB (exprTx d x)))∧Below w.heap.size w w'
 | 0,_,x,h,w,_,e,a,c,_=>by cases x;cases h
 | d+1,hd,.mk k v x f ks,hr,w,hv,e,a,c,h=>by
   show Calls Tryz.prog 66 #[.agg #[.int .i64 k,.int .i64 v.k,.int .i64 v.n,.string (strB v.s),.string (strB x),.string (strB f),.slice a ks.length c]] w _
   have h' : ExK K w e (.slice a ks.length c) ks:=h
   rcases rightX_kinds hr with ⟨rfl,hvr⟩|⟨rfl,hx⟩|⟨hk,hx,hf⟩|⟨hk,y,z,rfl,h1,h2⟩
   ·exact xt_val hv hvr
   ·exact xt_count (Nat.le_trans (nameB_len hx) (by decide))
   ·have hx:=Nat.le_trans (nameB_len hx) (show 16≤100 by decide)
    have hf:=Nat.le_trans (nameB_len hf) (show 16≤100 by decide)
    rcases hk with rfl|rfl|rfl|rfl
    ·exact xt_field hx hf
    ·exact xt_sum hx hf
    ·exact xt_min hx hf
    ·exact xt_max hx hf
   ·cases e with
    | zero=>exact absurd h'.2 (by simp)
    | succ e =>
    obtain ⟨a',c',ea,hc⟩:=h'
    injection ea with ea1 ea2 ea3
    subst ea1
    obtain ⟨g,o,ky,rfl,_,⟨y0,y1,y2,y3,y4,y5,y6⟩,hky⟩:=hc 0 y rfl
    obtain ⟨g',o',kz,eg,_,⟨q0,q1,q2,q3,q4,q5,q6⟩,hkz⟩:=hc 1 z rfl
    injection eg with eg
    injection eg with eg1 eg2
    subst eg1 eg2
    obtain ⟨ay,cy,rfl⟩:=hky.slice
    obtain ⟨az,cz,rfl⟩:=hkz.slice
    simp only [Nat.zero_mul,Nat.one_mul,Nat.add_zero] at y0 y1 y2 y3 y4 y5 y6 q0 q1 q2 q3 q4 q5 q6
    have hp : 3 ^ d≤3 ^ 6:=Nat.pow_le_pow_right (by decide) (by omega)
    have l0:=exprTx_len d y h1
    have l1:=exprTx_len d z h2
    have c0 : (3 : Nat) ^ 6=729:=rfl
    rcases hk with rfl|rfl
    ·exact xt_two7 (t0:=exprTx d y) (t1:=exprTx d z) (by omega) (by omega) y0 y1 y2 y3 y4 y5 y6 q0 q1 q2 q3 q4 q5 q6
      (fun W hW=>exprText_calls d (by omega) y h1 W (hv.below hW) e ay cy (hky.keep (TFr.of_below hW)))
      (fun W hW=>exprText_calls d (by omega) z h2 W (hv.below hW) e az cz (hkz.keep (TFr.of_below hW)))
    ·exact xt_two8 (t0:=exprTx d y) (t1:=exprTx d z) (by omega) (by omega) y0 y1 y2 y3 y4 y5 y6 q0 q1 q2 q3 q4 q5 q6
      (fun W hW=>exprText_calls d (by omega) y h1 W (hv.below hW) e ay cy (hky.keep (TFr.of_below hW)))
      (fun W hW=>exprText_calls d (by omega) z h2 W (hv.below hW) e az cz (hkz.keep (TFr.of_below hW)))
end Go.Proofs.YtefcbgnckgapgaaGreatDoor
namespace Go.Proofs.YtefcbgnckgapgaaGreatDoor
open Go.RowKit Go.Lib Go.Op
theorem modes_index1 (W : World) : (Instr.index 65 (textsV modesL) (.int .i64 1)).run Tryz.prog W=.ok (.string (strB (atL modesL 1))) W:=by kernel_rfl
theorem modes_index2 (W : World) : (Instr.index 65 (textsV modesL) (.int .i64 2)).run Tryz.prog W=.ok (.string (strB (atL modesL 2))) W:=by kernel_rfl
theorem modes_index3 (W : World) : (Instr.index 65 (textsV modesL) (.int .i64 3)).run Tryz.prog W=.ok (.string (strB (atL modesL 3))) W:=by kernel_rfl
theorem modes_index (k : Int) (h : 1≤k∧k≤3) (W : World) : (Instr.index 65 (textsV modesL) (.int .i64 k)).run Tryz.prog W=.ok (.string (strB (atL modesL k))) W:=by
 have h3 : k=1∨k=2∨k=3:=by omega
 rcases h3 with rfl|rfl|rfl
 ·exact modes_index1 W
 ·exact modes_index2 W
 ·exact modes_index3 W
theorem picks_index1 (W : World) : (Instr.index 65 (textsV picksL) (.int .i64 1)).run Tryz.prog W=.ok (.string (strB (atL picksL 1))) W:=by kernel_rfl
theorem picks_index2 (W : World) : (Instr.index 65 (textsV picksL) (.int .i64 2)).run Tryz.prog W=.ok (.string (strB (atL picksL 2))) W:=by kernel_rfl
theorem picks_index3 (W : World) : (Instr.index 65 (textsV picksL) (.int .i64 3)).run Tryz.prog W=.ok (.string (strB (atL picksL 3))) W:=by kernel_rfl
theorem picks_index (k : Int) (h : 1≤k∧k≤3) (W : World) : (Instr.index 65 (textsV picksL) (.int .i64 k)).run Tryz.prog W=.ok (.string (strB (atL picksL k))) W:=by
 have h3 : k=1∨k=2∨k=3:=by omega
 rcases h3 with rfl|rfl|rfl
 ·exact picks_index1 W
 ·exact picks_index2 W
 ·exact picks_index3 W
theorem cmps_index1 (W : World) : (Instr.index 65 (textsV cmpsL) (.int .i64 1)).run Tryz.prog W=.ok (.string (strB (atL cmpsL 1))) W:=by kernel_rfl
theorem cmps_index2 (W : World) : (Instr.index 65 (textsV cmpsL) (.int .i64 2)).run Tryz.prog W=.ok (.string (strB (atL cmpsL 2))) W:=by kernel_rfl
theorem cmps_index3 (W : World) : (Instr.index 65 (textsV cmpsL) (.int .i64 3)).run Tryz.prog W=.ok (.string (strB (atL cmpsL 3))) W:=by kernel_rfl
theorem cmps_index4 (W : World) : (Instr.index 65 (textsV cmpsL) (.int .i64 4)).run Tryz.prog W=.ok (.string (strB (atL cmpsL 4))) W:=by kernel_rfl
theorem cmps_index5 (W : World) : (Instr.index 65 (textsV cmpsL) (.int .i64 5)).run Tryz.prog W=.ok (.string (strB (atL cmpsL 5))) W:=by kernel_rfl
theorem cmps_index6 (W : World) : (Instr.index 65 (textsV cmpsL) (.int .i64 6)).run Tryz.prog W=.ok (.string (strB (atL cmpsL 6))) W:=by kernel_rfl
theorem cmps_index (k : Int) (h : 1≤k∧k≤6) (W : World) : (Instr.index 65 (textsV cmpsL) (.int .i64 k)).run Tryz.prog W=.ok (.string (strB (atL cmpsL k))) W:=by
 have h3 : k=1∨k=2∨k=3∨k=4∨k=5∨k=6:=by omega
 rcases h3 with rfl|rfl|rfl|rfl|rfl|rfl
 ·exact cmps_index1 W
 ·exact cmps_index2 W
 ·exact cmps_index3 W
 ·exact cmps_index4 W
 ·exact cmps_index5 W
 ·exact cmps_index6 W
theorem atL_short {l : List (List UInt8)} (h : ∀ b∈l,b.length≤10) (k : Int) : (atL l k).length≤10:=by
 unfold atL
 rw [List.getD_eq_getElem?_getD]
 cases hk : l[k.toNat]? with
 | none=>simp
 | some b=>exact h b (List.mem_of_getElem? hk)
section
variable {w : World} {a : Option Addr} {c n : Nat} {x : List UInt8} {mode : Int}
set_option maxHeartbeats 2000000 in
set_option maxRecDepth 100000 in
theorem it_false {j : List UInt8} (hm : 1≤mode∧mode≤3) (hx : x.length≤100) (hj : j.length≤1000)
 (hjoin : ∀ W,Below w.heap.size w W→Calls Tryz.prog 64 #[.slice a n c,.string ⟨#[32,111,114,32]⟩] W fun e w'=>e=.returned (.string (strB j))∧Below W.heap.size W w') :
 Calls Tryz.prog 19 #[.agg #[.bool false,.slice a n c,.string (strB x),.int .i64 mode]] w fun e w'=>e=.returned (.string (strB ((j++32 :: (x++atL modesL mode)))))∧Below w.heap.size w w':=by
 have hb0:=(Below.refl w.heap.size w).alloc (Nat.le_refl _) (.cells #[.bool false,.slice a n c,.string (strB x),.int .i64 mode] 35)
 have HB0:=hid hb0
 have hsx : (strB x).size≤100:=by rw [strB_size];exact hx
 have hsj : (strB j).size≤1000:=by rw [strB_size];exact hj
 have hsm : (strB (atL modesL mode)).size≤10:=by rw [strB_size];exact atL_short (by decide) mode
 have hix:=modes_index mode hm
 have HR : Hid (strB j++⟨#[32]⟩++strB x++strB (atL modesL mode)=strB ((j++32 :: (x++atL modesL mode)))):=by
  show strB j++strB [32]++strB x++strB (atL modesL mode)=_
  rw [catT,catT,catT]
  congr 1
  simp
 obtain ⟨rs,hrs⟩ : ∃ rs,strB ((j++32 :: (x++atL modesL mode)))=rs:=⟨_,rfl⟩
 rw [hrs] at HR ⊢
 obtain ⟨mt,hmt⟩ : ∃ mt,strB (atL modesL mode)=mt:=⟨_,rfl⟩
 rw [hmt] at hix hsm HR
 have z1 : (⟨#[32]⟩ : ByteArray).size=1:=rfl
 have z2 : (⟨#[110,111,116,32]⟩ : ByteArray).size=4:=rfl
 have HC:=hid (fun W=>modes_calls W)
 have HJ:=hid (hjoin _ (vbelow_drew hb0))
 have d0 : (w.alloc (.cells #[.bool false,.slice a n c,.string (strB x),.int .i64 mode] 35)).drew.cell? ⟨w.heap.size,0,none⟩=some (.bool false):=tnew w _ _ 0 rfl
 have d1 : (w.alloc (.cells #[.bool false,.slice a n c,.string (strB x),.int .i64 mode] 35)).drew.cell? ⟨w.heap.size,1,none⟩=some (.slice a n c):=tnew w _ _ 1 rfl
 have d2 : (w.alloc (.cells #[.bool false,.slice a n c,.string (strB x),.int .i64 mode] 35)).drew.cell? ⟨w.heap.size,2,none⟩=some (.string (strB x)):=tnew w _ _ 2 rfl
 have d3 : (w.alloc (.cells #[.bool false,.slice a n c,.string (strB x),.int .i64 mode] 35)).drew.cell? ⟨w.heap.size,3,none⟩=some (.int .i64 mode):=tnew w _ _ 3 rfl
 clear hb0 hx hj hm hjoin hmt hrs
 go_enter Tryz.func19,Tryz.ntmps19
 go_wp2_with fail
 refine wp_region_held_drew (S:=fun W=>W.cell? ⟨w.heap.size,0,none⟩=some (.bool false)∧W.cell? ⟨w.heap.size,1,none⟩=some (.slice a n c)∧W.cell? ⟨w.heap.size,2,none⟩=some (.string (strB x))∧W.cell? ⟨w.heap.size,3,none⟩=some (.int .i64 mode)) (by kernel_rfl) ⟨d0,d1,d2,d3⟩ (fun hHeld=>?_)
 refine tK 0 4 (h:=?_)
 try simp only [Act.put,sI,sZ,sS]
 refine tK 1 5 (h:=?_)
 try simp only [Act.put,sI,sZ,sS]
 refine tK 4 8 (h:=?_)
 try simp only [Act.put,sI,sZ,sS]
 refine tK 5 9 (h:=?_)
 try simp only [Act.put,sI,sZ,sS]
 refine tK 8 12 (h:=?_)
 try simp only [Act.put,sI,sZ,sS]
 refine tK 9 13 (h:=?_)
 try simp only [Act.put,sI,sZ,sS]
 refine wpAnyH_ready (rs:=[2]) (by kernel_rfl) (by simp) ?_
 refine AllReadyH.cons (o:=_) rfl (fun K hK=>?_) AllReadyH.nil
 dsimp only [List.getElem_toArray,List.getElem_cons_succ,List.getElem_cons_zero]
 go_simp
 go_at_call 64
 (with_reducible refine HJ.out.mono ?_)
 rintro e w1 ⟨rfl,hb1⟩
 have HB1:=hid ((vbelow_drew HB0.out).trans (hb1.mono (show _≤(w.alloc (.cells #[.bool false,.slice a n c,.string (strB x),.int .i64 mode] 35)).drew.heap.size from HB0.out.size)))
 have e0:=tkeep hb1 d0
 have e1:=tkeep hb1 d1
 have e2:=tkeep hb1 d2
 have e3:=tkeep hb1 d3
 clear hb1
 go_wp2_with fail
 refine hK.out _ _ ⟨e0,e1,e2,e3⟩ (fun hHelda2=>?_)
 clear hK K
 try simp only [Act.put,sI,sZ,sS]
 refine tK 3 7 (h:=?_)
 try simp only [Act.put,sI,sZ,sS]
 refine tK 6 10 (h:=?_)
 try simp only [Act.put,sI,sZ,sS]
 refine wpAnyH_ready (rs:=[7]) (by kernel_rfl) (by simp) ?_
 refine AllReadyH.cons (o:=_) rfl (fun K hK=>?_) AllReadyH.nil
 dsimp only [List.getElem_toArray,List.getElem_cons_succ,List.getElem_cons_zero]
 go_simp
 go_at_call 65
 (with_reducible refine (HC.out _).mono ?_)
 rintro e w2 ⟨rfl,hb2⟩
 have HB2:=hid (HB1.out.trans (hb2.mono HB1.out.size))
 have f0:=tkeep hb2 e0
 have f1:=tkeep hb2 e1
 have f2:=tkeep hb2 e2
 have f3:=tkeep hb2 e3
 clear hb2
 go_wp2_with fail
 refine hK.out _ _ ⟨f0,f1,f2,f3⟩ (fun hHelda7=>?_)
 clear hK K
 try simp only [Act.put,sI,sZ,sS]
 refine tK 10 14 (h:=?_)
 try simp only [Act.put,sI,sZ,sS]
 refine tK 11 15 (h:=?_)
 try simp only [Act.put,sI,sZ,sS]
 refine tK 12 3 (h:=?_)
 try simp only [Act.put,sI,sZ,sS]
 refine wpAnyH_done (by kernel_rfl) ?_ _
 go_wp2
 go_ret
 exact ⟨by rw [← HR.out];rfl,HB2.out⟩
set_option maxHeartbeats 2000000 in
set_option maxRecDepth 100000 in
theorem it_true {j : List UInt8} (hm : 1≤mode∧mode≤3) (hx : x.length≤100) (hj : j.length≤1000)
 (hjoin : ∀ W,Below w.heap.size w W→Calls Tryz.prog 64 #[.slice a n c,.string ⟨#[32,111,114,32]⟩] W fun e w'=>e=.returned (.string (strB j))∧Below W.heap.size W w') :
 Calls Tryz.prog 19 #[.agg #[.bool true,.slice a n c,.string (strB x),.int .i64 mode]] w fun e w'=>e=.returned (.string (strB ([110,111,116,32]++(j++32 :: (x++atL modesL mode)))))∧Below w.heap.size w w':=by
 have hb0:=(Below.refl w.heap.size w).alloc (Nat.le_refl _) (.cells #[.bool true,.slice a n c,.string (strB x),.int .i64 mode] 35)
 have HB0:=hid hb0
 have hsx : (strB x).size≤100:=by rw [strB_size];exact hx
 have hsj : (strB j).size≤1000:=by rw [strB_size];exact hj
 have hsm : (strB (atL modesL mode)).size≤10:=by rw [strB_size];exact atL_short (by decide) mode
 have hix:=modes_index mode hm
 have HR : Hid (⟨#[110,111,116,32]⟩++(strB j++⟨#[32]⟩++strB x++strB (atL modesL mode))=strB ([110,111,116,32]++(j++32 :: (x++atL modesL mode)))):=by
  show strB [110,111,116,32]++(strB j++strB [32]++strB x++strB (atL modesL mode))=_
  rw [catT,catT,catT,catT]
  congr 1
  simp
 obtain ⟨rs,hrs⟩ : ∃ rs,strB ([110,111,116,32]++(j++32 :: (x++atL modesL mode)))=rs:=⟨_,rfl⟩
 rw [hrs] at HR ⊢
 obtain ⟨mt,hmt⟩ : ∃ mt,strB (atL modesL mode)=mt:=⟨_,rfl⟩
 rw [hmt] at hix hsm HR
 have z1 : (⟨#[32]⟩ : ByteArray).size=1:=rfl
 have z2 : (⟨#[110,111,116,32]⟩ : ByteArray).size=4:=rfl
 have HC:=hid (fun W=>modes_calls W)
 have HJ:=hid (hjoin _ (vbelow_drew hb0))
 have d0 : (w.alloc (.cells #[.bool true,.slice a n c,.string (strB x),.int .i64 mode] 35)).drew.cell? ⟨w.heap.size,0,none⟩=some (.bool true):=tnew w _ _ 0 rfl
 have d1 : (w.alloc (.cells #[.bool true,.slice a n c,.string (strB x),.int .i64 mode] 35)).drew.cell? ⟨w.heap.size,1,none⟩=some (.slice a n c):=tnew w _ _ 1 rfl
 have d2 : (w.alloc (.cells #[.bool true,.slice a n c,.string (strB x),.int .i64 mode] 35)).drew.cell? ⟨w.heap.size,2,none⟩=some (.string (strB x)):=tnew w _ _ 2 rfl
 have d3 : (w.alloc (.cells #[.bool true,.slice a n c,.string (strB x),.int .i64 mode] 35)).drew.cell? ⟨w.heap.size,3,none⟩=some (.int .i64 mode):=tnew w _ _ 3 rfl
 clear hb0 hx hj hm hjoin hmt hrs
 go_enter Tryz.func19,Tryz.ntmps19
 go_wp2_with fail
 refine wp_region_held_drew (S:=fun W=>W.cell? ⟨w.heap.size,0,none⟩=some (.bool true)∧W.cell? ⟨w.heap.size,1,none⟩=some (.slice a n c)∧W.cell? ⟨w.heap.size,2,none⟩=some (.string (strB x))∧W.cell? ⟨w.heap.size,3,none⟩=some (.int .i64 mode)) (by kernel_rfl) ⟨d0,d1,d2,d3⟩ (fun hHeld=>?_)
 refine tK 0 4 (h:=?_)
 try simp only [Act.put,sI,sZ,sS]
 refine tK 1 5 (h:=?_)
 try simp only [Act.put,sI,sZ,sS]
 refine tK 4 8 (h:=?_)
 try simp only [Act.put,sI,sZ,sS]
 refine tK 5 9 (h:=?_)
 try simp only [Act.put,sI,sZ,sS]
 refine tK 8 12 (h:=?_)
 try simp only [Act.put,sI,sZ,sS]
 refine tK 9 13 (h:=?_)
 try simp only [Act.put,sI,sZ,sS]
 refine wpAnyH_ready (rs:=[2]) (by kernel_rfl) (by simp) ?_
 refine AllReadyH.cons (o:=_) rfl (fun K hK=>?_) AllReadyH.nil
 dsimp only [List.getElem_toArray,List.getElem_cons_succ,List.getElem_cons_zero]
 go_simp
 go_at_call 64
 (with_reducible refine HJ.out.mono ?_)
 rintro e w1 ⟨rfl,hb1⟩
 have HB1:=hid ((vbelow_drew HB0.out).trans (hb1.mono (show _≤(w.alloc (.cells #[.bool true,.slice a n c,.string (strB x),.int .i64 mode] 35)).drew.heap.size from HB0.out.size)))
 have e0:=tkeep hb1 d0
 have e1:=tkeep hb1 d1
 have e2:=tkeep hb1 d2
 have e3:=tkeep hb1 d3
 clear hb1
 go_wp2_with fail
 refine hK.out _ _ ⟨e0,e1,e2,e3⟩ (fun hHelda2=>?_)
 clear hK K
 try simp only [Act.put,sI,sZ,sS]
 refine tK 3 7 (h:=?_)
 try simp only [Act.put,sI,sZ,sS]
 refine tK 6 10 (h:=?_)
 try simp only [Act.put,sI,sZ,sS]
 refine wpAnyH_ready (rs:=[7]) (by kernel_rfl) (by simp) ?_
 refine AllReadyH.cons (o:=_) rfl (fun K hK=>?_) AllReadyH.nil
 dsimp only [List.getElem_toArray,List.getElem_cons_succ,List.getElem_cons_zero]
 go_simp
 go_at_call 65
 (with_reducible refine (HC.out _).mono ?_)
 rintro e w2 ⟨rfl,hb2⟩
 have HB2:=hid (HB1.out.trans (hb2.mono HB1.out.size))
 have f0:=tkeep hb2 e0
 have f1:=tkeep hb2 e1
 have f2:=tkeep hb2 e2
 have f3:=tkeep hb2 e3
 clear hb2
 go_wp2_with fail
 refine hK.out _ _ ⟨f0,f1,f2,f3⟩ (fun hHelda7=>?_)
 clear hK K
 try simp only [Act.put,sI,sZ,sS]
 refine tK 10 14 (h:=?_)
 try simp only [Act.put,sI,sZ,sS]
 refine tK 11 15 (h:=?_)
 try simp only [Act.put,sI,sZ,sS]
 refine tK 12 3 (h:=?_)
 try simp only [Act.put,sI,sZ,sS]
 refine wpAnyH_done (by kernel_rfl) ?_ _
 go_wp2
 go_ret
 exact ⟨by rw [← HR.out];rfl,HB2.out⟩
end
section
variable {w : World} {a b : Option Addr} {q c r d : Nat} {p : PPr}
set_option maxHeartbeats 2000000 in
set_option maxRecDepth 100000 in
theorem pt_text {t0 t1 : List UInt8} (hc : 1≤p.cmp∧p.cmp≤6) (hl0 : t0.length≤1000000) (hl1 : t1.length≤1000000)
 (h0 : ∀ W,Below w.heap.size w W→Calls Tryz.prog 66 #[exV p.l (.slice a q c)] W fun e w'=>e=.returned (.string (strB t0))∧Below W.heap.size W w') (h1 : ∀ W,Below w.heap.size w W→Calls Tryz.prog 66 #[exV p.r (.slice b r d)] W fun e w'=>e=.returned (.string (strB t1))∧Below W.heap.size W w') :
 Calls Tryz.prog 21 #[.agg #[.int .i64 p.cmp,.int .i64 p.l.k,.int .i64 p.l.v.k,.int .i64 p.l.v.n,.string (strB p.l.v.s),.string (strB p.l.x),.string (strB p.l.f),.slice a q c,.int .i64 p.r.k,.int .i64 p.r.v.k,.int .i64 p.r.v.n,.string (strB p.r.v.s),.string (strB p.r.x),.string (strB p.r.f),.slice b r d]] w fun e w'=>e=.returned (.string (strB (t0++32 :: (atL cmpsL p.cmp++32 :: t1))))∧Below w.heap.size w w':=by
 have hb0:=(Below.refl w.heap.size w).alloc (Nat.le_refl _) (.cells #[.int .i64 p.cmp,.int .i64 p.l.k,.int .i64 p.l.v.k,.int .i64 p.l.v.n,.string (strB p.l.v.s),.string (strB p.l.x),.string (strB p.l.f),.slice a q c,.int .i64 p.r.k,.int .i64 p.r.v.k,.int .i64 p.r.v.n,.string (strB p.r.v.s),.string (strB p.r.x),.string (strB p.r.f),.slice b r d] 42)
 have HB0:=hid hb0
 have hs0 : (strB t0).size≤1000000:=by rw [strB_size];exact hl0
 have hs1 : (strB t1).size≤1000000:=by rw [strB_size];exact hl1
 have hsm : (strB (atL cmpsL p.cmp)).size≤10:=by rw [strB_size];exact atL_short (by decide) p.cmp
 have hix:=cmps_index p.cmp hc
 have HR : Hid (strB t0++⟨#[32]⟩++strB (atL cmpsL p.cmp)++⟨#[32]⟩++strB t1=strB (t0++32 :: (atL cmpsL p.cmp++32 :: t1))):=by
  show strB t0++strB [32]++strB (atL cmpsL p.cmp)++strB [32]++strB t1=_
  rw [catT,catT,catT,catT]
  congr 1
  simp
 obtain ⟨mt,hmt⟩ : ∃ mt,strB (atL cmpsL p.cmp)=mt:=⟨_,rfl⟩
 rw [hmt] at hix hsm HR
 have z1 : (⟨#[32]⟩ : ByteArray).size=1:=rfl
 have HC:=hid (fun W=>cmps_calls W)
 have H0:=hid (h0 _ (vbelow_drew hb0))
 have H1:=hid h1
 simp only [xexV] at H0 H1
 have d0 : (w.alloc (.cells #[.int .i64 p.cmp,.int .i64 p.l.k,.int .i64 p.l.v.k,.int .i64 p.l.v.n,.string (strB p.l.v.s),.string (strB p.l.x),.string (strB p.l.f),.slice a q c,.int .i64 p.r.k,.int .i64 p.r.v.k,.int .i64 p.r.v.n,.string (strB p.r.v.s),.string (strB p.r.x),.string (strB p.r.f),.slice b r d] 42)).drew.cell? ⟨w.heap.size,0,none⟩=some (.int .i64 p.cmp):=tnew w _ _ 0 rfl
 have d1 : (w.alloc (.cells #[.int .i64 p.cmp,.int .i64 p.l.k,.int .i64 p.l.v.k,.int .i64 p.l.v.n,.string (strB p.l.v.s),.string (strB p.l.x),.string (strB p.l.f),.slice a q c,.int .i64 p.r.k,.int .i64 p.r.v.k,.int .i64 p.r.v.n,.string (strB p.r.v.s),.string (strB p.r.x),.string (strB p.r.f),.slice b r d] 42)).drew.cell? ⟨w.heap.size,1,none⟩=some (.int .i64 p.l.k):=tnew w _ _ 1 rfl
 have d2 : (w.alloc (.cells #[.int .i64 p.cmp,.int .i64 p.l.k,.int .i64 p.l.v.k,.int .i64 p.l.v.n,.string (strB p.l.v.s),.string (strB p.l.x),.string (strB p.l.f),.slice a q c,.int .i64 p.r.k,.int .i64 p.r.v.k,.int .i64 p.r.v.n,.string (strB p.r.v.s),.string (strB p.r.x),.string (strB p.r.f),.slice b r d] 42)).drew.cell? ⟨w.heap.size,2,none⟩=some (.int .i64 p.l.v.k):=tnew w _ _ 2 rfl
 have d3 : (w.alloc (.cells #[.int .i64 p.cmp,.int .i64 p.l.k,.int .i64 p.l.v.k,.int .i64 p.l.v.n,.string (strB p.l.v.s),.string (strB p.l.x),.string (strB p.l.f),.slice a q c,.int .i64 p.r.k,.int .i64 p.r.v.k,.int .i64 p.r.v.n,.string (strB p.r.v.s),.string (strB p.r.x),.string (strB p.r.f),.slice b r d] 42)).drew.cell? ⟨w.heap.size,3,none⟩=some (.int .i64 p.l.v.n):=tnew w _ _ 3 rfl
 have d4 : (w.alloc (.cells #[.int .i64 p.cmp,.int .i64 p.l.k,.int .i64 p.l.v.k,.int .i64 p.l.v.n,.string (strB p.l.v.s),.string (strB p.l.x),.string (strB p.l.f),.slice a q c,.int .i64 p.r.k,.int .i64 p.r.v.k,.int .i64 p.r.v.n,.string (strB p.r.v.s),.string (strB p.r.x),.string (strB p.r.f),.slice b r d] 42)).drew.cell? ⟨w.heap.size,4,none⟩=some (.string (strB p.l.v.s)):=tnew w _ _ 4 rfl
 have d5 : (w.alloc (.cells #[.int .i64 p.cmp,.int .i64 p.l.k,.int .i64 p.l.v.k,.int .i64 p.l.v.n,.string (strB p.l.v.s),.string (strB p.l.x),.string (strB p.l.f),.slice a q c,.int .i64 p.r.k,.int .i64 p.r.v.k,.int .i64 p.r.v.n,.string (strB p.r.v.s),.string (strB p.r.x),.string (strB p.r.f),.slice b r d] 42)).drew.cell? ⟨w.heap.size,5,none⟩=some (.string (strB p.l.x)):=tnew w _ _ 5 rfl
 have d6 : (w.alloc (.cells #[.int .i64 p.cmp,.int .i64 p.l.k,.int .i64 p.l.v.k,.int .i64 p.l.v.n,.string (strB p.l.v.s),.string (strB p.l.x),.string (strB p.l.f),.slice a q c,.int .i64 p.r.k,.int .i64 p.r.v.k,.int .i64 p.r.v.n,.string (strB p.r.v.s),.string (strB p.r.x),.string (strB p.r.f),.slice b r d] 42)).drew.cell? ⟨w.heap.size,6,none⟩=some (.string (strB p.l.f)):=tnew w _ _ 6 rfl
 have d7 : (w.alloc (.cells #[.int .i64 p.cmp,.int .i64 p.l.k,.int .i64 p.l.v.k,.int .i64 p.l.v.n,.string (strB p.l.v.s),.string (strB p.l.x),.string (strB p.l.f),.slice a q c,.int .i64 p.r.k,.int .i64 p.r.v.k,.int .i64 p.r.v.n,.string (strB p.r.v.s),.string (strB p.r.x),.string (strB p.r.f),.slice b r d] 42)).drew.cell? ⟨w.heap.size,7,none⟩=some (.slice a q c):=tnew w _ _ 7 rfl
 have d8 : (w.alloc (.cells #[.int .i64 p.cmp,.int .i64 p.l.k,.int .i64 p.l.v.k,.int .i64 p.l.v.n,.string (strB p.l.v.s),.string (strB p.l.x),.string (strB p.l.f),.slice a q c,.int .i64 p.r.k,.int .i64 p.r.v.k,.int .i64 p.r.v.n,.string (strB p.r.v.s),.string (strB p.r.x),.string (strB p.r.f),.slice b r d] 42)).drew.cell? ⟨w.heap.size,8,none⟩=some (.int .i64 p.r.k):=tnew w _ _ 8 rfl
 have d9 : (w.alloc (.cells #[.int .i64 p.cmp,.int .i64 p.l.k,.int .i64 p.l.v.k,.int .i64 p.l.v.n,.string (strB p.l.v.s),.string (strB p.l.x),.string (strB p.l.f),.slice a q c,.int .i64 p.r.k,.int .i64 p.r.v.k,.int .i64 p.r.v.n,.string (strB p.r.v.s),.string (strB p.r.x),.string (strB p.r.f),.slice b r d] 42)).drew.cell? ⟨w.heap.size,9,none⟩=some (.int .i64 p.r.v.k):=tnew w _ _ 9 rfl
 have d10 : (w.alloc (.cells #[.int .i64 p.cmp,.int .i64 p.l.k,.int .i64 p.l.v.k,.int .i64 p.l.v.n,.string (strB p.l.v.s),.string (strB p.l.x),.string (strB p.l.f),.slice a q c,.int .i64 p.r.k,.int .i64 p.r.v.k,.int .i64 p.r.v.n,.string (strB p.r.v.s),.string (strB p.r.x),.string (strB p.r.f),.slice b r d] 42)).drew.cell? ⟨w.heap.size,10,none⟩=some (.int .i64 p.r.v.n):=tnew w _ _ 10 rfl
 have d11 : (w.alloc (.cells #[.int .i64 p.cmp,.int .i64 p.l.k,.int .i64 p.l.v.k,.int .i64 p.l.v.n,.string (strB p.l.v.s),.string (strB p.l.x),.string (strB p.l.f),.slice a q c,.int .i64 p.r.k,.int .i64 p.r.v.k,.int .i64 p.r.v.n,.string (strB p.r.v.s),.string (strB p.r.x),.string (strB p.r.f),.slice b r d] 42)).drew.cell? ⟨w.heap.size,11,none⟩=some (.string (strB p.r.v.s)):=tnew w _ _ 11 rfl
 have d12 : (w.alloc (.cells #[.int .i64 p.cmp,.int .i64 p.l.k,.int .i64 p.l.v.k,.int .i64 p.l.v.n,.string (strB p.l.v.s),.string (strB p.l.x),.string (strB p.l.f),.slice a q c,.int .i64 p.r.k,.int .i64 p.r.v.k,.int .i64 p.r.v.n,.string (strB p.r.v.s),.string (strB p.r.x),.string (strB p.r.f),.slice b r d] 42)).drew.cell? ⟨w.heap.size,12,none⟩=some (.string (strB p.r.x)):=tnew w _ _ 12 rfl
 have d13 : (w.alloc (.cells #[.int .i64 p.cmp,.int .i64 p.l.k,.int .i64 p.l.v.k,.int .i64 p.l.v.n,.string (strB p.l.v.s),.string (strB p.l.x),.string (strB p.l.f),.slice a q c,.int .i64 p.r.k,.int .i64 p.r.v.k,.int .i64 p.r.v.n,.string (strB p.r.v.s),.string (strB p.r.x),.string (strB p.r.f),.slice b r d] 42)).drew.cell? ⟨w.heap.size,13,none⟩=some (.string (strB p.r.f)):=tnew w _ _ 13 rfl
 have d14 : (w.alloc (.cells #[.int .i64 p.cmp,.int .i64 p.l.k,.int .i64 p.l.v.k,.int .i64 p.l.v.n,.string (strB p.l.v.s),.string (strB p.l.x),.string (strB p.l.f),.slice a q c,.int .i64 p.r.k,.int .i64 p.r.v.k,.int .i64 p.r.v.n,.string (strB p.r.v.s),.string (strB p.r.x),.string (strB p.r.f),.slice b r d] 42)).drew.cell? ⟨w.heap.size,14,none⟩=some (.slice b r d):=tnew w _ _ 14 rfl
 clear hb0 hl0 hl1 hc h0 h1 hmt
 go_enter Tryz.func21,Tryz.ntmps21
 go_wp2_with fail
 refine wp_region_held_drew (S:=fun W=>W.cell? ⟨w.heap.size,0,none⟩=some (.int .i64 p.cmp)∧W.cell? ⟨w.heap.size,1,none⟩=some (.int .i64 p.l.k)∧W.cell? ⟨w.heap.size,2,none⟩=some (.int .i64 p.l.v.k)∧W.cell? ⟨w.heap.size,3,none⟩=some (.int .i64 p.l.v.n)∧W.cell? ⟨w.heap.size,4,none⟩=some (.string (strB p.l.v.s))∧W.cell? ⟨w.heap.size,5,none⟩=some (.string (strB p.l.x))∧W.cell? ⟨w.heap.size,6,none⟩=some (.string (strB p.l.f))∧W.cell? ⟨w.heap.size,7,none⟩=some (.slice a q c)∧W.cell? ⟨w.heap.size,8,none⟩=some (.int .i64 p.r.k)∧W.cell? ⟨w.heap.size,9,none⟩=some (.int .i64 p.r.v.k)∧W.cell? ⟨w.heap.size,10,none⟩=some (.int .i64 p.r.v.n)∧W.cell? ⟨w.heap.size,11,none⟩=some (.string (strB p.r.v.s))∧W.cell? ⟨w.heap.size,12,none⟩=some (.string (strB p.r.x))∧W.cell? ⟨w.heap.size,13,none⟩=some (.string (strB p.r.f))∧W.cell? ⟨w.heap.size,14,none⟩=some (.slice b r d)) (by kernel_rfl) ⟨d0,d1,d2,d3,d4,d5,d6,d7,d8,d9,d10,d11,d12,d13,d14⟩ (fun hHeld=>?_)
 refine tK 0 3 (h:=?_)
 try simp only [Act.put,sI,sZ,sS]
 refine tK 1 4 (h:=?_)
 try simp only [Act.put,sI,sZ,sS]
 refine tK 5 8 (h:=?_)
 try simp only [Act.put,sI,sZ,sS]
 refine tK 6 9 (h:=?_)
 try simp only [Act.put,sI,sZ,sS]
 refine tK 10 13 (h:=?_)
 try simp only [Act.put,sI,sZ,sS]
 refine tK 11 14 (h:=?_)
 try simp only [Act.put,sI,sZ,sS]
 refine wpAnyH_ready (rs:=[2]) (by kernel_rfl) (by simp) ?_
 refine AllReadyH.cons (o:=_) rfl (fun K hK=>?_) AllReadyH.nil
 dsimp only [List.getElem_toArray,List.getElem_cons_succ,List.getElem_cons_zero]
 go_simp
 go_at_call 66
 (with_reducible refine H0.out.mono ?_)
 rintro e w1 ⟨rfl,hb1⟩
 have HB1:=hid ((vbelow_drew HB0.out).trans (hb1.mono (show _≤(w.alloc (.cells #[.int .i64 p.cmp,.int .i64 p.l.k,.int .i64 p.l.v.k,.int .i64 p.l.v.n,.string (strB p.l.v.s),.string (strB p.l.x),.string (strB p.l.f),.slice a q c,.int .i64 p.r.k,.int .i64 p.r.v.k,.int .i64 p.r.v.n,.string (strB p.r.v.s),.string (strB p.r.x),.string (strB p.r.f),.slice b r d] 42)).drew.heap.size from HB0.out.size)))
 have e0:=tkeep hb1 d0
 have e1:=tkeep hb1 d1
 have e2:=tkeep hb1 d2
 have e3:=tkeep hb1 d3
 have e4:=tkeep hb1 d4
 have e5:=tkeep hb1 d5
 have e6:=tkeep hb1 d6
 have e7:=tkeep hb1 d7
 have e8:=tkeep hb1 d8
 have e9:=tkeep hb1 d9
 have e10:=tkeep hb1 d10
 have e11:=tkeep hb1 d11
 have e12:=tkeep hb1 d12
 have e13:=tkeep hb1 d13
 have e14:=tkeep hb1 d14
 clear hb1
 go_wp2_with fail
 refine hK.out _ _ ⟨e0,e1,e2,e3,e4,e5,e6,e7,e8,e9,e10,e11,e12,e13,e14⟩ (fun hHelda2=>?_)
 clear hK K
 try simp only [Act.put,sI,sZ,sS]
 refine tK 3 6 (h:=?_)
 try simp only [Act.put,sI,sZ,sS]
 refine wpAnyH_ready (rs:=[4]) (by kernel_rfl) (by simp) ?_
 refine AllReadyH.cons (o:=_) rfl (fun K hK=>?_) AllReadyH.nil
 dsimp only [List.getElem_toArray,List.getElem_cons_succ,List.getElem_cons_zero]
 go_simp
 go_at_call 67
 (with_reducible refine (HC.out _).mono ?_)
 rintro e w2 ⟨rfl,hb1⟩
 have HB2:=hid (HB1.out.trans (hb1.mono HB1.out.size))
 have f0:=tkeep hb1 e0
 have f1:=tkeep hb1 e1
 have f2:=tkeep hb1 e2
 have f3:=tkeep hb1 e3
 have f4:=tkeep hb1 e4
 have f5:=tkeep hb1 e5
 have f6:=tkeep hb1 e6
 have f7:=tkeep hb1 e7
 have f8:=tkeep hb1 e8
 have f9:=tkeep hb1 e9
 have f10:=tkeep hb1 e10
 have f11:=tkeep hb1 e11
 have f12:=tkeep hb1 e12
 have f13:=tkeep hb1 e13
 have f14:=tkeep hb1 e14
 clear hb1
 go_wp2_with fail
 refine hK.out _ _ ⟨f0,f1,f2,f3,f4,f5,f6,f7,f8,f9,f10,f11,f12,f13,f14⟩ (fun hHelda4=>?_)
 clear hK K
 try simp only [Act.put,sI,sZ,sS]
 refine tK 7 10 (h:=?_)
 try simp only [Act.put,sI,sZ,sS]
 refine tK 8 11 (h:=?_)
 try simp only [Act.put,sI,sZ,sS]
 refine tK 9 12 (h:=?_)
 try simp only [Act.put,sI,sZ,sS]
 refine wpAnyH_ready (rs:=[12]) (by kernel_rfl) (by simp) ?_
 refine AllReadyH.cons (o:=_) rfl (fun K hK=>?_) AllReadyH.nil
 dsimp only [List.getElem_toArray,List.getElem_cons_succ,List.getElem_cons_zero]
 go_simp
 go_at_call 66
 (with_reducible refine (H1.out _ HB2.out).mono ?_)
 rintro e w3 ⟨rfl,hb1⟩
 have HB3:=hid (HB2.out.trans (hb1.mono HB2.out.size))
 have g0:=tkeep hb1 f0
 have g1:=tkeep hb1 f1
 have g2:=tkeep hb1 f2
 have g3:=tkeep hb1 f3
 have g4:=tkeep hb1 f4
 have g5:=tkeep hb1 f5
 have g6:=tkeep hb1 f6
 have g7:=tkeep hb1 f7
 have g8:=tkeep hb1 f8
 have g9:=tkeep hb1 f9
 have g10:=tkeep hb1 f10
 have g11:=tkeep hb1 f11
 have g12:=tkeep hb1 f12
 have g13:=tkeep hb1 f13
 have g14:=tkeep hb1 f14
 clear hb1
 go_wp2_with fail
 refine hK.out _ _ ⟨g0,g1,g2,g3,g4,g5,g6,g7,g8,g9,g10,g11,g12,g13,g14⟩ (fun hHelda12=>?_)
 clear hK K
 try simp only [Act.put,sI,sZ,sS]
 refine tK 13 16 (h:=?_)
 try simp only [Act.put,sI,sZ,sS]
 refine tK 14 2 (h:=?_)
 try simp only [Act.put,sI,sZ,sS]
 refine wpAnyH_done (by kernel_rfl) ?_ _
 go_wp2
 go_ret
 exact ⟨by rw [← HR.out];rfl,HB3.out⟩
end
end Go.Proofs.YtefcbgnckgapgaaGreatDoor

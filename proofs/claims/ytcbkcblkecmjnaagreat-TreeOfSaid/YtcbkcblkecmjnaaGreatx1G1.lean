/-
  The Go functions do what the plain functions say. No condition.
-/
import Derived.Test.YtcbkcblkecmjnaaGreatx1T
namespace Go.Proofs.YtcbkcblkecmjnaaGreat
open Go Go.RowKit
set_option linter.unusedVariables false
set_option maxRecDepth 100000
set_option maxHeartbeats 3200000
abbrev zCx:=(mput ([]:(List (Int×zw))) 1 (⟨[105,110,116,51,50],0⟩:zw))
abbrev zCy:=(mput zCx 2 (⟨[105,110,116,54,52],0⟩:zw))
abbrev zCz:=(mput zCy 3 (⟨[117,105,110,116,51,50],0⟩:zw))
abbrev zCA:=(mput zCz 4 (⟨[117,105,110,116,54,52],0⟩:zw))
abbrev zCB:=(mput zCA 5 (⟨[115,105,110,116,51,50],0⟩:zw))
abbrev zCC:=(mput zCB 6 (⟨[115,105,110,116,54,52],0⟩:zw))
abbrev zCD:=(mput zCC 7 (⟨[98,111,111,108],0⟩:zw))
abbrev zCE:=(mput zCD 8 (⟨[101,110,117,109],0⟩:zw))
abbrev zCF:=(mput zCE 9 (⟨[102,105,120,101,100,51,50],5⟩:zw))
abbrev zyG:=(mput zCF 10 (⟨[115,102,105,120,101,100,51,50],5⟩:zw))
abbrev zyH:=(mput zyG 11 (⟨[102,108,111,97,116],5⟩:zw))
abbrev zyI:=(mput zyH 12 (⟨[102,105,120,101,100,54,52],1⟩:zw))
abbrev zyJ:=(mput zyI 13 (⟨[115,102,105,120,101,100,54,52],1⟩:zw))
abbrev zyK:=(mput zyJ 14 (⟨[100,111,117,98,108,101],1⟩:zw))
abbrev zvH:=(mput zyK 15 (⟨[115,116,114,105,110,103],2⟩:zw))
theorem zof {r:(List (Int×zw))} (h:zjp=some r):FnOk Tryz.prog 121 [] [.om (Rp.int .i64) zC 2 [] r]:=by
 refine zB (E:=⟨[(0,.om (Rp.int .i64) zC 2 [] r)],[]⟩) 20 Tryz.func121 rfl rfl rfl ⟨rfl,trivial⟩ (fun Xt=>?_)
 refine zr ?_
 unfold zjp at h
 refine jp ?_
 refine jr (rc 0 rfl (zkZ (rk:=(Rp.int .i64)) (rv:=zC) 12 rfl) (rc 0 rfl (zX (r:=zC) [kS [105,110,116,51,50],kI 0] [] (⟨[105,110,116,51,50],0⟩:zw) rfl zgq rfl rfl) (rkl 0 [] ⟨[(1,.om (Rp.int .i64) zC 12 [] ([]:(List (Int×zw)))),(2,.rc zC [] (⟨[105,110,116,51,50],0⟩:zw))],[]⟩ (zeX (rk:=(Rp.int .i64)) (rv:=zC) (m:=([]:(List (Int×zw)))) (C:=[]) (C1:=[]) (D:=[]) [1] 1 (⟨[105,110,116,51,50],0⟩:zw) [] zew rfl (.inr rfl) rfl rfl rfl rfl (zeb rfl rfl) (zcX rfl) (by kernel_rfl) rfl (rc 0 rfl (zX (r:=zC) [kS [105,110,116,54,52],kI 0] [] (⟨[105,110,116,54,52],0⟩:zw) rfl zgq rfl rfl) (rkl 0 [] ⟨[(1,.om (Rp.int .i64) zC 12 [] zCx),(3,.rc zC [] (⟨[105,110,116,54,52],0⟩:zw))],[]⟩ (zeX (rk:=(Rp.int .i64)) (rv:=zC) (m:=zCx) (C:=[]) (C1:=[]) (D:=[]) [1] 2 (⟨[105,110,116,54,52],0⟩:zw) [] zew rfl (.inr rfl) rfl rfl rfl rfl (zeb rfl rfl) (zcX rfl) (by kernel_rfl) rfl (rc 0 rfl (zX (r:=zC) [kS [117,105,110,116,51,50],kI 0] [] (⟨[117,105,110,116,51,50],0⟩:zw) rfl zgq rfl rfl) (rkl 0 [] ⟨[(1,.om (Rp.int .i64) zC 12 [] zCy),(4,.rc zC [] (⟨[117,105,110,116,51,50],0⟩:zw))],[]⟩ (zeX (rk:=(Rp.int .i64)) (rv:=zC) (m:=zCy) (C:=[]) (C1:=[]) (D:=[]) [1] 3 (⟨[117,105,110,116,51,50],0⟩:zw) [] zew rfl (.inr rfl) rfl rfl rfl rfl (zeb rfl rfl) (zcX rfl) (by kernel_rfl) rfl (rc 0 rfl (zX (r:=zC) [kS [117,105,110,116,54,52],kI 0] [] (⟨[117,105,110,116,54,52],0⟩:zw) rfl zgq rfl rfl) (rkl 0 [] ⟨[(1,.om (Rp.int .i64) zC 12 [] zCz),(5,.rc zC [] (⟨[117,105,110,116,54,52],0⟩:zw))],[]⟩ (zeX (rk:=(Rp.int .i64)) (rv:=zC) (m:=zCz) (C:=[]) (C1:=[]) (D:=[]) [1] 4 (⟨[117,105,110,116,54,52],0⟩:zw) [] zew rfl (.inr rfl) rfl rfl rfl rfl (zeb rfl rfl) (zcX rfl) (by kernel_rfl) rfl (rc 0 rfl (zX (r:=zC) [kS [115,105,110,116,51,50],kI 0] [] (⟨[115,105,110,116,51,50],0⟩:zw) rfl zgq rfl rfl) (rkl 0 [] ⟨[(1,.om (Rp.int .i64) zC 12 [] zCA),(6,.rc zC [] (⟨[115,105,110,116,51,50],0⟩:zw))],[]⟩ (zeX (rk:=(Rp.int .i64)) (rv:=zC) (m:=zCA) (C:=[]) (C1:=[]) (D:=[]) [1] 5 (⟨[115,105,110,116,51,50],0⟩:zw) [] zew rfl (.inr rfl) rfl rfl rfl rfl (zeb rfl rfl) (zcX rfl) (by kernel_rfl) rfl (rc 0 rfl (zX (r:=zC) [kS [115,105,110,116,54,52],kI 0] [] (⟨[115,105,110,116,54,52],0⟩:zw) rfl zgq rfl rfl) (rkl 0 [] ⟨[(1,.om (Rp.int .i64) zC 12 [] zCB),(7,.rc zC [] (⟨[115,105,110,116,54,52],0⟩:zw))],[]⟩ (zeX (rk:=(Rp.int .i64)) (rv:=zC) (m:=zCB) (C:=[]) (C1:=[]) (D:=[]) [1] 6 (⟨[115,105,110,116,54,52],0⟩:zw) [] zew rfl (.inr rfl) rfl rfl rfl rfl (zeb rfl rfl) (zcX rfl) (by kernel_rfl) rfl (rc 0 rfl (zX (r:=zC) [kS [98,111,111,108],kI 0] [] (⟨[98,111,111,108],0⟩:zw) rfl zgq rfl rfl) (rkl 0 [] ⟨[(1,.om (Rp.int .i64) zC 12 [] zCC),(8,.rc zC [] (⟨[98,111,111,108],0⟩:zw))],[]⟩ (zeX (rk:=(Rp.int .i64)) (rv:=zC) (m:=zCC) (C:=[]) (C1:=[]) (D:=[]) [1] 7 (⟨[98,111,111,108],0⟩:zw) [] zew rfl (.inr rfl) rfl rfl rfl rfl (zeb rfl rfl) (zcX rfl) (by kernel_rfl) rfl (rc 0 rfl (zX (r:=zC) [kS [101,110,117,109],kI 0] [] (⟨[101,110,117,109],0⟩:zw) rfl zgq rfl rfl) (rkl 0 [] ⟨[(1,.om (Rp.int .i64) zC 12 [] zCD),(9,.rc zC [] (⟨[101,110,117,109],0⟩:zw))],[]⟩ (zeX (rk:=(Rp.int .i64)) (rv:=zC) (m:=zCD) (C:=[]) (C1:=[]) (D:=[]) [1] 8 (⟨[101,110,117,109],0⟩:zw) [] zew rfl (.inr rfl) rfl rfl rfl rfl (zeb rfl rfl) (zcX rfl) (by kernel_rfl) rfl (rc 0 rfl (zX (r:=zC) [kS [102,105,120,101,100,51,50],kI 5] [] (⟨[102,105,120,101,100,51,50],5⟩:zw) rfl zgq rfl rfl) (rkl 0 [] ⟨[(1,.om (Rp.int .i64) zC 12 [] zCE),(10,.rc zC [] (⟨[102,105,120,101,100,51,50],5⟩:zw))],[]⟩ (zeX (rk:=(Rp.int .i64)) (rv:=zC) (m:=zCE) (C:=[]) (C1:=[]) (D:=[]) [1] 9 (⟨[102,105,120,101,100,51,50],5⟩:zw) [] zew rfl (.inr rfl) rfl rfl rfl rfl (zeb rfl rfl) (zcX rfl) (by kernel_rfl) rfl (rc 0 rfl (zX (r:=zC) [kS [115,102,105,120,101,100,51,50],kI 5] [] (⟨[115,102,105,120,101,100,51,50],5⟩:zw) rfl zgq rfl rfl) (rkl 0 [] ⟨[(1,.om (Rp.int .i64) zC 12 [] zCF),(11,.rc zC [] (⟨[115,102,105,120,101,100,51,50],5⟩:zw))],[]⟩ (zeX (rk:=(Rp.int .i64)) (rv:=zC) (m:=zCF) (C:=[]) (C1:=[]) (D:=[]) [1] 10 (⟨[115,102,105,120,101,100,51,50],5⟩:zw) [] zew rfl (.inr rfl) rfl rfl rfl rfl (zeb rfl rfl) (zcX rfl) (by kernel_rfl) rfl (rc 0 rfl (zX (r:=zC) [kS [102,108,111,97,116],kI 5] [] (⟨[102,108,111,97,116],5⟩:zw) rfl zgq rfl rfl) (rkl 0 [] ⟨[(1,.om (Rp.int .i64) zC 12 [] zyG),(12,.rc zC [] (⟨[102,108,111,97,116],5⟩:zw))],[]⟩ (zeX (rk:=(Rp.int .i64)) (rv:=zC) (m:=zyG) (C:=[]) (C1:=[]) (D:=[]) [1] 11 (⟨[102,108,111,97,116],5⟩:zw) [] zew rfl (.inr rfl) rfl rfl rfl rfl (zeb rfl rfl) (zcX rfl) (by kernel_rfl) rfl (rc 0 rfl (zX (r:=zC) [kS [102,105,120,101,100,54,52],kI 1] [] (⟨[102,105,120,101,100,54,52],1⟩:zw) rfl zgq rfl rfl) (rkl 0 [] ⟨[(1,.om (Rp.int .i64) zC 12 [] zyH),(13,.rc zC [] (⟨[102,105,120,101,100,54,52],1⟩:zw))],[]⟩ (zeX (rk:=(Rp.int .i64)) (rv:=zC) (m:=zyH) (C:=[]) (C1:=[]) (D:=[]) [1] 12 (⟨[102,105,120,101,100,54,52],1⟩:zw) [] zew rfl (.inr rfl) rfl rfl rfl rfl (zeb rfl rfl) (zcX rfl) (by kernel_rfl) rfl (rc 0 rfl (zX (r:=zC) [kS [115,102,105,120,101,100,54,52],kI 1] [] (⟨[115,102,105,120,101,100,54,52],1⟩:zw) rfl zgq rfl rfl) (rkl 0 [] ⟨[(1,.om (Rp.int .i64) zC 12 [] zyI),(14,.rc zC [] (⟨[115,102,105,120,101,100,54,52],1⟩:zw))],[]⟩ (zeX (rk:=(Rp.int .i64)) (rv:=zC) (m:=zyI) (C:=[]) (C1:=[]) (D:=[]) [1] 13 (⟨[115,102,105,120,101,100,54,52],1⟩:zw) [] zew rfl (.inr rfl) rfl rfl rfl rfl (zeb rfl rfl) (zcX rfl) (by kernel_rfl) rfl (rc 0 rfl (zX (r:=zC) [kS [100,111,117,98,108,101],kI 1] [] (⟨[100,111,117,98,108,101],1⟩:zw) rfl zgq rfl rfl) (rkl 0 [] ⟨[(1,.om (Rp.int .i64) zC 12 [] zyJ),(15,.rc zC [] (⟨[100,111,117,98,108,101],1⟩:zw))],[]⟩ (zeX (rk:=(Rp.int .i64)) (rv:=zC) (m:=zyJ) (C:=[]) (C1:=[]) (D:=[]) [1] 14 (⟨[100,111,117,98,108,101],1⟩:zw) [] zew rfl (.inr rfl) rfl rfl rfl rfl (zeb rfl rfl) (zcX rfl) (by kernel_rfl) rfl (rc 0 rfl (zX (r:=zC) [kS [115,116,114,105,110,103],kI 2] [] (⟨[115,116,114,105,110,103],2⟩:zw) rfl zgq rfl rfl) (rkl 0 [] ⟨[(1,.om (Rp.int .i64) zC 12 [] zyK),(16,.rc zC [] (⟨[115,116,114,105,110,103],2⟩:zw))],[]⟩ (zeX (rk:=(Rp.int .i64)) (rv:=zC) (m:=zyK) (C:=[]) (C1:=[]) (D:=[]) [1] 15 (⟨[115,116,114,105,110,103],2⟩:zw) [] zew rfl (.inr rfl) rfl rfl rfl rfl (zeb rfl rfl) (zcX rfl) (by kernel_rfl) rfl (rc 0 rfl (zX (r:=zC) [kS [98,121,116,101,115],kI 2] [] (⟨[98,121,116,101,115],2⟩:zw) rfl zgq rfl rfl) (rkl 0 [] ⟨[(1,.om (Rp.int .i64) zC 12 [] zvH),(17,.rc zC [] (⟨[98,121,116,101,115],2⟩:zw))],[]⟩ (zeX (rk:=(Rp.int .i64)) (rv:=zC) (m:=zvH) (C:=[]) (C1:=[]) (D:=[]) [1] 16 (⟨[98,121,116,101,115],2⟩:zw) [] zew rfl (.inr rfl) rfl rfl rfl rfl (zeb rfl rfl) (zcX rfl) (by kernel_rfl) rfl (rc 0 rfl (zX (r:=zC) [kS [109,101,115,115,97,103,101],kI 2] [] (⟨[109,101,115,115,97,103,101],2⟩:zw) rfl zgq rfl rfl) (rkl 0 [] ⟨[(1,.om (Rp.int .i64) zC 12 [] (mput zvH 16 (⟨[98,121,116,101,115],2⟩:zw))),(18,.rc zC [] (⟨[109,101,115,115,97,103,101],2⟩:zw))],[]⟩ (zeX (rk:=(Rp.int .i64)) (rv:=zC) (m:=(mput zvH 16 (⟨[98,121,116,101,115],2⟩:zw))) (C:=[]) (C1:=[]) (D:=[]) [1] 17 (⟨[109,101,115,115,97,103,101],2⟩:zw) [] zew rfl (.inr rfl) rfl rfl rfl rfl (zeb rfl rfl) (zcX rfl) (by kernel_rfl) rfl rf)))))))))))))))))))))))))))))))))))))))))))))))))))) ?_
 obtain rfl:=sj h
 refine zx ?_
 refine lk [0] [] 12 2 ?_
 exact lzz
theorem zki {c:Int} {r:Bool} (h:zfq c=some r):FnOk Tryz.prog 156 [k8 c] [kB r]:=by
 refine zB (E:=⟨[(2,kB r)],[]⟩) 9 Tryz.func156 rfl rfl rfl ⟨rfl,trivial⟩ (fun Xt=>?_)
 refine zr ?_
 unfold zfq at h
 refine jp ?_
 refine zS ⟨[(2,kB ((decide (c≥48))&&(decide (c≤57))))],[]⟩ ?_ ?_
 ·
  refine (rsl 3 [] 5 (decide (c≥48)) (fun hc1=>?_) (fun hc1=>?_))
  · exact (rbl [] 2 (decide (c≤57)) ((decide (c≥48))&&(decide (c≤57))) (by rw [hc1]<;>rfl))
  exact (rbl [] 2 false ((decide (c≥48))&&(decide (c≤57))) (by rw [hc1]<;>rfl))
 obtain rfl:=sj h
 exact zx lzz
theorem zoI {c:Int} {r:Bool} (h:zfL c=some r):FnOk Tryz.prog 157 [k8 c] [kB r]:=by
 refine zB (E:=⟨[(2,kB r)],[]⟩) 21 Tryz.func157 rfl rfl rfl ⟨rfl,trivial⟩ (fun Xt=>?_)
 refine zr ?_
 unfold zfL at h
 refine jp ?_
 refine zS ⟨[(2,kB (if (decide (c≥97)) then ((decide (c≤122))|| (if (decide (c≥65)) then ((decide (c≤90))|| (c==95)) else (c==95))) else (if (decide (c≥65)) then ((decide (c≤90))|| (c==95)) else (c==95))))],[]⟩ ?_ ?_
 ·
  refine (rsl 3 [] 5 (decide (c≥97)) (fun hc1=>?_) (fun hc1=>?_))
  ·
   refine (rsl 4 [] 9 (decide (c≤122)) (fun hc2=>?_) (fun hc2=>?_))
   · exact (rbl [] 2 true (if (decide (c≥97)) then ((decide (c≤122))|| (if (decide (c≥65)) then ((decide (c≤90))|| (c==95)) else (c==95))) else (if (decide (c≥65)) then ((decide (c≤90))|| (c==95)) else (c==95))) (by rw [hc1,hc2]<;>rfl))
   refine (rsl 3 [] 12 (decide (c≥65)) (fun hc3=>?_) (fun hc3=>?_))
   ·
    refine (rsl 5 [] 17 (decide (c≤90)) (fun hc4=>?_) (fun hc4=>?_))
    · exact (rbl [] 2 true (if (decide (c≥97)) then ((decide (c≤122))|| (if (decide (c≥65)) then ((decide (c≤90))|| (c==95)) else (c==95))) else (if (decide (c≥65)) then ((decide (c≤90))|| (c==95)) else (c==95))) (by rw [hc1,hc2,hc3,hc4]<;>rfl))
    exact (rbl [] 2 (c==95) (if (decide (c≥97)) then ((decide (c≤122))|| (if (decide (c≥65)) then ((decide (c≤90))|| (c==95)) else (c==95))) else (if (decide (c≥65)) then ((decide (c≤90))|| (c==95)) else (c==95))) (by rw [hc1,hc2,hc3,hc4]<;>rfl))
   exact (rbl [] 2 (c==95) (if (decide (c≥97)) then ((decide (c≤122))|| (if (decide (c≥65)) then ((decide (c≤90))|| (c==95)) else (c==95))) else (if (decide (c≥65)) then ((decide (c≤90))|| (c==95)) else (c==95))) (by rw [hc1,hc2,hc3]<;>rfl))
  refine (rsl 7 [] 12 (decide (c≥65)) (fun hc5=>?_) (fun hc5=>?_))
  ·
   refine (rsl 5 [] 17 (decide (c≤90)) (fun hc6=>?_) (fun hc6=>?_))
   · exact (rbl [] 2 true (if (decide (c≥97)) then ((decide (c≤122))|| (if (decide (c≥65)) then ((decide (c≤90))|| (c==95)) else (c==95))) else (if (decide (c≥65)) then ((decide (c≤90))|| (c==95)) else (c==95))) (by rw [hc1,hc5,hc6]<;>rfl))
   exact (rbl [] 2 (c==95) (if (decide (c≥97)) then ((decide (c≤122))|| (if (decide (c≥65)) then ((decide (c≤90))|| (c==95)) else (c==95))) else (if (decide (c≥65)) then ((decide (c≤90))|| (c==95)) else (c==95))) (by rw [hc1,hc5,hc6]<;>rfl))
  exact (rbl [] 2 (c==95) (if (decide (c≥97)) then ((decide (c≤122))|| (if (decide (c≥65)) then ((decide (c≤90))|| (c==95)) else (c==95))) else (if (decide (c≥65)) then ((decide (c≤90))|| (c==95)) else (c==95))) (by rw [hc1,hc5]<;>rfl))
 obtain rfl:=sj h
 exact zx lzz
theorem zoJ {n:Int} {r:Bool} (h:zfM n=some r):FnOk Tryz.prog 123 [kI n] [kB r]:=by
 refine zB (E:=⟨[(2,kB r)],[]⟩) 17 Tryz.func123 rfl rfl rfl ⟨rfl,trivial⟩ (fun Xt=>?_)
 refine zr ?_
 unfold zfM at h
 refine jp ?_
 refine zS ⟨[(2,kB ((decide (n≥1))&&((decide (n≤536870911))&&((decide (n<19000))|| (decide (n>19999))))))],[]⟩ ?_ ?_
 ·
  refine (rsl 3 [] 5 (decide (n≥1)) (fun hc1=>?_) (fun hc1=>?_))
  ·
   refine (rsl 4 [] 9 (decide (n≤536870911)) (fun hc2=>?_) (fun hc2=>?_))
   ·
    refine (rsl 3 [] 12 (decide (n<19000)) (fun hc3=>?_) (fun hc3=>?_))
    · exact (rbl [] 2 true ((decide (n≥1))&&((decide (n≤536870911))&&((decide (n<19000))|| (decide (n>19999))))) (by rw [hc1,hc2,hc3]<;>rfl))
    exact (rbl [] 2 (decide (n>19999)) ((decide (n≥1))&&((decide (n≤536870911))&&((decide (n<19000))|| (decide (n>19999))))) (by rw [hc1,hc2,hc3]<;>rfl))
   exact (rbl [] 2 false ((decide (n≥1))&&((decide (n≤536870911))&&((decide (n<19000))|| (decide (n>19999))))) (by rw [hc1,hc2]<;>rfl))
  exact (rbl [] 2 false ((decide (n≥1))&&((decide (n≤536870911))&&((decide (n<19000))|| (decide (n>19999))))) (by rw [hc1]<;>rfl))
 obtain rfl:=sj h
 exact zx lzz
theorem zjB {sv:(List Int)} {v:Int} {r:Int} (h:zcM sv v=some r):FnOk Tryz.prog 158 [.sl (Rp.int .i64) [0] sv,kI v] [kI r]:=by
 refine zB (E:=⟨[(4,kI r)],[]⟩) 19 Tryz.func158 rfl rfl rfl ⟨rfl,trivial⟩ (fun Xt=>?_)
 refine zr ?_
 unfold zcM at h
 refine jp ?_
 refine jp ?_
 refine zy ?_
 obtain ⟨q,h_q,h⟩:=bnd h
 refine zah (fun s:Int=>zag sv v s) (fun s=>⟨[(0,.sl (Rp.int .i64) [0] sv),(1,kI v),(7,kI (sv.length:Int)),(8,kI s)],[]⟩) (fun o e a w=>match o with| (.inl v_)=>e= .exit 0∧Sx ⟨⟨19,[]⟩,Xt,false,#[]⟩ ⟨[],[]⟩ a w| (.inr v_)=>e= .ret∧Sx ⟨⟨19,[]⟩,Xt,false,#[]⟩ ⟨[(4,kI v_)],[]⟩ a w) ?_ h_q lzz ?_
 ·
  clear h
  intro v2 o h
  refine zr ?_
  replace h:zag sv v v2=some o:=h
  unfold zag at h
  refine jp ?_
  rcases zn h with ⟨hc1,h⟩| ⟨hc1,h⟩
  ·
   refine jT hc1 ?_
   refine zy ?_
   refine jp ?_
   obtain ⟨x,h_x,h⟩:=bnd h
   refine jr (ra 3 [.sl (Rp.int .i64) [0] sv,kI v2] rfl (zao rfl zhD.el (zI _ _ _) h_x) rfl rf) ?_
   rcases zn h with ⟨hc2,h⟩| ⟨hc2,h⟩
   ·
    refine jT hc2 ?_
    refine jp ?_
    obtain rfl:=sj h
    exact zbq lzz
   refine jF hc2 ?_
   refine zT ?_
   refine jp ?_
   obtain rfl:=sj h
   exact zE lzz
  refine jF hc1 ?_
  obtain rfl:=sj h
  exact zai rfl lzz
 rcases q with u| u2
 ·
  refine zaI _ rfl ?_
  refine jp ?_
  obtain rfl:=sj h
  exact zx lzz
 obtain rfl:=sj h
 exact zed lzz
theorem zmt {c:zaK} {f:zc} {r:Bool} (h:zev c f=some r):FnOk Tryz.prog 126 [.ag [kI c.size,.sl (Rp.int .i64) [0] c.kinds,.mp zu Rp.bool [0] c.names,.mp zt Rp.bool [0] c.numbers],.rc za [0] f] [kB r]:=by
 refine zB (E:=⟨[(4,kB r)],[]⟩) 21 Tryz.func126 rfl rfl rfl ⟨rfl,trivial⟩ (fun Xt=>?_)
 refine zr ?_
 unfold zev at h
 refine jq [11,12] ?_
 refine jp ?_
 rcases zn h with ⟨hc1,h⟩| ⟨hc1,h⟩
 ·
  refine jT hc1 ?_
  refine zS ⟨[(4,kB ((decide (f.Of≥0))&&(decide (f.Of<c.size))))],[]⟩ ?_ ?_
  ·
   refine (rsl 4 [] 11 (decide (f.Of≥0)) (fun hc2=>?_) (fun hc2=>?_))
   · exact (rbl [] 4 (decide (f.Of<c.size)) ((decide (f.Of≥0))&&(decide (f.Of<c.size))) (by rw [hc2]<;>rfl))
   exact (rbl [] 4 false ((decide (f.Of≥0))&&(decide (f.Of<c.size))) (by rw [hc2]<;>rfl))
  obtain rfl:=sj h
  exact zx lzz
 refine jF hc1 ?_
 refine jp ?_
 obtain rfl:=sj h
 exact zx lzz
theorem zhv {b:(List UInt8)} {r:(Int×Int×Int)} (h:zfA b=some r):FnOk Tryz.prog 152 [.sl Rp.byte [0] b] [kU r.1,kI r.2.1,k8 r.2.2]:=by
 refine zB (E:=⟨[(2,kU r.1),(3,kI r.2.1),(4,k8 r.2.2)],[]⟩) 38 Tryz.func152 rfl rfl rfl ⟨rfl,rfl,rfl,trivial⟩ (fun Xt=>?_)
 refine zr ?_
 unfold zfA at h
 refine jp ?_
 obtain ⟨v,h_v,h⟩:=bnd h
 refine jr (ra 4 [.sl Rp.byte [0] b,kI (if (10:Int)<(b.length:Int) then 10 else (b.length:Int))] rfl (zeD none (some (kI (if (10:Int)<(b.length:Int) then 10 else (b.length:Int)))) rfl zcS.el (zI _ _ _) ⟨rfl,rfl⟩ ⟨rfl,rfl⟩ h_v) rfl rf) ?_
 refine zy ?_
 obtain ⟨q,h_q,h⟩:=bnd h
 refine zah (fun s:(Int×Int)=>zca v s.1 s.2) (fun s=>⟨[(2,kU s.1),(11,.sl Rp.byte [0] v),(12,kI (v.length:Int)),(13,kI s.2)],[]⟩) (fun o e a w=>match o with| (.inl v_)=>e= .exit 0∧Sx ⟨⟨38,[]⟩,Xt,false,#[]⟩ ⟨[],[]⟩ a w| (.inr v_)=>e= .ret∧Sx ⟨⟨38,[]⟩,Xt,false,#[]⟩ ⟨[(2,kU v_.1),(3,kI v_.2.1),(4,k8 v_.2.2)],[]⟩ a w) ?_ h_q lzz ?_
 ·
  clear h
  intro s o h
  obtain ⟨wv,v2⟩:=s
  refine zr ?_
  replace h:zca v wv v2=some o:=h
  unfold zca at h
  refine jp ?_
  rcases zn h with ⟨hc1,h⟩| ⟨hc1,h⟩
  ·
   refine jT hc1 ?_
   refine zy ?_
   obtain ⟨x,h_x,h⟩:=bnd h
   refine jr (ra 1 [.sl Rp.byte [0] v,kI v2] rfl (zao rfl zcS.el (zI _ _ _) h_x) rfl rf) ?_
   refine zS ⟨[(2,kU wv),(5,kI v2),(6,k8 (x.toNat:Int)),(11,.sl Rp.byte [0] v),(12,kI (v.length:Int)),(13,kI v2),(23,kB ((v2==9)&&(decide ((x.toNat:Int)>1))))],[]⟩ ?_ ?_
   ·
    refine (rsl 3 [] 20 (v2==9) (fun hc2=>?_) (fun hc2=>?_))
    · exact (rbl [] 23 (decide ((x.toNat:Int)>1)) ((v2==9)&&(decide ((x.toNat:Int)>1))) (by rw [hc2]<;>rfl))
    exact (rbl [] 23 false ((v2==9)&&(decide ((x.toNat:Int)>1))) (by rw [hc2]<;>rfl))
   rcases zn h with ⟨hc3,h⟩| ⟨hc3,h⟩
   ·
    refine jT hc3 ?_
    refine jp ?_
    obtain rfl:=sj h
    exact zbq lzz
   refine jF hc3 ?_
   obtain ⟨v4,h_v4,h⟩:=bnd h
   refine jr (ra 6 [kU (IntKind.u64.wrap (andI .u8 (x.toNat:Int) 127)),kI (IntKind.i64.wrap (7*v2))] rfl (zyQ rfl h_v4) rfl rf) ?_
   refine jp ?_
   rcases zn h with ⟨hc4,h⟩| ⟨hc4,h⟩
   ·
    refine jT hc4 ?_
    refine jp ?_
    obtain rfl:=sj h
    exact zbq lzz
   refine jF hc4 ?_
   refine zT ?_
   refine jp ?_
   obtain rfl:=sj h
   exact zE lzz
  refine jF hc1 ?_
  obtain rfl:=sj h
  exact zai rfl lzz
 rcases q with u| u2
 ·
  refine zaI _ rfl ?_
  refine jp ?_
  obtain rfl:=sj h
  exact zx lzz
 obtain rfl:=sj h
 exact zed lzz
theorem zqC {wire:Int} {r:Bool} (h:zgP wire=some r):FnOk Tryz.prog 174 [kI wire] [kB r]:=by
 refine zB (E:=⟨[(2,kB r)],[]⟩) 9 Tryz.func174 rfl rfl rfl ⟨rfl,trivial⟩ (fun Xt=>?_)
 refine zr ?_
 unfold zgP at h
 refine jp ?_
 refine jp ?_
 refine zy ?_
 refine jp ?_
 rcases zn h with ⟨hc1,h⟩| ⟨hc1,h⟩
 ·
  refine jT hc1 ?_
  rcases zn h with ⟨hc2,h⟩| ⟨hc2,h⟩
  ·
   refine jT hc2 ?_
   refine jp ?_
   obtain rfl:=sj h
   exact zx lzz
  refine jF hc2 ?_
  refine zT ?_
  refine jp ?_
  obtain rfl:=sj h
  exact zx lzz
 refine jF hc1 ?_
 refine jp ?_
 rcases zn h with ⟨hc3,h⟩| ⟨hc3,h⟩
 ·
  refine jT hc3 ?_
  rcases zn h with ⟨hc4,h⟩| ⟨hc4,h⟩
  ·
   refine jT hc4 ?_
   refine jp ?_
   obtain rfl:=sj h
   exact zx lzz
  refine jF hc4 ?_
  refine zT ?_
  refine jp ?_
  obtain rfl:=sj h
  exact zx lzz
 refine jF hc3 ?_
 refine jp ?_
 rcases zn h with ⟨hc5,h⟩| ⟨hc5,h⟩
 ·
  refine jT hc5 ?_
  rcases zn h with ⟨hc6,h⟩| ⟨hc6,h⟩
  ·
   refine jT hc6 ?_
   refine jp ?_
   obtain rfl:=sj h
   exact zx lzz
  refine jF hc6 ?_
  refine zT ?_
  refine jp ?_
  obtain rfl:=sj h
  exact zx lzz
 refine jF hc5 ?_
 refine jp ?_
 rcases zn h with ⟨hc7,h⟩| ⟨hc7,h⟩
 ·
  refine jT hc7 ?_
  refine jp ?_
  obtain rfl:=sj h
  exact zx lzz
 refine jF hc7 ?_
 refine zT ?_
 refine jp ?_
 obtain rfl:=sj h
 exact zx lzz
theorem zrw {f:zc} {v:Int} {r:Bool} (h:zhw f v=some r):FnOk Tryz.prog 162 [.rc za [0] f,.ep (Rp.int .i64) [0] v 0] [kB r]:=by
 refine zB (E:=⟨[(3,kB r)],[]⟩) 8 Tryz.func162 rfl rfl rfl ⟨rfl,trivial⟩ (fun Xt=>?_)
 refine zr ?_
 unfold zhw at h
 refine jq [11] ?_
 refine jp ?_
 obtain rfl:=sj h
 exact zx lzz
theorem zlZ {k:Int} {r:(Int×Int)} (h:zgA k=some r):FnOk Tryz.prog 178 [kI k] [kI r.1,k8 r.2]:=by
 refine zB (E:=⟨[(2,kI r.1),(3,k8 r.2)],[]⟩) 22 Tryz.func178 rfl rfl rfl ⟨rfl,rfl,trivial⟩ (fun Xt=>?_)
 refine zr ?_
 unfold zgA at h
 refine jp ?_
 refine jp ?_
 refine zy ?_
 refine jp ?_
 obtain ⟨p,h_p,h⟩:=bnd h
 refine zbV (R:=fun e a w=>e= .normal∧Sx ⟨⟨22,[]⟩,Xt,false,#[]⟩ ⟨[(4,kI k),(5,kB p)],[]⟩ a w) ?_ ?_
 ·
  replace h:=h_p
  refine zr ?_
  rcases zn h with ⟨hc1,h⟩| ⟨hc1,h⟩
  ·
   refine jT hc1 ?_
   obtain rfl:=sj h
   exact zE lzz
  refine jF hc1 ?_
  refine jp ?_
  rcases zn h with ⟨hc2,h⟩| ⟨hc2,h⟩
  ·
   refine jT hc2 ?_
   obtain rfl:=sj h
   exact zE lzz
  refine jF hc2 ?_
  refine jp ?_
  rcases zn h with ⟨hc3,h⟩| ⟨hc3,h⟩
  ·
   refine jT hc3 ?_
   obtain rfl:=sj h
   exact zE lzz
  refine jF hc3 ?_
  refine jp ?_
  rcases zn h with ⟨hc4,h⟩| ⟨hc4,h⟩
  ·
   refine jT hc4 ?_
   obtain rfl:=sj h
   exact zE lzz
  refine jF hc4 ?_
  refine jp ?_
  rcases zn h with ⟨hc5,h⟩| ⟨hc5,h⟩
  ·
   refine jT hc5 ?_
   obtain rfl:=sj h
   exact zE lzz
  refine jF hc5 ?_
  refine jp ?_
  rcases zn h with ⟨hc6,h⟩| ⟨hc6,h⟩
  ·
   refine jT hc6 ?_
   obtain rfl:=sj h
   exact zE lzz
  refine jF hc6 ?_
  refine jp ?_
  rcases zn h with ⟨hc7,h⟩| ⟨hc7,h⟩
  ·
   refine jT hc7 ?_
   obtain rfl:=sj h
   exact zE lzz
  refine jF hc7 ?_
  refine jp ?_
  obtain rfl:=sj h
  exact zE lzz
 refine zdw ?_
 rcases zn h with ⟨hc8,h⟩| ⟨hc8,h⟩
 ·
  refine jT hc8 ?_
  refine jp ?_
  obtain rfl:=sj h
  exact zx lzz
 refine jF hc8 ?_
 refine jp ?_
 obtain ⟨p2,h_p2,h⟩:=bnd h
 refine zbV (R:=fun e a w=>e= .normal∧Sx ⟨⟨22,[]⟩,Xt,false,#[]⟩ ⟨[(4,kI k),(14,kB p2)],[]⟩ a w) ?_ ?_
 ·
  replace h:=h_p2
  refine zr ?_
  rcases zn h with ⟨hc9,h⟩| ⟨hc9,h⟩
  ·
   refine jT hc9 ?_
   obtain rfl:=sj h
   exact zE lzz
  refine jF hc9 ?_
  refine jp ?_
  rcases zn h with ⟨hc10,h⟩| ⟨hc10,h⟩
  ·
   refine jT hc10 ?_
   obtain rfl:=sj h
   exact zE lzz
  refine jF hc10 ?_
  refine jp ?_
  obtain rfl:=sj h
  exact zE lzz
 refine zdw ?_
 rcases zn h with ⟨hc11,h⟩| ⟨hc11,h⟩
 ·
  refine jT hc11 ?_
  refine jp ?_
  obtain rfl:=sj h
  exact zx lzz
 refine jF hc11 ?_
 refine jp ?_
 rcases zn h with ⟨hc12,h⟩| ⟨hc12,h⟩
 ·
  refine jT hc12 ?_
  rcases zn h with ⟨hc13,h⟩| ⟨hc13,h⟩
  ·
   refine jT hc13 ?_
   refine jp ?_
   obtain rfl:=sj h
   exact zx lzz
  refine jF hc13 ?_
  refine zT ?_
  refine jp ?_
  obtain rfl:=sj h
  exact zx lzz
 refine jF hc12 ?_
 refine jp ?_
 rcases zn h with ⟨hc14,h⟩| ⟨hc14,h⟩
 ·
  refine jT hc14 ?_
  rcases zn h with ⟨hc15,h⟩| ⟨hc15,h⟩
  ·
   refine jT hc15 ?_
   refine jp ?_
   obtain rfl:=sj h
   exact zx lzz
  refine jF hc15 ?_
  refine zT ?_
  refine jp ?_
  obtain rfl:=sj h
  exact zx lzz
 refine jF hc14 ?_
 refine jp ?_
 rcases zn h with ⟨hc16,h⟩| ⟨hc16,h⟩
 ·
  refine jT hc16 ?_
  refine jp ?_
  obtain rfl:=sj h
  exact zx lzz
 refine jF hc16 ?_
 refine zT ?_
 refine jp ?_
 obtain rfl:=sj h
 exact zx lzz
theorem zob {wv:Int} {r:Int} (h:zhG wv=some r):FnOk Tryz.prog 130 [kU wv] [.lf (.int .u32 r)]:=by
 refine zB (E:=⟨[(2,.lf (.int .u32 r))],[]⟩) 5 Tryz.func130 rfl rfl rfl ⟨rfl,trivial⟩ (fun Xt=>?_)
 refine zr ?_
 unfold zhG at h
 refine jp ?_
 refine jp ?_
 obtain rfl:=sj h
 exact zx lzz
theorem zsb {n:Int} {r:Int} (h:zid n=some r):FnOk Tryz.prog 128 [.lf (.int .i32 n)] [kU r]:=by
 refine zB (E:=⟨[(2,kU r)],[]⟩) 6 Tryz.func128 rfl rfl rfl ⟨rfl,trivial⟩ (fun Xt=>?_)
 refine zr ?_
 unfold zid at h
 refine jp ?_
 refine jp ?_
 obtain rfl:=sj h
 exact zx lzz
theorem ztP {wv:Int} {r:Int} (h:zlH wv=some r):FnOk Tryz.prog 131 [kU wv] [kU r]:=by
 refine zB (E:=⟨[(2,kU r)],[]⟩) 5 Tryz.func131 rfl rfl rfl ⟨rfl,trivial⟩ (fun Xt=>?_)
 refine zr ?_
 unfold zlH at h
 refine jp ?_
 refine jp ?_
 obtain rfl:=sj h
 exact zx lzz
theorem zwH {wv:Int} {r:Int} (h:zmA wv=some r):FnOk Tryz.prog 183 [kU wv] [kI r]:=by
 refine zB (E:=⟨[(2,kI r)],[]⟩) 13 Tryz.func183 rfl rfl rfl ⟨rfl,trivial⟩ (fun Xt=>?_)
 refine zr ?_
 unfold zmA at h
 refine jp ?_
 refine jp ?_
 refine jr (ra 1 [kU wv,kU 7] rfl (ziG rfl rfl) rfl rf) ?_
 refine zy ?_
 obtain ⟨q,h_q,h⟩:=bnd h
 refine zah (fun s:(Int×Int)=>zeg s.1 s.2) (fun s=>⟨[(0,kU s.1),(3,kI s.2)],[]⟩) (fun o e a w=>e= .exit 0∧Sx ⟨⟨13,[]⟩,Xt,false,#[]⟩ ⟨[(3,kI o)],[]⟩ a w) ?_ h_q lzz ?_
 ·
  clear h
  intro s o h
  obtain ⟨wv2,n⟩:=s
  refine zr ?_
  replace h:zeg wv2 n=some o:=h
  unfold zeg at h
  refine jp ?_
  rcases zn h with ⟨hc1,h⟩| ⟨hc1,h⟩
  ·
   refine jT hc1 ?_
   refine zy ?_
   refine jp ?_
   refine zT ?_
   refine jr (ra 1 [kU wv2,kU 7] rfl (ziG rfl rfl) rfl rf) ?_
   obtain rfl:=sj h
   exact zE lzz
  refine jF hc1 ?_
  obtain rfl:=sj h
  exact zai rfl lzz
 refine zaI _ rfl ?_
 refine jp ?_
 obtain rfl:=sj h
 exact zx lzz
theorem zyc {c:Int} {r:(Int×Int)} (h:zpK c=some r):FnOk Tryz.prog 181 [k8 c] [kI r.1,.lf (.int .u32 r.2)]:=by
 refine zB (E:=⟨[(2,kI r.1),(3,.lf (.int .u32 r.2))],[]⟩) 31 Tryz.func181 rfl rfl rfl ⟨rfl,rfl,trivial⟩ (fun Xt=>?_)
 refine zr ?_
 unfold zpK at h
 refine jp ?_
 refine zy ?_
 refine jr (ra 1 [k8 c,kU 7] rfl (ziG rfl rfl) rfl rf) ?_
 rcases zn h with ⟨hc1,h⟩| ⟨hc1,h⟩
 ·
  refine jT hc1 ?_
  refine jp ?_
  obtain rfl:=sj h
  exact zx lzz
 refine jF hc1 ?_
 refine jr (ra 1 [k8 c,kU 5] rfl (ziG rfl rfl) rfl rf) ?_
 rcases zn h with ⟨hc2,h⟩| ⟨hc2,h⟩
 ·
  refine jT hc2 ?_
  refine jp ?_
  obtain rfl:=sj h
  exact zx lzz
 refine jF hc2 ?_
 refine jr (ra 1 [k8 c,kU 4] rfl (ziG rfl rfl) rfl rf) ?_
 rcases zn h with ⟨hc3,h⟩| ⟨hc3,h⟩
 ·
  refine jT hc3 ?_
  refine jp ?_
  obtain rfl:=sj h
  exact zx lzz
 refine jF hc3 ?_
 refine jr (ra 1 [k8 c,kU 3] rfl (ziG rfl rfl) rfl rf) ?_
 rcases zn h with ⟨hc4,h⟩| ⟨hc4,h⟩
 ·
  refine jT hc4 ?_
  refine jp ?_
  obtain rfl:=sj h
  exact zx lzz
 refine jF hc4 ?_
 refine zT ?_
 refine jp ?_
 obtain rfl:=sj h
 exact zx lzz
theorem zyb {wv:Int} {r:Int} (h:zlr wv=some r):FnOk Tryz.prog 182 [.lf (.int .u32 wv)] [kI r]:=by
 refine zB (E:=⟨[(2,kI r)],[]⟩) 22 Tryz.func182 rfl rfl rfl ⟨rfl,trivial⟩ (fun Xt=>?_)
 refine zr ?_
 unfold zlr at h
 refine jp ?_
 refine zy ?_
 refine jr (ra 1 [.lf (.int .u32 wv),kU 7] rfl (ziG rfl rfl) rfl rf) ?_
 rcases zn h with ⟨hc1,h⟩| ⟨hc1,h⟩
 ·
  refine jT hc1 ?_
  refine jp ?_
  obtain rfl:=sj h
  exact zx lzz
 refine jF hc1 ?_
 refine jr (ra 1 [.lf (.int .u32 wv),kU 11] rfl (ziG rfl rfl) rfl rf) ?_
 rcases zn h with ⟨hc2,h⟩| ⟨hc2,h⟩
 ·
  refine jT hc2 ?_
  refine jp ?_
  obtain rfl:=sj h
  exact zx lzz
 refine jF hc2 ?_
 refine jr (ra 1 [.lf (.int .u32 wv),kU 11] rfl (ziG rfl rfl) rfl rf) ?_
 rcases zn h with ⟨hc3,h⟩| ⟨hc3,h⟩
 ·
  refine jT hc3 ?_
  refine jp ?_
  obtain rfl:=sj h
  exact zx lzz
 refine jF hc3 ?_
 refine jr (ra 1 [.lf (.int .u32 wv),kU 16] rfl (ziG rfl rfl) rfl rf) ?_
 rcases zn h with ⟨hc4,h⟩| ⟨hc4,h⟩
 ·
  refine jT hc4 ?_
  refine jp ?_
  obtain rfl:=sj h
  exact zx lzz
 refine jF hc4 ?_
 refine jp ?_
 rcases zn h with ⟨hc5,h⟩| ⟨hc5,h⟩
 ·
  refine jT hc5 ?_
  refine jp ?_
  obtain rfl:=sj h
  exact zx lzz
 refine jF hc5 ?_
 refine zT ?_
 refine jp ?_
 obtain rfl:=sj h
 exact zx lzz
theorem ziX {n:Int} {r:(List UInt8)} (h:zcv n=some r):FnOk Tryz.prog 149 [kN,kI n] [.own Rp.byte 5 2 [] r]:=by
 refine zB (E:=⟨[(4,.own Rp.byte 5 2 [] r)],[]⟩) 27 Tryz.func149 rfl rfl rfl ⟨rfl,trivial⟩ (fun Xt=>?_)
 refine zr ?_
 unfold zcv at h
 refine jp ?_
 refine jp ?_
 rcases zn h with ⟨hc1,h⟩| ⟨hc1,h⟩
 ·
  refine jT hc1 ?_
  exact absurd h nofun
 refine jF hc1 ?_
 refine jr (ra 2 [kN] rfl (zuH rfl Tryz.underlying24) rfl rf) ?_
 refine jp ?_
 rcases zn h with ⟨hc2,h⟩| ⟨hc2,h⟩
 ·
  refine jT hc2 ?_
  obtain ⟨v,h_v,h⟩:=bnd h
  obtain ⟨v2,h_v2,h⟩:=bnd h
  refine jr (ra 2 [kN] rfl (zuH rfl Tryz.underlying24) rfl (ra 0 [kN,kI 0] rfl (zAU rfl zcS.el) rfl (ra 1 [kN,kI (IntKind.i64.wrap (n - (IntKind.i64.wrap (0 - 0))))] rfl (zEn 12 rfl Tryz.underlying3 zcS rfl h_v) rfl (ra 2 [.own Rp.byte 5 12 [] v,kI 0] rfl (zEq rfl zcS.el h_v2) rfl rf)))) ?_
  refine jp ?_
  obtain rfl:=sj h
  refine zx ?_
  refine lk [4] [] 12 2 ?_
  exact lzz
 refine jF hc2 ?_
 refine jp ?_
 obtain rfl:=sj h
 refine zx ?_
 refine zbn ⟨[(4,kN)],[]⟩ (by kernel_rfl) ?_
 refine zcK 4 (.own Rp.byte 5 2 [] ([]:(List UInt8))) rfl (zaj Rp.byte 5 2 [] rfl) ?_
 exact lzz
theorem zua {b:(List UInt8)} {l:(List zf)} {r:(List Str)} (h:zjD b l=some r):FnOk Tryz.prog 93 [.sl Rp.byte [0] b,.sl zg [0] l] [.own Rp.str 9 2 [] r]:=by
 refine zB (E:=⟨[(4,.own Rp.str 9 2 [] r)],[]⟩) 32 Tryz.func93 rfl rfl rfl ⟨rfl,trivial⟩ (fun Xt=>?_)
 refine zr ?_
 unfold zjD at h
 refine jp ?_
 obtain ⟨v,h_v,h⟩:=bnd h
 refine jr (ra 2 [kI (l.length:Int),kI (l.length:Int)] rfl (zvO 12 rfl zkn rfl h_v) rfl rf) ?_
 refine jp ?_
 refine zy ?_
 obtain ⟨q,h_q,h⟩:=bnd h
 refine zah (fun s:((List Str)×Int)=>zcV b l s.1 s.2) (fun s=>⟨[(0,.sl Rp.byte [0] b),(5,.own Rp.str 9 12 [] s.1),(11,.sl zg [0] l),(12,kI (l.length:Int)),(13,kI s.2)],[]⟩) (fun o e a w=>e= .exit 0∧Sx ⟨⟨32,[]⟩,Xt,false,#[]⟩ ⟨[(5,.own Rp.str 9 12 [] o)],[]⟩ a w) ?_ h_q lzz ?_
 ·
  clear h
  intro s o h
  obtain ⟨all,v2⟩:=s
  refine zr ?_
  replace h:zcV b l all v2=some o:=h
  unfold zcV at h
  refine jp ?_
  rcases zn h with ⟨hc1,h⟩| ⟨hc1,h⟩
  ·
   refine jT hc1 ?_
   refine zy ?_
   obtain ⟨x,h_x,h⟩:=bnd h
   refine jr (ra 1 [.sl zg [0] l,kI v2] rfl (zao rfl zkN.el (zI _ _ _) h_x) rfl (ra 0 [.ep zg [0] x 0] rfl (zdm rfl ⟨Tryz.isAgg113,Tryz.sizeOf113⟩) rfl (rfl' [14]))) ?_
   obtain ⟨v3,h_v3,h⟩:=bnd h
   obtain ⟨x2,h_x2,h⟩:=bnd h
   refine jr (ra 9 [.sl Rp.byte [0] b,kI x.Record.At,kI x.Record.To] rfl (zeD (some (kI x.Record.At)) (some (kI x.Record.To)) rfl zcS.el (zI _ _ _) ⟨rfl,rfl⟩ ⟨rfl,rfl⟩ h_v3) rfl (ra 0 [.sl Rp.byte [0] v3] rfl (zqi rfl Tryz.underlying24 Tryz.underlying5 Tryz.underlying9 (zI _ _ _)) rfl (ra 0 [.own Rp.str 9 12 [] all,kI v2] rfl (zvM rfl zkn.el h_x2) rfl (rkl 0 [] ⟨[(0,.sl Rp.byte [0] b),(5,.own Rp.str 9 12 [] all),(11,.sl zg [0] l),(12,kI (l.length:Int)),(13,kI v2),(28,kS v3),(29,.ptr 12 (Int.toNat v2*Rp.str.size))],[]⟩ (zzh (r:=Rp.str) (e:=9) (C:=[]) (xs:=all) [5] (Int.toNat v2) 0 x2 v3 [] rfl rfl rfl rfl rfl rfl Tryz.sizeOf9 rfl (by kernel_rfl) rfl (zrE h_x2) rfl (zwh rfl _) rfl rf))))) ?_
   refine zT ?_
   refine jp ?_
   obtain rfl:=sj h
   exact zE lzz
  refine jF hc1 ?_
  obtain rfl:=sj h
  exact zai rfl lzz
 refine zaI _ rfl ?_
 refine jp ?_
 obtain rfl:=sj h
 refine zx ?_
 refine lk [4] [] 12 2 ?_
 exact lzz
theorem zvl {b:(List UInt8)} {r:Int} (h:zkQ b=some r):FnOk Tryz.prog 180 [.sl Rp.byte [0] b] [kU r]:=by
 refine zB (E:=⟨[(2,kU r)],[]⟩) 26 Tryz.func180 rfl rfl rfl ⟨rfl,trivial⟩ (fun Xt=>?_)
 refine zr ?_
 unfold zkQ at h
 refine jp ?_
 refine jp ?_
 obtain ⟨v,h_v,h⟩:=bnd h
 refine jr (ra 4 [.sl Rp.byte [0] b,kI (if (8:Int)<(b.length:Int) then 8 else (b.length:Int))] rfl (zeD none (some (kI (if (8:Int)<(b.length:Int) then 8 else (b.length:Int)))) rfl zcS.el (zI _ _ _) ⟨rfl,rfl⟩ ⟨rfl,rfl⟩ h_v) rfl rf) ?_
 refine zy ?_
 obtain ⟨q,h_q,h⟩:=bnd h
 refine zah (fun s:(Int×Int)=>zdA v s.1 s.2) (fun s=>⟨[(3,kU s.1),(10,.sl Rp.byte [0] v),(11,kI (v.length:Int)),(12,kI s.2)],[]⟩) (fun o e a w=>e= .exit 0∧Sx ⟨⟨26,[]⟩,Xt,false,#[]⟩ ⟨[(3,kU o)],[]⟩ a w) ?_ h_q lzz ?_
 ·
  clear h
  intro s o h
  obtain ⟨wv,v2⟩:=s
  refine zr ?_
  replace h:zdA v wv v2=some o:=h
  unfold zdA at h
  refine jp ?_
  rcases zn h with ⟨hc1,h⟩| ⟨hc1,h⟩
  ·
   refine jT hc1 ?_
   refine zy ?_
   obtain ⟨x,h_x,h⟩:=bnd h
   refine jr (ra 1 [.sl Rp.byte [0] v,kI v2] rfl (zao rfl zcS.el (zI _ _ _) h_x) rfl rf) ?_
   obtain ⟨v3,h_v3,h⟩:=bnd h
   refine jr (ra 5 [kU (IntKind.u64.wrap (x.toNat:Int)),kI (IntKind.i64.wrap (8*v2))] rfl (zyQ rfl h_v3) rfl rf) ?_
   refine zT ?_
   refine jp ?_
   obtain rfl:=sj h
   exact zE lzz
  refine jF hc1 ?_
  obtain rfl:=sj h
  exact zai rfl lzz
 refine zaI _ rfl ?_
 refine jp ?_
 obtain rfl:=sj h
 exact zx lzz
theorem zni {v:zb} {r:Int} (h:zeZ v=some r):FnOk Tryz.prog 62 [.rc zd [0] v] [kI r]:=by
 refine zB (E:=⟨[(2,kI r)],[]⟩) 14 Tryz.func62 rfl rfl rfl ⟨rfl,trivial⟩ (fun Xt=>?_)
 refine zr ?_
 unfold zeZ at h
 refine jr (ra 0 [.rc zd [0] v] rfl (zeC 11 [kI v.Number,.sl (Rp.int .u64) [0] v.Words,.sl Rp.str [0] v.Texts,.sl zj [0] v.Subs] [0] rfl rfl rfl (by rw [zL]<;>rfl) rfl) rfl rf) ?_
 refine jp ?_
 obtain rfl:=sj h
 exact zx lzz
theorem zif {av:(List Int)} {b:(List Int)} {r:Bool} (h:zci av b=some r):FnOk Tryz.prog 31 [.sl (Rp.int .u64) [0] av,.sl (Rp.int .u64) [0] b] [kB r]:=by
 refine zB (E:=⟨[(4,kB r)],[]⟩) 26 Tryz.func31 rfl rfl rfl ⟨rfl,trivial⟩ (fun Xt=>?_)
 refine zr ?_
 unfold zci at h
 refine jp ?_
 refine jp ?_
 rcases zn h with ⟨hc1,h⟩| ⟨hc1,h⟩
 ·
  refine jT hc1 ?_
  refine jp ?_
  obtain rfl:=sj h
  exact zx lzz
 refine jF hc1 ?_
 refine jp ?_
 refine zy ?_
 obtain ⟨q,h_q,h⟩:=bnd h
 refine zah (fun s:Int=>zaL av b s) (fun s=>⟨[(0,.sl (Rp.int .u64) [0] av),(1,.sl (Rp.int .u64) [0] b),(5,kI s)],[]⟩) (fun o e a w=>match o with| (.inl v_)=>e= .exit 0∧Sx ⟨⟨26,[]⟩,Xt,false,#[]⟩ ⟨[],[]⟩ a w| (.inr v_)=>e= .ret∧Sx ⟨⟨26,[]⟩,Xt,false,#[]⟩ ⟨[(4,kB false)],[]⟩ a w) ?_ h_q lzz ?_
 ·
  clear h
  intro i o h
  refine zr ?_
  replace h:zaL av b i=some o:=h
  unfold zaL at h
  refine jp ?_
  rcases zn h with ⟨hc2,h⟩| ⟨hc2,h⟩
  ·
   refine jT hc2 ?_
   refine zy ?_
   obtain ⟨x,h_x,h⟩:=bnd h
   obtain ⟨x2,h_x2,h⟩:=bnd h
   refine jd [0,1,5,25] [] zcy (by exact (lw_e (lw_e (ly [.sl (Rp.int .u64) [0] av,kI i] (zao rfl zko.el (zI _ _ _) h_x) rfl (lw_e (lw_e (lw_e (ly [.sl (Rp.int .u64) [0] b,kI i] (zao rfl zko.el (zI _ _ _) h_x2) rfl l0)))))))) ?_
   rcases zn h with ⟨hc3,h⟩| ⟨hc3,h⟩
   ·
    refine jT hc3 ?_
    refine jp ?_
    obtain rfl:=sj h
    exact zbq lzz
   refine jF hc3 ?_
   refine zT ?_
   refine jp ?_
   obtain rfl:=sj h
   exact zE lzz
  refine jF hc2 ?_
  obtain rfl:=sj h
  exact zai rfl lzz
 rcases q with u| u2
 ·
  refine zaI _ rfl ?_
  refine jp ?_
  obtain rfl:=sj h
  exact zx lzz
 obtain rfl:=sj h
 exact zed lzz
theorem znP {sv:(List zh)} {r:Bool} (h:zfl sv=some r):FnOk Tryz.prog 8 [.sl zi [0] sv] [kB r]:=by
 refine zB (E:=⟨[(2,kB r)],[]⟩) 54 Tryz.func8 rfl rfl rfl ⟨rfl,trivial⟩ (fun Xt=>?_)
 refine zr ?_
 unfold zfl at h
 refine jp ?_
 refine jp ?_
 refine jp ?_
 refine zy ?_
 obtain ⟨q2,h_q2,h⟩:=bnd h
 refine zah (fun s:(Int×Int)=>zbk sv s.1 s.2) (fun s=>⟨[(0,.sl zi [0] sv),(3,kI s.1),(4,kI s.2)],[]⟩) (fun o e a w=>e= .exit 0∧Sx ⟨⟨54,[]⟩,Xt,false,#[]⟩ ⟨[(3,kI o)],[]⟩ a w) ?_ h_q2 lzz ?_
 ·
  clear h
  intro s o h
  obtain ⟨n,i⟩:=s
  refine zr ?_
  replace h:zbk sv n i=some o:=h
  unfold zbk at h
  refine jp ?_
  rcases zn h with ⟨hc1,h⟩| ⟨hc1,h⟩
  ·
   refine jT hc1 ?_
   refine zy ?_
   obtain ⟨x,h_x,h⟩:=bnd h
   obtain ⟨x2,h_x2,h⟩:=bnd h
   refine jd [0,3,4] [] zcy (by exact (lw_e (lw_e (lw_e (lw_e (ly [.sl zi [0] sv,kI i] (zao rfl zgu.el (zI _ _ _) h_x) rfl (lw_e (lw_e (lw_e (lw_e (lw_e (lw_e (lw_e (ly [.sl zi [0] sv,kI i] (zao rfl zgu.el (zI _ _ _) h_x2) rfl (lw_e (ly [.ep zi [0] x2 1] (zga za x2.Fields rfl rfl rfl) rfl l0)))))))))))))))) ?_
   refine jp ?_
   refine zy ?_
   obtain ⟨q,h_q,h⟩:=bnd h
   refine zah (fun s:(Int×Int)=>zbl i sv s.1 s.2) (fun s=>⟨[(0,.sl zi [0] sv),(3,kI s.1),(4,kI i),(5,kI s.2)],[]⟩) (fun o e a w=>e= .exit 2∧Sx ⟨⟨54,[]⟩,Xt,false,#[]⟩ ⟨[(0,.sl zi [0] sv),(3,kI o),(4,kI i)],[]⟩ a w) ?_ h_q lzz ?_
   ·
    clear h
    intro s o h
    obtain ⟨n3,k⟩:=s
    refine zr ?_
    replace h:zbl i sv n3 k=some o:=h
    unfold zbl at h
    obtain ⟨x3,h_x3,h⟩:=bnd h
    refine jr (ra 3 [.sl zi [0] sv,kI i] rfl (zao rfl zgu.el (zI _ _ _) h_x3) rfl (ra 1 [.ep zi [0] x3 1] rfl (zga za x3.Fields rfl rfl rfl) rfl rf)) ?_
    rcases zn h with ⟨hc2,h⟩| ⟨hc2,h⟩
    ·
     refine jT hc2 ?_
     refine zy ?_
     obtain ⟨x4,h_x4,h⟩:=bnd h
     obtain ⟨x5,h_x5,h⟩:=bnd h
     refine jr (ra 3 [.sl zi [0] sv,kI i] rfl (zao rfl zgu.el (zI _ _ _) h_x4) rfl (ra 1 [.ep zi [0] x4 1] rfl (zga za x4.Fields rfl rfl rfl) rfl (ra 1 [.sl za [0] x4.Fields,kI k] rfl (zao rfl ziD.el (zI _ _ _) h_x5) rfl rf))) ?_
     refine zT ?_
     refine jp ?_
     obtain rfl:=sj h
     exact zE lzz
    refine jF hc2 ?_
    obtain rfl:=sj h
    exact zai rfl lzz
   refine zaI _ rfl ?_
   refine zT ?_
   refine jp ?_
   obtain rfl:=sj h
   exact zE lzz
  refine jF hc1 ?_
  obtain rfl:=sj h
  exact zai rfl lzz
 refine zaI _ rfl ?_
 refine jp ?_
 obtain rfl:=sj h
 exact zx lzz
end Go.Proofs.YtcbkcblkecmjnaaGreat

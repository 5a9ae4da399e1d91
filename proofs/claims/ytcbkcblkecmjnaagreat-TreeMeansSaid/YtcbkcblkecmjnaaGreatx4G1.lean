/-
  The Go functions do what the plain functions say. No condition.
-/
import Derived.Test.YtcbkcblkecmjnaaGreatx4T
namespace Go.Proofs.YtcbkcblkecmjnaaGreat
open Go Go.RowKit
set_option linter.unusedVariables false
set_option maxRecDepth 100000
set_option maxHeartbeats 3200000
abbrev zBa:=(mput ([]:(List (Int×zw))) 1 (⟨[105,110,116,51,50],0⟩:zw))
abbrev zBb:=(mput zBa 2 (⟨[105,110,116,54,52],0⟩:zw))
abbrev zBc:=(mput zBb 3 (⟨[117,105,110,116,51,50],0⟩:zw))
abbrev zBd:=(mput zBc 4 (⟨[117,105,110,116,54,52],0⟩:zw))
abbrev zBe:=(mput zBd 5 (⟨[115,105,110,116,51,50],0⟩:zw))
abbrev zBf:=(mput zBe 6 (⟨[115,105,110,116,54,52],0⟩:zw))
abbrev zBg:=(mput zBf 7 (⟨[98,111,111,108],0⟩:zw))
abbrev zBh:=(mput zBg 8 (⟨[101,110,117,109],0⟩:zw))
abbrev zBi:=(mput zBh 9 (⟨[102,105,120,101,100,51,50],5⟩:zw))
abbrev zxh:=(mput zBi 10 (⟨[115,102,105,120,101,100,51,50],5⟩:zw))
abbrev zxi:=(mput zxh 11 (⟨[102,108,111,97,116],5⟩:zw))
abbrev zxj:=(mput zxi 12 (⟨[102,105,120,101,100,54,52],1⟩:zw))
abbrev zxk:=(mput zxj 13 (⟨[115,102,105,120,101,100,54,52],1⟩:zw))
abbrev zxl:=(mput zxk 14 (⟨[100,111,117,98,108,101],1⟩:zw))
abbrev zus:=(mput zxl 15 (⟨[115,116,114,105,110,103],2⟩:zw))
theorem zmt {r:(List (Int×zw))} (h:zir=some r):FnOk Tryz.prog 121 [] [.om (Rp.int .i64) zC 2 [] r]:=by
 refine zD (E:=⟨[(0,.om (Rp.int .i64) zC 2 [] r)],[]⟩) 20 Tryz.func121 rfl rfl rfl ⟨rfl,trivial⟩ (fun Xt=>?_)
 refine zv ?_
 unfold zir at h
 refine jp ?_
 refine jr (rc 0 rfl (zjD (rk:=(Rp.int .i64)) (rv:=zC) 12 rfl) (rc 0 rfl (zam (r:=zC) [kS [105,110,116,51,50],kI 0] [] (⟨[105,110,116,51,50],0⟩:zw) rfl zfd rfl rfl) (rkl 0 [] ⟨[(1,.om (Rp.int .i64) zC 12 [] ([]:(List (Int×zw)))),(2,.rc zC [] (⟨[105,110,116,51,50],0⟩:zw))],[]⟩ (zdM (rk:=(Rp.int .i64)) (rv:=zC) (m:=([]:(List (Int×zw)))) (C:=[]) (C1:=[]) (D:=[]) [1] 1 (⟨[105,110,116,51,50],0⟩:zw) [] zdy rfl (.inr rfl) rfl rfl rfl rfl (zdf rfl rfl) (zck rfl) (by kernel_rfl) rfl (rc 0 rfl (zam (r:=zC) [kS [105,110,116,54,52],kI 0] [] (⟨[105,110,116,54,52],0⟩:zw) rfl zfd rfl rfl) (rkl 0 [] ⟨[(1,.om (Rp.int .i64) zC 12 [] zBa),(3,.rc zC [] (⟨[105,110,116,54,52],0⟩:zw))],[]⟩ (zdM (rk:=(Rp.int .i64)) (rv:=zC) (m:=zBa) (C:=[]) (C1:=[]) (D:=[]) [1] 2 (⟨[105,110,116,54,52],0⟩:zw) [] zdy rfl (.inr rfl) rfl rfl rfl rfl (zdf rfl rfl) (zck rfl) (by kernel_rfl) rfl (rc 0 rfl (zam (r:=zC) [kS [117,105,110,116,51,50],kI 0] [] (⟨[117,105,110,116,51,50],0⟩:zw) rfl zfd rfl rfl) (rkl 0 [] ⟨[(1,.om (Rp.int .i64) zC 12 [] zBb),(4,.rc zC [] (⟨[117,105,110,116,51,50],0⟩:zw))],[]⟩ (zdM (rk:=(Rp.int .i64)) (rv:=zC) (m:=zBb) (C:=[]) (C1:=[]) (D:=[]) [1] 3 (⟨[117,105,110,116,51,50],0⟩:zw) [] zdy rfl (.inr rfl) rfl rfl rfl rfl (zdf rfl rfl) (zck rfl) (by kernel_rfl) rfl (rc 0 rfl (zam (r:=zC) [kS [117,105,110,116,54,52],kI 0] [] (⟨[117,105,110,116,54,52],0⟩:zw) rfl zfd rfl rfl) (rkl 0 [] ⟨[(1,.om (Rp.int .i64) zC 12 [] zBc),(5,.rc zC [] (⟨[117,105,110,116,54,52],0⟩:zw))],[]⟩ (zdM (rk:=(Rp.int .i64)) (rv:=zC) (m:=zBc) (C:=[]) (C1:=[]) (D:=[]) [1] 4 (⟨[117,105,110,116,54,52],0⟩:zw) [] zdy rfl (.inr rfl) rfl rfl rfl rfl (zdf rfl rfl) (zck rfl) (by kernel_rfl) rfl (rc 0 rfl (zam (r:=zC) [kS [115,105,110,116,51,50],kI 0] [] (⟨[115,105,110,116,51,50],0⟩:zw) rfl zfd rfl rfl) (rkl 0 [] ⟨[(1,.om (Rp.int .i64) zC 12 [] zBd),(6,.rc zC [] (⟨[115,105,110,116,51,50],0⟩:zw))],[]⟩ (zdM (rk:=(Rp.int .i64)) (rv:=zC) (m:=zBd) (C:=[]) (C1:=[]) (D:=[]) [1] 5 (⟨[115,105,110,116,51,50],0⟩:zw) [] zdy rfl (.inr rfl) rfl rfl rfl rfl (zdf rfl rfl) (zck rfl) (by kernel_rfl) rfl (rc 0 rfl (zam (r:=zC) [kS [115,105,110,116,54,52],kI 0] [] (⟨[115,105,110,116,54,52],0⟩:zw) rfl zfd rfl rfl) (rkl 0 [] ⟨[(1,.om (Rp.int .i64) zC 12 [] zBe),(7,.rc zC [] (⟨[115,105,110,116,54,52],0⟩:zw))],[]⟩ (zdM (rk:=(Rp.int .i64)) (rv:=zC) (m:=zBe) (C:=[]) (C1:=[]) (D:=[]) [1] 6 (⟨[115,105,110,116,54,52],0⟩:zw) [] zdy rfl (.inr rfl) rfl rfl rfl rfl (zdf rfl rfl) (zck rfl) (by kernel_rfl) rfl (rc 0 rfl (zam (r:=zC) [kS [98,111,111,108],kI 0] [] (⟨[98,111,111,108],0⟩:zw) rfl zfd rfl rfl) (rkl 0 [] ⟨[(1,.om (Rp.int .i64) zC 12 [] zBf),(8,.rc zC [] (⟨[98,111,111,108],0⟩:zw))],[]⟩ (zdM (rk:=(Rp.int .i64)) (rv:=zC) (m:=zBf) (C:=[]) (C1:=[]) (D:=[]) [1] 7 (⟨[98,111,111,108],0⟩:zw) [] zdy rfl (.inr rfl) rfl rfl rfl rfl (zdf rfl rfl) (zck rfl) (by kernel_rfl) rfl (rc 0 rfl (zam (r:=zC) [kS [101,110,117,109],kI 0] [] (⟨[101,110,117,109],0⟩:zw) rfl zfd rfl rfl) (rkl 0 [] ⟨[(1,.om (Rp.int .i64) zC 12 [] zBg),(9,.rc zC [] (⟨[101,110,117,109],0⟩:zw))],[]⟩ (zdM (rk:=(Rp.int .i64)) (rv:=zC) (m:=zBg) (C:=[]) (C1:=[]) (D:=[]) [1] 8 (⟨[101,110,117,109],0⟩:zw) [] zdy rfl (.inr rfl) rfl rfl rfl rfl (zdf rfl rfl) (zck rfl) (by kernel_rfl) rfl (rc 0 rfl (zam (r:=zC) [kS [102,105,120,101,100,51,50],kI 5] [] (⟨[102,105,120,101,100,51,50],5⟩:zw) rfl zfd rfl rfl) (rkl 0 [] ⟨[(1,.om (Rp.int .i64) zC 12 [] zBh),(10,.rc zC [] (⟨[102,105,120,101,100,51,50],5⟩:zw))],[]⟩ (zdM (rk:=(Rp.int .i64)) (rv:=zC) (m:=zBh) (C:=[]) (C1:=[]) (D:=[]) [1] 9 (⟨[102,105,120,101,100,51,50],5⟩:zw) [] zdy rfl (.inr rfl) rfl rfl rfl rfl (zdf rfl rfl) (zck rfl) (by kernel_rfl) rfl (rc 0 rfl (zam (r:=zC) [kS [115,102,105,120,101,100,51,50],kI 5] [] (⟨[115,102,105,120,101,100,51,50],5⟩:zw) rfl zfd rfl rfl) (rkl 0 [] ⟨[(1,.om (Rp.int .i64) zC 12 [] zBi),(11,.rc zC [] (⟨[115,102,105,120,101,100,51,50],5⟩:zw))],[]⟩ (zdM (rk:=(Rp.int .i64)) (rv:=zC) (m:=zBi) (C:=[]) (C1:=[]) (D:=[]) [1] 10 (⟨[115,102,105,120,101,100,51,50],5⟩:zw) [] zdy rfl (.inr rfl) rfl rfl rfl rfl (zdf rfl rfl) (zck rfl) (by kernel_rfl) rfl (rc 0 rfl (zam (r:=zC) [kS [102,108,111,97,116],kI 5] [] (⟨[102,108,111,97,116],5⟩:zw) rfl zfd rfl rfl) (rkl 0 [] ⟨[(1,.om (Rp.int .i64) zC 12 [] zxh),(12,.rc zC [] (⟨[102,108,111,97,116],5⟩:zw))],[]⟩ (zdM (rk:=(Rp.int .i64)) (rv:=zC) (m:=zxh) (C:=[]) (C1:=[]) (D:=[]) [1] 11 (⟨[102,108,111,97,116],5⟩:zw) [] zdy rfl (.inr rfl) rfl rfl rfl rfl (zdf rfl rfl) (zck rfl) (by kernel_rfl) rfl (rc 0 rfl (zam (r:=zC) [kS [102,105,120,101,100,54,52],kI 1] [] (⟨[102,105,120,101,100,54,52],1⟩:zw) rfl zfd rfl rfl) (rkl 0 [] ⟨[(1,.om (Rp.int .i64) zC 12 [] zxi),(13,.rc zC [] (⟨[102,105,120,101,100,54,52],1⟩:zw))],[]⟩ (zdM (rk:=(Rp.int .i64)) (rv:=zC) (m:=zxi) (C:=[]) (C1:=[]) (D:=[]) [1] 12 (⟨[102,105,120,101,100,54,52],1⟩:zw) [] zdy rfl (.inr rfl) rfl rfl rfl rfl (zdf rfl rfl) (zck rfl) (by kernel_rfl) rfl (rc 0 rfl (zam (r:=zC) [kS [115,102,105,120,101,100,54,52],kI 1] [] (⟨[115,102,105,120,101,100,54,52],1⟩:zw) rfl zfd rfl rfl) (rkl 0 [] ⟨[(1,.om (Rp.int .i64) zC 12 [] zxj),(14,.rc zC [] (⟨[115,102,105,120,101,100,54,52],1⟩:zw))],[]⟩ (zdM (rk:=(Rp.int .i64)) (rv:=zC) (m:=zxj) (C:=[]) (C1:=[]) (D:=[]) [1] 13 (⟨[115,102,105,120,101,100,54,52],1⟩:zw) [] zdy rfl (.inr rfl) rfl rfl rfl rfl (zdf rfl rfl) (zck rfl) (by kernel_rfl) rfl (rc 0 rfl (zam (r:=zC) [kS [100,111,117,98,108,101],kI 1] [] (⟨[100,111,117,98,108,101],1⟩:zw) rfl zfd rfl rfl) (rkl 0 [] ⟨[(1,.om (Rp.int .i64) zC 12 [] zxk),(15,.rc zC [] (⟨[100,111,117,98,108,101],1⟩:zw))],[]⟩ (zdM (rk:=(Rp.int .i64)) (rv:=zC) (m:=zxk) (C:=[]) (C1:=[]) (D:=[]) [1] 14 (⟨[100,111,117,98,108,101],1⟩:zw) [] zdy rfl (.inr rfl) rfl rfl rfl rfl (zdf rfl rfl) (zck rfl) (by kernel_rfl) rfl (rc 0 rfl (zam (r:=zC) [kS [115,116,114,105,110,103],kI 2] [] (⟨[115,116,114,105,110,103],2⟩:zw) rfl zfd rfl rfl) (rkl 0 [] ⟨[(1,.om (Rp.int .i64) zC 12 [] zxl),(16,.rc zC [] (⟨[115,116,114,105,110,103],2⟩:zw))],[]⟩ (zdM (rk:=(Rp.int .i64)) (rv:=zC) (m:=zxl) (C:=[]) (C1:=[]) (D:=[]) [1] 15 (⟨[115,116,114,105,110,103],2⟩:zw) [] zdy rfl (.inr rfl) rfl rfl rfl rfl (zdf rfl rfl) (zck rfl) (by kernel_rfl) rfl (rc 0 rfl (zam (r:=zC) [kS [98,121,116,101,115],kI 2] [] (⟨[98,121,116,101,115],2⟩:zw) rfl zfd rfl rfl) (rkl 0 [] ⟨[(1,.om (Rp.int .i64) zC 12 [] zus),(17,.rc zC [] (⟨[98,121,116,101,115],2⟩:zw))],[]⟩ (zdM (rk:=(Rp.int .i64)) (rv:=zC) (m:=zus) (C:=[]) (C1:=[]) (D:=[]) [1] 16 (⟨[98,121,116,101,115],2⟩:zw) [] zdy rfl (.inr rfl) rfl rfl rfl rfl (zdf rfl rfl) (zck rfl) (by kernel_rfl) rfl (rc 0 rfl (zam (r:=zC) [kS [109,101,115,115,97,103,101],kI 2] [] (⟨[109,101,115,115,97,103,101],2⟩:zw) rfl zfd rfl rfl) (rkl 0 [] ⟨[(1,.om (Rp.int .i64) zC 12 [] (mput zus 16 (⟨[98,121,116,101,115],2⟩:zw))),(18,.rc zC [] (⟨[109,101,115,115,97,103,101],2⟩:zw))],[]⟩ (zdM (rk:=(Rp.int .i64)) (rv:=zC) (m:=(mput zus 16 (⟨[98,121,116,101,115],2⟩:zw))) (C:=[]) (C1:=[]) (D:=[]) [1] 17 (⟨[109,101,115,115,97,103,101],2⟩:zw) [] zdy rfl (.inr rfl) rfl rfl rfl rfl (zdf rfl rfl) (zck rfl) (by kernel_rfl) rfl rf)))))))))))))))))))))))))))))))))))))))))))))))))))) ?_
 obtain rfl:=sj h
 refine zA ?_
 refine lk [0] [] 12 2 ?_
 exact lzz
theorem ziX {c:Int} {r:Bool} (h:zeh c=some r):FnOk Tryz.prog 156 [k8 c] [kB r]:=by
 refine zD (E:=⟨[(2,kB r)],[]⟩) 9 Tryz.func156 rfl rfl rfl ⟨rfl,trivial⟩ (fun Xt=>?_)
 refine zv ?_
 unfold zeh at h
 refine jp ?_
 refine zap ⟨[(2,kB ((decide (c≥48))&&(decide (c≤57))))],[]⟩ ?_ ?_
 ·
  refine (rsl 3 [] 5 (decide (c≥48)) (fun hc1=>?_) (fun hc1=>?_))
  · exact (rbl [] 2 (decide (c≤57)) ((decide (c≥48))&&(decide (c≤57))) (by rw [hc1]<;>rfl))
  exact (rbl [] 2 false ((decide (c≥48))&&(decide (c≤57))) (by rw [hc1]<;>rfl))
 obtain rfl:=sj h
 exact zA lzz
theorem zmW {c:Int} {r:Bool} (h:zeA c=some r):FnOk Tryz.prog 157 [k8 c] [kB r]:=by
 refine zD (E:=⟨[(2,kB r)],[]⟩) 21 Tryz.func157 rfl rfl rfl ⟨rfl,trivial⟩ (fun Xt=>?_)
 refine zv ?_
 unfold zeA at h
 refine jp ?_
 refine zap ⟨[(2,kB (if (decide (c≥97)) then ((decide (c≤122))|| (if (decide (c≥65)) then ((decide (c≤90))|| (c==95)) else (c==95))) else (if (decide (c≥65)) then ((decide (c≤90))|| (c==95)) else (c==95))))],[]⟩ ?_ ?_
 ·
  refine (rsl 3 [] 5 (decide (c≥97)) (fun hc1=>?_) (fun hc1=>?_))
  ·
   refine (rsl 4 [] 9 (decide (c≤122)) (fun hc2=>?_) (fun hc2=>?_))
   · exact (rbl [] 2 true (if (decide (c≥97)) then ((decide (c≤122))|| (if (decide (c≥65)) then ((decide (c≤90))|| (c==95)) else (c==95))) else (if (decide (c≥65)) then ((decide (c≤90))|| (c==95)) else (c==95))) (by rw [hc1,hc2]<;>rfl))
   refine (rsl 3 [] 12 (decide (c≥65)) (fun hc3=>?_) (fun hc3=>?_))
   ·
    refine (rsl 5 [] 17 (decide (c≤90)) (fun hc4=>?_) (fun hc4=>?_))
    · exact (rbl [] 2 true (if (decide (c≥97)) then ((decide (c≤122))|| (if (decide (c≥65)) then ((decide (c≤90))|| (c==95)) else (c==95))) else (if (decide (c≥65)) then ((decide (c≤90))|| (c==95)) else (c==95))) (by rw [hc1,hc2,hc3,hc4]<;>rfl))
    exact (rbl [] 2 (c==95) (if (decide (c≥97)) then ((decide (c≤122))|| (if (decide (c≥65)) then ((decide (c≤90))|| (c==95)) else (c==95))) else (if (decide (c≥65)) then ((decide (c≤90))|| (c==95)) else (c==95))) (by rw [hc1,hc2,hc3,hc4]<;>rfl))
   exact (rbl [] 2 (c==95) (if (decide (c≥97)) then ((decide (c≤122))|| (if (decide (c≥65)) then ((decide (c≤90))|| (c==95)) else (c==95))) else (if (decide (c≥65)) then ((decide (c≤90))|| (c==95)) else (c==95))) (by rw [hc1,hc2,hc3]<;>rfl))
  refine (rsl 7 [] 12 (decide (c≥65)) (fun hc5=>?_) (fun hc5=>?_))
  ·
   refine (rsl 5 [] 17 (decide (c≤90)) (fun hc6=>?_) (fun hc6=>?_))
   · exact (rbl [] 2 true (if (decide (c≥97)) then ((decide (c≤122))|| (if (decide (c≥65)) then ((decide (c≤90))|| (c==95)) else (c==95))) else (if (decide (c≥65)) then ((decide (c≤90))|| (c==95)) else (c==95))) (by rw [hc1,hc5,hc6]<;>rfl))
   exact (rbl [] 2 (c==95) (if (decide (c≥97)) then ((decide (c≤122))|| (if (decide (c≥65)) then ((decide (c≤90))|| (c==95)) else (c==95))) else (if (decide (c≥65)) then ((decide (c≤90))|| (c==95)) else (c==95))) (by rw [hc1,hc5,hc6]<;>rfl))
  exact (rbl [] 2 (c==95) (if (decide (c≥97)) then ((decide (c≤122))|| (if (decide (c≥65)) then ((decide (c≤90))|| (c==95)) else (c==95))) else (if (decide (c≥65)) then ((decide (c≤90))|| (c==95)) else (c==95))) (by rw [hc1,hc5]<;>rfl))
 obtain rfl:=sj h
 exact zA lzz
theorem zmX {n:Int} {r:Bool} (h:zeC n=some r):FnOk Tryz.prog 123 [kI n] [kB r]:=by
 refine zD (E:=⟨[(2,kB r)],[]⟩) 17 Tryz.func123 rfl rfl rfl ⟨rfl,trivial⟩ (fun Xt=>?_)
 refine zv ?_
 unfold zeC at h
 refine jp ?_
 refine zap ⟨[(2,kB ((decide (n≥1))&&((decide (n≤536870911))&&((decide (n<19000))|| (decide (n>19999))))))],[]⟩ ?_ ?_
 ·
  refine (rsl 3 [] 5 (decide (n≥1)) (fun hc1=>?_) (fun hc1=>?_))
  ·
   refine (rsl 4 [] 9 (decide (n≤536870911)) (fun hc2=>?_) (fun hc2=>?_))
   ·
    refine (rsl 3 [] 12 (decide (n<19000)) (fun hc3=>?_) (fun hc3=>?_))
    · exact (rbl [] 2 true ((decide (n≥1))&&((decide (n≤536870911))&&((decide (n<19000))|| (decide (n>19999))))) (by rw [hc1,hc2,hc3]<;>rfl))
    exact (rbl [] 2 (decide (n>19999)) ((decide (n≥1))&&((decide (n≤536870911))&&((decide (n<19000))|| (decide (n>19999))))) (by rw [hc1,hc2,hc3]<;>rfl))
   exact (rbl [] 2 false ((decide (n≥1))&&((decide (n≤536870911))&&((decide (n<19000))|| (decide (n>19999))))) (by rw [hc1,hc2]<;>rfl))
  exact (rbl [] 2 false ((decide (n≥1))&&((decide (n≤536870911))&&((decide (n<19000))|| (decide (n>19999))))) (by rw [hc1]<;>rfl))
 obtain rfl:=sj h
 exact zA lzz
theorem ziC {sv:(List Int)} {v:Int} {r:Int} (h:zca sv v=some r):FnOk Tryz.prog 158 [.sl (Rp.int .i64) [0] sv,kI v] [kI r]:=by
 refine zD (E:=⟨[(4,kI r)],[]⟩) 19 Tryz.func158 rfl rfl rfl ⟨rfl,trivial⟩ (fun Xt=>?_)
 refine zv ?_
 unfold zca at h
 refine jp ?_
 refine jp ?_
 refine zH ?_
 obtain ⟨q,h_q,h⟩:=bnd h
 refine zaQ (fun s:Int=>zao sv v s) (fun s=>⟨[(0,.sl (Rp.int .i64) [0] sv),(1,kI v),(7,kI (sv.length:Int)),(8,kI s)],[]⟩) (fun o e a w=>match o with| (.inl v_)=>e= .exit 0∧Sx ⟨⟨19,[]⟩,Xt,false,#[]⟩ ⟨[],[]⟩ a w| (.inr v_)=>e= .ret∧Sx ⟨⟨19,[]⟩,Xt,false,#[]⟩ ⟨[(4,kI v_)],[]⟩ a w) ?_ h_q lzz ?_
 ·
  clear h
  intro v2 o h
  refine zv ?_
  replace h:zao sv v v2=some o:=h
  unfold zao at h
  refine jp ?_
  rcases zp h with ⟨hc1,h⟩| ⟨hc1,h⟩
  ·
   refine jT hc1 ?_
   refine zH ?_
   refine jp ?_
   obtain ⟨x,h_x,h⟩:=bnd h
   refine jr (ra 3 [.sl (Rp.int .i64) [0] sv,kI v2] rfl (zby rfl zDQ.el (zaa _ _ _) h_x) rfl rf) ?_
   rcases zp h with ⟨hc2,h⟩| ⟨hc2,h⟩
   ·
    refine jT hc2 ?_
    refine jp ?_
    obtain rfl:=sj h
    exact zbR lzz
   refine jF hc2 ?_
   refine zau ?_
   refine jp ?_
   obtain rfl:=sj h
   exact zae lzz
  refine jF hc1 ?_
  obtain rfl:=sj h
  exact zaO rfl lzz
 rcases q with u| u2
 ·
  refine zbx _ rfl ?_
  refine jp ?_
  obtain rfl:=sj h
  exact zA lzz
 obtain rfl:=sj h
 exact zeg lzz
theorem zkQ {c:zaD} {f:zc} {r:Bool} (h:zdu c f=some r):FnOk Tryz.prog 126 [.ag [kI c.size,.sl (Rp.int .i64) [0] c.kinds,.mp zr Rp.bool [0] c.names,.mp zq Rp.bool [0] c.numbers],.rc zd [0] f] [kB r]:=by
 refine zD (E:=⟨[(4,kB r)],[]⟩) 21 Tryz.func126 rfl rfl rfl ⟨rfl,trivial⟩ (fun Xt=>?_)
 refine zv ?_
 unfold zdu at h
 refine jq [11,12] ?_
 refine jp ?_
 rcases zp h with ⟨hc1,h⟩| ⟨hc1,h⟩
 ·
  refine jT hc1 ?_
  refine zap ⟨[(4,kB ((decide (f.Of≥0))&&(decide (f.Of<c.size))))],[]⟩ ?_ ?_
  ·
   refine (rsl 4 [] 11 (decide (f.Of≥0)) (fun hc2=>?_) (fun hc2=>?_))
   · exact (rbl [] 4 (decide (f.Of<c.size)) ((decide (f.Of≥0))&&(decide (f.Of<c.size))) (by rw [hc2]<;>rfl))
   exact (rbl [] 4 false ((decide (f.Of≥0))&&(decide (f.Of<c.size))) (by rw [hc2]<;>rfl))
  obtain rfl:=sj h
  exact zA lzz
 refine jF hc1 ?_
 refine jp ?_
 obtain rfl:=sj h
 exact zA lzz
theorem zgB {b:(List UInt8)} {r:(Int×Int×Int)} (h:zeu b=some r):FnOk Tryz.prog 152 [.sl Rp.byte [0] b] [kU r.1,kI r.2.1,k8 r.2.2]:=by
 refine zD (E:=⟨[(2,kU r.1),(3,kI r.2.1),(4,k8 r.2.2)],[]⟩) 38 Tryz.func152 rfl rfl rfl ⟨rfl,rfl,rfl,trivial⟩ (fun Xt=>?_)
 refine zv ?_
 unfold zeu at h
 refine jp ?_
 obtain ⟨v,h_v,h⟩:=bnd h
 refine jr (ra 4 [.sl Rp.byte [0] b,kI (if (10:Int)<(b.length:Int) then 10 else (b.length:Int))] rfl (zfN none (some (kI (if (10:Int)<(b.length:Int) then 10 else (b.length:Int)))) rfl zeq.el (zaa _ _ _) ⟨rfl,rfl⟩ ⟨rfl,rfl⟩ h_v) rfl rf) ?_
 refine zH ?_
 obtain ⟨q,h_q,h⟩:=bnd h
 refine zaQ (fun s:(Int×Int)=>zbK v s.1 s.2) (fun s=>⟨[(2,kU s.1),(11,.sl Rp.byte [0] v),(12,kI (v.length:Int)),(13,kI s.2)],[]⟩) (fun o e a w=>match o with| (.inl v_)=>e= .exit 0∧Sx ⟨⟨38,[]⟩,Xt,false,#[]⟩ ⟨[],[]⟩ a w| (.inr v_)=>e= .ret∧Sx ⟨⟨38,[]⟩,Xt,false,#[]⟩ ⟨[(2,kU v_.1),(3,kI v_.2.1),(4,k8 v_.2.2)],[]⟩ a w) ?_ h_q lzz ?_
 ·
  clear h
  intro s o h
  obtain ⟨wv,v2⟩:=s
  refine zv ?_
  replace h:zbK v wv v2=some o:=h
  unfold zbK at h
  refine jp ?_
  rcases zp h with ⟨hc1,h⟩| ⟨hc1,h⟩
  ·
   refine jT hc1 ?_
   refine zH ?_
   obtain ⟨x,h_x,h⟩:=bnd h
   refine jr (ra 1 [.sl Rp.byte [0] v,kI v2] rfl (zby rfl zeq.el (zaa _ _ _) h_x) rfl rf) ?_
   refine zap ⟨[(2,kU wv),(5,kI v2),(6,k8 (x.toNat:Int)),(11,.sl Rp.byte [0] v),(12,kI (v.length:Int)),(13,kI v2),(23,kB ((v2==9)&&(decide ((x.toNat:Int)>1))))],[]⟩ ?_ ?_
   ·
    refine (rsl 3 [] 20 (v2==9) (fun hc2=>?_) (fun hc2=>?_))
    · exact (rbl [] 23 (decide ((x.toNat:Int)>1)) ((v2==9)&&(decide ((x.toNat:Int)>1))) (by rw [hc2]<;>rfl))
    exact (rbl [] 23 false ((v2==9)&&(decide ((x.toNat:Int)>1))) (by rw [hc2]<;>rfl))
   rcases zp h with ⟨hc3,h⟩| ⟨hc3,h⟩
   ·
    refine jT hc3 ?_
    refine jp ?_
    obtain rfl:=sj h
    exact zbR lzz
   refine jF hc3 ?_
   obtain ⟨v4,h_v4,h⟩:=bnd h
   refine jr (ra 6 [kU (IntKind.u64.wrap (andI .u8 (x.toNat:Int) 127)),kI (IntKind.i64.wrap (7*v2))] rfl (zxr rfl h_v4) rfl rf) ?_
   refine jp ?_
   rcases zp h with ⟨hc4,h⟩| ⟨hc4,h⟩
   ·
    refine jT hc4 ?_
    refine jp ?_
    obtain rfl:=sj h
    exact zbR lzz
   refine jF hc4 ?_
   refine zau ?_
   refine jp ?_
   obtain rfl:=sj h
   exact zae lzz
  refine jF hc1 ?_
  obtain rfl:=sj h
  exact zaO rfl lzz
 rcases q with u| u2
 ·
  refine zbx _ rfl ?_
  refine jp ?_
  obtain rfl:=sj h
  exact zA lzz
 obtain rfl:=sj h
 exact zeg lzz
theorem zpg {wire:Int} {r:Bool} (h:zfE wire=some r):FnOk Tryz.prog 174 [kI wire] [kB r]:=by
 refine zD (E:=⟨[(2,kB r)],[]⟩) 9 Tryz.func174 rfl rfl rfl ⟨rfl,trivial⟩ (fun Xt=>?_)
 refine zv ?_
 unfold zfE at h
 refine jp ?_
 refine jp ?_
 refine zH ?_
 refine jp ?_
 rcases zp h with ⟨hc1,h⟩| ⟨hc1,h⟩
 ·
  refine jT hc1 ?_
  rcases zp h with ⟨hc2,h⟩| ⟨hc2,h⟩
  ·
   refine jT hc2 ?_
   refine jp ?_
   obtain rfl:=sj h
   exact zA lzz
  refine jF hc2 ?_
  refine zau ?_
  refine jp ?_
  obtain rfl:=sj h
  exact zA lzz
 refine jF hc1 ?_
 refine jp ?_
 rcases zp h with ⟨hc3,h⟩| ⟨hc3,h⟩
 ·
  refine jT hc3 ?_
  rcases zp h with ⟨hc4,h⟩| ⟨hc4,h⟩
  ·
   refine jT hc4 ?_
   refine jp ?_
   obtain rfl:=sj h
   exact zA lzz
  refine jF hc4 ?_
  refine zau ?_
  refine jp ?_
  obtain rfl:=sj h
  exact zA lzz
 refine jF hc3 ?_
 refine jp ?_
 rcases zp h with ⟨hc5,h⟩| ⟨hc5,h⟩
 ·
  refine jT hc5 ?_
  rcases zp h with ⟨hc6,h⟩| ⟨hc6,h⟩
  ·
   refine jT hc6 ?_
   refine jp ?_
   obtain rfl:=sj h
   exact zA lzz
  refine jF hc6 ?_
  refine zau ?_
  refine jp ?_
  obtain rfl:=sj h
  exact zA lzz
 refine jF hc5 ?_
 refine jp ?_
 rcases zp h with ⟨hc7,h⟩| ⟨hc7,h⟩
 ·
  refine jT hc7 ?_
  refine jp ?_
  obtain rfl:=sj h
  exact zA lzz
 refine jF hc7 ?_
 refine zau ?_
 refine jp ?_
 obtain rfl:=sj h
 exact zA lzz
theorem zqb {f:zc} {v:Int} {r:Bool} (h:zgC f v=some r):FnOk Tryz.prog 162 [.rc zd [0] f,.ep (Rp.int .i64) [0] v 0] [kB r]:=by
 refine zD (E:=⟨[(3,kB r)],[]⟩) 8 Tryz.func162 rfl rfl rfl ⟨rfl,trivial⟩ (fun Xt=>?_)
 refine zv ?_
 unfold zgC at h
 refine jq [11] ?_
 refine jp ?_
 obtain rfl:=sj h
 exact zA lzz
theorem zkH {k:Int} {r:(Int×Int)} (h:zfl k=some r):FnOk Tryz.prog 178 [kI k] [kI r.1,k8 r.2]:=by
 refine zD (E:=⟨[(2,kI r.1),(3,k8 r.2)],[]⟩) 22 Tryz.func178 rfl rfl rfl ⟨rfl,rfl,trivial⟩ (fun Xt=>?_)
 refine zv ?_
 unfold zfl at h
 refine jp ?_
 refine jp ?_
 refine zH ?_
 refine jp ?_
 obtain ⟨p,h_p,h⟩:=bnd h
 refine zfk (R:=fun e a w=>e= .normal∧Sx ⟨⟨22,[]⟩,Xt,false,#[]⟩ ⟨[(4,kI k),(5,kB p)],[]⟩ a w) ?_ ?_
 ·
  replace h:=h_p
  refine zv ?_
  rcases zp h with ⟨hc1,h⟩| ⟨hc1,h⟩
  ·
   refine jT hc1 ?_
   obtain rfl:=sj h
   exact zae lzz
  refine jF hc1 ?_
  refine jp ?_
  rcases zp h with ⟨hc2,h⟩| ⟨hc2,h⟩
  ·
   refine jT hc2 ?_
   obtain rfl:=sj h
   exact zae lzz
  refine jF hc2 ?_
  refine jp ?_
  rcases zp h with ⟨hc3,h⟩| ⟨hc3,h⟩
  ·
   refine jT hc3 ?_
   obtain rfl:=sj h
   exact zae lzz
  refine jF hc3 ?_
  refine jp ?_
  rcases zp h with ⟨hc4,h⟩| ⟨hc4,h⟩
  ·
   refine jT hc4 ?_
   obtain rfl:=sj h
   exact zae lzz
  refine jF hc4 ?_
  refine jp ?_
  rcases zp h with ⟨hc5,h⟩| ⟨hc5,h⟩
  ·
   refine jT hc5 ?_
   obtain rfl:=sj h
   exact zae lzz
  refine jF hc5 ?_
  refine jp ?_
  rcases zp h with ⟨hc6,h⟩| ⟨hc6,h⟩
  ·
   refine jT hc6 ?_
   obtain rfl:=sj h
   exact zae lzz
  refine jF hc6 ?_
  refine jp ?_
  rcases zp h with ⟨hc7,h⟩| ⟨hc7,h⟩
  ·
   refine jT hc7 ?_
   obtain rfl:=sj h
   exact zae lzz
  refine jF hc7 ?_
  refine jp ?_
  obtain rfl:=sj h
  exact zae lzz
 refine zhK ?_
 rcases zp h with ⟨hc8,h⟩| ⟨hc8,h⟩
 ·
  refine jT hc8 ?_
  refine jp ?_
  obtain rfl:=sj h
  exact zA lzz
 refine jF hc8 ?_
 refine jp ?_
 obtain ⟨p2,h_p2,h⟩:=bnd h
 refine zfk (R:=fun e a w=>e= .normal∧Sx ⟨⟨22,[]⟩,Xt,false,#[]⟩ ⟨[(4,kI k),(14,kB p2)],[]⟩ a w) ?_ ?_
 ·
  replace h:=h_p2
  refine zv ?_
  rcases zp h with ⟨hc9,h⟩| ⟨hc9,h⟩
  ·
   refine jT hc9 ?_
   obtain rfl:=sj h
   exact zae lzz
  refine jF hc9 ?_
  refine jp ?_
  rcases zp h with ⟨hc10,h⟩| ⟨hc10,h⟩
  ·
   refine jT hc10 ?_
   obtain rfl:=sj h
   exact zae lzz
  refine jF hc10 ?_
  refine jp ?_
  obtain rfl:=sj h
  exact zae lzz
 refine zhK ?_
 rcases zp h with ⟨hc11,h⟩| ⟨hc11,h⟩
 ·
  refine jT hc11 ?_
  refine jp ?_
  obtain rfl:=sj h
  exact zA lzz
 refine jF hc11 ?_
 refine jp ?_
 rcases zp h with ⟨hc12,h⟩| ⟨hc12,h⟩
 ·
  refine jT hc12 ?_
  rcases zp h with ⟨hc13,h⟩| ⟨hc13,h⟩
  ·
   refine jT hc13 ?_
   refine jp ?_
   obtain rfl:=sj h
   exact zA lzz
  refine jF hc13 ?_
  refine zau ?_
  refine jp ?_
  obtain rfl:=sj h
  exact zA lzz
 refine jF hc12 ?_
 refine jp ?_
 rcases zp h with ⟨hc14,h⟩| ⟨hc14,h⟩
 ·
  refine jT hc14 ?_
  rcases zp h with ⟨hc15,h⟩| ⟨hc15,h⟩
  ·
   refine jT hc15 ?_
   refine jp ?_
   obtain rfl:=sj h
   exact zA lzz
  refine jF hc15 ?_
  refine zau ?_
  refine jp ?_
  obtain rfl:=sj h
  exact zA lzz
 refine jF hc14 ?_
 refine jp ?_
 rcases zp h with ⟨hc16,h⟩| ⟨hc16,h⟩
 ·
  refine jT hc16 ?_
  refine jp ?_
  obtain rfl:=sj h
  exact zA lzz
 refine jF hc16 ?_
 refine zau ?_
 refine jp ?_
 obtain rfl:=sj h
 exact zA lzz
theorem zmr {wv:Int} {r:Int} (h:zgL wv=some r):FnOk Tryz.prog 130 [kU wv] [.lf (.int .u32 r)]:=by
 refine zD (E:=⟨[(2,.lf (.int .u32 r))],[]⟩) 5 Tryz.func130 rfl rfl rfl ⟨rfl,trivial⟩ (fun Xt=>?_)
 refine zv ?_
 unfold zgL at h
 refine jp ?_
 refine jp ?_
 obtain rfl:=sj h
 exact zA lzz
theorem zqJ {n:Int} {r:Int} (h:zhm n=some r):FnOk Tryz.prog 128 [.lf (.int .i32 n)] [kU r]:=by
 refine zD (E:=⟨[(2,kU r)],[]⟩) 6 Tryz.func128 rfl rfl rfl ⟨rfl,trivial⟩ (fun Xt=>?_)
 refine zv ?_
 unfold zhm at h
 refine jp ?_
 refine jp ?_
 obtain rfl:=sj h
 exact zA lzz
theorem zst {wv:Int} {r:Int} (h:zki wv=some r):FnOk Tryz.prog 131 [kU wv] [kU r]:=by
 refine zD (E:=⟨[(2,kU r)],[]⟩) 5 Tryz.func131 rfl rfl rfl ⟨rfl,trivial⟩ (fun Xt=>?_)
 refine zv ?_
 unfold zki at h
 refine jp ?_
 refine jp ?_
 obtain rfl:=sj h
 exact zA lzz
theorem zvl {wv:Int} {r:Int} (h:zkY wv=some r):FnOk Tryz.prog 183 [kU wv] [kI r]:=by
 refine zD (E:=⟨[(2,kI r)],[]⟩) 13 Tryz.func183 rfl rfl rfl ⟨rfl,trivial⟩ (fun Xt=>?_)
 refine zv ?_
 unfold zkY at h
 refine jp ?_
 refine jp ?_
 refine jr (ra 1 [kU wv,kU 7] rfl (zhM rfl rfl) rfl rf) ?_
 refine zH ?_
 obtain ⟨q,h_q,h⟩:=bnd h
 refine zaQ (fun s:(Int×Int)=>zdk s.1 s.2) (fun s=>⟨[(0,kU s.1),(3,kI s.2)],[]⟩) (fun o e a w=>e= .exit 0∧Sx ⟨⟨13,[]⟩,Xt,false,#[]⟩ ⟨[(3,kI o)],[]⟩ a w) ?_ h_q lzz ?_
 ·
  clear h
  intro s o h
  obtain ⟨wv2,n⟩:=s
  refine zv ?_
  replace h:zdk wv2 n=some o:=h
  unfold zdk at h
  refine jp ?_
  rcases zp h with ⟨hc1,h⟩| ⟨hc1,h⟩
  ·
   refine jT hc1 ?_
   refine zH ?_
   refine jp ?_
   refine zau ?_
   refine jr (ra 1 [kU wv2,kU 7] rfl (zhM rfl rfl) rfl rf) ?_
   obtain rfl:=sj h
   exact zae lzz
  refine jF hc1 ?_
  obtain rfl:=sj h
  exact zaO rfl lzz
 refine zbx _ rfl ?_
 refine jp ?_
 obtain rfl:=sj h
 exact zA lzz
theorem zwx {c:Int} {r:(Int×Int)} (h:zom c=some r):FnOk Tryz.prog 181 [k8 c] [kI r.1,.lf (.int .u32 r.2)]:=by
 refine zD (E:=⟨[(2,kI r.1),(3,.lf (.int .u32 r.2))],[]⟩) 31 Tryz.func181 rfl rfl rfl ⟨rfl,rfl,trivial⟩ (fun Xt=>?_)
 refine zv ?_
 unfold zom at h
 refine jp ?_
 refine zH ?_
 refine jr (ra 1 [k8 c,kU 7] rfl (zhM rfl rfl) rfl rf) ?_
 rcases zp h with ⟨hc1,h⟩| ⟨hc1,h⟩
 ·
  refine jT hc1 ?_
  refine jp ?_
  obtain rfl:=sj h
  exact zA lzz
 refine jF hc1 ?_
 refine jr (ra 1 [k8 c,kU 5] rfl (zhM rfl rfl) rfl rf) ?_
 rcases zp h with ⟨hc2,h⟩| ⟨hc2,h⟩
 ·
  refine jT hc2 ?_
  refine jp ?_
  obtain rfl:=sj h
  exact zA lzz
 refine jF hc2 ?_
 refine jr (ra 1 [k8 c,kU 4] rfl (zhM rfl rfl) rfl rf) ?_
 rcases zp h with ⟨hc3,h⟩| ⟨hc3,h⟩
 ·
  refine jT hc3 ?_
  refine jp ?_
  obtain rfl:=sj h
  exact zA lzz
 refine jF hc3 ?_
 refine jr (ra 1 [k8 c,kU 3] rfl (zhM rfl rfl) rfl rf) ?_
 rcases zp h with ⟨hc4,h⟩| ⟨hc4,h⟩
 ·
  refine jT hc4 ?_
  refine jp ?_
  obtain rfl:=sj h
  exact zA lzz
 refine jF hc4 ?_
 refine zau ?_
 refine jp ?_
 obtain rfl:=sj h
 exact zA lzz
theorem zww {wv:Int} {r:Int} (h:zkb wv=some r):FnOk Tryz.prog 182 [.lf (.int .u32 wv)] [kI r]:=by
 refine zD (E:=⟨[(2,kI r)],[]⟩) 22 Tryz.func182 rfl rfl rfl ⟨rfl,trivial⟩ (fun Xt=>?_)
 refine zv ?_
 unfold zkb at h
 refine jp ?_
 refine zH ?_
 refine jr (ra 1 [.lf (.int .u32 wv),kU 7] rfl (zhM rfl rfl) rfl rf) ?_
 rcases zp h with ⟨hc1,h⟩| ⟨hc1,h⟩
 ·
  refine jT hc1 ?_
  refine jp ?_
  obtain rfl:=sj h
  exact zA lzz
 refine jF hc1 ?_
 refine jr (ra 1 [.lf (.int .u32 wv),kU 11] rfl (zhM rfl rfl) rfl rf) ?_
 rcases zp h with ⟨hc2,h⟩| ⟨hc2,h⟩
 ·
  refine jT hc2 ?_
  refine jp ?_
  obtain rfl:=sj h
  exact zA lzz
 refine jF hc2 ?_
 refine jr (ra 1 [.lf (.int .u32 wv),kU 11] rfl (zhM rfl rfl) rfl rf) ?_
 rcases zp h with ⟨hc3,h⟩| ⟨hc3,h⟩
 ·
  refine jT hc3 ?_
  refine jp ?_
  obtain rfl:=sj h
  exact zA lzz
 refine jF hc3 ?_
 refine jr (ra 1 [.lf (.int .u32 wv),kU 16] rfl (zhM rfl rfl) rfl rf) ?_
 rcases zp h with ⟨hc4,h⟩| ⟨hc4,h⟩
 ·
  refine jT hc4 ?_
  refine jp ?_
  obtain rfl:=sj h
  exact zA lzz
 refine jF hc4 ?_
 refine jp ?_
 rcases zp h with ⟨hc5,h⟩| ⟨hc5,h⟩
 ·
  refine jT hc5 ?_
  refine jp ?_
  obtain rfl:=sj h
  exact zA lzz
 refine jF hc5 ?_
 refine zau ?_
 refine jp ?_
 obtain rfl:=sj h
 exact zA lzz
theorem zia {n:Int} {r:(List UInt8)} (h:zbT n=some r):FnOk Tryz.prog 149 [kN,kI n] [.own Rp.byte 5 2 [] r]:=by
 refine zD (E:=⟨[(4,.own Rp.byte 5 2 [] r)],[]⟩) 27 Tryz.func149 rfl rfl rfl ⟨rfl,trivial⟩ (fun Xt=>?_)
 refine zv ?_
 unfold zbT at h
 refine jp ?_
 refine jp ?_
 rcases zp h with ⟨hc1,h⟩| ⟨hc1,h⟩
 ·
  refine jT hc1 ?_
  exact absurd h nofun
 refine jF hc1 ?_
 refine jr (ra 2 [kN] rfl (ztj rfl Tryz.underlying24) rfl rf) ?_
 refine jp ?_
 rcases zp h with ⟨hc2,h⟩| ⟨hc2,h⟩
 ·
  refine jT hc2 ?_
  obtain ⟨v,h_v,h⟩:=bnd h
  obtain ⟨v2,h_v2,h⟩:=bnd h
  refine jr (ra 2 [kN] rfl (ztj rfl Tryz.underlying24) rfl (ra 0 [kN,kI 0] rfl (zzC rfl zeq.el) rfl (ra 1 [kN,kI (IntKind.i64.wrap (n - (IntKind.i64.wrap (0 - 0))))] rfl (zCR 12 rfl Tryz.underlying3 zeq rfl h_v) rfl (ra 2 [.own Rp.byte 5 12 [] v,kI 0] rfl (zCU rfl zeq.el h_v2) rfl rf)))) ?_
  refine jp ?_
  obtain rfl:=sj h
  refine zA ?_
  refine lk [4] [] 12 2 ?_
  exact lzz
 refine jF hc2 ?_
 refine jp ?_
 obtain rfl:=sj h
 refine zA ?_
 refine zbC ⟨[(4,kN)],[]⟩ (by kernel_rfl) ?_
 refine zcf 4 (.own Rp.byte 5 2 [] ([]:(List UInt8))) rfl (zbd Rp.byte 5 2 [] rfl) ?_
 exact lzz
theorem zsz {b:(List UInt8)} {l:(List zg)} {r:(List Str)} (h:ziF b l=some r):FnOk Tryz.prog 93 [.sl Rp.byte [0] b,.sl zh [0] l] [.own Rp.str 9 2 [] r]:=by
 refine zD (E:=⟨[(4,.own Rp.str 9 2 [] r)],[]⟩) 32 Tryz.func93 rfl rfl rfl ⟨rfl,trivial⟩ (fun Xt=>?_)
 refine zv ?_
 unfold ziF at h
 refine jp ?_
 obtain ⟨v,h_v,h⟩:=bnd h
 refine jr (ra 2 [kI (l.length:Int),kI (l.length:Int)] rfl (zuv 12 rfl zmB rfl h_v) rfl rf) ?_
 refine jp ?_
 refine zH ?_
 obtain ⟨q,h_q,h⟩:=bnd h
 refine zaQ (fun s:((List Str)×Int)=>zci b l s.1 s.2) (fun s=>⟨[(0,.sl Rp.byte [0] b),(5,.own Rp.str 9 12 [] s.1),(11,.sl zh [0] l),(12,kI (l.length:Int)),(13,kI s.2)],[]⟩) (fun o e a w=>e= .exit 0∧Sx ⟨⟨32,[]⟩,Xt,false,#[]⟩ ⟨[(5,.own Rp.str 9 12 [] o)],[]⟩ a w) ?_ h_q lzz ?_
 ·
  clear h
  intro s o h
  obtain ⟨all,v2⟩:=s
  refine zv ?_
  replace h:zci b l all v2=some o:=h
  unfold zci at h
  refine jp ?_
  rcases zp h with ⟨hc1,h⟩| ⟨hc1,h⟩
  ·
   refine jT hc1 ?_
   refine zH ?_
   obtain ⟨x,h_x,h⟩:=bnd h
   refine jr (ra 1 [.sl zh [0] l,kI v2] rfl (zby rfl zjo.el (zaa _ _ _) h_x) rfl (ra 0 [.ep zh [0] x 0] rfl (zds rfl ⟨Tryz.isAgg113,Tryz.sizeOf113⟩) rfl (rfl' [14]))) ?_
   obtain ⟨v3,h_v3,h⟩:=bnd h
   obtain ⟨x2,h_x2,h⟩:=bnd h
   refine jr (ra 9 [.sl Rp.byte [0] b,kI x.Record.At,kI x.Record.To] rfl (zfN (some (kI x.Record.At)) (some (kI x.Record.To)) rfl zeq.el (zaa _ _ _) ⟨rfl,rfl⟩ ⟨rfl,rfl⟩ h_v3) rfl (ra 0 [.sl Rp.byte [0] v3] rfl (zBr rfl Tryz.underlying24 Tryz.underlying5 Tryz.underlying9 (zaa _ _ _)) rfl (ra 0 [.own Rp.str 9 12 [] all,kI v2] rfl (zlk rfl zmB.el h_x2) rfl (rkl 0 [] ⟨[(0,.sl Rp.byte [0] b),(5,.own Rp.str 9 12 [] all),(11,.sl zh [0] l),(12,kI (l.length:Int)),(13,kI v2),(28,kS v3),(29,.ptr 12 (Int.toNat v2*Rp.str.size))],[]⟩ (zxF (r:=Rp.str) (e:=9) (C:=[]) (xs:=all) [5] (Int.toNat v2) 0 x2 v3 [] rfl rfl rfl rfl rfl rfl Tryz.sizeOf9 rfl (by kernel_rfl) rfl (zlU h_x2) rfl (znW rfl _) rfl rf))))) ?_
   refine zau ?_
   refine jp ?_
   obtain rfl:=sj h
   exact zae lzz
  refine jF hc1 ?_
  obtain rfl:=sj h
  exact zaO rfl lzz
 refine zbx _ rfl ?_
 refine jp ?_
 obtain rfl:=sj h
 refine zA ?_
 refine lk [4] [] 12 2 ?_
 exact lzz
theorem ztV {b:(List UInt8)} {r:Int} (h:zjr b=some r):FnOk Tryz.prog 180 [.sl Rp.byte [0] b] [kU r]:=by
 refine zD (E:=⟨[(2,kU r)],[]⟩) 26 Tryz.func180 rfl rfl rfl ⟨rfl,trivial⟩ (fun Xt=>?_)
 refine zv ?_
 unfold zjr at h
 refine jp ?_
 refine jp ?_
 obtain ⟨v,h_v,h⟩:=bnd h
 refine jr (ra 4 [.sl Rp.byte [0] b,kI (if (8:Int)<(b.length:Int) then 8 else (b.length:Int))] rfl (zfN none (some (kI (if (8:Int)<(b.length:Int) then 8 else (b.length:Int)))) rfl zeq.el (zaa _ _ _) ⟨rfl,rfl⟩ ⟨rfl,rfl⟩ h_v) rfl rf) ?_
 refine zH ?_
 obtain ⟨q,h_q,h⟩:=bnd h
 refine zaQ (fun s:(Int×Int)=>zcJ v s.1 s.2) (fun s=>⟨[(3,kU s.1),(10,.sl Rp.byte [0] v),(11,kI (v.length:Int)),(12,kI s.2)],[]⟩) (fun o e a w=>e= .exit 0∧Sx ⟨⟨26,[]⟩,Xt,false,#[]⟩ ⟨[(3,kU o)],[]⟩ a w) ?_ h_q lzz ?_
 ·
  clear h
  intro s o h
  obtain ⟨wv,v2⟩:=s
  refine zv ?_
  replace h:zcJ v wv v2=some o:=h
  unfold zcJ at h
  refine jp ?_
  rcases zp h with ⟨hc1,h⟩| ⟨hc1,h⟩
  ·
   refine jT hc1 ?_
   refine zH ?_
   obtain ⟨x,h_x,h⟩:=bnd h
   refine jr (ra 1 [.sl Rp.byte [0] v,kI v2] rfl (zby rfl zeq.el (zaa _ _ _) h_x) rfl rf) ?_
   obtain ⟨v3,h_v3,h⟩:=bnd h
   refine jr (ra 5 [kU (IntKind.u64.wrap (x.toNat:Int)),kI (IntKind.i64.wrap (8*v2))] rfl (zxr rfl h_v3) rfl rf) ?_
   refine zau ?_
   refine jp ?_
   obtain rfl:=sj h
   exact zae lzz
  refine jF hc1 ?_
  obtain rfl:=sj h
  exact zaO rfl lzz
 refine zbx _ rfl ?_
 refine jp ?_
 obtain rfl:=sj h
 exact zA lzz
theorem zhC {v:zb} {r:Int} (h:zcZ v=some r):FnOk Tryz.prog 62 [.rc za [0] v] [kI r]:=by
 refine zD (E:=⟨[(2,kI r)],[]⟩) 14 Tryz.func62 rfl rfl rfl ⟨rfl,trivial⟩ (fun Xt=>?_)
 refine zv ?_
 unfold zcZ at h
 refine jr (ra 0 [.rc za [0] v] rfl (zcQ 11 [kI v.Number,.sl (Rp.int .u64) [0] v.Words,.sl Rp.str [0] v.Texts,.sl zf [0] v.Subs] [0] rfl rfl rfl (by rw [zG]<;>rfl) rfl) rfl rf) ?_
 refine jp ?_
 obtain rfl:=sj h
 exact zA lzz
theorem zhq {av:(List Int)} {b:(List Int)} {r:Bool} (h:zbP av b=some r):FnOk Tryz.prog 31 [.sl (Rp.int .u64) [0] av,.sl (Rp.int .u64) [0] b] [kB r]:=by
 refine zD (E:=⟨[(4,kB r)],[]⟩) 26 Tryz.func31 rfl rfl rfl ⟨rfl,trivial⟩ (fun Xt=>?_)
 refine zv ?_
 unfold zbP at h
 refine jp ?_
 refine jp ?_
 rcases zp h with ⟨hc1,h⟩| ⟨hc1,h⟩
 ·
  refine jT hc1 ?_
  refine jp ?_
  obtain rfl:=sj h
  exact zA lzz
 refine jF hc1 ?_
 refine jp ?_
 refine zH ?_
 obtain ⟨q,h_q,h⟩:=bnd h
 refine zaQ (fun s:Int=>zaE av b s) (fun s=>⟨[(0,.sl (Rp.int .u64) [0] av),(1,.sl (Rp.int .u64) [0] b),(5,kI s)],[]⟩) (fun o e a w=>match o with| (.inl v_)=>e= .exit 0∧Sx ⟨⟨26,[]⟩,Xt,false,#[]⟩ ⟨[],[]⟩ a w| (.inr v_)=>e= .ret∧Sx ⟨⟨26,[]⟩,Xt,false,#[]⟩ ⟨[(4,kB false)],[]⟩ a w) ?_ h_q lzz ?_
 ·
  clear h
  intro i o h
  refine zv ?_
  replace h:zaE av b i=some o:=h
  unfold zaE at h
  refine jp ?_
  rcases zp h with ⟨hc2,h⟩| ⟨hc2,h⟩
  ·
   refine jT hc2 ?_
   refine zH ?_
   obtain ⟨x,h_x,h⟩:=bnd h
   obtain ⟨x2,h_x2,h⟩:=bnd h
   refine jd [0,1,5,25] [] zdz (by exact (lw_e (lw_e (ly [.sl (Rp.int .u64) [0] av,kI i] (zby rfl zkN.el (zaa _ _ _) h_x) rfl (lw_e (lw_e (lw_e (ly [.sl (Rp.int .u64) [0] b,kI i] (zby rfl zkN.el (zaa _ _ _) h_x2) rfl l0)))))))) ?_
   rcases zp h with ⟨hc3,h⟩| ⟨hc3,h⟩
   ·
    refine jT hc3 ?_
    refine jp ?_
    obtain rfl:=sj h
    exact zbR lzz
   refine jF hc3 ?_
   refine zau ?_
   refine jp ?_
   obtain rfl:=sj h
   exact zae lzz
  refine jF hc2 ?_
  obtain rfl:=sj h
  exact zaO rfl lzz
 rcases q with u| u2
 ·
  refine zbx _ rfl ?_
  refine jp ?_
  obtain rfl:=sj h
  exact zA lzz
 obtain rfl:=sj h
 exact zeg lzz
theorem zmj {sv:(List zi)} {r:Bool} (h:zee sv=some r):FnOk Tryz.prog 8 [.sl zj [0] sv] [kB r]:=by
 refine zD (E:=⟨[(2,kB r)],[]⟩) 54 Tryz.func8 rfl rfl rfl ⟨rfl,trivial⟩ (fun Xt=>?_)
 refine zv ?_
 unfold zee at h
 refine jp ?_
 refine jp ?_
 refine jp ?_
 refine zH ?_
 obtain ⟨q2,h_q2,h⟩:=bnd h
 refine zaQ (fun s:(Int×Int)=>zaZ sv s.1 s.2) (fun s=>⟨[(0,.sl zj [0] sv),(3,kI s.1),(4,kI s.2)],[]⟩) (fun o e a w=>e= .exit 0∧Sx ⟨⟨54,[]⟩,Xt,false,#[]⟩ ⟨[(3,kI o)],[]⟩ a w) ?_ h_q2 lzz ?_
 ·
  clear h
  intro s o h
  obtain ⟨n,i⟩:=s
  refine zv ?_
  replace h:zaZ sv n i=some o:=h
  unfold zaZ at h
  refine jp ?_
  rcases zp h with ⟨hc1,h⟩| ⟨hc1,h⟩
  ·
   refine jT hc1 ?_
   refine zH ?_
   obtain ⟨x,h_x,h⟩:=bnd h
   obtain ⟨x2,h_x2,h⟩:=bnd h
   refine jd [0,3,4] [] zdz (by exact (lw_e (lw_e (lw_e (lw_e (ly [.sl zj [0] sv,kI i] (zby rfl zlP.el (zaa _ _ _) h_x) rfl (lw_e (lw_e (lw_e (lw_e (lw_e (lw_e (lw_e (ly [.sl zj [0] sv,kI i] (zby rfl zlP.el (zaa _ _ _) h_x2) rfl (lw_e (ly [.ep zj [0] x2 1] (zkk zd x2.Fields rfl rfl rfl) rfl l0)))))))))))))))) ?_
   refine jp ?_
   refine zH ?_
   obtain ⟨q,h_q,h⟩:=bnd h
   refine zaQ (fun s:(Int×Int)=>zba i sv s.1 s.2) (fun s=>⟨[(0,.sl zj [0] sv),(3,kI s.1),(4,kI i),(5,kI s.2)],[]⟩) (fun o e a w=>e= .exit 2∧Sx ⟨⟨54,[]⟩,Xt,false,#[]⟩ ⟨[(0,.sl zj [0] sv),(3,kI o),(4,kI i)],[]⟩ a w) ?_ h_q lzz ?_
   ·
    clear h
    intro s o h
    obtain ⟨n3,k⟩:=s
    refine zv ?_
    replace h:zba i sv n3 k=some o:=h
    unfold zba at h
    obtain ⟨x3,h_x3,h⟩:=bnd h
    refine jr (ra 3 [.sl zj [0] sv,kI i] rfl (zby rfl zlP.el (zaa _ _ _) h_x3) rfl (ra 1 [.ep zj [0] x3 1] rfl (zkk zd x3.Fields rfl rfl rfl) rfl rf)) ?_
    rcases zp h with ⟨hc2,h⟩| ⟨hc2,h⟩
    ·
     refine jT hc2 ?_
     refine zH ?_
     obtain ⟨x4,h_x4,h⟩:=bnd h
     obtain ⟨x5,h_x5,h⟩:=bnd h
     refine jr (ra 3 [.sl zj [0] sv,kI i] rfl (zby rfl zlP.el (zaa _ _ _) h_x4) rfl (ra 1 [.ep zj [0] x4 1] rfl (zkk zd x4.Fields rfl rfl rfl) rfl (ra 1 [.sl zd [0] x4.Fields,kI k] rfl (zby rfl zmD.el (zaa _ _ _) h_x5) rfl rf))) ?_
     refine zau ?_
     refine jp ?_
     obtain rfl:=sj h
     exact zae lzz
    refine jF hc2 ?_
    obtain rfl:=sj h
    exact zaO rfl lzz
   refine zbx _ rfl ?_
   refine zau ?_
   refine jp ?_
   obtain rfl:=sj h
   exact zae lzz
  refine jF hc1 ?_
  obtain rfl:=sj h
  exact zaO rfl lzz
 refine zbx _ rfl ?_
 refine jp ?_
 obtain rfl:=sj h
 exact zA lzz
end Go.Proofs.YtcbkcblkecmjnaaGreat

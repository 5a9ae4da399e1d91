/-
  The Go functions do what the plain functions say. No condition.
-/
import Derived.Test.YtcbkcblkecmjnaaGreatx2T
namespace Go.Proofs.YtcbkcblkecmjnaaGreat
open Go Go.RowKit
set_option linter.unusedVariables false
set_option maxRecDepth 100000
set_option maxHeartbeats 3200000
abbrev zFe:=(mput ([]:(List (Int×zB))) 1 (⟨[105,110,116,51,50],0⟩:zB))
abbrev zFf:=(mput zFe 2 (⟨[105,110,116,54,52],0⟩:zB))
abbrev zFg:=(mput zFf 3 (⟨[117,105,110,116,51,50],0⟩:zB))
abbrev zFh:=(mput zFg 4 (⟨[117,105,110,116,54,52],0⟩:zB))
abbrev zFi:=(mput zFh 5 (⟨[115,105,110,116,51,50],0⟩:zB))
abbrev zFj:=(mput zFi 6 (⟨[115,105,110,116,54,52],0⟩:zB))
abbrev zFk:=(mput zFj 7 (⟨[98,111,111,108],0⟩:zB))
abbrev zFl:=(mput zFk 8 (⟨[101,110,117,109],0⟩:zB))
abbrev zFm:=(mput zFl 9 (⟨[102,105,120,101,100,51,50],5⟩:zB))
abbrev zBo:=(mput zFm 10 (⟨[115,102,105,120,101,100,51,50],5⟩:zB))
abbrev zBp:=(mput zBo 11 (⟨[102,108,111,97,116],5⟩:zB))
abbrev zBq:=(mput zBp 12 (⟨[102,105,120,101,100,54,52],1⟩:zB))
abbrev zBr:=(mput zBq 13 (⟨[115,102,105,120,101,100,54,52],1⟩:zB))
abbrev zBs:=(mput zBr 14 (⟨[100,111,117,98,108,101],1⟩:zB))
abbrev zyo:=(mput zBs 15 (⟨[115,116,114,105,110,103],2⟩:zB))
theorem zqA {r:(List (Int×zB))} (h:zlI=some r):FnOk Tryz.prog 121 [] [.om (Rp.int .i64) zI 2 [] r]:=by
 refine zC (E:=⟨[(0,.om (Rp.int .i64) zI 2 [] r)],[]⟩) 20 Tryz.func121 rfl rfl rfl ⟨rfl,trivial⟩ (fun Xt=>?_)
 refine zp ?_
 unfold zlI at h
 refine jp ?_
 refine jr (rc 0 rfl (znw (rk:=(Rp.int .i64)) (rv:=zI) 12 rfl) (rc 0 rfl (zan (r:=zI) [kS [105,110,116,51,50],kI 0] [] (⟨[105,110,116,51,50],0⟩:zB) rfl zhM rfl rfl) (rkl 0 [] ⟨[(1,.om (Rp.int .i64) zI 12 [] ([]:(List (Int×zB)))),(2,.rc zI [] (⟨[105,110,116,51,50],0⟩:zB))],[]⟩ (zgb (rk:=(Rp.int .i64)) (rv:=zI) (m:=([]:(List (Int×zB)))) (C:=[]) (C1:=[]) (D:=[]) [1] 1 (⟨[105,110,116,51,50],0⟩:zB) [] zfI rfl (.inr rfl) rfl rfl rfl rfl (zfi rfl rfl) (zdS rfl) (by kernel_rfl) rfl (rc 0 rfl (zan (r:=zI) [kS [105,110,116,54,52],kI 0] [] (⟨[105,110,116,54,52],0⟩:zB) rfl zhM rfl rfl) (rkl 0 [] ⟨[(1,.om (Rp.int .i64) zI 12 [] zFe),(3,.rc zI [] (⟨[105,110,116,54,52],0⟩:zB))],[]⟩ (zgb (rk:=(Rp.int .i64)) (rv:=zI) (m:=zFe) (C:=[]) (C1:=[]) (D:=[]) [1] 2 (⟨[105,110,116,54,52],0⟩:zB) [] zfI rfl (.inr rfl) rfl rfl rfl rfl (zfi rfl rfl) (zdS rfl) (by kernel_rfl) rfl (rc 0 rfl (zan (r:=zI) [kS [117,105,110,116,51,50],kI 0] [] (⟨[117,105,110,116,51,50],0⟩:zB) rfl zhM rfl rfl) (rkl 0 [] ⟨[(1,.om (Rp.int .i64) zI 12 [] zFf),(4,.rc zI [] (⟨[117,105,110,116,51,50],0⟩:zB))],[]⟩ (zgb (rk:=(Rp.int .i64)) (rv:=zI) (m:=zFf) (C:=[]) (C1:=[]) (D:=[]) [1] 3 (⟨[117,105,110,116,51,50],0⟩:zB) [] zfI rfl (.inr rfl) rfl rfl rfl rfl (zfi rfl rfl) (zdS rfl) (by kernel_rfl) rfl (rc 0 rfl (zan (r:=zI) [kS [117,105,110,116,54,52],kI 0] [] (⟨[117,105,110,116,54,52],0⟩:zB) rfl zhM rfl rfl) (rkl 0 [] ⟨[(1,.om (Rp.int .i64) zI 12 [] zFg),(5,.rc zI [] (⟨[117,105,110,116,54,52],0⟩:zB))],[]⟩ (zgb (rk:=(Rp.int .i64)) (rv:=zI) (m:=zFg) (C:=[]) (C1:=[]) (D:=[]) [1] 4 (⟨[117,105,110,116,54,52],0⟩:zB) [] zfI rfl (.inr rfl) rfl rfl rfl rfl (zfi rfl rfl) (zdS rfl) (by kernel_rfl) rfl (rc 0 rfl (zan (r:=zI) [kS [115,105,110,116,51,50],kI 0] [] (⟨[115,105,110,116,51,50],0⟩:zB) rfl zhM rfl rfl) (rkl 0 [] ⟨[(1,.om (Rp.int .i64) zI 12 [] zFh),(6,.rc zI [] (⟨[115,105,110,116,51,50],0⟩:zB))],[]⟩ (zgb (rk:=(Rp.int .i64)) (rv:=zI) (m:=zFh) (C:=[]) (C1:=[]) (D:=[]) [1] 5 (⟨[115,105,110,116,51,50],0⟩:zB) [] zfI rfl (.inr rfl) rfl rfl rfl rfl (zfi rfl rfl) (zdS rfl) (by kernel_rfl) rfl (rc 0 rfl (zan (r:=zI) [kS [115,105,110,116,54,52],kI 0] [] (⟨[115,105,110,116,54,52],0⟩:zB) rfl zhM rfl rfl) (rkl 0 [] ⟨[(1,.om (Rp.int .i64) zI 12 [] zFi),(7,.rc zI [] (⟨[115,105,110,116,54,52],0⟩:zB))],[]⟩ (zgb (rk:=(Rp.int .i64)) (rv:=zI) (m:=zFi) (C:=[]) (C1:=[]) (D:=[]) [1] 6 (⟨[115,105,110,116,54,52],0⟩:zB) [] zfI rfl (.inr rfl) rfl rfl rfl rfl (zfi rfl rfl) (zdS rfl) (by kernel_rfl) rfl (rc 0 rfl (zan (r:=zI) [kS [98,111,111,108],kI 0] [] (⟨[98,111,111,108],0⟩:zB) rfl zhM rfl rfl) (rkl 0 [] ⟨[(1,.om (Rp.int .i64) zI 12 [] zFj),(8,.rc zI [] (⟨[98,111,111,108],0⟩:zB))],[]⟩ (zgb (rk:=(Rp.int .i64)) (rv:=zI) (m:=zFj) (C:=[]) (C1:=[]) (D:=[]) [1] 7 (⟨[98,111,111,108],0⟩:zB) [] zfI rfl (.inr rfl) rfl rfl rfl rfl (zfi rfl rfl) (zdS rfl) (by kernel_rfl) rfl (rc 0 rfl (zan (r:=zI) [kS [101,110,117,109],kI 0] [] (⟨[101,110,117,109],0⟩:zB) rfl zhM rfl rfl) (rkl 0 [] ⟨[(1,.om (Rp.int .i64) zI 12 [] zFk),(9,.rc zI [] (⟨[101,110,117,109],0⟩:zB))],[]⟩ (zgb (rk:=(Rp.int .i64)) (rv:=zI) (m:=zFk) (C:=[]) (C1:=[]) (D:=[]) [1] 8 (⟨[101,110,117,109],0⟩:zB) [] zfI rfl (.inr rfl) rfl rfl rfl rfl (zfi rfl rfl) (zdS rfl) (by kernel_rfl) rfl (rc 0 rfl (zan (r:=zI) [kS [102,105,120,101,100,51,50],kI 5] [] (⟨[102,105,120,101,100,51,50],5⟩:zB) rfl zhM rfl rfl) (rkl 0 [] ⟨[(1,.om (Rp.int .i64) zI 12 [] zFl),(10,.rc zI [] (⟨[102,105,120,101,100,51,50],5⟩:zB))],[]⟩ (zgb (rk:=(Rp.int .i64)) (rv:=zI) (m:=zFl) (C:=[]) (C1:=[]) (D:=[]) [1] 9 (⟨[102,105,120,101,100,51,50],5⟩:zB) [] zfI rfl (.inr rfl) rfl rfl rfl rfl (zfi rfl rfl) (zdS rfl) (by kernel_rfl) rfl (rc 0 rfl (zan (r:=zI) [kS [115,102,105,120,101,100,51,50],kI 5] [] (⟨[115,102,105,120,101,100,51,50],5⟩:zB) rfl zhM rfl rfl) (rkl 0 [] ⟨[(1,.om (Rp.int .i64) zI 12 [] zFm),(11,.rc zI [] (⟨[115,102,105,120,101,100,51,50],5⟩:zB))],[]⟩ (zgb (rk:=(Rp.int .i64)) (rv:=zI) (m:=zFm) (C:=[]) (C1:=[]) (D:=[]) [1] 10 (⟨[115,102,105,120,101,100,51,50],5⟩:zB) [] zfI rfl (.inr rfl) rfl rfl rfl rfl (zfi rfl rfl) (zdS rfl) (by kernel_rfl) rfl (rc 0 rfl (zan (r:=zI) [kS [102,108,111,97,116],kI 5] [] (⟨[102,108,111,97,116],5⟩:zB) rfl zhM rfl rfl) (rkl 0 [] ⟨[(1,.om (Rp.int .i64) zI 12 [] zBo),(12,.rc zI [] (⟨[102,108,111,97,116],5⟩:zB))],[]⟩ (zgb (rk:=(Rp.int .i64)) (rv:=zI) (m:=zBo) (C:=[]) (C1:=[]) (D:=[]) [1] 11 (⟨[102,108,111,97,116],5⟩:zB) [] zfI rfl (.inr rfl) rfl rfl rfl rfl (zfi rfl rfl) (zdS rfl) (by kernel_rfl) rfl (rc 0 rfl (zan (r:=zI) [kS [102,105,120,101,100,54,52],kI 1] [] (⟨[102,105,120,101,100,54,52],1⟩:zB) rfl zhM rfl rfl) (rkl 0 [] ⟨[(1,.om (Rp.int .i64) zI 12 [] zBp),(13,.rc zI [] (⟨[102,105,120,101,100,54,52],1⟩:zB))],[]⟩ (zgb (rk:=(Rp.int .i64)) (rv:=zI) (m:=zBp) (C:=[]) (C1:=[]) (D:=[]) [1] 12 (⟨[102,105,120,101,100,54,52],1⟩:zB) [] zfI rfl (.inr rfl) rfl rfl rfl rfl (zfi rfl rfl) (zdS rfl) (by kernel_rfl) rfl (rc 0 rfl (zan (r:=zI) [kS [115,102,105,120,101,100,54,52],kI 1] [] (⟨[115,102,105,120,101,100,54,52],1⟩:zB) rfl zhM rfl rfl) (rkl 0 [] ⟨[(1,.om (Rp.int .i64) zI 12 [] zBq),(14,.rc zI [] (⟨[115,102,105,120,101,100,54,52],1⟩:zB))],[]⟩ (zgb (rk:=(Rp.int .i64)) (rv:=zI) (m:=zBq) (C:=[]) (C1:=[]) (D:=[]) [1] 13 (⟨[115,102,105,120,101,100,54,52],1⟩:zB) [] zfI rfl (.inr rfl) rfl rfl rfl rfl (zfi rfl rfl) (zdS rfl) (by kernel_rfl) rfl (rc 0 rfl (zan (r:=zI) [kS [100,111,117,98,108,101],kI 1] [] (⟨[100,111,117,98,108,101],1⟩:zB) rfl zhM rfl rfl) (rkl 0 [] ⟨[(1,.om (Rp.int .i64) zI 12 [] zBr),(15,.rc zI [] (⟨[100,111,117,98,108,101],1⟩:zB))],[]⟩ (zgb (rk:=(Rp.int .i64)) (rv:=zI) (m:=zBr) (C:=[]) (C1:=[]) (D:=[]) [1] 14 (⟨[100,111,117,98,108,101],1⟩:zB) [] zfI rfl (.inr rfl) rfl rfl rfl rfl (zfi rfl rfl) (zdS rfl) (by kernel_rfl) rfl (rc 0 rfl (zan (r:=zI) [kS [115,116,114,105,110,103],kI 2] [] (⟨[115,116,114,105,110,103],2⟩:zB) rfl zhM rfl rfl) (rkl 0 [] ⟨[(1,.om (Rp.int .i64) zI 12 [] zBs),(16,.rc zI [] (⟨[115,116,114,105,110,103],2⟩:zB))],[]⟩ (zgb (rk:=(Rp.int .i64)) (rv:=zI) (m:=zBs) (C:=[]) (C1:=[]) (D:=[]) [1] 15 (⟨[115,116,114,105,110,103],2⟩:zB) [] zfI rfl (.inr rfl) rfl rfl rfl rfl (zfi rfl rfl) (zdS rfl) (by kernel_rfl) rfl (rc 0 rfl (zan (r:=zI) [kS [98,121,116,101,115],kI 2] [] (⟨[98,121,116,101,115],2⟩:zB) rfl zhM rfl rfl) (rkl 0 [] ⟨[(1,.om (Rp.int .i64) zI 12 [] zyo),(17,.rc zI [] (⟨[98,121,116,101,115],2⟩:zB))],[]⟩ (zgb (rk:=(Rp.int .i64)) (rv:=zI) (m:=zyo) (C:=[]) (C1:=[]) (D:=[]) [1] 16 (⟨[98,121,116,101,115],2⟩:zB) [] zfI rfl (.inr rfl) rfl rfl rfl rfl (zfi rfl rfl) (zdS rfl) (by kernel_rfl) rfl (rc 0 rfl (zan (r:=zI) [kS [109,101,115,115,97,103,101],kI 2] [] (⟨[109,101,115,115,97,103,101],2⟩:zB) rfl zhM rfl rfl) (rkl 0 [] ⟨[(1,.om (Rp.int .i64) zI 12 [] (mput zyo 16 (⟨[98,121,116,101,115],2⟩:zB))),(18,.rc zI [] (⟨[109,101,115,115,97,103,101],2⟩:zB))],[]⟩ (zgb (rk:=(Rp.int .i64)) (rv:=zI) (m:=(mput zyo 16 (⟨[98,121,116,101,115],2⟩:zB))) (C:=[]) (C1:=[]) (D:=[]) [1] 17 (⟨[109,101,115,115,97,103,101],2⟩:zB) [] zfI rfl (.inr rfl) rfl rfl rfl rfl (zfi rfl rfl) (zdS rfl) (by kernel_rfl) rfl rf)))))))))))))))))))))))))))))))))))))))))))))))))))) ?_
 obtain rfl:=sj h
 refine zz ?_
 refine lk [0] [] 12 2 ?_
 exact lzz
theorem zmx {c:Int} {r:Bool} (h:zgD c=some r):FnOk Tryz.prog 156 [k8 c] [kB r]:=by
 refine zC (E:=⟨[(2,kB r)],[]⟩) 9 Tryz.func156 rfl rfl rfl ⟨rfl,trivial⟩ (fun Xt=>?_)
 refine zp ?_
 unfold zgD at h
 refine jp ?_
 refine zW ⟨[(2,kB ((decide (c≥48))&&(decide (c≤57))))],[]⟩ ?_ ?_
 ·
  refine (rsl 3 [] 5 (decide (c≥48)) (fun hc1=>?_) (fun hc1=>?_))
  · exact (rbl [] 2 (decide (c≤57)) ((decide (c≥48))&&(decide (c≤57))) (by rw [hc1]<;>rfl))
  exact (rbl [] 2 false ((decide (c≥48))&&(decide (c≤57))) (by rw [hc1]<;>rfl))
 obtain rfl:=sj h
 exact zz lzz
theorem zrc {c:Int} {r:Bool} (h:zhb c=some r):FnOk Tryz.prog 157 [k8 c] [kB r]:=by
 refine zC (E:=⟨[(2,kB r)],[]⟩) 21 Tryz.func157 rfl rfl rfl ⟨rfl,trivial⟩ (fun Xt=>?_)
 refine zp ?_
 unfold zhb at h
 refine jp ?_
 refine zW ⟨[(2,kB (if (decide (c≥97)) then ((decide (c≤122))|| (if (decide (c≥65)) then ((decide (c≤90))|| (c==95)) else (c==95))) else (if (decide (c≥65)) then ((decide (c≤90))|| (c==95)) else (c==95))))],[]⟩ ?_ ?_
 ·
  refine (rsl 3 [] 5 (decide (c≥97)) (fun hc1=>?_) (fun hc1=>?_))
  ·
   refine (rsl 4 [] 9 (decide (c≤122)) (fun hc2=>?_) (fun hc2=>?_))
   · exact (rbl [] 2 true (if (decide (c≥97)) then ((decide (c≤122))|| (if (decide (c≥65)) then ((decide (c≤90))|| (c==95)) else (c==95))) else (if (decide (c≥65)) then ((decide (c≤90))|| (c==95)) else (c==95))) (by rw [hc1,hc2]<;>rfl))
   refine (rsl 3 [] 12 (decide (c≥65)) (fun hc3=>?_) (fun hc3=>?_))
   ·
    refine (rsl 5 [] 17 (decide (c≤90)) (fun hc4=>?_) (fun hc4=>?_))
    · exact (rbl [] 2 true (if (decide (c≥97)) then ((decide (c≤122))|| (if (decide (c≥65)) then ((decide (c≤90))|| (c==95)) else (c==95))) else (if (decide (c≥65)) then ((decide (c≤90))|| (c==95)) else (c==95))) (by rw [hc1,hc2,hc3,hc4]<;>rfl))
    exact (rbl [] 2 (c==95) (if (decide (c≥97)) then ((decide (c≤122))|| (if (decide (c≥65)) then ((decide (c≤90))|| (c==95)) else (c==95))) else (if (decide (c≥65)) then ((decide (c≤90))|| (c==95)) else (c==95))) (by rw [hc1,hc2,hc3,hc4]<;>rfl))
   exact (rbl [] 2 (c==95) (if (decide (c≥97)) then ((decide (c≤122))|| (if (decide (c≥65)) then ((decide (c≤90))|| (c==95)) else (c==95))) else (if (decide (c≥65)) then ((decide (c≤90))|| (c==95)) else (c==95))) (by rw [hc1,hc2,hc3]<;>rfl))
  refine (rsl 7 [] 12 (decide (c≥65)) (fun hc5=>?_) (fun hc5=>?_))
  ·
   refine (rsl 5 [] 17 (decide (c≤90)) (fun hc6=>?_) (fun hc6=>?_))
   · exact (rbl [] 2 true (if (decide (c≥97)) then ((decide (c≤122))|| (if (decide (c≥65)) then ((decide (c≤90))|| (c==95)) else (c==95))) else (if (decide (c≥65)) then ((decide (c≤90))|| (c==95)) else (c==95))) (by rw [hc1,hc5,hc6]<;>rfl))
   exact (rbl [] 2 (c==95) (if (decide (c≥97)) then ((decide (c≤122))|| (if (decide (c≥65)) then ((decide (c≤90))|| (c==95)) else (c==95))) else (if (decide (c≥65)) then ((decide (c≤90))|| (c==95)) else (c==95))) (by rw [hc1,hc5,hc6]<;>rfl))
  exact (rbl [] 2 (c==95) (if (decide (c≥97)) then ((decide (c≤122))|| (if (decide (c≥65)) then ((decide (c≤90))|| (c==95)) else (c==95))) else (if (decide (c≥65)) then ((decide (c≤90))|| (c==95)) else (c==95))) (by rw [hc1,hc5]<;>rfl))
 obtain rfl:=sj h
 exact zz lzz
theorem zrd {n:Int} {r:Bool} (h:zhc n=some r):FnOk Tryz.prog 123 [kI n] [kB r]:=by
 refine zC (E:=⟨[(2,kB r)],[]⟩) 17 Tryz.func123 rfl rfl rfl ⟨rfl,trivial⟩ (fun Xt=>?_)
 refine zp ?_
 unfold zhc at h
 refine jp ?_
 refine zW ⟨[(2,kB ((decide (n≥1))&&((decide (n≤536870911))&&((decide (n<19000))|| (decide (n>19999))))))],[]⟩ ?_ ?_
 ·
  refine (rsl 3 [] 5 (decide (n≥1)) (fun hc1=>?_) (fun hc1=>?_))
  ·
   refine (rsl 4 [] 9 (decide (n≤536870911)) (fun hc2=>?_) (fun hc2=>?_))
   ·
    refine (rsl 3 [] 12 (decide (n<19000)) (fun hc3=>?_) (fun hc3=>?_))
    · exact (rbl [] 2 true ((decide (n≥1))&&((decide (n≤536870911))&&((decide (n<19000))|| (decide (n>19999))))) (by rw [hc1,hc2,hc3]<;>rfl))
    exact (rbl [] 2 (decide (n>19999)) ((decide (n≥1))&&((decide (n≤536870911))&&((decide (n<19000))|| (decide (n>19999))))) (by rw [hc1,hc2,hc3]<;>rfl))
   exact (rbl [] 2 false ((decide (n≥1))&&((decide (n≤536870911))&&((decide (n<19000))|| (decide (n>19999))))) (by rw [hc1,hc2]<;>rfl))
  exact (rbl [] 2 false ((decide (n≥1))&&((decide (n≤536870911))&&((decide (n<19000))|| (decide (n>19999))))) (by rw [hc1]<;>rfl))
 obtain rfl:=sj h
 exact zz lzz
theorem zlS {sv:(List Int)} {v:Int} {r:Int} (h:zdI sv v=some r):FnOk Tryz.prog 158 [.sl (Rp.int .i64) [0] sv,kI v] [kI r]:=by
 refine zC (E:=⟨[(4,kI r)],[]⟩) 19 Tryz.func158 rfl rfl rfl ⟨rfl,trivial⟩ (fun Xt=>?_)
 refine zp ?_
 unfold zdI at h
 refine jp ?_
 refine jp ?_
 refine zA ?_
 obtain ⟨q,h_q,h⟩:=bnd h
 refine zal (fun s:Int=>zax sv v s) (fun s=>⟨[(0,.sl (Rp.int .i64) [0] sv),(1,kI v),(7,kI (sv.length:Int)),(8,kI s)],[]⟩) (fun o e a w=>match o with| (.inl v_)=>e= .exit 0∧Sx ⟨⟨19,[]⟩,Xt,false,#[]⟩ ⟨[],[]⟩ a w| (.inr v_)=>e= .ret∧Sx ⟨⟨19,[]⟩,Xt,false,#[]⟩ ⟨[(4,kI v_)],[]⟩ a w) ?_ h_q lzz ?_
 ·
  clear h
  intro v2 o h
  refine zp ?_
  replace h:zax sv v v2=some o:=h
  unfold zax at h
  refine jp ?_
  rcases zm h with ⟨hc1,h⟩| ⟨hc1,h⟩
  ·
   refine jT hc1 ?_
   refine zA ?_
   refine jp ?_
   obtain ⟨x,h_x,h⟩:=bnd h
   refine jr (ra 3 [.sl (Rp.int .i64) [0] sv,kI v2] rfl (zao rfl zDi.el (zJ _ _ _) h_x) rfl rf) ?_
   rcases zm h with ⟨hc2,h⟩| ⟨hc2,h⟩
   ·
    refine jT hc2 ?_
    refine jp ?_
    obtain rfl:=sj h
    exact zaZ lzz
   refine jF hc2 ?_
   refine zag ?_
   refine jp ?_
   obtain rfl:=sj h
   exact zL lzz
  refine jF hc1 ?_
  obtain rfl:=sj h
  exact zam rfl lzz
 rcases q with u| u2
 ·
  refine zaD _ rfl ?_
  refine jp ?_
  obtain rfl:=sj h
  exact zz lzz
 obtain rfl:=sj h
 exact zcK lzz
theorem zoU {c:zbd} {f:ze} {r:Bool} (h:zfE c f=some r):FnOk Tryz.prog 126 [.ag [kI c.size,.sl (Rp.int .i64) [0] c.kinds,.mp zw Rp.bool [0] c.names,.mp zv Rp.bool [0] c.numbers],.rc zf [0] f] [kB r]:=by
 refine zC (E:=⟨[(4,kB r)],[]⟩) 21 Tryz.func126 rfl rfl rfl ⟨rfl,trivial⟩ (fun Xt=>?_)
 refine zp ?_
 unfold zfE at h
 refine jq [11,12] ?_
 refine jp ?_
 rcases zm h with ⟨hc1,h⟩| ⟨hc1,h⟩
 ·
  refine jT hc1 ?_
  refine zW ⟨[(4,kB ((decide (f.Of≥0))&&(decide (f.Of<c.size))))],[]⟩ ?_ ?_
  ·
   refine (rsl 4 [] 11 (decide (f.Of≥0)) (fun hc2=>?_) (fun hc2=>?_))
   · exact (rbl [] 4 (decide (f.Of<c.size)) ((decide (f.Of≥0))&&(decide (f.Of<c.size))) (by rw [hc2]<;>rfl))
   exact (rbl [] 4 false ((decide (f.Of≥0))&&(decide (f.Of<c.size))) (by rw [hc2]<;>rfl))
  obtain rfl:=sj h
  exact zz lzz
 refine jF hc1 ?_
 refine jp ?_
 obtain rfl:=sj h
 exact zz lzz
theorem zjz {b:(List UInt8)} {r:(Int×Int×Int)} (h:zgj b=some r):FnOk Tryz.prog 152 [.sl Rp.byte [0] b] [kU r.1,kI r.2.1,k8 r.2.2]:=by
 refine zC (E:=⟨[(2,kU r.1),(3,kI r.2.1),(4,k8 r.2.2)],[]⟩) 38 Tryz.func152 rfl rfl rfl ⟨rfl,rfl,rfl,trivial⟩ (fun Xt=>?_)
 refine zp ?_
 unfold zgj at h
 refine jp ?_
 obtain ⟨v,h_v,h⟩:=bnd h
 refine jr (ra 4 [.sl Rp.byte [0] b,kI (if (10:Int)<(b.length:Int) then 10 else (b.length:Int))] rfl (zik none (some (kI (if (10:Int)<(b.length:Int) then 10 else (b.length:Int)))) rfl zeU.el (zJ _ _ _) ⟨rfl,rfl⟩ ⟨rfl,rfl⟩ h_v) rfl rf) ?_
 refine zA ?_
 obtain ⟨q,h_q,h⟩:=bnd h
 refine zal (fun s:(Int×Int)=>zcS v s.1 s.2) (fun s=>⟨[(2,kU s.1),(11,.sl Rp.byte [0] v),(12,kI (v.length:Int)),(13,kI s.2)],[]⟩) (fun o e a w=>match o with| (.inl v_)=>e= .exit 0∧Sx ⟨⟨38,[]⟩,Xt,false,#[]⟩ ⟨[],[]⟩ a w| (.inr v_)=>e= .ret∧Sx ⟨⟨38,[]⟩,Xt,false,#[]⟩ ⟨[(2,kU v_.1),(3,kI v_.2.1),(4,k8 v_.2.2)],[]⟩ a w) ?_ h_q lzz ?_
 ·
  clear h
  intro s o h
  obtain ⟨wv,v2⟩:=s
  refine zp ?_
  replace h:zcS v wv v2=some o:=h
  unfold zcS at h
  refine jp ?_
  rcases zm h with ⟨hc1,h⟩| ⟨hc1,h⟩
  ·
   refine jT hc1 ?_
   refine zA ?_
   obtain ⟨x,h_x,h⟩:=bnd h
   refine jr (ra 1 [.sl Rp.byte [0] v,kI v2] rfl (zao rfl zeU.el (zJ _ _ _) h_x) rfl rf) ?_
   refine zW ⟨[(2,kU wv),(5,kI v2),(6,k8 (x.toNat:Int)),(11,.sl Rp.byte [0] v),(12,kI (v.length:Int)),(13,kI v2),(23,kB ((v2==9)&&(decide ((x.toNat:Int)>1))))],[]⟩ ?_ ?_
   ·
    refine (rsl 3 [] 20 (v2==9) (fun hc2=>?_) (fun hc2=>?_))
    · exact (rbl [] 23 (decide ((x.toNat:Int)>1)) ((v2==9)&&(decide ((x.toNat:Int)>1))) (by rw [hc2]<;>rfl))
    exact (rbl [] 23 false ((v2==9)&&(decide ((x.toNat:Int)>1))) (by rw [hc2]<;>rfl))
   rcases zm h with ⟨hc3,h⟩| ⟨hc3,h⟩
   ·
    refine jT hc3 ?_
    refine jp ?_
    obtain rfl:=sj h
    exact zaZ lzz
   refine jF hc3 ?_
   obtain ⟨v4,h_v4,h⟩:=bnd h
   refine jr (ra 6 [kU (IntKind.u64.wrap (andI .u8 (x.toNat:Int) 127)),kI (IntKind.i64.wrap (7*v2))] rfl (zBx rfl h_v4) rfl rf) ?_
   refine jp ?_
   rcases zm h with ⟨hc4,h⟩| ⟨hc4,h⟩
   ·
    refine jT hc4 ?_
    refine jp ?_
    obtain rfl:=sj h
    exact zaZ lzz
   refine jF hc4 ?_
   refine zag ?_
   refine jp ?_
   obtain rfl:=sj h
   exact zL lzz
  refine jF hc1 ?_
  obtain rfl:=sj h
  exact zam rfl lzz
 rcases q with u| u2
 ·
  refine zaD _ rfl ?_
  refine jp ?_
  obtain rfl:=sj h
  exact zz lzz
 obtain rfl:=sj h
 exact zcK lzz
theorem ztf {wire:Int} {r:Bool} (h:ziB wire=some r):FnOk Tryz.prog 174 [kI wire] [kB r]:=by
 refine zC (E:=⟨[(2,kB r)],[]⟩) 9 Tryz.func174 rfl rfl rfl ⟨rfl,trivial⟩ (fun Xt=>?_)
 refine zp ?_
 unfold ziB at h
 refine jp ?_
 refine jp ?_
 refine zA ?_
 refine jp ?_
 rcases zm h with ⟨hc1,h⟩| ⟨hc1,h⟩
 ·
  refine jT hc1 ?_
  rcases zm h with ⟨hc2,h⟩| ⟨hc2,h⟩
  ·
   refine jT hc2 ?_
   refine jp ?_
   obtain rfl:=sj h
   exact zz lzz
  refine jF hc2 ?_
  refine zag ?_
  refine jp ?_
  obtain rfl:=sj h
  exact zz lzz
 refine jF hc1 ?_
 refine jp ?_
 rcases zm h with ⟨hc3,h⟩| ⟨hc3,h⟩
 ·
  refine jT hc3 ?_
  rcases zm h with ⟨hc4,h⟩| ⟨hc4,h⟩
  ·
   refine jT hc4 ?_
   refine jp ?_
   obtain rfl:=sj h
   exact zz lzz
  refine jF hc4 ?_
  refine zag ?_
  refine jp ?_
  obtain rfl:=sj h
  exact zz lzz
 refine jF hc3 ?_
 refine jp ?_
 rcases zm h with ⟨hc5,h⟩| ⟨hc5,h⟩
 ·
  refine jT hc5 ?_
  rcases zm h with ⟨hc6,h⟩| ⟨hc6,h⟩
  ·
   refine jT hc6 ?_
   refine jp ?_
   obtain rfl:=sj h
   exact zz lzz
  refine jF hc6 ?_
  refine zag ?_
  refine jp ?_
  obtain rfl:=sj h
  exact zz lzz
 refine jF hc5 ?_
 refine jp ?_
 rcases zm h with ⟨hc7,h⟩| ⟨hc7,h⟩
 ·
  refine jT hc7 ?_
  refine jp ?_
  obtain rfl:=sj h
  exact zz lzz
 refine jF hc7 ?_
 refine zag ?_
 refine jp ?_
 obtain rfl:=sj h
 exact zz lzz
theorem ztY {f:ze} {v:Int} {r:Bool} (h:zjA f v=some r):FnOk Tryz.prog 162 [.rc zf [0] f,.ep (Rp.int .i64) [0] v 0] [kB r]:=by
 refine zC (E:=⟨[(3,kB r)],[]⟩) 8 Tryz.func162 rfl rfl rfl ⟨rfl,trivial⟩ (fun Xt=>?_)
 refine zp ?_
 unfold zjA at h
 refine jq [11] ?_
 refine jp ?_
 obtain rfl:=sj h
 exact zz lzz
theorem zoz {k:Int} {r:(Int×Int)} (h:zhW k=some r):FnOk Tryz.prog 178 [kI k] [kI r.1,k8 r.2]:=by
 refine zC (E:=⟨[(2,kI r.1),(3,k8 r.2)],[]⟩) 22 Tryz.func178 rfl rfl rfl ⟨rfl,rfl,trivial⟩ (fun Xt=>?_)
 refine zp ?_
 unfold zhW at h
 refine jp ?_
 refine jp ?_
 refine zA ?_
 refine jp ?_
 obtain ⟨p,h_p,h⟩:=bnd h
 refine zcT (R:=fun e a w=>e= .normal∧Sx ⟨⟨22,[]⟩,Xt,false,#[]⟩ ⟨[(4,kI k),(5,kB p)],[]⟩ a w) ?_ ?_
 ·
  replace h:=h_p
  refine zp ?_
  rcases zm h with ⟨hc1,h⟩| ⟨hc1,h⟩
  ·
   refine jT hc1 ?_
   obtain rfl:=sj h
   exact zL lzz
  refine jF hc1 ?_
  refine jp ?_
  rcases zm h with ⟨hc2,h⟩| ⟨hc2,h⟩
  ·
   refine jT hc2 ?_
   obtain rfl:=sj h
   exact zL lzz
  refine jF hc2 ?_
  refine jp ?_
  rcases zm h with ⟨hc3,h⟩| ⟨hc3,h⟩
  ·
   refine jT hc3 ?_
   obtain rfl:=sj h
   exact zL lzz
  refine jF hc3 ?_
  refine jp ?_
  rcases zm h with ⟨hc4,h⟩| ⟨hc4,h⟩
  ·
   refine jT hc4 ?_
   obtain rfl:=sj h
   exact zL lzz
  refine jF hc4 ?_
  refine jp ?_
  rcases zm h with ⟨hc5,h⟩| ⟨hc5,h⟩
  ·
   refine jT hc5 ?_
   obtain rfl:=sj h
   exact zL lzz
  refine jF hc5 ?_
  refine jp ?_
  rcases zm h with ⟨hc6,h⟩| ⟨hc6,h⟩
  ·
   refine jT hc6 ?_
   obtain rfl:=sj h
   exact zL lzz
  refine jF hc6 ?_
  refine jp ?_
  rcases zm h with ⟨hc7,h⟩| ⟨hc7,h⟩
  ·
   refine jT hc7 ?_
   obtain rfl:=sj h
   exact zL lzz
  refine jF hc7 ?_
  refine jp ?_
  obtain rfl:=sj h
  exact zL lzz
 refine zeF ?_
 rcases zm h with ⟨hc8,h⟩| ⟨hc8,h⟩
 ·
  refine jT hc8 ?_
  refine jp ?_
  obtain rfl:=sj h
  exact zz lzz
 refine jF hc8 ?_
 refine jp ?_
 obtain ⟨p2,h_p2,h⟩:=bnd h
 refine zcT (R:=fun e a w=>e= .normal∧Sx ⟨⟨22,[]⟩,Xt,false,#[]⟩ ⟨[(4,kI k),(14,kB p2)],[]⟩ a w) ?_ ?_
 ·
  replace h:=h_p2
  refine zp ?_
  rcases zm h with ⟨hc9,h⟩| ⟨hc9,h⟩
  ·
   refine jT hc9 ?_
   obtain rfl:=sj h
   exact zL lzz
  refine jF hc9 ?_
  refine jp ?_
  rcases zm h with ⟨hc10,h⟩| ⟨hc10,h⟩
  ·
   refine jT hc10 ?_
   obtain rfl:=sj h
   exact zL lzz
  refine jF hc10 ?_
  refine jp ?_
  obtain rfl:=sj h
  exact zL lzz
 refine zeF ?_
 rcases zm h with ⟨hc11,h⟩| ⟨hc11,h⟩
 ·
  refine jT hc11 ?_
  refine jp ?_
  obtain rfl:=sj h
  exact zz lzz
 refine jF hc11 ?_
 refine jp ?_
 rcases zm h with ⟨hc12,h⟩| ⟨hc12,h⟩
 ·
  refine jT hc12 ?_
  rcases zm h with ⟨hc13,h⟩| ⟨hc13,h⟩
  ·
   refine jT hc13 ?_
   refine jp ?_
   obtain rfl:=sj h
   exact zz lzz
  refine jF hc13 ?_
  refine zag ?_
  refine jp ?_
  obtain rfl:=sj h
  exact zz lzz
 refine jF hc12 ?_
 refine jp ?_
 rcases zm h with ⟨hc14,h⟩| ⟨hc14,h⟩
 ·
  refine jT hc14 ?_
  rcases zm h with ⟨hc15,h⟩| ⟨hc15,h⟩
  ·
   refine jT hc15 ?_
   refine jp ?_
   obtain rfl:=sj h
   exact zz lzz
  refine jF hc15 ?_
  refine zag ?_
  refine jp ?_
  obtain rfl:=sj h
  exact zz lzz
 refine jF hc14 ?_
 refine jp ?_
 rcases zm h with ⟨hc16,h⟩| ⟨hc16,h⟩
 ·
  refine jT hc16 ?_
  refine jp ?_
  obtain rfl:=sj h
  exact zz lzz
 refine jF hc16 ?_
 refine zag ?_
 refine jp ?_
 obtain rfl:=sj h
 exact zz lzz
theorem zqy {wv:Int} {r:Int} (h:zjM wv=some r):FnOk Tryz.prog 130 [kU wv] [.lf (.int .u32 r)]:=by
 refine zC (E:=⟨[(2,.lf (.int .u32 r))],[]⟩) 5 Tryz.func130 rfl rfl rfl ⟨rfl,trivial⟩ (fun Xt=>?_)
 refine zp ?_
 unfold zjM at h
 refine jp ?_
 refine jp ?_
 obtain rfl:=sj h
 exact zz lzz
theorem zuE {n:Int} {r:Int} (h:zkn n=some r):FnOk Tryz.prog 128 [.lf (.int .i32 n)] [kU r]:=by
 refine zC (E:=⟨[(2,kU r)],[]⟩) 6 Tryz.func128 rfl rfl rfl ⟨rfl,trivial⟩ (fun Xt=>?_)
 refine zp ?_
 unfold zkn at h
 refine jp ?_
 refine jp ?_
 obtain rfl:=sj h
 exact zz lzz
theorem zwp {wv:Int} {r:Int} (h:zod wv=some r):FnOk Tryz.prog 131 [kU wv] [kU r]:=by
 refine zC (E:=⟨[(2,kU r)],[]⟩) 5 Tryz.func131 rfl rfl rfl ⟨rfl,trivial⟩ (fun Xt=>?_)
 refine zp ?_
 unfold zod at h
 refine jp ?_
 refine jp ?_
 obtain rfl:=sj h
 exact zz lzz
theorem zzk {wv:Int} {r:Int} (h:zpc wv=some r):FnOk Tryz.prog 183 [kU wv] [kI r]:=by
 refine zC (E:=⟨[(2,kI r)],[]⟩) 13 Tryz.func183 rfl rfl rfl ⟨rfl,trivial⟩ (fun Xt=>?_)
 refine zp ?_
 unfold zpc at h
 refine jp ?_
 refine jp ?_
 refine jr (ra 1 [kU wv,kU 7] rfl (zkU rfl rfl) rfl rf) ?_
 refine zA ?_
 obtain ⟨q,h_q,h⟩:=bnd h
 refine zal (fun s:(Int×Int)=>zfn s.1 s.2) (fun s=>⟨[(0,kU s.1),(3,kI s.2)],[]⟩) (fun o e a w=>e= .exit 0∧Sx ⟨⟨13,[]⟩,Xt,false,#[]⟩ ⟨[(3,kI o)],[]⟩ a w) ?_ h_q lzz ?_
 ·
  clear h
  intro s o h
  obtain ⟨wv2,n⟩:=s
  refine zp ?_
  replace h:zfn wv2 n=some o:=h
  unfold zfn at h
  refine jp ?_
  rcases zm h with ⟨hc1,h⟩| ⟨hc1,h⟩
  ·
   refine jT hc1 ?_
   refine zA ?_
   refine jp ?_
   refine zag ?_
   refine jr (ra 1 [kU wv2,kU 7] rfl (zkU rfl rfl) rfl rf) ?_
   obtain rfl:=sj h
   exact zL lzz
  refine jF hc1 ?_
  obtain rfl:=sj h
  exact zam rfl lzz
 refine zaD _ rfl ?_
 refine jp ?_
 obtain rfl:=sj h
 exact zz lzz
theorem zAH {c:Int} {r:(Int×Int)} (h:zso c=some r):FnOk Tryz.prog 181 [k8 c] [kI r.1,.lf (.int .u32 r.2)]:=by
 refine zC (E:=⟨[(2,kI r.1),(3,.lf (.int .u32 r.2))],[]⟩) 31 Tryz.func181 rfl rfl rfl ⟨rfl,rfl,trivial⟩ (fun Xt=>?_)
 refine zp ?_
 unfold zso at h
 refine jp ?_
 refine zA ?_
 refine jr (ra 1 [k8 c,kU 7] rfl (zkU rfl rfl) rfl rf) ?_
 rcases zm h with ⟨hc1,h⟩| ⟨hc1,h⟩
 ·
  refine jT hc1 ?_
  refine jp ?_
  obtain rfl:=sj h
  exact zz lzz
 refine jF hc1 ?_
 refine jr (ra 1 [k8 c,kU 5] rfl (zkU rfl rfl) rfl rf) ?_
 rcases zm h with ⟨hc2,h⟩| ⟨hc2,h⟩
 ·
  refine jT hc2 ?_
  refine jp ?_
  obtain rfl:=sj h
  exact zz lzz
 refine jF hc2 ?_
 refine jr (ra 1 [k8 c,kU 4] rfl (zkU rfl rfl) rfl rf) ?_
 rcases zm h with ⟨hc3,h⟩| ⟨hc3,h⟩
 ·
  refine jT hc3 ?_
  refine jp ?_
  obtain rfl:=sj h
  exact zz lzz
 refine jF hc3 ?_
 refine jr (ra 1 [k8 c,kU 3] rfl (zkU rfl rfl) rfl rf) ?_
 rcases zm h with ⟨hc4,h⟩| ⟨hc4,h⟩
 ·
  refine jT hc4 ?_
  refine jp ?_
  obtain rfl:=sj h
  exact zz lzz
 refine jF hc4 ?_
 refine zag ?_
 refine jp ?_
 obtain rfl:=sj h
 exact zz lzz
theorem zAG {wv:Int} {r:Int} (h:znR wv=some r):FnOk Tryz.prog 182 [.lf (.int .u32 wv)] [kI r]:=by
 refine zC (E:=⟨[(2,kI r)],[]⟩) 22 Tryz.func182 rfl rfl rfl ⟨rfl,trivial⟩ (fun Xt=>?_)
 refine zp ?_
 unfold znR at h
 refine jp ?_
 refine zA ?_
 refine jr (ra 1 [.lf (.int .u32 wv),kU 7] rfl (zkU rfl rfl) rfl rf) ?_
 rcases zm h with ⟨hc1,h⟩| ⟨hc1,h⟩
 ·
  refine jT hc1 ?_
  refine jp ?_
  obtain rfl:=sj h
  exact zz lzz
 refine jF hc1 ?_
 refine jr (ra 1 [.lf (.int .u32 wv),kU 11] rfl (zkU rfl rfl) rfl rf) ?_
 rcases zm h with ⟨hc2,h⟩| ⟨hc2,h⟩
 ·
  refine jT hc2 ?_
  refine jp ?_
  obtain rfl:=sj h
  exact zz lzz
 refine jF hc2 ?_
 refine jr (ra 1 [.lf (.int .u32 wv),kU 11] rfl (zkU rfl rfl) rfl rf) ?_
 rcases zm h with ⟨hc3,h⟩| ⟨hc3,h⟩
 ·
  refine jT hc3 ?_
  refine jp ?_
  obtain rfl:=sj h
  exact zz lzz
 refine jF hc3 ?_
 refine jr (ra 1 [.lf (.int .u32 wv),kU 16] rfl (zkU rfl rfl) rfl rf) ?_
 rcases zm h with ⟨hc4,h⟩| ⟨hc4,h⟩
 ·
  refine jT hc4 ?_
  refine jp ?_
  obtain rfl:=sj h
  exact zz lzz
 refine jF hc4 ?_
 refine jp ?_
 rcases zm h with ⟨hc5,h⟩| ⟨hc5,h⟩
 ·
  refine jT hc5 ?_
  refine jp ?_
  obtain rfl:=sj h
  exact zz lzz
 refine jF hc5 ?_
 refine zag ?_
 refine jp ?_
 obtain rfl:=sj h
 exact zz lzz
theorem zlo {n:Int} {r:(List UInt8)} (h:zdp n=some r):FnOk Tryz.prog 149 [kN,kI n] [.own Rp.byte 5 2 [] r]:=by
 refine zC (E:=⟨[(4,.own Rp.byte 5 2 [] r)],[]⟩) 27 Tryz.func149 rfl rfl rfl ⟨rfl,trivial⟩ (fun Xt=>?_)
 refine zp ?_
 unfold zdp at h
 refine jp ?_
 refine jp ?_
 rcases zm h with ⟨hc1,h⟩| ⟨hc1,h⟩
 ·
  refine jT hc1 ?_
  exact absurd h nofun
 refine jF hc1 ?_
 refine jr (ra 2 [kN] rfl (zxh rfl Tryz.underlying24) rfl rf) ?_
 refine jp ?_
 rcases zm h with ⟨hc2,h⟩| ⟨hc2,h⟩
 ·
  refine jT hc2 ?_
  obtain ⟨v,h_v,h⟩:=bnd h
  obtain ⟨v2,h_v2,h⟩:=bnd h
  refine jr (ra 2 [kN] rfl (zxh rfl Tryz.underlying24) rfl (ra 0 [kN,kI 0] rfl (zDF rfl zeU.el) rfl (ra 1 [kN,kI (IntKind.i64.wrap (n - (IntKind.i64.wrap (0 - 0))))] rfl (zGO 12 rfl Tryz.underlying3 zeU rfl h_v) rfl (ra 2 [.own Rp.byte 5 12 [] v,kI 0] rfl (zGR rfl zeU.el h_v2) rfl rf)))) ?_
  refine jp ?_
  obtain rfl:=sj h
  refine zz ?_
  refine lk [4] [] 12 2 ?_
  exact lzz
 refine jF hc2 ?_
 refine jp ?_
 obtain rfl:=sj h
 refine zz ?_
 refine zbX ⟨[(4,kN)],[]⟩ (by kernel_rfl) ?_
 refine zdF 4 (.own Rp.byte 5 2 [] ([]:(List UInt8))) rfl (zbv Rp.byte 5 2 [] rfl) ?_
 exact lzz
theorem zwB {b:(List UInt8)} {l:(List zg)} {r:(List Str)} (h:zlT b l=some r):FnOk Tryz.prog 93 [.sl Rp.byte [0] b,.sl zj [0] l] [.own Rp.str 9 2 [] r]:=by
 refine zC (E:=⟨[(4,.own Rp.str 9 2 [] r)],[]⟩) 32 Tryz.func93 rfl rfl rfl ⟨rfl,trivial⟩ (fun Xt=>?_)
 refine zp ?_
 unfold zlT at h
 refine jp ?_
 obtain ⟨v,h_v,h⟩:=bnd h
 refine jr (ra 2 [kI (l.length:Int),kI (l.length:Int)] rfl (zyv 12 rfl zif rfl h_v) rfl rf) ?_
 refine jp ?_
 refine zA ?_
 obtain ⟨q,h_q,h⟩:=bnd h
 refine zal (fun s:((List Str)×Int)=>zdQ b l s.1 s.2) (fun s=>⟨[(0,.sl Rp.byte [0] b),(5,.own Rp.str 9 12 [] s.1),(11,.sl zj [0] l),(12,kI (l.length:Int)),(13,kI s.2)],[]⟩) (fun o e a w=>e= .exit 0∧Sx ⟨⟨32,[]⟩,Xt,false,#[]⟩ ⟨[(5,.own Rp.str 9 12 [] o)],[]⟩ a w) ?_ h_q lzz ?_
 ·
  clear h
  intro s o h
  obtain ⟨all,v2⟩:=s
  refine zp ?_
  replace h:zdQ b l all v2=some o:=h
  unfold zdQ at h
  refine jp ?_
  rcases zm h with ⟨hc1,h⟩| ⟨hc1,h⟩
  ·
   refine jT hc1 ?_
   refine zA ?_
   obtain ⟨x,h_x,h⟩:=bnd h
   refine jr (ra 1 [.sl zj [0] l,kI v2] rfl (zao rfl zni.el (zJ _ _ _) h_x) rfl (ra 0 [.ep zj [0] x 0] rfl (zci rfl ⟨Tryz.isAgg113,Tryz.sizeOf113⟩) rfl (rfl' [14]))) ?_
   obtain ⟨v3,h_v3,h⟩:=bnd h
   obtain ⟨x2,h_x2,h⟩:=bnd h
   refine jr (ra 9 [.sl Rp.byte [0] b,kI x.Record.At,kI x.Record.To] rfl (zik (some (kI x.Record.At)) (some (kI x.Record.To)) rfl zeU.el (zJ _ _ _) ⟨rfl,rfl⟩ ⟨rfl,rfl⟩ h_v3) rfl (ra 0 [.sl Rp.byte [0] v3] rfl (zyt rfl Tryz.underlying24 Tryz.underlying5 Tryz.underlying9 (zJ _ _ _)) rfl (ra 0 [.own Rp.str 9 12 [] all,kI v2] rfl (zpq rfl zif.el h_x2) rfl (rkl 0 [] ⟨[(0,.sl Rp.byte [0] b),(5,.own Rp.str 9 12 [] all),(11,.sl zj [0] l),(12,kI (l.length:Int)),(13,kI v2),(28,kS v3),(29,.ptr 12 (Int.toNat v2*Rp.str.size))],[]⟩ (zBJ (r:=Rp.str) (e:=9) (C:=[]) (xs:=all) [5] (Int.toNat v2) 0 x2 v3 [] rfl rfl rfl rfl rfl rfl Tryz.sizeOf9 rfl (by kernel_rfl) rfl (zpY h_x2) rfl (zrZ rfl _) rfl rf))))) ?_
   refine zag ?_
   refine jp ?_
   obtain rfl:=sj h
   exact zL lzz
  refine jF hc1 ?_
  obtain rfl:=sj h
  exact zam rfl lzz
 refine zaD _ rfl ?_
 refine jp ?_
 obtain rfl:=sj h
 refine zz ?_
 refine lk [4] [] 12 2 ?_
 exact lzz
theorem zxQ {b:(List UInt8)} {r:Int} (h:znk b=some r):FnOk Tryz.prog 180 [.sl Rp.byte [0] b] [kU r]:=by
 refine zC (E:=⟨[(2,kU r)],[]⟩) 26 Tryz.func180 rfl rfl rfl ⟨rfl,trivial⟩ (fun Xt=>?_)
 refine zp ?_
 unfold znk at h
 refine jp ?_
 refine jp ?_
 obtain ⟨v,h_v,h⟩:=bnd h
 refine jr (ra 4 [.sl Rp.byte [0] b,kI (if (8:Int)<(b.length:Int) then 8 else (b.length:Int))] rfl (zik none (some (kI (if (8:Int)<(b.length:Int) then 8 else (b.length:Int)))) rfl zeU.el (zJ _ _ _) ⟨rfl,rfl⟩ ⟨rfl,rfl⟩ h_v) rfl rf) ?_
 refine zA ?_
 obtain ⟨q,h_q,h⟩:=bnd h
 refine zal (fun s:(Int×Int)=>zev v s.1 s.2) (fun s=>⟨[(3,kU s.1),(10,.sl Rp.byte [0] v),(11,kI (v.length:Int)),(12,kI s.2)],[]⟩) (fun o e a w=>e= .exit 0∧Sx ⟨⟨26,[]⟩,Xt,false,#[]⟩ ⟨[(3,kU o)],[]⟩ a w) ?_ h_q lzz ?_
 ·
  clear h
  intro s o h
  obtain ⟨wv,v2⟩:=s
  refine zp ?_
  replace h:zev v wv v2=some o:=h
  unfold zev at h
  refine jp ?_
  rcases zm h with ⟨hc1,h⟩| ⟨hc1,h⟩
  ·
   refine jT hc1 ?_
   refine zA ?_
   obtain ⟨x,h_x,h⟩:=bnd h
   refine jr (ra 1 [.sl Rp.byte [0] v,kI v2] rfl (zao rfl zeU.el (zJ _ _ _) h_x) rfl rf) ?_
   obtain ⟨v3,h_v3,h⟩:=bnd h
   refine jr (ra 5 [kU (IntKind.u64.wrap (x.toNat:Int)),kI (IntKind.i64.wrap (8*v2))] rfl (zBx rfl h_v3) rfl rf) ?_
   refine zag ?_
   refine jp ?_
   obtain rfl:=sj h
   exact zL lzz
  refine jF hc1 ?_
  obtain rfl:=sj h
  exact zam rfl lzz
 refine zaD _ rfl ?_
 refine jp ?_
 obtain rfl:=sj h
 exact zz lzz
theorem zkJ {v:zb} {r:Int} (h:zeR v=some r):FnOk Tryz.prog 62 [.rc za [0] v] [kI r]:=by
 refine zC (E:=⟨[(2,kI r)],[]⟩) 14 Tryz.func62 rfl rfl rfl ⟨rfl,trivial⟩ (fun Xt=>?_)
 refine zp ?_
 unfold zeR at h
 refine jr (ra 0 [.rc za [0] v] rfl (zcb 11 [kI v.Number,.sl (Rp.int .u64) [0] v.Words,.sl Rp.str [0] v.Texts,.sl zd [0] v.Subs] [0] rfl rfl rfl (by rw [zq]<;>rfl) rfl) rfl rf) ?_
 refine jp ?_
 obtain rfl:=sj h
 exact zz lzz
theorem zkt {av:(List Int)} {b:(List Int)} {r:Bool} (h:zcY av b=some r):FnOk Tryz.prog 31 [.sl (Rp.int .u64) [0] av,.sl (Rp.int .u64) [0] b] [kB r]:=by
 refine zC (E:=⟨[(4,kB r)],[]⟩) 26 Tryz.func31 rfl rfl rfl ⟨rfl,trivial⟩ (fun Xt=>?_)
 refine zp ?_
 unfold zcY at h
 refine jp ?_
 refine jp ?_
 rcases zm h with ⟨hc1,h⟩| ⟨hc1,h⟩
 ·
  refine jT hc1 ?_
  refine jp ?_
  obtain rfl:=sj h
  exact zz lzz
 refine jF hc1 ?_
 refine jp ?_
 refine zA ?_
 obtain ⟨q,h_q,h⟩:=bnd h
 refine zal (fun s:Int=>zbh av b s) (fun s=>⟨[(0,.sl (Rp.int .u64) [0] av),(1,.sl (Rp.int .u64) [0] b),(5,kI s)],[]⟩) (fun o e a w=>match o with| (.inl v_)=>e= .exit 0∧Sx ⟨⟨26,[]⟩,Xt,false,#[]⟩ ⟨[],[]⟩ a w| (.inr v_)=>e= .ret∧Sx ⟨⟨26,[]⟩,Xt,false,#[]⟩ ⟨[(4,kB false)],[]⟩ a w) ?_ h_q lzz ?_
 ·
  clear h
  intro i o h
  refine zp ?_
  replace h:zbh av b i=some o:=h
  unfold zbh at h
  refine jp ?_
  rcases zm h with ⟨hc2,h⟩| ⟨hc2,h⟩
  ·
   refine jT hc2 ?_
   refine zA ?_
   obtain ⟨x,h_x,h⟩:=bnd h
   obtain ⟨x2,h_x2,h⟩:=bnd h
   refine jd [0,1,5,25] [] zcc (by exact (lw_e (lw_e (ly [.sl (Rp.int .u64) [0] av,kI i] (zao rfl zld.el (zJ _ _ _) h_x) rfl (lw_e (lw_e (lw_e (ly [.sl (Rp.int .u64) [0] b,kI i] (zao rfl zld.el (zJ _ _ _) h_x2) rfl l0)))))))) ?_
   rcases zm h with ⟨hc3,h⟩| ⟨hc3,h⟩
   ·
    refine jT hc3 ?_
    refine jp ?_
    obtain rfl:=sj h
    exact zaZ lzz
   refine jF hc3 ?_
   refine zag ?_
   refine jp ?_
   obtain rfl:=sj h
   exact zL lzz
  refine jF hc2 ?_
  obtain rfl:=sj h
  exact zam rfl lzz
 rcases q with u| u2
 ·
  refine zaD _ rfl ?_
  refine jp ?_
  obtain rfl:=sj h
  exact zz lzz
 obtain rfl:=sj h
 exact zcK lzz
theorem zqo {sv:(List zh)} {r:Bool} (h:zgv sv=some r):FnOk Tryz.prog 8 [.sl zi [0] sv] [kB r]:=by
 refine zC (E:=⟨[(2,kB r)],[]⟩) 54 Tryz.func8 rfl rfl rfl ⟨rfl,trivial⟩ (fun Xt=>?_)
 refine zp ?_
 unfold zgv at h
 refine jp ?_
 refine jp ?_
 refine jp ?_
 refine zA ?_
 obtain ⟨q2,h_q2,h⟩:=bnd h
 refine zal (fun s:(Int×Int)=>zbT sv s.1 s.2) (fun s=>⟨[(0,.sl zi [0] sv),(3,kI s.1),(4,kI s.2)],[]⟩) (fun o e a w=>e= .exit 0∧Sx ⟨⟨54,[]⟩,Xt,false,#[]⟩ ⟨[(3,kI o)],[]⟩ a w) ?_ h_q2 lzz ?_
 ·
  clear h
  intro s o h
  obtain ⟨n,i⟩:=s
  refine zp ?_
  replace h:zbT sv n i=some o:=h
  unfold zbT at h
  refine jp ?_
  rcases zm h with ⟨hc1,h⟩| ⟨hc1,h⟩
  ·
   refine jT hc1 ?_
   refine zA ?_
   obtain ⟨x,h_x,h⟩:=bnd h
   obtain ⟨x2,h_x2,h⟩:=bnd h
   refine jd [0,3,4] [] zcc (by exact (lw_e (lw_e (lw_e (lw_e (ly [.sl zi [0] sv,kI i] (zao rfl zhT.el (zJ _ _ _) h_x) rfl (lw_e (lw_e (lw_e (lw_e (lw_e (lw_e (lw_e (ly [.sl zi [0] sv,kI i] (zao rfl zhT.el (zJ _ _ _) h_x2) rfl (lw_e (ly [.ep zi [0] x2 1] (zhq zf x2.Fields rfl rfl rfl) rfl l0)))))))))))))))) ?_
   refine jp ?_
   refine zA ?_
   obtain ⟨q,h_q,h⟩:=bnd h
   refine zal (fun s:(Int×Int)=>zbU i sv s.1 s.2) (fun s=>⟨[(0,.sl zi [0] sv),(3,kI s.1),(4,kI i),(5,kI s.2)],[]⟩) (fun o e a w=>e= .exit 2∧Sx ⟨⟨54,[]⟩,Xt,false,#[]⟩ ⟨[(0,.sl zi [0] sv),(3,kI o),(4,kI i)],[]⟩ a w) ?_ h_q lzz ?_
   ·
    clear h
    intro s o h
    obtain ⟨n3,k⟩:=s
    refine zp ?_
    replace h:zbU i sv n3 k=some o:=h
    unfold zbU at h
    obtain ⟨x3,h_x3,h⟩:=bnd h
    refine jr (ra 3 [.sl zi [0] sv,kI i] rfl (zao rfl zhT.el (zJ _ _ _) h_x3) rfl (ra 1 [.ep zi [0] x3 1] rfl (zhq zf x3.Fields rfl rfl rfl) rfl rf)) ?_
    rcases zm h with ⟨hc2,h⟩| ⟨hc2,h⟩
    ·
     refine jT hc2 ?_
     refine zA ?_
     obtain ⟨x4,h_x4,h⟩:=bnd h
     obtain ⟨x5,h_x5,h⟩:=bnd h
     refine jr (ra 3 [.sl zi [0] sv,kI i] rfl (zao rfl zhT.el (zJ _ _ _) h_x4) rfl (ra 1 [.ep zi [0] x4 1] rfl (zhq zf x4.Fields rfl rfl rfl) rfl (ra 1 [.sl zf [0] x4.Fields,kI k] rfl (zao rfl zle.el (zJ _ _ _) h_x5) rfl rf))) ?_
     refine zag ?_
     refine jp ?_
     obtain rfl:=sj h
     exact zL lzz
    refine jF hc2 ?_
    obtain rfl:=sj h
    exact zam rfl lzz
   refine zaD _ rfl ?_
   refine zag ?_
   refine jp ?_
   obtain rfl:=sj h
   exact zL lzz
  refine jF hc1 ?_
  obtain rfl:=sj h
  exact zam rfl lzz
 refine zaD _ rfl ?_
 refine jp ?_
 obtain rfl:=sj h
 exact zz lzz
end Go.Proofs.YtcbkcblkecmjnaaGreat

/-
  The Go functions do what the plain functions say. No condition.
-/
import Derived.Test.YtkgohoggipdokaaGreatx3G7
set_option autoImplicit true
set_option relaxedAutoImplicit true
namespace Go.Proofs.YtkgohoggipdokaaGreat
open Tryz
open Go Go.RowKit
set_option linter.unusedVariables false
set_option maxRecDepth 100000
set_option maxHeartbeats 3200000
theorem zlj (h:zgL uM sv uT x=some r):wo 12 [.sl zj [0] sv,kI uT,.rc zg [0] x] [.own Rp.byte 5 2 [] r.1,k8 r.2]:=by
 refine fi 22 func12 fun Xt=>?_
 unfold zgL at h;refine jr (rc 0 rfl (lbx 16 [0] (zah [0] x)) rf) (jb h fun rv uF h=>jr (rc 3 rfl (lw0 15 call30 (zrD uF) (.k (.k (.l (zL [0] x))))) rf) (jp (jI h ?_ ?_)))<;>intro uE h
 ·refine jp ?_;cases h;exact zB lw
 refine jq [17] (jb h fun wu uK h=>jr (rc 3 rfl (zF.le (ins':=[(.tmp 9,.ptr 17 0),(.tmp 17,.sl zj [0] sv),(.tmp 18,kI uT),(.tmp 19,.ag (zak [0] x))]) (zF.leB (bx2:=[⟨17,76,[kN,kI 0]⟩]) (zhc (args:=[.tmp 9,.tmp 17,.tmp 18,.tmp 19]) [.ptr 17 0,.sl zj [0] sv,kI uT,.rc zg [0] x] [⟨17,76,[.own (Rp.list Rp.byte) 35 18 [] [],kI 0]⟩] [(17,800000),(18,800001)] [0] 17 [18] rfl call31 (ziU uK) rfl rfl rfl rfl rfl rfl rfl rfl) ⟨⟨rfl,rfl,⟨zmk (Rp.list Rp.byte) 35 18 [] rfl,ws _,trivial⟩⟩,trivial⟩) ⟨⟨rfl,ws _⟩,⟨rfl,ws _⟩,⟨rfl,ws _⟩,⟨rfl,zL [0] x⟩,trivial⟩) rf) (jb h fun wy uP h=>jr (rc 0 rfl (zF.conv (ins:=[(.tmp 9,.ptr 17 0)]) (zF.boxes (bxs:=[⟨17,76,(zo 18 [0,19] wu)⟩]) (lcd (args:=[.tmp 9]) [.qp zir [17,18,0,19] (some wu)] 18 call32 (zpq uP))) ⟨⟨rfl,zNC zir [17,18,0,19] wu ⟨17,76,(zo 18 [0,19] wu)⟩ xA rfl rfl⟩,trivial⟩) rf) ?_));cases h;exact zB (lks [] [(20,2)] lzz)
theorem zyH (h:zlZ uM sv uT x=some r):wo 13 [.sl zj [0] sv,kI uT,.rc zg [0] x] [kI r.1,k8 r.2]:=by
 refine fi 23 func13 fun Xt=>?_
 unfold zlZ at h;refine jr (rc 0 rfl (lbx 11 [0] (zah [0] x)) rf) (jb h fun rv uF h=>jr (rc 3 rfl (lw0 10 call30 (zrD uF) (.k (.k (.l (zL [0] x))))) rf) (jp (jI h ?_ ?_)))<;>intro uE h
 ·cases h;exact jz
 refine jq [12] (jb h fun wu uK h=>jr (rc 3 rfl (zF.le (ins':=[(.tmp 9,.ptr 12 0),(.tmp 17,.sl zj [0] sv),(.tmp 18,kI uT),(.tmp 19,.ag (zak [0] x))]) (zF.leB (bx2:=[⟨12,76,[kN,kI 0]⟩]) (zhc (args:=[.tmp 9,.tmp 17,.tmp 18,.tmp 19]) [.ptr 12 0,.sl zj [0] sv,kI uT,.rc zg [0] x] [⟨12,76,[.own (Rp.list Rp.byte) 35 13 [] [],kI 0]⟩] [(12,800000),(13,800001)] [0] 12 [13] rfl call31 (ziU uK) rfl rfl rfl rfl rfl rfl rfl rfl) ⟨⟨rfl,rfl,⟨zmk (Rp.list Rp.byte) 35 13 [] rfl,ws _,trivial⟩⟩,trivial⟩) ⟨⟨rfl,ws _⟩,⟨rfl,ws _⟩,⟨rfl,ws _⟩,⟨rfl,zL [0] x⟩,trivial⟩) rf) ?_);cases h;exact jz
theorem zyV (h:zmG uM sv uT b d=some r):wo 88 [.sl zj [0] sv,kI uT,.sl Rp.byte [0] b,kI d] [.rc zaT [] r]:=by
 refine fj ⟨[(8,.ptr 2 0)],[⟨2,146,(zkd r)⟩]⟩ 29 func88 ⟨⟨_,_,rfl,rfl,rfl,rfl,zDY⟩,trivial⟩ fun Xt=>?_
 unfold zmG at h;refine jq [12] (jb h fun rv uF h=>jr (rl 3 [0] 11 call105 (zrR uF) rf) (jp (jI h ?_ ?_)))<;>intro uE h
 ·refine jr (rc 1 rfl (zaw (r:=zaT) [k8 rv] [] (⟨0,0,rv⟩:zE) rfl zuC rfl rfl) rf) ?_;cases h;exact zB (lks [12] [(12,2)] lzz)
 refine jr (rc 2 rfl (znT (rk:=zn) (rv:=zi) 13 rfl) (rc 0 rfl (lbd [.sl zj [0] sv,.sl Rp.byte [0] b,.om zn zi 13 [] ([]:(List (zm×zh)))] zNh) (rfl' [14]))) (jb h fun wy uP h=>jr (rkl 5 [] ⟨[(8,.ptr 12 0),(23,.ag [.sl zj [0] sv,.sl Rp.byte [0] b,.om zn zi 13 [] ([]:(List (zm×zh)))]),(24,kI uT),(26,kI (b.length:Int)),(27,kI d)],[⟨12,146,[kI 0,kI 0,k8 0]⟩]⟩ (znb ⟨[(8,.ptr 12 0),(23,.ag [.sl zj [0] sv,.sl Rp.byte [0] b,.om zn zi 13 [0] wy.2]),(24,kI uT),(26,kI (b.length:Int)),(27,kI d)],[⟨12,146,[kI 0,kI 0,k8 0]⟩]⟩ (zne [.ag [.sl zj [0] sv,.sl Rp.byte [0] b,.om zn zi 13 [] ([]:(List (zm×zh)))],kI uT,kI 0,kI (b.length:Int),kI d] [(13,2)] [0] 14 [] rfl call122 (zpz uP) rfl rfl (by kernel_rfl) rfl rfl rfl) rfl (by kernel_rfl) (by kernel_rfl) ⟨⟨_,rfl,zD rfl⟩,⟨_,rfl,zrP ⟨zD rfl,zD rfl,zhz 0 rfl,trivial⟩⟩,⟨_,rfl,zD rfl⟩,⟨_,rfl,zD rfl⟩,⟨_,rfl,zD rfl⟩,trivial⟩ ⟨⟨_,rfl,rfl,rfl,⟨zD rfl,zD rfl,zD rfl,trivial⟩⟩,trivial⟩ rf)) ?_);cases h;exact zB (lks [12] [(12,2)] lzz)
theorem zeK (h:zaO uM sv v v2=some r):wo 132 [.sl zg [0] sv,.fv 98 [.ep (Rp.list zj) [0] v 0,.ep wj [0] v2 0]] [kI r]:=by
 refine fi 19 func132 fun Xt=>?_
 unfold zaO at h;refine jp (jp (zp (jb h fun q uL h=>jL uL [0,1,7] [] (fun s=>[(8,kI s)]) (fun| (.inl v_)=> .x 0 ⟨[],[]⟩| (.inr v_)=> .r ⟨[(4,kI v_)],[]⟩) ?_ lzz ?_)))
 ·clear h;intro v3 o h;unfold zP at h;refine jp (jI h ?_ ?_)<;>intro uE h
  ·refine zp (jp (jb h fun x uN h=>jb h fun rv uF h=>jr (rx 3 [0] zjm.el uN rfl rfl (rc 0 rfl (lde zg [0] x zkH) (ra 0 [.fv 98 [.ep (Rp.list zj) [0] v 0,.ep wj [0] v2 0],.rc zg [0] x] rfl (zpZ (args:=[.tmp 15]) [.rc zg [0] x] [0] 10 rfl (zAV _ _) call98 (zsA uF) rfl rfl rfl rfl rfl) rfl rf))) (jI h ?_ ?_)))<;>intro uH h
   ·cases h;exact jz'
   refine zan ?_;cases h;exact jy
  cases h;exact zaC rfl lzz
 rcases q with u| u2
 ·refine zaX _ rfl ?_;cases h;exact jz
 obtain rfl:=(sj h);exact zgh lzz
theorem zpu (h:zfw uM=some r):wo 8 [] [kB r]:=by
 refine fi 25 func8 fun Xt=>?_
 unfold zfw at h;refine jp (jr (rc 0 rfl (zaw (r:=zf) [kS [97],kI 1,kI 3,kB true] [] (⟨[97],1,3,true,false,0⟩:zc) rfl zOc rfl rfl) (rc 0 rfl (lbs1 11 [] (⟨[97],1,3,true,false,0⟩:zc) zqJ) (rc 0 rfl (lbd [kS [109],.own zf 47 11 [] ([(⟨[97],1,3,true,false,0⟩:zc)]:(List zc))] zOb) (rc 0 rfl (zF.lw (lbs1 12 [11] (⟨[109],([(⟨[97],1,3,true,false,0⟩:zc)]:(List zc))⟩:ze) zpp) (.l (zlB zj [11] (⟨[109],([(⟨[97],1,3,true,false,0⟩:zc)]:(List zc))⟩:ze) [kS [109],.own zf 47 11 [] ([(⟨[97],1,3,true,false,0⟩:zc)]:(List zc))] rfl rfl))) rf)))) (jb h fun rv uF h=>jr (rc 1 rfl (zfI [kU 1,kU 300] 13 [] ([1,300]:(List Int)) rfl zng rfl rfl rfl rfl) (ra 0 [kI 1,.own wk 72 13 [] ([1,300]:(List Int))] rfl (zhW [kI 1,.own wk 72 13 [] ([1,300]:(List Int))] [kI 1,.own wk 72 13 [] ([1,300]:(List Int)),kN,kN] rfl zDt rfl) rfl (rc 0 rfl (zF.lw (ys:=[.ag [kI 1,.own wk 72 13 [] ([1,300]:(List Int)),kN,kN]]) (lbs1 14 [13] (⟨1,([1,300]:(List Int)),[],[]⟩:za) zjX) (.l (zMl (b:= .ag [kI 1,.own wk 72 13 [] ([1,300]:(List Int)),.sl Rp.str [] [],.sl zg [] []]) (zJi ⟨ws _,ws _,zgx _ _,zgx _ _,trivial⟩) (zlB zd [13] (⟨1,([1,300]:(List Int)),[],[]⟩:za) [kI 1,.own wk 72 13 [] ([1,300]:(List Int)),.sl Rp.str [] [],.sl zg [] []] (by rw [zG]<;>rfl) rfl)))) (ra 0 [.own zd 51 14 [13] ([(⟨1,([1,300]:(List Int)),[],[]⟩:za)]:(List za))] rfl (zhW [.own zd 51 14 [13] ([(⟨1,([1,300]:(List Int)),[],[]⟩:za)]:(List za))] [.own zd 51 14 [13] ([(⟨1,([1,300]:(List Int)),[],[]⟩:za)]:(List za)),kN] rfl zyb rfl) rfl (rc 0 rfl (lcz [.own zj 71 12 [11] ([(⟨[109],([(⟨[97],1,3,true,false,0⟩:zc)]:(List zc))⟩:ze)]:(List ze)),kI 0,.ag [.own zd 51 14 [13] ([(⟨1,([1,300]:(List Int)),[],[]⟩:za)]:(List za)),kN]] 13 call12 (zlj uF) (.k (.k (.c (zaq _) .n)))) rf))))) (jb h fun g uG h=>jg [] [] [(0,kB g)] ?_ ?_)))
 ·refine (rsI 4 20 uG ?_ ?_)<;>intro uE uG
  ·refine jb uG fun wu uK uG=>?_;cases uG;exact (rc 1 rfl (zfI [.lf (.int .u8 10),.lf (.int .u8 3),.lf (.int .u8 1),.lf (.int .u8 172),.lf (.int .u8 2)] 16 [] [(10:UInt8),(3:UInt8),(1:UInt8),(172:UInt8),(2:UInt8)] rfl zej rfl rfl rfl rfl) (rl 0 [15,16] 15 call16 (zpJ uK) rgg))
  cases uG;exact rgg
 obtain rfl:=(sj h);exact zB lzz
theorem zyq (h:zlg uM sv uT b d=some r):wo 56 [.sl zj [0] sv,kI uT,.sl Rp.byte [0] b,kI d] [kI r.1,k8 r.2]:=by
 refine fi 20 func56 fun Xt=>?_
 unfold zlg at h;refine jp (jb h fun rv uF h=>jr (rl 4 [0] 9 call88 (zyV uF) (rfl' [11])) (jd [8,9] [] zeY (by exact l0) ?_));cases h;exact zB lzz
theorem zei (h:zar uM sv v v2=some r):wo 97 [.sl zg [0] sv,.fv 98 [.ep (Rp.list zj) [0] v 0,.ep wj [0] v2 0]] [kB r]:=by
 refine fi 9 func97 fun Xt=>?_
 unfold zar at h;refine jp (jb h fun rv uF h=>jr (rl 2 [0] 9 call132 (zeK uF) rf) ?_);cases h;exact zB lzz
theorem zFi (h:ztx uM sv uT b d=some r):wo 27 [.sl zj [0] sv,kI uT,.sl Rp.byte [0] b,kI d] [.ag (zr 3 [4] 5 [] r.1),k8 r.2]:=by
 refine fj ⟨[(8,.ptr 2 0),(9,k8 r.2)],[⟨2,27,(zr 3 [4] 5 [] r.1)⟩]⟩ 28 func27 ⟨⟨_,_,rfl,rfl,rfl,zkH⟩,rfl,trivial⟩ fun Xt=>?_
 unfold ztx at h;refine jq [16] (jb h fun rv uF h=>jr (rl 4 [0] 15 call56 (zyq uF) rf) (jp (jI h ?_ ?_)))<;>intro uE h
 ·refine jr (ra 0 [] rfl (zhW [] [kN,kN] rfl zyb rfl) rfl rf) ?_;cases h;exact zB (lks [16] [(16,2)] lw)
 refine jb h fun wu uK h=>jr (rl 3 [0] 15 call57 (zvN uK) rf) ?_;cases h;exact zB (lks [16] [(16,2),(18,3),(20,5),(19,4)] lzz)
theorem zvC (h:zjw uM sv uT l=some r):wo 60 [.sl zj [0] sv,kI uT,.sl zg [0] l] [k8 r]:=by
 refine fi 27 func60 fun Xt=>?_
 unfold zjw at h;refine jq [909800,909801] (jb h fun rv uF h=>jr (ra 1 [.ptr 909800 0,.ptr 909801 0] rfl (zBe (g:=98) [.tmp 3,.tmp 4] [⟨909800,23,[.sl zj [0] sv]⟩,⟨909801,3,[kI uT]⟩] [.ep (Rp.list zj) [909800,0] sv 0,.ep wj [909801] uT 0] rfl ⟨⟨rfl,rfl,rfl⟩,⟨rfl,rfl,rfl⟩,trivial⟩ rfl) rfl (rl 0 [0,909800,909801] 9 call97 (zei uF) rf)) (zp (jp (jI h ?_ ?_))))<;>intro uE h
 ·cases h;exact jz
 refine jb h fun wu uK h=>jr (rl 1 [0] 9 call38 (zlo uK) rf) (jI h ?_ ?_)<;>intro uH h
 ·cases h;exact jz
 refine jg [] [] [(18,kB ((decide (uT<0))|| (decide (uT>=(sv.length:Int)))))] ?_ ?_
 ·refine (rsl 3 [] 21 (decide (uT<0)) ?_ ?_)<;>intro uJ
  · exact (rbl [] 18 true rfl (by grind))
  exact (rbl [] 18 (decide (uT>=(sv.length:Int))) rfl (by grind))
 refine jI h ?_ ?_<;>intro uO h
 ·cases h;exact jz
 refine zan ?_;cases h;exact jz
theorem zvA (h:zjv uM sv uT av b=some r):wo 29 [.sl zj [0] sv,kI uT,.rc zg [0] av,.rc zg [0] b] [.ag (zr 3 [4,5,6,0,7,8,9] 10 [] r.1),k8 r.2]:=by
 refine fj ⟨[(8,.ptr 2 0),(9,k8 r.2)],[⟨2,27,(zr 3 [4,5,6,0,7,8,9] 10 [] r.1)⟩]⟩ 27 func29 ⟨⟨_,_,rfl,rfl,rfl,zkH⟩,rfl,trivial⟩ fun Xt=>?_
 unfold zjv at h;refine jr (rc 0 rfl (lbx 25 [0] (zah [0] av)) (rc 0 rfl (lbx 26 [0] (zah [0] b)) (rfl' [27]))) (jb h fun rv uF h=>jr (rc 4 rfl (zF.lw (lbs2 28 [0] [0] [0] av b zjm) (.c (zL [0] av) (.l (zL [0] b)))) (rl 0 [0,28] 27 call60 (zvC uF) rf)) (jp (jI h ?_ ?_)))<;>intro uE h
 ·refine jr (ra 0 [] rfl (zhW [] [kN,kN] rfl zyb rfl) rfl rf) ?_;cases h;exact zB (lks [27] [(27,2)] lw)
 refine jb h fun wu uK h=>jb h fun wy uP h=>jr (rc 4 rfl (lw0 27 call62 (zvD uK) (.k (.k (.c (zL [0] av) (.l (zL [0] b)))))) (rc 0 rfl (lcz [.ag (zr 30 [31,32,0,33] 34 [] wu)] 33 call61 (zBE uP) (.c (zaq _) .n)) rf)) ?_;cases h;exact zB (lks [27] [(27,2),(36,3),(38,10),(30,9),(31,9),(32,9),(33,9),(34,9),(37,9)] lw)
theorem zme (h:zdu uM sv uT x y=some r):wo 7 [.sl zj [0] sv,kI uT,.rc zg [0] x,.rc zg [0] y] [kB r]:=by
 refine fi 115 func7 fun Xt=>?_
 unfold zdu at h;refine jr (rc 0 rfl (lbx 11 [0] (zah [0] x)) (rc 0 rfl (lbx 12 [0] (zah [0] y)) rf)) (jb h fun rv uF h=>jr (rl 0 [1] 11 call8 (zpu uF) rf) (jI h ?_ ?_))<;>intro uE h
 ·refine jp ?_;obtain rfl:=(sj h);exact zB lzz
 refine jb h fun g uG h=>jg [0,1,6,7] [11,12] [(43,kB g)] ?_ ?_
 ·refine jb uG fun wu uK uG=>(rl 1 [0] 11 call9 (zru uK) (rsI 2 24 uG ?_ ?_))<;>intro uH uG
  ·cases uG;exact (rel [] lzz)
  refine jb uG fun wy uP uG=>(rc 1 rfl (lw0 11 call10 (zkQ uP) (.c (zL [0] x) (.k .n))) (rsI 3 29 uG ?_ ?_))<;>intro uJ uG
  ·cases uG;exact (rel [] lzz)
  refine jb uG fun wM u9 uG=>(rc 1 rfl (lw0 11 call10 (zkQ u9) (.c (zL [0] y) (.k .n))) (rsI 3 34 uG ?_ ?_))<;>intro uO uG
  ·cases uG;exact (rel [] lzz)
  refine jb uG fun rv5 vd uG=>(rc 1 rfl (lw0 11 call26 (znu vd) (.l (zL [0] x))) (rsI 3 39 uG ?_ ?_))<;>intro uW uG
  ·cases uG;exact (rel [] lzz)
  refine jb uG fun rv6 vD uG=>?_;cases uG;exact (rc 1 rfl (lw0 11 call26 (znu vD) (.l (zL [0] y))) (rel [] lzz))
 refine jI h ?_ ?_<;>intro u0 h
 ·refine jp ?_;obtain rfl:=(sj h);exact zB lzz
 refine jb h fun rv7 vE h=>jr (rc 3 rfl (lw0 11 call12 (zlj vE) (.k (.k (.l (zL [0] x))))) rf) (jb h fun rv8 wd h=>jr (rc 3 rfl (lw0 12 call12 (zlj wd) (.k (.k (.l (zL [0] y))))) rf) (jg [0,1,6,7,9,11] [11,12] [(65,kB (((IntKind.i64.wrap rv7.2) !=0)|| ((IntKind.i64.wrap rv8.2) !=0)))] ?_ ?_))
 ·refine (rsl 4 [] 61 ((IntKind.i64.wrap rv7.2) !=0) ?_ ?_)<;>intro vb
  · exact (rbl [] 65 true rfl (by grind))
  exact (rbl [] 65 ((IntKind.i64.wrap rv8.2) !=0) rfl (by grind))
 refine jI h ?_ ?_<;>intro vg h
 ·refine jp ?_;obtain rfl:=(sj h);exact zB lzz
 refine jb h fun rv9 we h=>jr (rc 4 rfl (lw0 13 call29 (zvA we) (.k (.k (.c (zL [0] x) (.l (zL [0] y)))))) (rfl' [24])) (jb h fun rv10 wg h=>jr (rc 3 rfl (lcz [.sl zj [0] sv,kI uT,.ag (zr 16 [17,18,19,0,20,21,22] 23 [] rv9.1)] 23 call13 (zyH wg) (.k (.k (.c (zaq _) .n)))) rf) (jb h fun v3 uU h=>jb h fun v4 vf h=>jb h fun rv11 wh h=>jr (rc 2 rfl (zfI [] 25 [] ([]:(List UInt8)) rfl zej rfl rfl rfl rfl) (rc 1 rfl (lao 25 [] 5 13 [] [] zej.el uU (.inl zhI)) (rc 1 rfl (lao 25 [] 5 14 [] [] zej.el vf (.inl zhI)) (rl 0 [0,25] 24 call27 (zFi wh) (rfl' [30]))))) (jb h fun g2 uV h=>jg [] [] [(8,kB g2)] ?_ ?_)))
 ·refine (rsI 10 101 uV ?_ ?_)<;>intro vh uV
  ·refine (rsI 9 110 uV ?_ ?_)<;>intro vl uV
   ·refine jb uV fun rv12 wi uV=>?_;cases uV;exact (rc 2 rfl (lcz [.ag (zr 27 [28] 29 [] rv11.1),.ag (zr 16 [17,18,19,0,20,21,22] 23 [] rv9.1)] 29 call28 (zBF wi) (.c (zaq _) (.c (zaq _) .n))) rgg)
   cases uV;exact rgg
  cases uV;exact rgg
 obtain rfl:=(sj h);exact zB lzz
end Go.Proofs.YtkgohoggipdokaaGreat

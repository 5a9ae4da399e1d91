/-
  The Go functions do what the plain functions say. No condition.
-/
import Derived.Test.YtkgohoggipdokaaGreatx2G7
set_option autoImplicit true
set_option relaxedAutoImplicit true
namespace Go.Proofs.YtkgohoggipdokaaGreat
open Tryz
open Go Go.RowKit
set_option linter.unusedVariables false
set_option maxRecDepth 100000
set_option maxHeartbeats 3200000
theorem zjj (h:zft uB sv uI x=some r):vW 12 [.sl zi [0] sv,kI uI,.rc zj [0] x] [.own Rp.byte 5 2 [] r.1,k8 r.2]:=by
 refine fi 22 func12 fun Xt=>?_
 unfold zft at h;refine jr (rc 0 rfl (lbx 16 [0] (zaH [0] x)) rf) (jb h fun rv uu h=>jr (rc 3 rfl (lw0 15 call30 (zvJ uu) (.k (.k (.l (zaa [0] x))))) rf) (jp (jI h ?_ ?_)))<;>intro ur h
 ·refine jp ?_;cases h;exact zH lw
 refine jq [17] (jb h fun vY uz h=>jr (rc 3 rfl (zB.le (ins':=[(.tmp 9,.ptr 17 0),(.tmp 17,.sl zi [0] sv),(.tmp 18,kI uI),(.tmp 19,.ag (zae [0] x))]) (zB.leB (bx2:=[⟨17,76,[kN,kI 0]⟩]) (zfH (args:=[.tmp 9,.tmp 17,.tmp 18,.tmp 19]) [.ptr 17 0,.sl zi [0] sv,kI uI,.rc zj [0] x] [⟨17,76,[.own (Rp.list Rp.byte) 35 18 [] [],kI 0]⟩] [(17,800000),(18,800001)] [0] 17 [18] rfl call31 (zha uz) rfl rfl rfl rfl rfl rfl rfl rfl) ⟨⟨rfl,rfl,⟨zpv (Rp.list Rp.byte) 35 18 [] rfl,vX _,trivial⟩⟩,trivial⟩) ⟨⟨rfl,vX _⟩,⟨rfl,vX _⟩,⟨rfl,vX _⟩,⟨rfl,zaa [0] x⟩,trivial⟩) rf) (jb h fun wd uE h=>jr (rc 0 rfl (zB.conv (ins:=[(.tmp 9,.ptr 17 0)]) (zB.boxes (bxs:=[⟨17,76,(zo 18 [0,19] vY)⟩]) (lcd (args:=[.tmp 9]) [.qp zeS [17,18,0,19] (some vY)] 18 call32 (zhT uE))) ⟨⟨rfl,zIA zeS [17,18,0,19] vY ⟨17,76,(zo 18 [0,19] vY)⟩ xw rfl rfl⟩,trivial⟩) rf) ?_));cases h;exact zH (lks [] [(20,2)] lzz)
theorem zvY (h:zkH uB sv uI b d=some r):vW 88 [.sl zi [0] sv,kI uI,.sl Rp.byte [0] b,kI d] [.rc zaF [] r]:=by
 refine fj ⟨[(8,.ptr 2 0)],[⟨2,146,(zie r)⟩]⟩ 29 func88 ⟨⟨_,_,rfl,rfl,rfl,rfl,zAR⟩,trivial⟩ fun Xt=>?_
 unfold zkH at h;refine jq [12] (jb h fun rv uu h=>jr (rl 3 [0] 11 call105 (zpj uu) rf) (jp (jI h ?_ ?_)))<;>intro ur h
 ·refine jr (rc 1 rfl (zam (r:=zaF) [k8 rv] [] (⟨0,0,rv⟩:zz) rfl zrP rfl rfl) rf) ?_;cases h;exact zH (lks [12] [(12,2)] lzz)
 refine jr (rc 2 rfl (zlJ (rk:=zn) (rv:=zg) 13 rfl) (rc 0 rfl (lbd [.sl zi [0] sv,.sl Rp.byte [0] b,.om zn zg 13 [] ([]:(List (zm×ze)))] zJQ) (rfl' [14]))) (jb h fun wd uE h=>jr (rkl 5 [] ⟨[(8,.ptr 12 0),(23,.ag [.sl zi [0] sv,.sl Rp.byte [0] b,.om zn zg 13 [] ([]:(List (zm×ze)))]),(24,kI uI),(26,kI (b.length:Int)),(27,kI d)],[⟨12,146,[kI 0,kI 0,k8 0]⟩]⟩ (zkZ ⟨[(8,.ptr 12 0),(23,.ag [.sl zi [0] sv,.sl Rp.byte [0] b,.om zn zg 13 [0] wd.2]),(24,kI uI),(26,kI (b.length:Int)),(27,kI d)],[⟨12,146,[kI 0,kI 0,k8 0]⟩]⟩ (zlc [.ag [.sl zi [0] sv,.sl Rp.byte [0] b,.om zn zg 13 [] ([]:(List (zm×ze)))],kI uI,kI 0,kI (b.length:Int),kI d] [(13,2)] [0] 14 [] rfl call122 (zmZ uE) rfl rfl (by kernel_rfl) rfl rfl rfl) rfl (by kernel_rfl) (by kernel_rfl) ⟨⟨_,rfl,zy rfl⟩,⟨_,rfl,zpi ⟨zy rfl,zy rfl,zgw 0 rfl,trivial⟩⟩,⟨_,rfl,zy rfl⟩,⟨_,rfl,zy rfl⟩,⟨_,rfl,zy rfl⟩,trivial⟩ ⟨⟨_,rfl,rfl,rfl,⟨zy rfl,zy rfl,zy rfl,trivial⟩⟩,trivial⟩ rf)) ?_);cases h;exact zH (lks [12] [(12,2)] lzz)
theorem zmU (h:zek uB=some r):vW 8 [] [kB r]:=by
 refine fi 25 func8 fun Xt=>?_
 unfold zek at h;refine jp (jr (rc 0 rfl (zam (r:=zf) [kS [97],kI 1,kI 3,kB true] [] (⟨[97],1,3,true,false,0⟩:za) rfl zKH rfl rfl) (rc 0 rfl (lbs1 11 [] (⟨[97],1,3,true,false,0⟩:za) zpl) (rc 0 rfl (lbd [kS [109],.own zf 47 11 [] ([(⟨[97],1,3,true,false,0⟩:za)]:(List za))] zKG) (rc 0 rfl (zB.lw (lbs1 12 [11] (⟨[109],([(⟨[97],1,3,true,false,0⟩:za)]:(List za))⟩:zd) zoj) (.l (zjD zi [11] (⟨[109],([(⟨[97],1,3,true,false,0⟩:za)]:(List za))⟩:zd) [kS [109],.own zf 47 11 [] ([(⟨[97],1,3,true,false,0⟩:za)]:(List za))] rfl rfl))) rf)))) (jb h fun rv uu h=>jr (rc 1 rfl (zjl [kU 1,kU 300] 13 [] ([1,300]:(List Int)) rfl zsK rfl rfl rfl rfl) (ra 0 [kI 1,.own vV 72 13 [] ([1,300]:(List Int))] rfl (zlI [kI 1,.own vV 72 13 [] ([1,300]:(List Int))] [kI 1,.own vV 72 13 [] ([1,300]:(List Int)),kN,kN] rfl zIU rfl) rfl (rc 0 rfl (zB.lw (ys:=[.ag [kI 1,.own vV 72 13 [] ([1,300]:(List Int)),kN,kN]]) (lbs1 14 [13] (⟨1,([1,300]:(List Int)),[],[]⟩:zb) zrk) (.l (zIO (b:= .ag [kI 1,.own vV 72 13 [] ([1,300]:(List Int)),.sl Rp.str [] [],.sl zj [] []]) (zFK ⟨vX _,vX _,zff _ _,zff _ _,trivial⟩) (zjD zh [13] (⟨1,([1,300]:(List Int)),[],[]⟩:zb) [kI 1,.own vV 72 13 [] ([1,300]:(List Int)),.sl Rp.str [] [],.sl zj [] []] (by rw [zad]<;>rfl) rfl)))) (ra 0 [.own zh 51 14 [13] ([(⟨1,([1,300]:(List Int)),[],[]⟩:zb)]:(List zb))] rfl (zlI [.own zh 51 14 [13] ([(⟨1,([1,300]:(List Int)),[],[]⟩:zb)]:(List zb))] [.own zh 51 14 [13] ([(⟨1,([1,300]:(List Int)),[],[]⟩:zb)]:(List zb)),kN] rfl zIT rfl) rfl (rc 0 rfl (lcz [.own zi 71 12 [11] ([(⟨[109],([(⟨[97],1,3,true,false,0⟩:za)]:(List za))⟩:zd)]:(List zd)),kI 0,.ag [.own zh 51 14 [13] ([(⟨1,([1,300]:(List Int)),[],[]⟩:zb)]:(List zb)),kN]] 13 call12 (zjj uu) (.k (.k (.c (zak _) .n)))) rf))))) (jb h fun g ut h=>jg [] [] [(0,kB g)] ?_ ?_)))
 ·refine (rsI 4 20 ut ?_ ?_)<;>intro ur ut
  ·refine jb ut fun vY uz ut=>?_;cases ut;exact (rc 1 rfl (zjl [.lf (.int .u8 10),.lf (.int .u8 3),.lf (.int .u8 1),.lf (.int .u8 172),.lf (.int .u8 2)] 16 [] [(10:UInt8),(3:UInt8),(1:UInt8),(172:UInt8),(2:UInt8)] rfl zdK rfl rfl rfl rfl) (rl 0 [15,16] 15 call16 (ziQ uz) rgg))
  cases ut;exact rgg
 obtain rfl:=(sj h);exact zH lzz
theorem zvr (h:zjg uB sv uI b d=some r):vW 56 [.sl zi [0] sv,kI uI,.sl Rp.byte [0] b,kI d] [kI r.1,k8 r.2]:=by
 refine fi 20 func56 fun Xt=>?_
 unfold zjg at h;refine jp (jb h fun rv uu h=>jr (rl 4 [0] 9 call88 (zvY uu) (rfl' [11])) (jd [8,9] [] zeY (by exact l0) ?_));cases h;exact zH lzz
theorem zvl (h:zoM uB sv uI b d=some r):vW 27 [.sl zi [0] sv,kI uI,.sl Rp.byte [0] b,kI d] [.ag (zP 3 [4] 5 [] r.1),k8 r.2]:=by
 refine fj ⟨[(8,.ptr 2 0),(9,k8 r.2)],[⟨2,27,(zP 3 [4] 5 [] r.1)⟩]⟩ 28 func27 ⟨⟨_,_,rfl,rfl,rfl,zjs⟩,rfl,trivial⟩ fun Xt=>?_
 unfold zoM at h;refine jq [16] (jb h fun rv uu h=>jr (rl 4 [0] 15 call56 (zvr uu) rf) (jp (jI h ?_ ?_)))<;>intro ur h
 ·refine jr (ra 0 [] rfl (zlI [] [kN,kN] rfl zIT rfl) rfl rf) ?_;cases h;exact zH (lks [16] [(16,2)] lw)
 refine jb h fun vY uz h=>jr (rl 3 [0] 15 call57 (zsV uz) rf) ?_;cases h;exact zH (lks [16] [(16,2),(18,3),(20,5),(19,4)] lzz)
theorem zsk (h:zng uB sv uI b=some r):vW 25 [.sl zi [0] sv,kI uI,.sl Rp.byte [0] b] [kB r]:=by
 refine fi 26 func25 fun Xt=>?_
 unfold zng at h;refine jp (jb h fun rv uu h=>jr (rl 3 [0] 9 call27 (zvl uu) (rfl' [15])) (jp (jI h ?_ ?_)))<;>intro ur h
 ·refine jp ?_;obtain rfl:=(sj h);exact zH lzz
 refine jq [16] (jb h fun vY uz h=>jr (rc 3 rfl (zB.le (ins':=[(.tmp 9,.ptr 16 0),(.tmp 19,.sl zi [0] sv),(.tmp 20,kI uI),(.tmp 21,.ag (zP 12 [13] 14 [] rv.1))]) (zB.leB (bx2:=[⟨16,76,[kN,kI 0]⟩]) (zfH (args:=[.tmp 9,.tmp 19,.tmp 20,.tmp 21]) [.ptr 16 0,.sl zi [0] sv,kI uI,.rc zj [12,13,14] rv.1] [⟨16,76,[.own (Rp.list Rp.byte) 35 17 [] [],kI 0]⟩] [(16,800000),(17,800001)] [0,12,13,14] 16 [17] rfl call31 (zha uz) rfl rfl rfl rfl rfl rfl rfl rfl) ⟨⟨rfl,rfl,⟨zpv (Rp.list Rp.byte) 35 17 [] rfl,vX _,trivial⟩⟩,trivial⟩) ⟨⟨rfl,vX _⟩,⟨rfl,vX _⟩,⟨rfl,vX _⟩,⟨rfl,zjD zj [12,13,14] rv.1 (zP 12 [13] 14 [] rv.1) (by rw [zak]<;>rfl) rfl⟩,trivial⟩) rf) (jb h fun wd uE h=>jb h fun rv4 uQ h=>jr (rc 0 rfl (zB.conv (ins:=[(.tmp 9,.ptr 16 0)]) (zB.boxes (bxs:=[⟨16,76,(zo 17 [0,12,13,14,18] vY)⟩]) (lcd (args:=[.tmp 9]) [.qp zeS [16,17,0,12,13,14,18] (some vY)] 17 call32 (zhT uE))) ⟨⟨rfl,zIA zeS [16,17,0,12,13,14,18] vY ⟨16,76,(zo 17 [0,12,13,14,18] vY)⟩ xw rfl rfl⟩,trivial⟩) (rl 1 [19,0] 18 call54 (ztM uQ) rf)) ?_));obtain rfl:=(sj h);exact zH lzz
theorem zkj (h:zcA uB sv uI x y=some r):vW 6 [.sl zi [0] sv,kI uI,.rc zj [0] x,.rc zj [0] y] [kB r]:=by
 refine fi 89 func6 fun Xt=>?_
 unfold zcA at h;refine jr (rc 0 rfl (lbx 11 [0] (zaH [0] x)) (rc 0 rfl (lbx 12 [0] (zaH [0] y)) rf)) (jb h fun rv uu h=>jr (rl 0 [1] 11 call8 (zmU uu) rf) (jI h ?_ ?_))<;>intro ur h
 ·refine jp ?_;obtain rfl:=(sj h);exact zH lzz
 refine jb h fun g ut h=>jg [0,1,6,7] [11,12] [(34,kB g)] ?_ ?_
 ·refine jb ut fun vY uz ut=>(rl 1 [0] 11 call9 (zoQ uz) (rsI 2 20 ut ?_ ?_))<;>intro uv ut
  ·cases ut;exact (rel [] lzz)
  refine jb ut fun wd uE ut=>(rc 1 rfl (lw0 11 call10 (ziP uE) (.c (zaa [0] x) (.k .n))) (rsI 3 25 ut ?_ ?_))<;>intro uy ut
  ·cases ut;exact (rel [] lzz)
  refine jb ut fun rv4 uQ ut=>(rc 1 rfl (lw0 11 call10 (ziP uQ) (.c (zaa [0] y) (.k .n))) (rsI 3 30 ut ?_ ?_))<;>intro uC ut
  ·cases ut;exact (rel [] lzz)
  refine jb ut fun rv5 uZ ut=>?_;cases ut;exact (rc 1 rfl (lw0 11 call26 (zlq uZ) (.l (zaa [0] x))) (rel [] lzz))
 refine jI h ?_ ?_<;>intro uJ h
 ·refine jp ?_;obtain rfl:=(sj h);exact zH lzz
 refine jb h fun rv6 vO h=>jr (rc 3 rfl (lw0 11 call12 (zjj vO) (.k (.k (.l (zaa [0] x))))) rf) (jb h fun rv7 vP h=>jr (rc 3 rfl (lw0 12 call12 (zjj vP) (.k (.k (.l (zaa [0] y))))) rf) (jg [0,1,6,7,9,11] [11,12] [(56,kB (((IntKind.i64.wrap rv6.2) !=0)|| ((IntKind.i64.wrap rv7.2) !=0)))] ?_ ?_))
 ·refine (rsl 4 [] 52 ((IntKind.i64.wrap rv6.2) !=0) ?_ ?_)<;>intro uL
  · exact (rbl [] 56 true rfl (by grind))
  exact (rbl [] 56 ((IntKind.i64.wrap rv7.2) !=0) rfl (by grind))
 refine jI h ?_ ?_<;>intro uU h
 ·refine jp ?_;obtain rfl:=(sj h);exact zH lzz
 refine jb h fun rv8 vQ h=>jb h fun rv9 vR h=>jr (rc 4 rfl (lw0 13 call26 (zlq vQ) (.l (zaa [0] x))) (rl 0 [0,13] 13 call27 (zvl vR) (rfl' [19]))) (jb h fun g2 uG h=>jn (.n ⟨[(8,kB g2)],[]⟩) ?_ (zim ?_))
 ·rcases zlH uG with ⟨uT,uG⟩| ⟨uT,uG⟩
  ·refine jb uG fun rv10 vA uG=>?_;rcases zlH uG with ⟨uV,uG⟩| ⟨uV,uG⟩
   ·refine jb uG fun rv11 vF uG=>?_;rcases zlH uG with ⟨uX,uG⟩| ⟨uX,uG⟩
    ·refine jb uG fun rv12 vS uG=>jb uG fun rv13 vT uG=>?_;cases uG;exact jd [8] [] zeY (by exact (lwn 3 (dg 68 uT (lx (ldw 19 27 (zP 16 [17] 18 [] rv9.1) zjs) (lx (ldw 11 27 (zae [0] x) zjs) (lx (lf1 28 (lcz [.ag (zP 16 [17] 18 [] rv9.1),.ag (zae [0] x)] 18 call28 (zjL vA) (.c (zak _) (.c (zak _) .n)))) (lw_e (dg 73 uV (lwn 3 (lx (lf1 25 (lcd [.sl zi [0] sv,kI uI,.own Rp.byte 5 13 [] rv6.1] 18 call25 (zsk vF))) (lw_e (dg 79 uX (lwn 2 (lx (lf1 16 (lcd [.own Rp.byte 5 13 [] rv6.1,.own Rp.byte 5 14 [] rv7.1] 18 call16 (ziQ vS))) (lx (ldw 11 27 (zae [0] x) zjs) (lx (ldw 12 27 (zae [0] y) zjs) (lx (lf1 28 (lw0 18 call28 (zjL vT) (.c (zaa [0] x) (.l (zaa [0] y))))) l0))))))))))))))))) (zaT lzz)
    cases uG;exact jd [8] [] zeY (by exact (lwn 3 (dg 68 uT (lx (ldw 19 27 (zP 16 [17] 18 [] rv9.1) zjs) (lx (ldw 11 27 (zae [0] x) zjs) (lx (lf1 28 (lcz [.ag (zP 16 [17] 18 [] rv9.1),.ag (zae [0] x)] 18 call28 (zjL vA) (.c (zak _) (.c (zak _) .n)))) (lw_e (dg 73 uV (lwn 3 (lx (lf1 25 (lcd [.sl zi [0] sv,kI uI,.own Rp.byte 5 13 [] rv6.1] 18 call25 (zsk vF))) (lw_e (dg 79 uX l0)))))))))))) (zaT lzz)
   cases uG;exact jd [8] [] zeY (by exact (lwn 3 (dg 68 uT (lx (ldw 19 27 (zP 16 [17] 18 [] rv9.1) zjs) (lx (ldw 11 27 (zae [0] x) zjs) (lx (lf1 28 (lcz [.ag (zP 16 [17] 18 [] rv9.1),.ag (zae [0] x)] 18 call28 (zjL vA) (.c (zak _) (.c (zak _) .n)))) (lw_e (dg 73 uV l0)))))))) (zaT lzz)
  cases uG;exact jd [8] [] zeY (by exact (lwn 3 (dg 68 uT l0))) (zaT lzz)
 obtain rfl:=(sj h);exact zH lzz
end Go.Proofs.YtkgohoggipdokaaGreat

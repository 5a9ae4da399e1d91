/-
  The Go functions do what the plain functions say. No condition.
-/
import Derived.Test.YtnckiilakdkklaaGreatx2G5
set_option autoImplicit true
set_option relaxedAutoImplicit true
namespace Go.Proofs.YtnckiilakdkklaaGreat
open Tryz
open Go Go.RowKit
set_option linter.unusedVariables false
set_option maxRecDepth 100000
set_option maxHeartbeats 3200000
theorem zqC (h:zhg pU sv pO b d=some r):va 50 [.sl zf [0] sv,kI pO,.sl Rp.byte [0] b,kI d] [.rc zR [] r]:=by
 refine fj ⟨[(8,.ptr 2 0)],[⟨2,114,(zfB r)⟩]⟩ 29 func50 ⟨⟨_,_,rfl,rfl,rfl,rfl,zuv⟩,trivial⟩ fun Xt=>?_
 unfold zhg at h;refine jq [12] (jb h fun rv pE h=>jr (rl 3 [0] 11 call41 (zlk pE) rf) (jp (jI h ?_ ?_)))<;>intro pA h
 ·refine jr (rc 1 rfl (zD (r:=zR) [k8 rv] [] (⟨0,0,rv⟩:zo) rfl zns rfl rfl) rf) ?_;cases h;exact zy (lks [12] [(12,2)] lzz)
 refine jr (rc 2 rfl (zgY (rk:=zi) (rv:=ze) 13 rfl) (rc 0 rfl (lbd [.sl zf [0] sv,.sl Rp.byte [0] b,.om zi ze 13 [] ([]:(List (zh×zb)))] zBF) (rfl' [14]))) (jb h fun vh pQ h=>jr (rkl 5 [] ⟨[(8,.ptr 12 0),(23,.ag [.sl zf [0] sv,.sl Rp.byte [0] b,.om zi ze 13 [] ([]:(List (zh×zb)))]),(24,kI pO),(26,kI (b.length:Int)),(27,kI d)],[⟨12,114,[kI 0,kI 0,k8 0]⟩]⟩ (zhF ⟨[(8,.ptr 12 0),(23,.ag [.sl zf [0] sv,.sl Rp.byte [0] b,.om zi ze 13 [0] vh.2]),(24,kI pO),(26,kI (b.length:Int)),(27,kI d)],[⟨12,114,[kI 0,kI 0,k8 0]⟩]⟩ (zhH [.ag [.sl zf [0] sv,.sl Rp.byte [0] b,.om zi ze 13 [] ([]:(List (zh×zb)))],kI pO,kI 0,kI (b.length:Int),kI d] [(13,2)] [0] 14 [] rfl call66 (zjH pQ) rfl rfl (by kernel_rfl) rfl rfl rfl) rfl (by kernel_rfl) (by kernel_rfl) ⟨⟨_,rfl,zp rfl⟩,⟨_,rfl,zlj ⟨zp rfl,zp rfl,zeH 0 rfl,trivial⟩⟩,⟨_,rfl,zp rfl⟩,⟨_,rfl,zp rfl⟩,⟨_,rfl,zp rfl⟩,trivial⟩ ⟨⟨_,rfl,rfl,rfl,⟨zp rfl,zp rfl,zp rfl,trivial⟩⟩,trivial⟩ rf)) ?_);cases h;exact zy (lks [12] [(12,2)] lzz)
theorem zfr (h:zdz pU sv pO b d=some r):va 28 [.sl zf [0] sv,kI pO,.sl Rp.byte [0] b,kI d] [kI r.1,k8 r.2]:=by
 refine fi 20 func28 fun Xt=>?_
 unfold zdz at h;refine jp (jb h fun rv pE h=>jr (rl 4 [0] 9 call50 (zqC pE) (rfl' [11])) (jd [8,9] [] zdw (by exact l0) ?_));cases h;exact zy lzz
theorem zkg (h:zeU pU sv pO av b d=some r):va 24 [.sl zf [0] sv,kI pO,.sl Rp.byte [0] av,.sl Rp.byte [0] b,kI d] [k8 r]:=by
 refine fi 35 func24 fun Xt=>?_
 unfold zeU at h;refine jp (jb h fun rv pE h=>jr (rl 4 [0] 9 call28 (zfr pE) rf) (jp (jI h ?_ ?_)))<;>intro pA h
 ·cases h;exact jz
 refine jb h fun vc pI h=>jr (rl 4 [0] 9 call28 (zfr pI) rf) ?_;cases h;exact jz
theorem zsj (h:zit pU sv pO l d=some r):va 16 [.sl zf [0] sv,kI pO,.sl (Rp.list Rp.byte) [0] l,kI d] [.own Rp.byte 5 2 [] r.1,kI r.2.1,k8 r.2.2]:=by
 refine fi 61 func16 fun Xt=>?_
 unfold zit at h;refine jp (jb h fun rv pE h=>jr (rl 1 [0] 10 call25 (zdx pE) rf) (jb h fun vc pI h=>jr (rl 4 [0,12] 11 call28 (zfr pI) rf) (jp (jb h fun p pZ h=>jn (match p with| (.inl v_)=> .N [0,1,2,3,11] [] [(12,kI v_)] []| (.inr v_)=> .r ⟨[(8,kN),(9,kI 0),(10,k8 v_)],[]⟩) ?_ ?_))))
 ·replace h:=pZ;refine jI h ?_ ?_<;>intro pA h
  ·cases h;exact jy
  refine jb h fun vh pQ h=>jr (rl 3 [0] 11 call41 (zlk pQ) rf) (jp (jI h ?_ ?_))<;>intro pB h
  ·cases h;exact jz
  cases h;exact zS lzz
 rcases p with u| u2
 ·refine zdn (jb h fun x pN h=>jb h fun rv4 pY h=>jr (rx 2 [0] zdS.el pN rfl rfl (rc 0 rfl (lde zf [0] x zoC) (rl 2 [0] 11 call42 (zpp pY) rf))) (jp (jI h ?_ ?_)))<;>intro pD h
  ·refine jb h fun x2 pR h=>jb h fun rv5 uk h=>jr (rx 4 [0] zmS.el pR rfl rfl (rc 0 rfl (ldl (Rp.list Rp.byte) [0] x2 0 Rp.byte x2) (rl 1 [0] 11 call28 (zfr uk) rf))) (jp ?_);cases h;exact zy lw
  refine jp ?_;cases h;exact zy (lks [] [(12,2)] lzz)
 cases h;exact zdo lw
theorem zsk (h:ziu pU sv pO av b d=some r):va 8 [.sl zf [0] sv,kI pO,.sl Rp.byte [0] av,.sl Rp.byte [0] b,kI d] [.own Rp.byte 5 2 [] r.1,k8 r.2]:=by
 refine fi 26 func8 fun Xt=>?_
 unfold ziu at h;refine jp (jb h fun rv pE h=>jr (rl 5 [0] 11 call24 (zkg pE) rf) (jp (jI h ?_ ?_)))<;>intro pA h
 ·refine jp ?_;cases h;exact zy lw
 refine jb h fun vc pI h=>jr (rc 2 rfl (zfj [.sl Rp.byte [0] av,.sl Rp.byte [0] b] 13 [0] ([av,b]:(List (List UInt8))) rfl zmS rfl rfl rfl rfl) (rl 0 [13,0] 12 call25 (zdx pI) rf)) ?_;cases h;exact zy (lks [] [(14,2)] lzz)
theorem zld (h:zeK pU sv pO av b d=some r):va 19 [.sl zf [0] sv,kI pO,.sl Rp.byte [0] av,.sl Rp.byte [0] b,kI d] [kI r.1,k8 r.2]:=by
 refine fi 48 func19 fun Xt=>?_
 unfold zeK at h;refine jp (jb h fun rv pE h=>jr (rl 5 [0] 9 call24 (zkg pE) rf) (jp (jI h ?_ ?_)))<;>intro pA h
 ·cases h;exact jz
 refine jb h fun x pN h=>jr (rx 2 [0] zdS.el pN rfl rfl (rc 0 rfl (lde zf [0] x zoC) (ral 1 [11] [.ptr 11 0,.rc zf [0] x] rfl (zlu (r:=zf) (b:=⟨11,65,[kS [],kN]⟩) (off:=0) (zC [0] x) rfl sizeOf65 rfl rfl rfl rfl) rfl rf))) (jb h fun vc pI h=>jr (rl 2 [0] 10 call43 (zmm pI) rf) (jb h fun vh pQ h=>jr (rl 2 [0] 11 call44 (zkh pQ) rf) (zr (jb h fun q pL h=>jL pL [13,34,35] [] (fun s=>[(10,kI s.1),(36,kI s.2)]) (fun o=> .x 0 ⟨[(10,kI o)],[]⟩) ?_ lzz ?_))))
 ·clear h;intro s o h;obtain ⟨gone,v⟩:=s;replace h:zct vc vh gone v=some o:=h;unfold zct at h;refine jp (jI h ?_ ?_)<;>intro pB h
  ·refine zr (jb h fun x2 pR h=>jr (ra 0 [.own ze 106 13 [] vh,kI v] rfl (zhA rfl zsM.el (zda _ _ _ _ _) pR) rfl (rc 0 rfl (lde ze [13] x2 zoB) (rfl' [15]))) (jr (ra 3 [.om u9 Rp.bool 12 [] vc,kI x2.Field] rfl (zmk (rk:=u9) (rv:=Rp.bool) (m:=vc) (k:=x2.Field) (kB ((mget vc x2.Field).getD false)) rfl zvU (zcr rfl rfl) (zog rfl rfl rfl)) rfl rf) (jI h ?_ ?_)))<;>intro pD h
   ·refine jp (zQ ?_);cases h;exact jy
   refine zQ ?_;cases h;exact jy
  cases h;exact zan rfl lzz
 refine zaQ _ rfl ?_;cases h;exact jz
theorem zju (h:zcz pU=some r):va 6 [] [kB r]:=by
 refine fi 39 func6 fun Xt=>?_
 unfold zcz at h;refine jp (jr (rc 0 rfl (zD (r:=za) [kS [97],kI 1,kI 3] [] (⟨[97],1,3,false,false,0⟩:zd) rfl zCq rfl rfl) (rc 0 rfl (lbs1 11 [] (⟨[97],1,3,false,false,0⟩:zd) zgq) (rc 0 rfl (lbd [kS [109],.own za 62 11 [] ([(⟨[97],1,3,false,false,0⟩:zd)]:(List zd))] zCp) (rc 0 rfl (zE.lw (lbs1 12 [11] (⟨[109],([(⟨[97],1,3,false,false,0⟩:zd)]:(List zd))⟩:zc) zdS) (.l (zkJ zf [11] (⟨[109],([(⟨[97],1,3,false,false,0⟩:zd)]:(List zd))⟩:zc) [kS [109],.own za 62 11 [] ([(⟨[97],1,3,false,false,0⟩:zd)]:(List zd))] rfl rfl))) rf)))) (jb h fun rv pE h=>jr (rc 1 rfl (zfj [.lf (.int .u8 8),.lf (.int .u8 1)] 13 [] [(8:UInt8),(1:UInt8)] rfl zcq rfl rfl rfl rfl) (rc 0 rfl (zfj [.lf (.int .u8 8),.lf (.int .u8 2)] 14 [] [(8:UInt8),(2:UInt8)] rfl zcq rfl rfl rfl rfl) (rl 0 [12,11,13,14] 13 call8 (zsk pE) rf))) (jb h fun vc pI h=>jr (rc 1 rfl (zfj [.lf (.int .u8 8),.lf (.int .u8 1)] 16 [] [(8:UInt8),(1:UInt8)] rfl zcq rfl rfl rfl rfl) (rc 0 rfl (zfj [.lf (.int .u8 8),.lf (.int .u8 2)] 17 [] [(8:UInt8),(2:UInt8)] rfl zcq rfl rfl rfl rfl) (rl 0 [12,11,16,17] 16 call19 (zld pI) rf))) (jb h fun g pC h=>jg [] [] [(0,kB g)] ?_ ?_))))
 ·refine (rsI 7 30 pC ?_ ?_)<;>intro pA pC
  ·refine (rsI 4 34 pC ?_ ?_)<;>intro pB pC
   ·refine jb pC fun vh pQ pC=>?_;cases pC;exact (rc 1 rfl (zfj [.lf (.int .u8 8),.lf (.int .u8 1),.lf (.int .u8 8),.lf (.int .u8 2)] 18 [] [(8:UInt8),(1:UInt8),(8:UInt8),(2:UInt8)] rfl zcq rfl rfl rfl rfl) (rl 0 [15,18] 17 call18 (zga pQ) rgg))
   cases pC;exact rgg
  cases pC;exact rgg
 obtain rfl:=(sj h);exact zy lzz
theorem zhM (h:zbP pU sv pO l av b d=some r):va 4 [.sl zf [0] sv,kI pO,.sl (Rp.list Rp.byte) [0] l,.sl Rp.byte [0] av,.sl Rp.byte [0] b,kI d] [kB r]:=by
 refine fi 130 func4 fun Xt=>?_
 unfold zbP at h;refine jp (jb h fun rv pE h=>jr (rl 0 [1] 9 call6 (zju pE) rf) (jI h ?_ ?_))<;>intro pA h
 ·refine jp ?_;obtain rfl:=(sj h);exact zy lzz
 refine jp (jp (zr (jb h fun q pL h=>jL pL [0,1,2,3,4,5] [] (fun s=>[(13,kI s.1),(14,kI s.2)]) (fun o=> .X 0 [0,1,2,3,4,5] [] [(13,kI o)] []) ?_ lzz ?_)))
 ·clear h;intro s o h;obtain ⟨n,i⟩:=s;replace h:zW l n i=some o:=h;unfold zW at h;refine jp (jI h ?_ ?_)<;>intro pB h
  ·refine zr (jb h fun x pN h=>jr (rx 3 [0] zmS.el pN rfl rfl (rc 0 rfl (ldl (Rp.list Rp.byte) [0] x 0 Rp.byte x) rf)) (zQ ?_));cases h;exact jy
  cases h;exact zan rfl lzz
 refine zaQ _ rfl (jb h fun vc pI h=>jg [0,1,2,3,4,5] [] [(54,kB ((!vc)|| ((decide ((l.length:Int)>12))|| (decide (q>2000)))))] ?_ ?_)
 ·refine (rl 1 [0] 10 call7 (zkT pI) (rsl 2 [] 46 (!vc) ?_ ?_))<;>intro pD
  · exact (rbl [] 54 true rfl (by grind))
  refine (rsl 5 [] 51 (decide ((l.length:Int)>12)) ?_ ?_)<;>intro pF
  · exact (rbl [] 54 true rfl (by grind))
  exact (rbl [] 54 (decide (q>2000)) rfl (by grind))
 refine jI h ?_ ?_<;>intro pJ h
 ·refine jp ?_;obtain rfl:=(sj h);exact zy lzz
 refine jb h fun vh pQ h=>jr (rl 4 [0] 10 call16 (zsj pQ) rf) (jb h fun rv4 pY h=>jr (rl 4 [0] 11 call17 (zgz pY) rf) (jb h fun rv5 uk h=>jg [0,1,3,4,5] [] [(87,kB ((!rv5)|| ((vh.2.1 !=rv4.2.1)|| ((IntKind.i64.wrap vh.2.2) !=rv4.2.2))))] ?_ ?_))
 ·refine (rl 2 [12,13] 12 call18 (zga uk) (rsl 2 [] 77 (!rv5) ?_ ?_))<;>intro pM
  · exact (rbl [] 87 true rfl (by grind))
  refine (rsl 5 [] 82 (vh.2.1 !=rv4.2.1) ?_ ?_)<;>intro pP
  · exact (rbl [] 87 true rfl (by grind))
  exact (rbl [] 87 ((IntKind.i64.wrap vh.2.2) !=rv4.2.2) rfl (by grind))
 refine jI h ?_ ?_<;>intro pS h
 ·refine jp ?_;obtain rfl:=(sj h);exact zy lzz
 refine jb h fun rv6 uY h=>jr (rl 5 [0] 12 call19 (zld uY) rf) (jb h fun rv7 uZ h=>jr (rc 4 rfl (zfj [.sl Rp.byte [0] av,.sl Rp.byte [0] b] 14 [0] ([av,b]:(List (List UInt8))) rfl zmS rfl rfl rfl rfl) (rl 1 [0,14] 13 call17 (zgz uZ) rf)) (jp (jI h ?_ ?_)))<;>intro pV h
 ·refine jg [] [] [(12,kB (((IntKind.i64.wrap rv6.2)==rv7.2.2)&&(rv6.1==0)))] ?_ ?_
  ·refine (rsl 5 [] 114 ((IntKind.i64.wrap rv6.2)==rv7.2.2) ?_ ?_)<;>intro pT
   · exact (rbl [] 12 (rv6.1==0) rfl (by grind))
   exact (rbl [] 12 false rfl (by grind))
  cases h;exact zy lzz
 refine jb h fun g pC h=>jg [] [] [(12,kB g)] ?_ ?_
 ·refine (rsI 4 121 pC ?_ ?_)<;>intro ue pC
  ·refine jb pC fun rv8 u0 pC=>?_;cases pC;exact (rl 5 [0] 14 call20 (zjW u0) rgg)
  cases pC;exact rgg
 obtain rfl:=(sj h);exact zy lzz
end Go.Proofs.YtnckiilakdkklaaGreat

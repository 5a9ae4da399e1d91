/-
  The Go functions do what the plain functions say. No condition.
-/
import Derived.Test.YtaglemhabeipfaaGreatx3G4
set_option autoImplicit true
set_option relaxedAutoImplicit true
namespace Go.Proofs.YtaglemhabeipfaaGreat
open Tryz
open Go Go.RowKit
set_option linter.unusedVariables false
set_option maxRecDepth 100000
set_option maxHeartbeats 3200000
theorem zqH (h:zgi sv=some r):vy 99 [.sl ze [0] sv] [.rc zcq [] r.1,k8 r.2]:=by
 refine fj ⟨[(2,.ptr 2 0),(3,k8 r.2)],[⟨2,178,(zkO r.1)⟩]⟩ 62 func99 ⟨⟨_,_,rfl,rfl,rfl,rfl,zHq⟩,rfl,trivial⟩ fun Xt=>?_
 unfold zgi at h;refine jq [12] (jg [0,2] [12] [(18,kB ((decide ((sv.length:Int)<1))|| (decide ((sv.length:Int)>100))))] ?_ ?_)
 ·refine (rsl 4 [] 14 (decide ((sv.length:Int)<1)) ?_ ?_)<;>intro ul
  · exact (rbl [] 18 true rfl (by grind))
  exact (rbl [] 18 (decide ((sv.length:Int)>100)) rfl (by grind))
 refine jI h ?_ ?_<;>intro up h
 ·refine jr (rc 0 rfl (zJ (r:=zcq) [kI (-1),kI (-1),kI 1] [] (⟨(-1),(-1),1⟩:zad) rfl zwc rfl rfl) rf) ?_;cases h;exact zI (lks [12] [(12,2)] lzz)
 refine jb h fun rv uo h=>jr (rl 2 [1] 11 call131 (zxk uo) (rc 0 rfl (zjF (rk:=zv) (rv:=Rp.bool) 14 rfl) (rc 0 rfl (zjF (rk:=zc) (rv:=Rp.bool) 15 rfl) (rc 0 rfl (lbd [kI (sv.length:Int),.own vv 3 13 [] rv,.om zv Rp.bool 14 [] ([]:(List (zt×Bool))),.om zc Rp.bool 15 [] ([]:(List (zd×Bool)))] zIj) (rfl' [16]))))) (jp (zD (jb h fun q2 uQ h=>jl uQ [2,4,26,27] [12] (fun s=>[(28,kI s.1)]) (fun s=>[⟨16,218,[kI (sv.length:Int),.own vv 3 13 [] rv,.om zv Rp.bool 14 [13,0] s.2.1,.om zc Rp.bool 15 [13,0] s.2.2]⟩]) (fun| (.inl v_)=> .X 0 [2] [12] [] []| (.inr v_)=> .r ⟨[(2,.ptr 12 0),(3,k8 9)],[⟨12,178,[kI v_.1,kI v_.2.1,kI v_.2.2]⟩]⟩) ?_ lw ?_)))
 ·clear h;intro s o h;obtain ⟨v2,f,f2⟩:=s;replace h:zaF rv sv v2 f f2=some o:=h;unfold zaF at h;refine jp (jI h ?_ ?_)<;>intro ut h
  ·refine zD (jb h fun x uA h=>jr (rx 1 [0] znc.el uA rfl rfl (rc 0 rfl (lde ze [0] x zCN) (ral 2 [18] [.ptr 18 0,.rc ze [0] x] rfl (zsi (r:=ze) (b:=⟨18,62,[kS [],kN]⟩) (off:=0) (zan [0] x) rfl sizeOf62 rfl rfl rfl rfl) rfl rf))) (jb h fun vG uz h=>jr (rkl 2 [] ⟨[(2,.ptr 12 0),(4,.ptr 16 0),(5,kI v2),(6,.ptr 18 0),(26,.sl ze [0] sv),(27,kI (sv.length:Int)),(28,kI v2),(33,.ag [kI (sv.length:Int),.own vv 3 13 [] rv,.om zv Rp.bool 14 [13,0] f,.om zc Rp.bool 15 [13,0] f2]),(34,.ag (zan [0] x))],[⟨12,178,[kI 0,kI 0,kI 0]⟩,⟨16,218,[kI (sv.length:Int),.own vv 3 13 [] rv,.om zv Rp.bool 14 [13,0] f,.om zc Rp.bool 15 [13,0] f2]⟩,⟨18,62,(zan [0] x)⟩]⟩ (zge ⟨[(2,.ptr 12 0),(4,.ptr 16 0),(5,kI v2),(6,.ptr 18 0),(26,.sl ze [0] sv),(27,kI (sv.length:Int)),(28,kI v2),(33,.ag [kI (sv.length:Int),.own vv 3 13 [] rv,.om zv Rp.bool 14 [13,0] vG.2.1,.om zc Rp.bool 15 [13,0] vG.2.2]),(34,.ag (zan [0] x))],[⟨12,178,[kI 0,kI 0,kI 0]⟩,⟨16,218,[kI (sv.length:Int),.own vv 3 13 [] rv,.om zv Rp.bool 14 [13,0] vG.2.1,.om zc Rp.bool 15 [13,0] vG.2.2]⟩,⟨18,62,(zan [0] x)⟩]⟩ (zjq.le (ins':=[(.tmp 33,.ag [kI (sv.length:Int),.own vv 3 13 [] rv,.om zv Rp.bool 14 [13,0] f,.om zc Rp.bool 15 [13,0] f2]),(.tmp 34,.ag (zan [0] x))]) (ziW (args:=[.tmp 33,.tmp 34]) [.ag [kI (sv.length:Int),.own vv 3 13 [] rv,.om zv Rp.bool 14 [13,0] f,.om zc Rp.bool 15 [13,0] f2],.rc ze [0] x] [(14,2),(15,3)] [13,0] 19 [] rfl call132 (zjR uz) rfl rfl (by kernel_rfl) rfl rfl rfl) ⟨⟨rfl,vz _⟩,⟨rfl,zod ze [0] x (zan [0] x) rfl rfl⟩,trivial⟩) rfl (by kernel_rfl) (by kernel_rfl) ⟨⟨_,rfl,zp rfl⟩,⟨_,rfl,zp rfl⟩,⟨_,rfl,zp rfl⟩,⟨_,rfl,zp rfl⟩,⟨_,rfl,zp rfl⟩,⟨_,rfl,zp rfl⟩,⟨_,rfl,zp rfl⟩,⟨_,rfl,zfi ⟨zp rfl,zp rfl,zcP 0 rfl,zcP 1 rfl,trivial⟩⟩,⟨_,rfl,zp rfl⟩,trivial⟩ ⟨⟨_,rfl,rfl,rfl,⟨zp rfl,zp rfl,zp rfl,trivial⟩⟩,⟨_,rfl,rfl,rfl,⟨zp rfl,zp rfl,zcP 0 rfl,zcP 1 rfl,trivial⟩⟩,⟨_,rfl,rfl,rfl,⟨zp rfl,zp rfl,trivial⟩⟩,trivial⟩ rf)) (jp (jI h ?_ ?_))))<;>intro uw h
   ·refine jr (rc 2 rfl (zJ (r:=zcq) [kI v2,kI (-1),kI vG.1] [] (⟨v2,(-1),vG.1⟩:zad) rfl zwc rfl rfl) rf) ?_;cases h;exact zmf lzz
   refine jp (zD (jb h fun q uy h=>jl uy [2,4,5,26,27,28,42,43] [12] (fun s=>[(44,kI s.1)]) (fun s=>[⟨16,218,[kI (sv.length:Int),.own vv 3 13 [] rv,.om zv Rp.bool 14 [13,0] s.2.1,.om zc Rp.bool 15 [13,0] s.2.2]⟩]) (fun| (.inl v_)=> .X 2 [2,4,26,27,28] [12] [] [⟨16,218,[kI (sv.length:Int),.own vv 3 13 [] rv,.om zv Rp.bool 14 [13,0] v_.1,.om zc Rp.bool 15 [13,0] v_.2]⟩]| (.inr v_)=> .r ⟨[(2,.ptr 12 0),(3,k8 9)],[⟨12,178,[kI v2,kI v_.1,kI v_.2]⟩]⟩) ?_ lzz ?_))
   ·clear h;intro s o h;obtain ⟨v3,f6,f7⟩:=s;replace h:zbq rv sv v2 x v3 f6 f7=some o:=h;unfold zbq at h;refine jp (jI h ?_ ?_)<;>intro uB h
    ·refine zD (jb h fun x2 uL h=>jr (rx 1 [0] zqx.el uL rfl rfl (rc 0 rfl (lde zb [0] x2 zpQ) (rfl' [24]))) (jb h fun rv5 uM h=>jr (lb 2 zb [] x2 (rkl 0 [] ⟨[(2,.ptr 12 0),(4,.ptr 16 0),(5,kI v2),(8,kI v3),(26,.sl ze [0] sv),(27,kI (sv.length:Int)),(28,kI v2),(42,.sl zb [0] x.Fields),(43,kI (x.Fields.length:Int)),(44,kI v3),(49,.ag [kI (sv.length:Int),.own vv 3 13 [] rv,.om zv Rp.bool 14 [13,0] f6,.om zc Rp.bool 15 [13,0] f7]),(50,kI v2),(51,.rc zb [] x2)],[⟨12,178,[kI 0,kI 0,kI 0]⟩,⟨16,218,[kI (sv.length:Int),.own vv 3 13 [] rv,.om zv Rp.bool 14 [13,0] f6,.om zc Rp.bool 15 [13,0] f7]⟩]⟩ (zge ⟨[(2,.ptr 12 0),(4,.ptr 16 0),(5,kI v2),(8,kI v3),(26,.sl ze [0] sv),(27,kI (sv.length:Int)),(28,kI v2),(42,.sl zb [0] x.Fields),(43,kI (x.Fields.length:Int)),(44,kI v3),(49,.ag [kI (sv.length:Int),.own vv 3 13 [] rv,.om zv Rp.bool 14 [13,0] rv5.2.1,.om zc Rp.bool 15 [13,0] rv5.2.2]),(50,kI v2),(51,.rc zb [] x2)],[⟨12,178,[kI 0,kI 0,kI 0]⟩,⟨16,218,[kI (sv.length:Int),.own vv 3 13 [] rv,.om zv Rp.bool 14 [13,0] rv5.2.1,.om zc Rp.bool 15 [13,0] rv5.2.2]⟩]⟩ (ziW [.ag [kI (sv.length:Int),.own vv 3 13 [] rv,.om zv Rp.bool 14 [13,0] f6,.om zc Rp.bool 15 [13,0] f7],kI v2,.rc zb [] x2] [(14,2),(15,3)] [13,0] 25 [] rfl call133 (zkR uM) rfl rfl (by kernel_rfl) rfl rfl rfl) rfl (by kernel_rfl) (by kernel_rfl) ⟨⟨_,rfl,zp rfl⟩,⟨_,rfl,zp rfl⟩,⟨_,rfl,zp rfl⟩,⟨_,rfl,zp rfl⟩,⟨_,rfl,zp rfl⟩,⟨_,rfl,zp rfl⟩,⟨_,rfl,zp rfl⟩,⟨_,rfl,zp rfl⟩,⟨_,rfl,zp rfl⟩,⟨_,rfl,zp rfl⟩,⟨_,rfl,zfi ⟨zp rfl,zp rfl,zcP 0 rfl,zcP 1 rfl,trivial⟩⟩,⟨_,rfl,zp rfl⟩,⟨_,rfl,zp rfl⟩,trivial⟩ ⟨⟨_,rfl,rfl,rfl,⟨zp rfl,zp rfl,zp rfl,trivial⟩⟩,⟨_,rfl,rfl,rfl,⟨zp rfl,zp rfl,zcP 0 rfl,zcP 1 rfl,trivial⟩⟩,trivial⟩ rf))) (jp (jI h ?_ ?_))))<;>intro uE h
     ·refine jr (rc 3 rfl (zJ (r:=zcq) [kI v2,kI v3,kI rv5.1] [] (⟨v2,v3,rv5.1⟩:zad) rfl zwc rfl rfl) rf) ?_;cases h;exact zmf lzz
     refine zaA ?_;cases h;exact jy
    cases h;exact zcc rfl lzz
   rcases q with u| u2
   ·refine zdp _ rfl (zaA ?_);cases h;exact jy
   cases h;exact zFO lzz
  cases h;exact zcc rfl lzz
 rcases q2 with u3| u4
 ·refine zdp _ rfl (jr (rc 0 rfl (zJ (r:=zcq) [] [] (⟨0,0,0⟩:zad) rfl zwc rfl rfl) rf) ?_);cases h;exact zI (lks [12] [(12,2)] lzz)
 cases h;exact zpo (lks [12] [(12,2)] lzz)
theorem zwm (h:zkd m b uv met=some r):zfx prog 82 [.rc ze [0] m,.sl Rp.byte [0] b,kI uv,.om zab zak 2 [0] met] [.rc zh [] r.1,k8 r.2.1] [.any,.any,.any,.om zab zak 2 [0] r.2.2]:=by
 refine zgB (E:=⟨[(3,.om zab zak 2 [0] r.2.2),(8,.ptr 3 0),(9,k8 r.2.1)],[⟨3,68,(zcM r.1)⟩]⟩) 56 [3] func82 rfl rfl rfl ⟨⟨_,_,rfl,rfl,rfl,rfl,zCP⟩,rfl,trivial⟩ ⟨.inl rfl,.inl rfl,.inl rfl,.inr ⟨rfl,rfl⟩,trivial⟩ rfl (fun Xt old=>?_);refine zaN ?_;unfold zkd at h;refine jr (ra 0 [.rc ze [0] m] rfl (zps 13 (zan [0] m) [0] rfl rfl rfl rfl rfl) rfl (rfl' [14])) (jb h fun rv uo h=>jr (rl 2 [0] 13 call111 (zgd uo) (rfl' [15])) (jp (jI h ?_ ?_)))<;>intro ul h
 ·refine jr (rc 0 rfl (zJ (r:=zh) [] [] (⟨(⟨0,0,0,0,0⟩:zo),0,false⟩:zf) rfl zxY rfl rfl) rf) ?_;cases h;exact zbW (lks [14] [(14,3)] lzz)
 refine jr (rc 4 rfl (zJ (r:=zab) [kI rv.1.Number,kI rv.1.Wire] [] (⟨rv.1.Number,rv.1.Wire⟩:zL) rfl zIo rfl rfl) (rfl' [16])) (jr (lb 1 zab [] (⟨rv.1.Number,rv.1.Wire⟩:zL) (ra 0 [.om zab zak 2 [0] met,.rc zab [] (⟨rv.1.Number,rv.1.Wire⟩:zL)] rfl (zmh (rk:=zab) (rv:=zak) (m:=met) (k:=(⟨rv.1.Number,rv.1.Wire⟩:zL)) (.rc zak [0] ((mget met (⟨rv.1.Number,rv.1.Wire⟩:zL)).getD (⟨0,false,0⟩:zN))) rfl zAK (zbn rfl) (zvu rfl)) rfl (rfl' [17]))) (jp (jb h fun p uP h=>jn (.N [8,10,13] [14,15] [(3,.om zab zak 2 [0] p.1)] [⟨17,197,[kI p.2.1,kB p.2.2.1,k8 p.2.2.2]⟩]) ?_ ?_)))
 ·replace h:=uP;refine jI h ?_ ?_<;>intro up h
  ·refine jb h fun vA uu h=>jr (lb 1 zab [] (⟨rv.1.Number,rv.1.Wire⟩:zL) (rl 0 [0] 16 call117 (ztj uu) rf)) (jr (lb 1 zab [] (⟨rv.1.Number,rv.1.Wire⟩:zL) (lb 0 zak [] vA (rms (C1:=[]) (D:=[]) 0 [] 2 [0] met (⟨rv.1.Number,rv.1.Wire⟩:zL) vA [0] zAK (zbn rfl) (zbn rfl) rf))) ?_);cases h;exact zaT lzz
  cases h;exact zaT lzz
 refine zlh (jp (jI h ?_ ?_))<;>intro ut h
 ·refine jd [3,8,9] [14] zhj (by exact (lx (zJ (r:=zh) [] [] (⟨(⟨0,0,0,0,0⟩:zo),0,false⟩:zf) rfl zxY rfl rfl) (lwn 2 (ly [.ptr 14 0,.rc zh [] (⟨(⟨0,0,0,0,0⟩:zo),0,false⟩:zf)] (zsi (r:=zh) (b:=⟨14,68,[kI 0,kI 0,kI 0,kI 0,kI 0,kI 0,kB false]⟩) (off:=0) [kI 0,kI 0,kI 0,kI 0,kI 0,kI 0,kB false] rfl sizeOf68 rfl rfl rfl rfl) rfl l0)))) ?_;cases h;exact zbW (lks [14] [(14,3)] lzz)
 refine jr (lb 0 zB [] rv.1 (rc 4 rfl (zJ (r:=zh) [.rc zB [] rv.1,kI p.2.1,kB p.2.2.1] [] (⟨rv.1,p.2.1,p.2.2.1⟩:zf) rfl zxY rfl rfl) rf)) ?_;cases h;exact zbW (lks [14] [(14,3)] lzz)
theorem zkK (v:Int) (v2:(List UInt8)):ItOk prog 199 [.bp vv 3 919900 [] v,.bp (Rp.list Rp.byte) 24 919901 [0] v2] (fun x:((List UInt8)×Int)=>[.sl Rp.byte [0] x.1,k8 x.2]) (fun {σ:Type} (kf:Rnd σ ((List UInt8)×Int)) (sg:σ)=>zcR v v2 kf sg):=by
 refine zDw 38 [(1,.ptr 919900 0),(2,.ptr 919901 0)] [⟨919900,3,[kI v]⟩,⟨919901,24,[.sl Rp.byte [0] v2]⟩] func199 rfl rfl rfl rfl (.cons vv 3 919900 [] v [kI v] rfl rfl (.cons (Rp.list Rp.byte) 24 919901 [0] v2 [.sl Rp.byte [0] v2] rfl rfl (.nil _))) ?_;intro σ kf sg s1 h l I hI F_ hT;replace h:zcR v v2 kf sg=some s1:=h;refine zaN (zlg (E':=⟨[(0,.lf (.val (.func (.yield l) #[] #[]))),(1,.ptr 919900 0),(2,.ptr 919901 0)],[⟨919900,3,[kI v]⟩,⟨919901,24,[.sl Rp.byte [0] v2]⟩]⟩) (fun _ _ _ hs=>hs) ?_);unfold zcR at h;refine jb h fun rv uo h=>jr (rl 1 [1] 9 call174 (zoC uo) rf) (jp (jI h ?_ ?_))<;>intro ul h
 ·refine jb h fun y ve h=>zxe (E':=⟨[],[]⟩) (x:=(([]:(List UInt8)),2)) (b:=y.1) (s':=y.2) 1 (some 13) [.const (.slice none 0 0),.const (.int .u8 2)] [kN,k8 2] [.sl Rp.byte [0] ([]:(List UInt8)),k8 2] ⟨[(12,.lf (.val (.func (.yield l) #[] #[])))],[]⟩ hT rfl rfl rfl rfl rfl rgg rfl ⟨rfl,⟨rfl,trivial⟩⟩ rfl ⟨zfC _ _,vz _,trivial⟩ rfl rfl ve rgg ?_;cases h;exact zHD lzz
 refine jp (zD (jb h fun q uy h=>zDz (fun s:((List UInt8)×σ)=>zbc kf rv s.1 s.2) (fun s=>⟨⟨38,[]⟩,itX I hI F_ s.2,false,#[]⟩) (fun s=>⟨[(0,.lf (.val (.func (.yield l) #[] #[]))),(4,kI rv),(5,.sl Rp.byte [0] s.1)],[]⟩) (fun o e a w=>match o with| (.inl v_)=>e= .exit 0/\Sx ⟨⟨38,[]⟩,itX I hI F_ v_,false,#[]⟩ ⟨[],[]⟩ a w| (.inr v_)=>e= .ret/\Sx ⟨⟨38,[]⟩,itX I hI F_ v_,false,#[]⟩ ⟨[],[]⟩ a w) ?_ uy rfl lzz ?_))
 ·clear h;intro s o h;obtain ⟨vB,sg2⟩:=s;refine zaN ?_;replace h:zbc kf rv vB sg2=some o:=h;unfold zbc at h;refine jp (jI h ?_ ?_)<;>intro up h
  ·refine zD (jb h fun vA uu h=>jr (rl 2 [0] 10 call200 (zvZ uu) rf) (jb h fun v3 uG h=>jb h fun y2 uS h=>zxe (E':=⟨[(0,.lf (.val (.func (.yield l) #[] #[]))),(4,kI rv),(5,.sl Rp.byte [0] vB),(6,kI vA.1),(34,kB ((!y2.1)|| (vA.2 !=0)))],[]⟩) (x:=(v3,vA.2)) (b:=y2.1) (s':=y2.2) 5 (some 29) [.tmp 27,.tmp 28] [.sl Rp.byte [0] v3,k8 vA.2] [.sl Rp.byte [0] v3,k8 vA.2] ⟨[(0,.lf (.val (.func (.yield l) #[] #[]))),(4,kI rv),(5,.sl Rp.byte [0] vB),(6,kI vA.1),(7,k8 vA.2),(24,.lf (.val (.func (.yield l) #[] #[]))),(27,.sl Rp.byte [0] v3),(28,k8 vA.2)],[]⟩ hT rfl rfl rfl rfl rfl (ra 3 [.sl Rp.byte [0] vB,kI vA.1] rfl (zgE none (some (kI vA.1)) rfl zbd.el (zcb _ _ _) ⟨rfl,rfl⟩ ⟨rfl,rfl⟩ uG) rfl rgg) rfl ⟨rfl,⟨rfl,trivial⟩⟩ rfl ⟨vz _,vz _,trivial⟩ rfl rfl uS ?_ ?_))
   ·refine (rsl 2 [] 31 (!y2.1) ?_ ?_)<;>intro ut
    · exact (rbl [] 34 true rfl (by grind))
    exact (rbl [] 34 (vA.2 !=0) rfl (by grind))
   refine jI h ?_ ?_<;>intro uw h
   ·cases h;exact zmf lzz
   refine jb h fun v5 uT h=>jr (ra 2 [.sl Rp.byte [0] vB,kI vA.1] rfl (zgE (some (kI vA.1)) none rfl zbd.el (zcb _ _ _) ⟨rfl,rfl⟩ ⟨rfl,rfl⟩ uT) rfl rf) (zaA ?_);cases h;exact zaT lzz
  cases h;exact zcc rfl lzz
 rcases q with u| u2
 ·refine zdp _ rfl ?_;cases h;exact zHC lzz
 cases h;exact zHF lzz
theorem zsp (h:zhk f before b rv=some r):zdI prog 79 [.rc zb [0] f,.cu (mxC Rp.byte 5 before) 801000 [0] [],.sl Rp.byte [0] b,.rc zB [0] rv] [.cu (mxC Rp.byte 5 r) 801000 [0] []] [.any,.any,.any,.any]:=by
 refine zhO (E:=⟨[(8,.cu (mxC Rp.byte 5 r) 801000 [0] [])],[]⟩) 51 [] func79 rfl rfl rfl ⟨rfl,trivial⟩ ⟨.inl rfl,.inl rfl,.inl rfl,.inl rfl,trivial⟩ rfl (fun Xt old=>?_);refine zaN ?_;unfold zhk at h;refine jq [11,12] (jp (jb h fun g ur h=>jg [1,2,4,7,9] [11,12] [(20,kB g)] ?_ ?_))
 ·refine (rsI 3 15 ur ?_ ?_)<;>intro ul ur
  ·refine jb ur fun vA uu ur=>?_;cases ur;exact (rl 2 [1] 11 call113 (zjH uu) (rel [] lzz))
  cases ur;exact (rel [] lzz)
 refine jb h fun p uP h=>jn (.N [1,2,4,7] [11,12] [(9,kI p)] []) ?_ ?_
 ·replace h:=uP;refine jI h ?_ ?_<;>intro up h
  ·cases h;exact jy
  cases h;exact zaT lzz
 refine zlh (jg [1,2,7,9] [12] [(10,kB ((!f.Repeated)&&(f.Kind !=17)))] ?_ ?_)
 ·refine (rsl 4 [] 26 (!f.Repeated) ?_ ?_)<;>intro ut
  · exact (rbl [] 10 (f.Kind !=17) rfl (by grind))
  exact (rbl [] 10 false rfl (by grind))
 refine jg [1,2,7,9] [12] [(36,kB (((!f.Repeated)&&(f.Kind !=17))|| ((before.length:Int)==0)))] ?_ ?_
 ·refine (rsl 2 [] 32 ((!f.Repeated)&&(f.Kind !=17)) ?_ ?_)<;>intro uw
  · exact (rbl [] 36 true rfl (by grind))
  exact (ra 1 [.cu (mxC Rp.byte 5 before) 801000 [0] []] rfl (zFX rfl underlying24) rfl (rbl [] 36 ((before.length:Int)==0) rfl (by grind)))
 refine jI h ?_ ?_<;>intro uB h
 ·refine jb h fun v3 uG h=>jr (ra 6 [.sl Rp.byte [0] b,kI p,kI rv.To,kI rv.To] rfl (zFW 5 801000 rfl zbd.el (zcb _ _ _) uG) rfl rf) ?_;obtain rfl:=(sj h);exact zbW lzz
 refine jb h fun v4 uN h=>jb h fun v5 uT h=>jr (ra 5 [.sl Rp.byte [0] b,kI p,kI rv.To] rfl (zgE (some (kI p)) (some (kI rv.To)) rfl zbd.el (zcb _ _ _) ⟨rfl,rfl⟩ ⟨rfl,rfl⟩ uN) rfl (ra 0 [.cu (mxC Rp.byte 5 before) 801000 [0] [],.sl Rp.byte [0] v4] rfl (zFT [0] rfl zbd.el rfl (zcb _ _ _) uT (.inl zbN) rfl) rfl rf)) ?_;obtain rfl:=(sj h);exact zbW lzz
theorem zxS (h:zlL k l=some r):vy 135 [kI k,.sl vx [0] l] [.own Rp.byte 5 2 [] r.1,k8 r.2]:=by
 refine fi 31 func135 fun Xt=>?_
 unfold zlL at h;refine jp (jb h fun rv uo h=>jr (rl 1 [1] 12 call174 (zoC uo) rf) (jI h ?_ ?_))<;>intro ul h
 ·refine jp ?_;cases h;exact zI lw
 refine jp (jp (zD (jb h fun q uy h=>jL uy [0,14,15] [] (fun s=>[(6,.own Rp.byte 5 16 [] s.1),(16,kI s.2)]) (fun o=> .x 0 ⟨[(6,.own Rp.byte 5 16 [] o)],[]⟩) ?_ lw ?_)))
 ·clear h;intro s o h;obtain ⟨b,v⟩:=s;replace h:zdT k l b v=some o:=h;unfold zdT at h;refine jp (jI h ?_ ?_)<;>intro up h
  ·refine zD (jb h fun x uA h=>jr (rx 0 [0] zFk.el uA rfl rfl rf) (jb h fun vA uu h=>jr (rl 2 [1] 15 call175 (zmX uu) rf) (jb h fun v2 uJ h=>jr (rc 2 rfl (lao 16 [] 5 17 [] [] zbd.el uJ (.inl zbN)) rf) (zaA ?_))));cases h;exact jy
  cases h;exact zcc rfl lzz
 refine zdp _ rfl (jp ?_);cases h;exact zI (lks [] [(16,2)] lzz)
theorem zlr (h:zis out uI wire value=some r):zdI prog 143 [.own Rp.byte 5 800000 [0] out,kI uI,kI wire,.sl Rp.byte [0] value] [.own Rp.byte 5 800000 [] r] [.any,.any,.any,.any]:=by
 refine zhO (E:=⟨[(8,.own Rp.byte 5 800000 [] r)],[]⟩) 21 [] func143 rfl rfl rfl ⟨rfl,trivial⟩ ⟨.inl rfl,.inl rfl,.inl rfl,.inl rfl,trivial⟩ rfl (fun Xt old=>?_);refine zaN ?_;unfold zis at h;refine jp (jb h fun rv uo h=>jr (rl 3 [0] 9 call137 (FnOk.le (ins':=[kN,kI uI,kI wire,.sl Rp.byte [0] value]) (zmU uo) ⟨zfC _ _,vz _,vz _,vz _,trivial⟩) rf) (jb h fun v uC h=>jr (rc 2 rfl (lao 800000 [0] 5 11 [] [] zbd.el uC (.inl zbN)) rf) ?_));obtain rfl:=(sj h);exact zbW lzz
theorem ztC (h:ziw b uI value=some r):vy 179 [.sl Rp.byte [0] b,kI uI,.sl Rp.byte [0] value] [.own Rp.byte 5 2 [] r]:=by
 refine fi 22 func179 fun Xt=>?_
 unfold ziw at h;refine jp (jb h fun rv uo h=>jr (rl 3 [0] 12 call137 (zmU uo) rf) (jp (jI h ?_ ?_)))<;>intro ul h
 ·refine jb h fun vA uu h=>jr (rc 1 rfl (ziq [.sl Rp.byte [0] b] 15 [0] ([b]:(List (List UInt8))) rfl zyB rfl rfl rfl rfl) (rl 0 [15,0] 14 call71 (zcx uu) rf)) ?_;obtain rfl:=(sj h);exact zI (lks [] [(16,2)] lzz)
 refine jp ?_;cases h;exact zI (lks [] [(14,2)] lzz)
end Go.Proofs.YtaglemhabeipfaaGreat

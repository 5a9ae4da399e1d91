/-
  The Go functions do what the plain functions say. No condition.
-/
import Derived.Test.YtaglemhabeipfaaGreatx1G4
set_option autoImplicit true
set_option relaxedAutoImplicit true
namespace Go.Proofs.YtaglemhabeipfaaGreat
open Tryz
open Go Go.RowKit
set_option linter.unusedVariables false
set_option maxRecDepth 100000
set_option maxHeartbeats 3200000
theorem zvp (h:ziW sv=some r):wO 99 [.sl zg [0] sv] [.rc zea [] r.1,k8 r.2]:=by
 refine fj ⟨[(2,.ptr 2 0),(3,k8 r.2)],[⟨2,178,(zoP r.1)⟩]⟩ 62 func99 ⟨⟨_,_,rfl,rfl,rfl,rfl,zMV⟩,rfl,trivial⟩ fun Xt=>?_
 unfold ziW at h;refine jq [12] (jg [0,2] [12] [(18,kB ((decide ((sv.length:Int)<1))|| (decide ((sv.length:Int)>100))))] ?_ ?_)
 ·refine (rsl 4 [] 14 (decide ((sv.length:Int)<1)) ?_ ?_)<;>intro uM
  · exact (rbl [] 18 true rfl (by grind))
  exact (rbl [] 18 (decide ((sv.length:Int)>100)) rfl (by grind))
 refine jI h ?_ ?_<;>intro uN h
 ·refine jr (rc 0 rfl (zL (r:=zea) [kI (-1),kI (-1),kI 1] [] (⟨(-1),(-1),1⟩:zao) rfl zBm rfl rfl) rf) ?_;cases h;exact zy (lks [12] [(12,2)] lzz)
 refine jb h fun rv uP h=>jr (rl 2 [1] 11 call131 (zCz uP) (rc 0 rfl (znv (rk:=zA) (rv:=Rp.bool) 14 rfl) (rc 0 rfl (znv (rk:=zf) (rv:=Rp.bool) 15 rfl) (rc 0 rfl (lbd [kI (sv.length:Int),.own wM 3 13 [] rv,.om zA Rp.bool 14 [] ([]:(List (zv×Bool))),.om zf Rp.bool 15 [] ([]:(List (zh×Bool)))] zNO) (rfl' [16]))))) (jp (zu (jb h fun q2 vl h=>jl vl [2,4,26,27] [12] (fun s=>[(28,kI s.1)]) (fun s=>[⟨16,218,[kI (sv.length:Int),.own wM 3 13 [] rv,.om zA Rp.bool 14 [13,0] s.2.1,.om zf Rp.bool 15 [13,0] s.2.2]⟩]) (fun| (.inl v_)=> .X 0 [2] [12] [] []| (.inr v_)=> .r ⟨[(2,.ptr 12 0),(3,k8 9)],[⟨12,178,[kI v_.1,kI v_.2.1,kI v_.2.2]⟩]⟩) ?_ lw ?_)))
 ·clear h;intro s o h;obtain ⟨v2,f,f2⟩:=s;replace h:zbf rv sv v2 f f2=some o:=h;unfold zbf at h;refine jp (jI h ?_ ?_)<;>intro uQ h
  ·refine zu (jb h fun x uY h=>jr (rx 1 [0] zhp.el uY rfl rfl (rc 0 rfl (lde zg [0] x zyN) (ral 2 [18] [.ptr 18 0,.rc zg [0] x] rfl (zrP (r:=zg) (b:=⟨18,62,[kS [],kN]⟩) (off:=0) (zaf [0] x) rfl sizeOf62 rfl rfl rfl rfl) rfl rf))) (jb h fun wV uZ h=>jr (rkl 2 [] ⟨[(2,.ptr 12 0),(4,.ptr 16 0),(5,kI v2),(6,.ptr 18 0),(26,.sl zg [0] sv),(27,kI (sv.length:Int)),(28,kI v2),(33,.ag [kI (sv.length:Int),.own wM 3 13 [] rv,.om zA Rp.bool 14 [13,0] f,.om zf Rp.bool 15 [13,0] f2]),(34,.ag (zaf [0] x))],[⟨12,178,[kI 0,kI 0,kI 0]⟩,⟨16,218,[kI (sv.length:Int),.own wM 3 13 [] rv,.om zA Rp.bool 14 [13,0] f,.om zf Rp.bool 15 [13,0] f2]⟩,⟨18,62,(zaf [0] x)⟩]⟩ (ziS ⟨[(2,.ptr 12 0),(4,.ptr 16 0),(5,kI v2),(6,.ptr 18 0),(26,.sl zg [0] sv),(27,kI (sv.length:Int)),(28,kI v2),(33,.ag [kI (sv.length:Int),.own wM 3 13 [] rv,.om zA Rp.bool 14 [13,0] wV.2.1,.om zf Rp.bool 15 [13,0] wV.2.2]),(34,.ag (zaf [0] x))],[⟨12,178,[kI 0,kI 0,kI 0]⟩,⟨16,218,[kI (sv.length:Int),.own wM 3 13 [] rv,.om zA Rp.bool 14 [13,0] wV.2.1,.om zf Rp.bool 15 [13,0] wV.2.2]⟩,⟨18,62,(zaf [0] x)⟩]⟩ (znf.le (ins':=[(.tmp 33,.ag [kI (sv.length:Int),.own wM 3 13 [] rv,.om zA Rp.bool 14 [13,0] f,.om zf Rp.bool 15 [13,0] f2]),(.tmp 34,.ag (zaf [0] x))]) (zmx (args:=[.tmp 33,.tmp 34]) [.ag [kI (sv.length:Int),.own wM 3 13 [] rv,.om zA Rp.bool 14 [13,0] f,.om zf Rp.bool 15 [13,0] f2],.rc zg [0] x] [(14,2),(15,3)] [13,0] 19 [] rfl call132 (znI uZ) rfl rfl (by kernel_rfl) rfl rfl rfl) ⟨⟨rfl,wP _⟩,⟨rfl,zmp zg [0] x (zaf [0] x) rfl rfl⟩,trivial⟩) rfl (by kernel_rfl) (by kernel_rfl) ⟨⟨_,rfl,zp rfl⟩,⟨_,rfl,zp rfl⟩,⟨_,rfl,zp rfl⟩,⟨_,rfl,zp rfl⟩,⟨_,rfl,zp rfl⟩,⟨_,rfl,zp rfl⟩,⟨_,rfl,zp rfl⟩,⟨_,rfl,zhR ⟨zp rfl,zp rfl,zeL 0 rfl,zeL 1 rfl,trivial⟩⟩,⟨_,rfl,zp rfl⟩,trivial⟩ ⟨⟨_,rfl,rfl,rfl,⟨zp rfl,zp rfl,zp rfl,trivial⟩⟩,⟨_,rfl,rfl,rfl,⟨zp rfl,zp rfl,zeL 0 rfl,zeL 1 rfl,trivial⟩⟩,⟨_,rfl,rfl,rfl,⟨zp rfl,zp rfl,trivial⟩⟩,trivial⟩ rf)) (jp (jI h ?_ ?_))))<;>intro uS h
   ·refine jr (rc 2 rfl (zL (r:=zea) [kI v2,kI (-1),kI wV.1] [] (⟨v2,(-1),wV.1⟩:zao) rfl zBm rfl rfl) rf) ?_;cases h;exact zqD lzz
   refine jp (zu (jb h fun q uV h=>jl uV [2,4,5,26,27,28,42,43] [12] (fun s=>[(44,kI s.1)]) (fun s=>[⟨16,218,[kI (sv.length:Int),.own wM 3 13 [] rv,.om zA Rp.bool 14 [13,0] s.2.1,.om zf Rp.bool 15 [13,0] s.2.2]⟩]) (fun| (.inl v_)=> .X 2 [2,4,26,27,28] [12] [] [⟨16,218,[kI (sv.length:Int),.own wM 3 13 [] rv,.om zA Rp.bool 14 [13,0] v_.1,.om zf Rp.bool 15 [13,0] v_.2]⟩]| (.inr v_)=> .r ⟨[(2,.ptr 12 0),(3,k8 9)],[⟨12,178,[kI v2,kI v_.1,kI v_.2]⟩]⟩) ?_ lzz ?_))
   ·clear h;intro s o h;obtain ⟨v3,f6,f7⟩:=s;replace h:zcE rv sv v2 x v3 f6 f7=some o:=h;unfold zcE at h;refine jp (jI h ?_ ?_)<;>intro uU h
    ·refine zu (jb h fun x2 vd h=>jr (rx 1 [0] zkv.el vd rfl rfl (rc 0 rfl (lde zb [0] x2 zoG) (rfl' [24]))) (jb h fun rv5 vq h=>jr (lb 2 zb [] x2 (rkl 0 [] ⟨[(2,.ptr 12 0),(4,.ptr 16 0),(5,kI v2),(8,kI v3),(26,.sl zg [0] sv),(27,kI (sv.length:Int)),(28,kI v2),(42,.sl zb [0] x.Fields),(43,kI (x.Fields.length:Int)),(44,kI v3),(49,.ag [kI (sv.length:Int),.own wM 3 13 [] rv,.om zA Rp.bool 14 [13,0] f6,.om zf Rp.bool 15 [13,0] f7]),(50,kI v2),(51,.rc zb [] x2)],[⟨12,178,[kI 0,kI 0,kI 0]⟩,⟨16,218,[kI (sv.length:Int),.own wM 3 13 [] rv,.om zA Rp.bool 14 [13,0] f6,.om zf Rp.bool 15 [13,0] f7]⟩]⟩ (ziS ⟨[(2,.ptr 12 0),(4,.ptr 16 0),(5,kI v2),(8,kI v3),(26,.sl zg [0] sv),(27,kI (sv.length:Int)),(28,kI v2),(42,.sl zb [0] x.Fields),(43,kI (x.Fields.length:Int)),(44,kI v3),(49,.ag [kI (sv.length:Int),.own wM 3 13 [] rv,.om zA Rp.bool 14 [13,0] rv5.2.1,.om zf Rp.bool 15 [13,0] rv5.2.2]),(50,kI v2),(51,.rc zb [] x2)],[⟨12,178,[kI 0,kI 0,kI 0]⟩,⟨16,218,[kI (sv.length:Int),.own wM 3 13 [] rv,.om zA Rp.bool 14 [13,0] rv5.2.1,.om zf Rp.bool 15 [13,0] rv5.2.2]⟩]⟩ (zmx [.ag [kI (sv.length:Int),.own wM 3 13 [] rv,.om zA Rp.bool 14 [13,0] f6,.om zf Rp.bool 15 [13,0] f7],kI v2,.rc zb [] x2] [(14,2),(15,3)] [13,0] 25 [] rfl call133 (zpc vq) rfl rfl (by kernel_rfl) rfl rfl rfl) rfl (by kernel_rfl) (by kernel_rfl) ⟨⟨_,rfl,zp rfl⟩,⟨_,rfl,zp rfl⟩,⟨_,rfl,zp rfl⟩,⟨_,rfl,zp rfl⟩,⟨_,rfl,zp rfl⟩,⟨_,rfl,zp rfl⟩,⟨_,rfl,zp rfl⟩,⟨_,rfl,zp rfl⟩,⟨_,rfl,zp rfl⟩,⟨_,rfl,zp rfl⟩,⟨_,rfl,zhR ⟨zp rfl,zp rfl,zeL 0 rfl,zeL 1 rfl,trivial⟩⟩,⟨_,rfl,zp rfl⟩,⟨_,rfl,zp rfl⟩,trivial⟩ ⟨⟨_,rfl,rfl,rfl,⟨zp rfl,zp rfl,zp rfl,trivial⟩⟩,⟨_,rfl,rfl,rfl,⟨zp rfl,zp rfl,zeL 0 rfl,zeL 1 rfl,trivial⟩⟩,trivial⟩ rf))) (jp (jI h ?_ ?_))))<;>intro uW h
     ·refine jr (rc 3 rfl (zL (r:=zea) [kI v2,kI v3,kI rv5.1] [] (⟨v2,v3,rv5.1⟩:zao) rfl zBm rfl rfl) rf) ?_;cases h;exact zqD lzz
     refine zR ?_;cases h;exact jy
    cases h;exact zaj rfl lzz
   rcases q with u| u2
   ·refine zaE _ rfl (zR ?_);cases h;exact jy
   cases h;exact zAA lzz
  cases h;exact zaj rfl lzz
 rcases q2 with u3| u4
 ·refine zaE _ rfl (jr (rc 0 rfl (zL (r:=zea) [] [] (⟨0,0,0⟩:zao) rfl zBm rfl rfl) rf) ?_);cases h;exact zy (lks [12] [(12,2)] lzz)
 cases h;exact zfQ (lks [12] [(12,2)] lzz)
theorem zBy (h:znU m b uX met=some r):zig prog 82 [.rc zg [0] m,.sl Rp.byte [0] b,kI uX,.om zam zaw 2 [0] met] [.rc zk [] r.1,k8 r.2.1] [.any,.any,.any,.om zam zaw 2 [0] r.2.2]:=by
 refine zjv (E:=⟨[(3,.om zam zaw 2 [0] r.2.2),(8,.ptr 3 0),(9,k8 r.2.1)],[⟨3,68,(zeD r.1)⟩]⟩) 56 [3] func82 rfl rfl rfl ⟨⟨_,_,rfl,rfl,rfl,rfl,zIp⟩,rfl,trivial⟩ ⟨.inl rfl,.inl rfl,.inl rfl,.inr ⟨rfl,rfl⟩,trivial⟩ rfl (fun Xt old=>?_);refine zbw ?_;unfold znU at h;refine jr (ra 0 [.rc zg [0] m] rfl (zlu 13 (zaf [0] m) [0] rfl rfl rfl rfl rfl) rfl (rfl' [14])) (jb h fun rv uP h=>jr (rl 2 [0] 13 call111 (ziR uP) (rfl' [15])) (jp (jI h ?_ ?_)))<;>intro uM h
 ·refine jr (rc 0 rfl (zL (r:=zk) [] [] (⟨(⟨0,0,0,0,0⟩:zj),0,false⟩:zi) rfl zDv rfl rfl) rf) ?_;cases h;exact zdw (lks [14] [(14,3)] lzz)
 refine jr (rc 4 rfl (zL (r:=zam) [kI rv.1.Number,kI rv.1.Wire] [] (⟨rv.1.Number,rv.1.Wire⟩:zU) rfl zNS rfl rfl) (rfl' [16])) (jr (lb 1 zam [] (⟨rv.1.Number,rv.1.Wire⟩:zU) (ra 0 [.om zam zaw 2 [0] met,.rc zam [] (⟨rv.1.Number,rv.1.Wire⟩:zU)] rfl (zqG (rk:=zam) (rv:=zaw) (m:=met) (k:=(⟨rv.1.Number,rv.1.Wire⟩:zU)) (.rc zaw [0] ((mget met (⟨rv.1.Number,rv.1.Wire⟩:zU)).getD (⟨0,false,0⟩:zW))) rfl zGj (zcv rfl) (zAs rfl)) rfl (rfl' [17]))) (jp (jb h fun p vi h=>jn (.N [8,10,13] [14,15] [(3,.om zam zaw 2 [0] p.1)] [⟨17,197,[kI p.2.1,kB p.2.2.1,k8 p.2.2.2]⟩]) ?_ ?_)))
 ·replace h:=vi;refine jI h ?_ ?_<;>intro uN h
  ·refine jb h fun wQ uT h=>jr (lb 1 zam [] (⟨rv.1.Number,rv.1.Wire⟩:zU) (rl 0 [0] 16 call117 (zyc uT) rf)) (jr (lb 1 zam [] (⟨rv.1.Number,rv.1.Wire⟩:zU) (lb 0 zaw [] wQ (rms (C1:=[]) (D:=[]) 0 [] 2 [0] met (⟨rv.1.Number,rv.1.Wire⟩:zU) wQ [0] zGj (zcv rfl) (zcv rfl) rf))) ?_);cases h;exact zS lzz
  cases h;exact zS lzz
 refine zez (jp (jI h ?_ ?_))<;>intro uQ h
 ·refine jd [3,8,9] [14] zdo (by exact (lx (zL (r:=zk) [] [] (⟨(⟨0,0,0,0,0⟩:zj),0,false⟩:zi) rfl zDv rfl rfl) (lwn 2 (ly [.ptr 14 0,.rc zk [] (⟨(⟨0,0,0,0,0⟩:zj),0,false⟩:zi)] (zrP (r:=zk) (b:=⟨14,68,[kI 0,kI 0,kI 0,kI 0,kI 0,kI 0,kB false]⟩) (off:=0) [kI 0,kI 0,kI 0,kI 0,kI 0,kI 0,kB false] rfl sizeOf68 rfl rfl rfl rfl) rfl l0)))) ?_;cases h;exact zdw (lks [14] [(14,3)] lzz)
 refine jr (lb 0 zt [] rv.1 (rc 4 rfl (zL (r:=zk) [.rc zt [] rv.1,kI p.2.1,kB p.2.2.1] [] (⟨rv.1,p.2.1,p.2.2.1⟩:zi) rfl zDv rfl rfl) rf)) ?_;cases h;exact zdw (lks [14] [(14,3)] lzz)
theorem zoK (v:Int) (v2:(List UInt8)):ItOk prog 199 [.bp wM 3 919900 [] v,.bp (Rp.list Rp.byte) 24 919901 [0] v2] (fun x:((List UInt8)×Int)=>[.sl Rp.byte [0] x.1,k8 x.2]) (fun {σ:Type} (kf:Rnd σ ((List UInt8)×Int)) (sg:σ)=>zeO v v2 kf sg):=by
 refine zIX 38 [(1,.ptr 919900 0),(2,.ptr 919901 0)] [⟨919900,3,[kI v]⟩,⟨919901,24,[.sl Rp.byte [0] v2]⟩] func199 rfl rfl rfl rfl (.cons wM 3 919900 [] v [kI v] rfl rfl (.cons (Rp.list Rp.byte) 24 919901 [0] v2 [.sl Rp.byte [0] v2] rfl rfl (.nil _))) ?_;intro σ kf sg s1 h l I hI F_ hT;replace h:zeO v v2 kf sg=some s1:=h;refine zbw (zpD (E':=⟨[(0,.lf (.val (.func (.yield l) #[] #[]))),(1,.ptr 919900 0),(2,.ptr 919901 0)],[⟨919900,3,[kI v]⟩,⟨919901,24,[.sl Rp.byte [0] v2]⟩]⟩) (fun _ _ _ hs=>hs) ?_);unfold zeO at h;refine jb h fun rv uP h=>jr (rl 1 [1] 9 call174 (zth uP) rf) (jp (jI h ?_ ?_))<;>intro uM h
 ·refine jb h fun y vK h=>zCs (E':=⟨[],[]⟩) (x:=(([]:(List UInt8)),2)) (b:=y.1) (s':=y.2) 1 (some 13) [.const (.slice none 0 0),.const (.int .u8 2)] [kN,k8 2] [.sl Rp.byte [0] ([]:(List UInt8)),k8 2] ⟨[(12,.lf (.val (.func (.yield l) #[] #[])))],[]⟩ hT rfl rfl rfl rfl rfl rgg rfl ⟨rfl,⟨rfl,trivial⟩⟩ rfl ⟨zin _ _,wP _,trivial⟩ rfl rfl vK rgg ?_;cases h;exact zNi lzz
 refine jp (zu (jb h fun q uV h=>zIZ (fun s:((List UInt8)×σ)=>zbZ kf rv s.1 s.2) (fun s=>⟨⟨38,[]⟩,itX I hI F_ s.2,false,#[]⟩) (fun s=>⟨[(0,.lf (.val (.func (.yield l) #[] #[]))),(4,kI rv),(5,.sl Rp.byte [0] s.1)],[]⟩) (fun o e a w=>match o with| (.inl v_)=>e= .exit 0/\Sx ⟨⟨38,[]⟩,itX I hI F_ v_,false,#[]⟩ ⟨[],[]⟩ a w| (.inr v_)=>e= .ret/\Sx ⟨⟨38,[]⟩,itX I hI F_ v_,false,#[]⟩ ⟨[],[]⟩ a w) ?_ uV rfl lzz ?_))
 ·clear h;intro s o h;obtain ⟨wR,sg2⟩:=s;refine zbw ?_;replace h:zbZ kf rv wR sg2=some o:=h;unfold zbZ at h;refine jp (jI h ?_ ?_)<;>intro uN h
  ·refine zu (jb h fun wQ uT h=>jr (rl 2 [0] 10 call200 (zBh uT) rf) (jb h fun v3 ve h=>jb h fun y2 vF h=>zCs (E':=⟨[(0,.lf (.val (.func (.yield l) #[] #[]))),(4,kI rv),(5,.sl Rp.byte [0] wR),(6,kI wQ.1),(34,kB ((!y2.1)|| (wQ.2 !=0)))],[]⟩) (x:=(v3,wQ.2)) (b:=y2.1) (s':=y2.2) 5 (some 29) [.tmp 27,.tmp 28] [.sl Rp.byte [0] v3,k8 wQ.2] [.sl Rp.byte [0] v3,k8 wQ.2] ⟨[(0,.lf (.val (.func (.yield l) #[] #[]))),(4,kI rv),(5,.sl Rp.byte [0] wR),(6,kI wQ.1),(7,k8 wQ.2),(24,.lf (.val (.func (.yield l) #[] #[]))),(27,.sl Rp.byte [0] v3),(28,k8 wQ.2)],[]⟩ hT rfl rfl rfl rfl rfl (ra 3 [.sl Rp.byte [0] wR,kI wQ.1] rfl (zgf none (some (kI wQ.1)) rfl zbd.el (zbj _ _ _) ⟨rfl,rfl⟩ ⟨rfl,rfl⟩ ve) rfl rgg) rfl ⟨rfl,⟨rfl,trivial⟩⟩ rfl ⟨wP _,wP _,trivial⟩ rfl rfl vF ?_ ?_))
   ·refine (rsl 2 [] 31 (!y2.1) ?_ ?_)<;>intro uQ
    · exact (rbl [] 34 true rfl (by grind))
    exact (rbl [] 34 (wQ.2 !=0) rfl (by grind))
   refine jI h ?_ ?_<;>intro uS h
   ·cases h;exact zqD lzz
   refine jb h fun v5 vH h=>jr (ra 2 [.sl Rp.byte [0] wR,kI wQ.1] rfl (zgf (some (kI wQ.1)) none rfl zbd.el (zbj _ _ _) ⟨rfl,rfl⟩ ⟨rfl,rfl⟩ vH) rfl rf) (zR ?_);cases h;exact zS lzz
  cases h;exact zaj rfl lzz
 rcases q with u| u2
 ·refine zaE _ rfl ?_;cases h;exact zNh lzz
 cases h;exact zNk lzz
theorem zxc (h:zkh f before b rv=some r):zfZ prog 79 [.rc zb [0] f,.cu (mxC Rp.byte 5 before) 801000 [0] [],.sl Rp.byte [0] b,.rc zt [0] rv] [.cu (mxC Rp.byte 5 r) 801000 [0] []] [.any,.any,.any,.any]:=by
 refine zkQ (E:=⟨[(8,.cu (mxC Rp.byte 5 r) 801000 [0] [])],[]⟩) 51 [] func79 rfl rfl rfl ⟨rfl,trivial⟩ ⟨.inl rfl,.inl rfl,.inl rfl,.inl rfl,trivial⟩ rfl (fun Xt old=>?_);refine zbw ?_;unfold zkh at h;refine jq [11,12] (jp (jb h fun g uO h=>jg [1,2,4,7,9] [11,12] [(20,kB g)] ?_ ?_))
 ·refine (rsI 3 15 uO ?_ ?_)<;>intro uM uO
  ·refine jb uO fun wQ uT uO=>?_;cases uO;exact (rl 2 [1] 11 call113 (zny uT) (rel [] lzz))
  cases uO;exact (rel [] lzz)
 refine jb h fun p vi h=>jn (.N [1,2,4,7] [11,12] [(9,kI p)] []) ?_ ?_
 ·replace h:=vi;refine jI h ?_ ?_<;>intro uN h
  ·cases h;exact jy
  cases h;exact zS lzz
 refine zez (jg [1,2,7,9] [12] [(10,kB ((!f.Repeated)&&(f.Kind !=17)))] ?_ ?_)
 ·refine (rsl 4 [] 26 (!f.Repeated) ?_ ?_)<;>intro uQ
  · exact (rbl [] 10 (f.Kind !=17) rfl (by grind))
  exact (rbl [] 10 false rfl (by grind))
 refine jg [1,2,7,9] [12] [(36,kB (((!f.Repeated)&&(f.Kind !=17))|| ((before.length:Int)==0)))] ?_ ?_
 ·refine (rsl 2 [] 32 ((!f.Repeated)&&(f.Kind !=17)) ?_ ?_)<;>intro uS
  · exact (rbl [] 36 true rfl (by grind))
  exact (ra 1 [.cu (mxC Rp.byte 5 before) 801000 [0] []] rfl (zLC rfl underlying24) rfl (rbl [] 36 ((before.length:Int)==0) rfl (by grind)))
 refine jI h ?_ ?_<;>intro uU h
 ·refine jb h fun v3 ve h=>jr (ra 6 [.sl Rp.byte [0] b,kI p,kI rv.To,kI rv.To] rfl (zLB 5 801000 rfl zbd.el (zbj _ _ _) ve) rfl rf) ?_;obtain rfl:=(sj h);exact zdw lzz
 refine jb h fun v4 vy h=>jb h fun v5 vH h=>jr (ra 5 [.sl Rp.byte [0] b,kI p,kI rv.To] rfl (zgf (some (kI p)) (some (kI rv.To)) rfl zbd.el (zbj _ _ _) ⟨rfl,rfl⟩ ⟨rfl,rfl⟩ vy) rfl (ra 0 [.cu (mxC Rp.byte 5 before) 801000 [0] [],.sl Rp.byte [0] v4] rfl (zLy [0] rfl zbd.el rfl (zbj _ _ _) vH (.inl zfi) rfl) rfl rf)) ?_;obtain rfl:=(sj h);exact zdw lzz
theorem zDp (h:zqi k l=some r):wO 135 [kI k,.sl wN [0] l] [.own Rp.byte 5 2 [] r.1,k8 r.2]:=by
 refine fi 31 func135 fun Xt=>?_
 unfold zqi at h;refine jp (jb h fun rv uP h=>jr (rl 1 [1] 12 call174 (zth uP) rf) (jI h ?_ ?_))<;>intro uM h
 ·refine jp ?_;cases h;exact zy lw
 refine jp (jp (zu (jb h fun q uV h=>jL uV [0,14,15] [] (fun s=>[(6,.own Rp.byte 5 16 [] s.1),(16,kI s.2)]) (fun o=> .x 0 ⟨[(6,.own Rp.byte 5 16 [] o)],[]⟩) ?_ lw ?_)))
 ·clear h;intro s o h;obtain ⟨b,v⟩:=s;replace h:zgq k l b v=some o:=h;unfold zgq at h;refine jp (jI h ?_ ?_)<;>intro uN h
  ·refine zu (jb h fun x uY h=>jr (rx 0 [0] zrD.el uY rfl rfl rf) (jb h fun wQ uT h=>jr (rl 2 [1] 15 call175 (zrB uT) rf) (jb h fun v2 vn h=>jr (rc 2 rfl (lao 16 [] 5 17 [] [] zbd.el vn (.inl zfi)) rf) (zR ?_))));cases h;exact jy
  cases h;exact zaj rfl lzz
 refine zaE _ rfl (jp ?_);cases h;exact zy (lks [] [(16,2)] lzz)
theorem zpP (h:zlw out vh wire value=some r):zfZ prog 143 [.own Rp.byte 5 800000 [0] out,kI vh,kI wire,.sl Rp.byte [0] value] [.own Rp.byte 5 800000 [] r] [.any,.any,.any,.any]:=by
 refine zkQ (E:=⟨[(8,.own Rp.byte 5 800000 [] r)],[]⟩) 21 [] func143 rfl rfl rfl ⟨rfl,trivial⟩ ⟨.inl rfl,.inl rfl,.inl rfl,.inl rfl,trivial⟩ rfl (fun Xt old=>?_);refine zbw ?_;unfold zlw at h;refine jp (jb h fun rv uP h=>jr (rl 3 [0] 9 call137 (FnOk.le (ins':=[kN,kI vh,kI wire,.sl Rp.byte [0] value]) (zrx uP) ⟨zin _ _,wP _,wP _,wP _,trivial⟩) rf) (jb h fun v vc h=>jr (rc 2 rfl (lao 800000 [0] 5 11 [] [] zbd.el vc (.inl zfi)) rf) ?_));obtain rfl:=(sj h);exact zdw lzz
theorem zyv (h:zlA b vh value=some r):wO 179 [.sl Rp.byte [0] b,kI vh,.sl Rp.byte [0] value] [.own Rp.byte 5 2 [] r]:=by
 refine fi 22 func179 fun Xt=>?_
 unfold zlA at h;refine jp (jb h fun rv uP h=>jr (rl 3 [0] 12 call137 (zrx uP) rf) (jp (jI h ?_ ?_)))<;>intro uM h
 ·refine jb h fun wQ uT h=>jr (rc 1 rfl (zfR [.sl Rp.byte [0] b] 15 [0] ([b]:(List (List UInt8))) rfl zDY rfl rfl rfl rfl) (rl 0 [15,0] 14 call71 (zeh uT) rf)) ?_;obtain rfl:=(sj h);exact zy (lks [] [(16,2)] lzz)
 refine jp ?_;cases h;exact zy (lks [] [(14,2)] lzz)
theorem zjh (h:zdL vb sv va b d=some r):wO 12 [.sl zg [0] sv,kI va,.sl Rp.byte [0] b,kI d] [kI r.1,kI r.2]:=by
 refine fi 25 func12 fun Xt=>?_
 unfold zdL at h;refine jp (jb h fun rv uP h=>jr (rl 3 [0] 9 call30 (zpv uP) rf) (jp (jI h ?_ ?_)))<;>intro uM h
 ·cases h;exact jz
 refine jb h fun wQ uT h=>jr (rl 4 [0] 9 call31 (zoZ uT) rf) ?_;cases h;exact zy lzz
theorem zrd (v8:∀{sv:(List ze)} {va:Int} {b:(List UInt8)} {r:zd},xa sv va b=some r->wO 20 [.sl zg [0] sv,kI va,.sl Rp.byte [0] b] [.ag (zaz 3 [4] 5 [] r)]) (h:zfF xa sv va b=some r):wO 20 [.sl zg [0] sv,kI va,.sl Rp.byte [0] b] [.ag (zaz 3 [4] 5 [] r)]:=by
 refine fj ⟨[(6,.ptr 2 0)],[⟨2,47,(zaz 3 [4] 5 [] r)⟩]⟩ 221 func20 ⟨⟨_,_,rfl,rfl,rfl,zIn⟩,trivial⟩ fun Xt=>?_
 unfold zfF at h;refine jq [146] (jb h fun x uY h=>jb h fun rv uP h=>jr (rx 2 [0] zhp.el uY rfl rfl (rc 0 rfl (lde zg [0] x zyN) (rl 1 [0] 145 call35 (zrc uP) rf))) (jq [148] (jb h fun x2 vd h=>jb h fun wQ uT h=>jr (rx 2 [0] zhp.el vd rfl rfl (rc 0 rfl (lde zg [0] x2 zyN) (rl 0 [0] 147 call36 (znZ uT) rf))) (jp (zu (jb h fun q2 vl h=>jl vl [0,1,2,6,7,10,11] [146] (fun s=>[(12,kI s.1)]) (fun s=>[⟨148,47,[.own zw 79 193 [150] s.2,kN]⟩]) (fun o=> .X 0 [2,6,7,10] [146] [] [⟨148,47,[.own zw 79 193 [150] o,kN]⟩]) ?_ lw ?_))))))
 ·clear h;intro s o h;obtain ⟨i,f⟩:=s;replace h:zbR b xa va rv wQ sv i f=some o:=h;unfold zbR at h;refine jp (jI h ?_ ?_)<;>intro uM h
  ·refine zu (jb h fun x3 vm h=>jb h fun x4 vx h=>jb h fun x5 vD h=>jd [0,1,2,6,7,10,11,12,13] [146,148,236] zdo (by exact (lwn 2 (di [0] zhp.el vm (lw_e (lx (ldl zg [0] x3 1 zb x3.Fields) (lwn 2 (ly [.own wM 3 149 [] wQ,kI i] (zji rfl zjm.el (zcV _ _ _ _ _) vx) rfl (lw_e (di [0] zkv.el vD (lx (lde zb [0] x5 zoG) (lx (zpK 236 [kS [],kI 0,kI 0,kB false,kB false,kI 0] rfl zeroValue59 rfl) (ly [.ptr 236 0,.rc zb [0] x5] (zrP (r:=zb) (b:=⟨236,59,[kS [],kI 0,kI 0,kB false,kB false,kI 0]⟩) (off:=0) (zQ x5) rfl sizeOf59 rfl rfl rfl rfl) rfl l0)))))))))))) (jr (ra 2 [kI x5.Number] rfl (zzl [kI x5.Number] [kI x5.Number,kN,kN,kN] rfl zOE rfl) rfl (rfl' [237])) (jp (jp (jp (zu (jb h fun q uV h=>jl uV [0,1,2,6,7,10,11,12,13,14] [146,148,236] (fun s=>[(15,.own Rp.byte 5 249 [] s.1),(16,kB s.2.1),(17,kI s.2.2.1)]) (fun s=>[⟨237,79,[kI x5.Number,.own wN 90 240 [] s.2.2.2.1,.own Rp.str 9 251 [] s.2.2.2.2.1,.own zD 47 248 [238] s.2.2.2.2.2]⟩]) (fun o=> .X 2 [0,1,2,6,7,10,11,12,13,14] [146,148,236] [(15,.own Rp.byte 5 249 [] o.1),(16,kB o.2.1)] [⟨237,79,[kI x5.Number,.own wN 90 240 [] o.2.2.1,.own Rp.str 9 251 [] o.2.2.2.1,.own zD 47 248 [238] o.2.2.2.2]⟩]) ?_ lw ?_)))))))
   ·clear h;intro s o h;obtain ⟨kA,met,k,f3,f4,f5⟩:=s;replace h:zbS b i xa rv wQ sv x5 kA met k f3 f4 f5=some o:=h;unfold zbS at h;refine jp (jI h ?_ ?_)<;>intro uN h
    ·refine zu (jb h fun x6 vN h=>jb h fun x7 wz h=>jd [0,1,2,6,7,10,11,12,13,14,15,16,17,74] [146,148,236,237] zdo (by exact (lwn 2 (ly [.own zal 86 147 [] rv.1,kI k] (zji rfl ztE.el (zcV _ _ _ _ _) vN) rfl (lwn 4 (ly [.own wM 3 149 [] wQ,kI i] (zji rfl zjm.el (zcV _ _ _ _ _) wz) rfl l0))))) (jI h ?_ ?_))<;>intro uQ h
     ·refine zLq _ rfl ?_;cases h;exact jy
     refine jp (jb h fun x8 wB h=>jb h fun x9 wC h=>jb h fun v vc h=>jd [0,1,2,6,7,10,11,12,13,14,15,16,17,18] [146,148,236,237] zdo (by exact (lwn 3 (ly [.own zal 86 147 [] rv.1,kI k] (zji rfl ztE.el (zcV _ _ _ _ _) wB) rfl (lwn 5 (ly [.own zal 86 147 [] rv.1,kI k] (zji rfl ztE.el (zcV _ _ _ _ _) wC) rfl (lwn 3 (ly [.sl Rp.byte [0] b,kI x8.R.At,kI x9.R.To] (zgf (some (kI x8.R.At)) (some (kI x9.R.To)) rfl zbd.el (zbj _ _ _) ⟨rfl,rfl⟩ ⟨rfl,rfl⟩ vc) rfl l0))))))) (jp (jb h fun p vi h=>jn (.N [0,1,2,6,7,10,11,12,13,14,15,16,17,18] [146,148,236] [] [⟨237,79,[kI x5.Number,.own wN 90 240 [] p.1,.own Rp.str 9 251 [] p.2,.own zD 47 248 [238] f5]⟩]) ?_ ?_)))
     ·replace h:=vi;refine jI h ?_ ?_<;>intro uS h
      ·refine jp ?_;cases h;exact zS lw
      cases h;exact zS lzz
     refine zez (zu (jb h fun x10 wD h=>jr (ra 2 [.own zal 86 147 [] rv.1,kI k] rfl (zji rfl ztE.el (zcV _ _ _ _ _) wD) rfl rf) (jI h ?_ ?_)))<;>intro uU h
     ·refine jb h fun wV uZ h=>jr (rl 3 [0] 257 call37 (zoY uZ) rf) (jb h fun v2 vn h=>jr (rc 3 rfl (lao 240 [] 90 259 [] [] zrD.el vn (.inl (zio _))) rf) (zR (zR ?_)));cases h;exact jy
     refine jb h fun kc vf h=>jr (rl 2 [1] 258 call38 (zdg vf) rf) (jI h ?_ ?_)<;>intro uW h
     ·refine jb h fun rv5 vq h=>jr (rl 3 [0] 258 call39 (zjX vq) rf) (jb h fun v3 ve h=>jr (rc 3 rfl (zfR [kU rv5.1] 260 [] ([rv5.1]:(List Int)) rfl zrD rfl rfl rfl rfl) (rc 0 rfl (lao 240 [] 90 260 [] [] zrD.el ve (.inl (zio _))) rf)) (zR (zR ?_)));cases h;exact jy
     refine jg [0,1,2,6,7,10,11,12,13,14,15,16,17,18] [146,148,236,237] [(136,kB ((x5.Kind==17)&&x5.Repeated))] ?_ ?_
     ·refine (rsl 4 [] 140 (x5.Kind==17) ?_ ?_)<;>intro u0
      · exact (rbl [] 136 x5.Repeated rfl (by grind))
      exact (rbl [] 136 false rfl (by grind))
     refine jI h ?_ ?_<;>intro vg h
     ·refine jb h fun rv6 vI h=>jb h fun v5 vH h=>jd [0,1,2,6,7,10,11,12,13,14,15,16,17] [146,148,236,237] zdo (by exact (lwn 6 (lx (lf1 20 (lc0 259 call20 (v8 vI))) (lx (zz.lw (lbs1 265 [262,263,264] rv6 zDX) (.l (zmp zD [262,263,264] rv6 (zaz 262 [263] 264 [] rv6) (by rw [zfg]<;>rfl) rfl))) (ly [.own zD 47 248 [238] f5,.own zD 47 265 [262,263,264] ([rv6]:(List zd))] (zz.withBx (zAG 248 [238,265,262,263,264] rfl zDX.el rfl (zqC _ _ _ _ _) (zcV _ _ _ _ _) vH (.inr rfl) rfl) ⟨237,79,[kI x5.Number,.own wN 90 240 [] p.1,.own Rp.str 9 251 [] p.2,.own zD 47 248 [238] f5]⟩ rfl rfl) rfl (lw_e (ly [.ptr 237 3,.own zD 47 248 [238,265,262,263,264] v5] (zEG (b:=⟨237,79,[kI x5.Number,.own wN 90 240 [] p.1,.own Rp.str 9 251 [] p.2,.any]⟩) (off:=3) rfl sizeOf77 rfl rfl rfl) rfl l0))))))) (zR (zR (jp ?_)));cases h;exact zS (lks [146,148,236,237] [(265,238),(262,238),(263,238),(264,238)] lw)
     refine jp (jI h ?_ ?_)<;>intro vj h
     ·refine jb h fun v6 vL h=>jr (rc 2 rfl (las 249 [] [0] [] zbd.el vL (.inl zfi)) rf) (zR (zR ?_));cases h;exact jy
     refine jb h fun v7 wE h=>jr (ra 3 [.sl Rp.byte [0] v] rfl (zpL rfl underlying24 underlying5 underlying9 (zbj _ _ _)) rfl (rc 0 rfl (zfR [kS v] 266 [] ([v]:(List Str)) rfl zvh rfl rfl rfl rfl) (rc 0 rfl (lao 251 [] 9 266 [] [] zvh.el wE (.inl zzz)) rf))) (zR (zR ?_));cases h;exact jy
    cases h;exact zaj rfl lzz
   refine zaE _ rfl (jg [0,1,2,6,7,10,11,12,13,14,15] [146,148,236,237] [(171,kB (q.2.1&&((x5.Kind==17)&&(!x5.Repeated))))] ?_ ?_)
   ·refine (rsl 2 [] 162 q.2.1 ?_ ?_)<;>intro vk
    ·refine (rsl 5 [] 167 (x5.Kind==17) ?_ ?_)<;>intro vu
     · exact (rbl [] 171 (!x5.Repeated) rfl (by grind))
     exact (rbl [] 171 false rfl (by grind))
    exact (rbl [] 171 false rfl (by grind))
   refine jb h fun p2 vz h=>jn (.N [0,1,2,6,7,10,11,12,14] [146,148] [] [⟨237,79,[kI x5.Number,.own wN 90 240 [] q.2.2.1,.own Rp.str 9 251 [] q.2.2.2.1,.own zD 47 271 [268,269,270,238] p2]⟩]) ?_ ?_
   ·replace h:=vz;refine jI h ?_ ?_<;>intro vp h
    ·refine jb h fun rv7 vO h=>jr (rl 4 [0,249] 270 call20 (v8 vO) (rc 0 rfl (zz.lw (lbs1 276 [273,274,275] rv7 zDX) (.l (zmp zD [273,274,275] rv7 (zaz 273 [274] 275 [] rv7) (by rw [zfg]<;>rfl) rfl))) rf)) ?_;cases h;exact zS (lks [146,148,237] [(276,271),(273,238),(274,238),(275,238)] lw)
    cases h;exact zS (lks [146,148,237] [(248,271)] lw)
   refine zez (jb h fun rv8 vP h=>jr (rc 1 rfl (lcz [.ag [kI x5.Number,.own wN 90 240 [] q.2.2.1,.own Rp.str 9 251 [] q.2.2.2.1,.own zD 47 271 [268,269,270,238] p2]] 275 call40 (zpw vP) (.c (zeN _) .n)) rf) (jI h ?_ ?_))<;>intro vt h
   ·refine jb h fun v9 wF h=>jr (rc 3 rfl (zz.lw (lbs1 277 [240,251,271,268,269,270,238] (⟨x5.Number,q.2.2.1,q.2.2.2.1,p2⟩:zc) zGX) (.l (zmp zw [240,251,271,268,269,270,238] (⟨x5.Number,q.2.2.1,q.2.2.2.1,p2⟩:zc) [kI x5.Number,.own wN 90 240 [] q.2.2.1,.own Rp.str 9 251 [] q.2.2.2.1,.own zD 47 271 [268,269,270,238] p2] (by rw [zeN]<;>rfl) rfl))) (rc 0 rfl (lao 193 [150] 79 277 [240,251,271,268,269,270,238] [150,277,240,251,271,268,269,270,238] zGX.el wF (.inr rfl)) rf)) (zR (jp ?_));cases h;exact zS (lks [146,148] [(277,150),(240,150),(251,150),(271,150),(268,150),(269,150),(270,150),(238,150)] lw)
   refine zR ?_;cases h;exact jy
  cases h;exact zaj rfl lzz
 refine zaE _ rfl (jp (zu (jb h fun q3 vM h=>jl vM [2,6,7,10] [146] (fun s=>[(23,kI s.1)]) (fun s=>[⟨148,47,[.own zw 79 193 [150] q2,.own Rp.str 9 280 [] s.2]⟩]) (fun o=> .X 5 [6,10] [146] [] [⟨148,47,[.own zw 79 193 [150] q2,.own Rp.str 9 280 [] o]⟩]) ?_ lw ?_)))
 ·clear h;intro s o h;obtain ⟨k2,f12⟩:=s;replace h:zaX b rv k2 f12=some o:=h;unfold zaX at h;refine jp (jI h ?_ ?_)<;>intro vv h
  ·refine zu (jb h fun x11 wG h=>jr (ra 2 [.own zal 86 147 [] rv.1,kI k2] rfl (zji rfl ztE.el (zcV _ _ _ _ _) wG) rfl rf) (jI h ?_ ?_))<;>intro vr h
   ·refine jb h fun x12 wH h=>jb h fun x13 wI h=>jb h fun v10 wK h=>jb h fun v11 wL h=>jd [2,6,7,10,23] [146,148] zdo (by exact (lwn 5 (ly [.own zal 86 147 [] rv.1,kI k2] (zji rfl ztE.el (zcV _ _ _ _ _) wH) rfl (lwn 5 (ly [.own zal 86 147 [] rv.1,kI k2] (zji rfl ztE.el (zcV _ _ _ _ _) wI) rfl (lwn 3 (ly [.sl Rp.byte [0] b,kI x12.R.From,kI x13.R.To] (zgf (some (kI x12.R.From)) (some (kI x13.R.To)) rfl zbd.el (zbj _ _ _) ⟨rfl,rfl⟩ ⟨rfl,rfl⟩ wK) rfl (ly [.sl Rp.byte [0] v10] (zpL rfl underlying24 underlying5 underlying9 (zbj _ _ _)) rfl (lx (zfR [kS v10] 281 [] ([v10]:(List Str)) rfl zvh rfl rfl rfl rfl) (ly [.own Rp.str 9 280 [] f12,.own Rp.str 9 281 [] ([v10]:(List Str))] (zz.withBx (zAG 280 [] rfl zvh.el rfl (zqC _ _ _ _ _) (zcV _ _ _ _ _) wL (.inl zzz) rfl) ⟨148,47,[.own zw 79 193 [150] q2,.own Rp.str 9 280 [] f12]⟩ rfl rfl) rfl (lw_e (ly [.ptr 148 1,.own Rp.str 9 280 [] v11] (zEG (b:=⟨148,47,[.own zw 79 193 [150] q2,.any]⟩) (off:=1) rfl sizeOf45 rfl rfl rfl) rfl l0)))))))))))) (zR ?_);cases h;exact jy
   refine zR ?_;cases h;exact jy
  cases h;exact zaj rfl lzz
 refine zaE _ rfl (jp ?_);cases h;exact zy (lks [146] [(146,2),(193,3),(280,5),(150,4)] lzz)
theorem zll (h:zcC vb sv va b=some r):wO 20 [.sl zg [0] sv,kI va,.sl Rp.byte [0] b] [.ag (zaz 3 [4] 5 [] r)]:=by
  induction vb generalizing sv va b r with
  | zero=>exact absurd h nofun
  | succ vb ih=>exact zrd (fun hh=>ih hh) h
end Go.Proofs.YtaglemhabeipfaaGreat

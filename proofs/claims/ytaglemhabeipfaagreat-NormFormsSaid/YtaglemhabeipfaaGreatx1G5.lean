/-
  The Go functions do what the plain functions say. No condition.
-/
import Derived.Test.YtaglemhabeipfaaGreatx1G4
set_option autoImplicit true
set_option relaxedAutoImplicit true
namespace Go.Proofs.YtaglemhabeipfaaGreat
open Tryz
open Go Go.RowKit
set_option linter.unusedVariables false
set_option maxRecDepth 100000
set_option maxHeartbeats 3200000
theorem zwU (h:zjL sv=some r):kg 99 [.sl zd [0] sv] [.rc zet [] r.1,k8 r.2]:=by
 refine fj ⟨[(2,.ptr 2 0),(3,k8 r.2)],[⟨2,178,(zpW r.1)⟩]⟩ 62 func99 ⟨⟨_,_,rfl,rfl,rfl,rfl,zOX⟩,rfl,trivial⟩ fun Xt=>?_
 unfold zjL at h;refine jq [12] (jg [0,2] [12] [(18,kB ((decide ((sv.length:Int)<1))|| (decide ((sv.length:Int)>100))))] ?_ ?_)
 ·refine (rsl 4 [] 14 (decide ((sv.length:Int)<1)) ?_ ?_)<;>intro uY
  · exact (rbl [] 18 true rfl (by grind))
  exact (rbl [] 18 (decide ((sv.length:Int)>100)) rfl (by grind))
 refine jI h ?_ ?_<;>intro uZ h
 ·refine jr (rc 0 rfl (zM (r:=zet) [kI (-1),kI (-1),kI 1] [] (⟨(-1),(-1),1⟩:zau) rfl zDt rfl rfl) rf) ?_;cases h;exact zx (lks [12] [(12,2)] lzz)
 refine jb h fun rv u9 h=>jr (rl 2 [1] 11 call131 (zEE u9) (rc 0 rfl (zms (rk:=zC) (rv:=Rp.bool) 14 rfl) (rc 0 rfl (zms (rk:=zf) (rv:=Rp.bool) 15 rfl) (rc 0 rfl (lbd [kI (sv.length:Int),.own kd 3 13 [] rv,.om zC Rp.bool 14 [] ([]:(List (zv×Bool))),.om zf Rp.bool 15 [] ([]:(List (zg×Bool)))] zPS) (rfl' [16]))))) (jp (zr (jb h fun q2 vE h=>jl vE [2,4,26,27] [12] (fun s=>[(28,kI s.1)]) (fun s=>[⟨16,218,[kI (sv.length:Int),.own kd 3 13 [] rv,.om zC Rp.bool 14 [13,0] s.2.1,.om zf Rp.bool 15 [13,0] s.2.2]⟩]) (fun| (.inl v_)=> .X 0 [2] [12] [] []| (.inr v_)=> .r ⟨[(2,.ptr 12 0),(3,k8 9)],[⟨12,178,[kI v_.1,kI v_.2.1,kI v_.2.2]⟩]⟩) ?_ lw ?_)))
 ·clear h;intro s o h;obtain ⟨v2,f,f2⟩:=s;replace h:zbn rv sv v2 f f2=some o:=h;unfold zbn at h;refine jp (jI h ?_ ?_)<;>intro va h
  ·refine zr (jb h fun x vi h=>jr (rx 1 [0] zgS.el vi rfl rfl (rc 0 rfl (lde zd [0] x zwf) (ral 2 [18] [.ptr 18 0,.rc zd [0] x] rfl (zto (r:=zd) (b:=⟨18,62,[kS [],kN]⟩) (off:=0) (zU [0] x) rfl sizeOf62 rfl rfl rfl rfl) rfl rf))) (jb h fun kr vm h=>jr (rkl 2 [] ⟨[(2,.ptr 12 0),(4,.ptr 16 0),(5,kI v2),(6,.ptr 18 0),(26,.sl zd [0] sv),(27,kI (sv.length:Int)),(28,kI v2),(33,.ag [kI (sv.length:Int),.own kd 3 13 [] rv,.om zC Rp.bool 14 [13,0] f,.om zf Rp.bool 15 [13,0] f2]),(34,.ag (zU [0] x))],[⟨12,178,[kI 0,kI 0,kI 0]⟩,⟨16,218,[kI (sv.length:Int),.own kd 3 13 [] rv,.om zC Rp.bool 14 [13,0] f,.om zf Rp.bool 15 [13,0] f2]⟩,⟨18,62,(zU [0] x)⟩]⟩ (ziI ⟨[(2,.ptr 12 0),(4,.ptr 16 0),(5,kI v2),(6,.ptr 18 0),(26,.sl zd [0] sv),(27,kI (sv.length:Int)),(28,kI v2),(33,.ag [kI (sv.length:Int),.own kd 3 13 [] rv,.om zC Rp.bool 14 [13,0] kr.2.1,.om zf Rp.bool 15 [13,0] kr.2.2]),(34,.ag (zU [0] x))],[⟨12,178,[kI 0,kI 0,kI 0]⟩,⟨16,218,[kI (sv.length:Int),.own kd 3 13 [] rv,.om zC Rp.bool 14 [13,0] kr.2.1,.om zf Rp.bool 15 [13,0] kr.2.2]⟩,⟨18,62,(zU [0] x)⟩]⟩ (zni.le (ins':=[(.tmp 33,.ag [kI (sv.length:Int),.own kd 3 13 [] rv,.om zC Rp.bool 14 [13,0] f,.om zf Rp.bool 15 [13,0] f2]),(.tmp 34,.ag (zU [0] x))]) (zlH (args:=[.tmp 33,.tmp 34]) [.ag [kI (sv.length:Int),.own kd 3 13 [] rv,.om zC Rp.bool 14 [13,0] f,.om zf Rp.bool 15 [13,0] f2],.rc zd [0] x] [(14,2),(15,3)] [13,0] 19 [] rfl call132 (zoN vm) rfl rfl (by kernel_rfl) rfl rfl rfl) ⟨⟨rfl,kh _⟩,⟨rfl,zlC zd [0] x (zU [0] x) rfl rfl⟩,trivial⟩) rfl (by kernel_rfl) (by kernel_rfl) ⟨⟨_,rfl,zq rfl⟩,⟨_,rfl,zq rfl⟩,⟨_,rfl,zq rfl⟩,⟨_,rfl,zq rfl⟩,⟨_,rfl,zq rfl⟩,⟨_,rfl,zq rfl⟩,⟨_,rfl,zq rfl⟩,⟨_,rfl,ziB ⟨zq rfl,zq rfl,zeF 0 rfl,zeF 1 rfl,trivial⟩⟩,⟨_,rfl,zq rfl⟩,trivial⟩ ⟨⟨_,rfl,rfl,rfl,⟨zq rfl,zq rfl,zq rfl,trivial⟩⟩,⟨_,rfl,rfl,rfl,⟨zq rfl,zq rfl,zeF 0 rfl,zeF 1 rfl,trivial⟩⟩,⟨_,rfl,rfl,rfl,⟨zq rfl,zq rfl,trivial⟩⟩,trivial⟩ rf)) (jp (jI h ?_ ?_))))<;>intro vd h
   ·refine jr (rc 2 rfl (zM (r:=zet) [kI v2,kI (-1),kI kr.1] [] (⟨v2,(-1),kr.1⟩:zau) rfl zDt rfl rfl) rf) ?_;cases h;exact zrZ lzz
   refine jp (zr (jb h fun q ve h=>jl ve [2,4,5,26,27,28,42,43] [12] (fun s=>[(44,kI s.1)]) (fun s=>[⟨16,218,[kI (sv.length:Int),.own kd 3 13 [] rv,.om zC Rp.bool 14 [13,0] s.2.1,.om zf Rp.bool 15 [13,0] s.2.2]⟩]) (fun| (.inl v_)=> .X 2 [2,4,26,27,28] [12] [] [⟨16,218,[kI (sv.length:Int),.own kd 3 13 [] rv,.om zC Rp.bool 14 [13,0] v_.1,.om zf Rp.bool 15 [13,0] v_.2]⟩]| (.inr v_)=> .r ⟨[(2,.ptr 12 0),(3,k8 9)],[⟨12,178,[kI v2,kI v_.1,kI v_.2]⟩]⟩) ?_ lzz ?_))
   ·clear h;intro s o h;obtain ⟨v3,f6,f7⟩:=s;replace h:zcT rv sv v2 x v3 f6 f7=some o:=h;unfold zcT at h;refine jp (jI h ?_ ?_)<;>intro vf h
    ·refine zr (jb h fun x2 vr h=>jr (rx 1 [0] zkc.el vr rfl rfl (rc 0 rfl (lde zb [0] x2 zoj) (rfl' [24]))) (jb h fun rv5 vG h=>jr (lb 2 zb [] x2 (rkl 0 [] ⟨[(2,.ptr 12 0),(4,.ptr 16 0),(5,kI v2),(8,kI v3),(26,.sl zd [0] sv),(27,kI (sv.length:Int)),(28,kI v2),(42,.sl zb [0] x.Fields),(43,kI (x.Fields.length:Int)),(44,kI v3),(49,.ag [kI (sv.length:Int),.own kd 3 13 [] rv,.om zC Rp.bool 14 [13,0] f6,.om zf Rp.bool 15 [13,0] f7]),(50,kI v2),(51,.rc zb [] x2)],[⟨12,178,[kI 0,kI 0,kI 0]⟩,⟨16,218,[kI (sv.length:Int),.own kd 3 13 [] rv,.om zC Rp.bool 14 [13,0] f6,.om zf Rp.bool 15 [13,0] f7]⟩]⟩ (ziI ⟨[(2,.ptr 12 0),(4,.ptr 16 0),(5,kI v2),(8,kI v3),(26,.sl zd [0] sv),(27,kI (sv.length:Int)),(28,kI v2),(42,.sl zb [0] x.Fields),(43,kI (x.Fields.length:Int)),(44,kI v3),(49,.ag [kI (sv.length:Int),.own kd 3 13 [] rv,.om zC Rp.bool 14 [13,0] rv5.2.1,.om zf Rp.bool 15 [13,0] rv5.2.2]),(50,kI v2),(51,.rc zb [] x2)],[⟨12,178,[kI 0,kI 0,kI 0]⟩,⟨16,218,[kI (sv.length:Int),.own kd 3 13 [] rv,.om zC Rp.bool 14 [13,0] rv5.2.1,.om zf Rp.bool 15 [13,0] rv5.2.2]⟩]⟩ (zlH [.ag [kI (sv.length:Int),.own kd 3 13 [] rv,.om zC Rp.bool 14 [13,0] f6,.om zf Rp.bool 15 [13,0] f7],kI v2,.rc zb [] x2] [(14,2),(15,3)] [13,0] 25 [] rfl call133 (zql vG) rfl rfl (by kernel_rfl) rfl rfl rfl) rfl (by kernel_rfl) (by kernel_rfl) ⟨⟨_,rfl,zq rfl⟩,⟨_,rfl,zq rfl⟩,⟨_,rfl,zq rfl⟩,⟨_,rfl,zq rfl⟩,⟨_,rfl,zq rfl⟩,⟨_,rfl,zq rfl⟩,⟨_,rfl,zq rfl⟩,⟨_,rfl,zq rfl⟩,⟨_,rfl,zq rfl⟩,⟨_,rfl,zq rfl⟩,⟨_,rfl,ziB ⟨zq rfl,zq rfl,zeF 0 rfl,zeF 1 rfl,trivial⟩⟩,⟨_,rfl,zq rfl⟩,⟨_,rfl,zq rfl⟩,trivial⟩ ⟨⟨_,rfl,rfl,rfl,⟨zq rfl,zq rfl,zq rfl,trivial⟩⟩,⟨_,rfl,rfl,rfl,⟨zq rfl,zq rfl,zeF 0 rfl,zeF 1 rfl,trivial⟩⟩,trivial⟩ rf))) (jp (jI h ?_ ?_))))<;>intro vk h
     ·refine jr (rc 3 rfl (zM (r:=zet) [kI v2,kI v3,kI rv5.1] [] (⟨v2,v3,rv5.1⟩:zau) rfl zDt rfl rfl) rf) ?_;cases h;exact zrZ lzz
     refine zK ?_;cases h;exact jy
    cases h;exact zae rfl lzz
   rcases q with u| u2
   ·refine zar _ rfl (zK ?_);cases h;exact jy
   cases h;exact zCE lzz
  cases h;exact zae rfl lzz
 rcases q2 with u3| u4
 ·refine zar _ rfl (jr (rc 0 rfl (zM (r:=zet) [] [] (⟨0,0,0⟩:zau) rfl zDt rfl rfl) rf) ?_);cases h;exact zx (lks [12] [(12,2)] lzz)
 cases h;exact zgY (lks [12] [(12,2)] lzz)
theorem zvc (h:zlX m b vh met=some r):ziS prog 82 [.rc zd [0] m,.sl Rp.byte [0] b,kI vh,.om zY zZ 2 [0] met] [.rc zk [] r.1,k8 r.2.1] [.any,.any,.any,.om zY zZ 2 [0] r.2.2]:=by
 refine zkn (E:=⟨[(3,.om zY zZ 2 [0] r.2.2),(8,.ptr 3 0),(9,k8 r.2.1)],[⟨3,68,(zeV r.1)⟩]⟩) 56 [3] func82 rfl rfl rfl ⟨⟨_,_,rfl,rfl,rfl,rfl,zDJ⟩,rfl,trivial⟩ ⟨.inl rfl,.inl rfl,.inl rfl,.inr ⟨rfl,rfl⟩,trivial⟩ rfl (fun Xt old=>?_);refine zbE ?_;unfold zlX at h;refine jr (ra 0 [.rc zd [0] m] rfl (zjy 13 (zU [0] m) [0] rfl rfl rfl rfl rfl) rfl (rfl' [14])) (jb h fun rv u9 h=>jr (rl 2 [0] 13 call111 (zjG u9) (rfl' [15])) (jp (jI h ?_ ?_)))<;>intro uY h
 ·refine jr (rc 0 rfl (zM (r:=zk) [] [] (⟨(⟨0,0,0,0,0⟩:zj),0,false⟩:zi) rfl zFA rfl rfl) rf) ?_;cases h;exact zdP (lks [14] [(14,3)] lzz)
 refine jr (rc 4 rfl (zM (r:=zY) [kI rv.1.Number,kI rv.1.Wire] [] (⟨rv.1.Number,rv.1.Wire⟩:zL) rfl zPW rfl rfl) (rfl' [16])) (jr (lb 1 zY [] (⟨rv.1.Number,rv.1.Wire⟩:zL) (ra 0 [.om zY zZ 2 [0] met,.rc zY [] (⟨rv.1.Number,rv.1.Wire⟩:zL)] rfl (zsc (rk:=zY) (rv:=zZ) (m:=met) (k:=(⟨rv.1.Number,rv.1.Wire⟩:zL)) (.rc zZ [0] ((mget met (⟨rv.1.Number,rv.1.Wire⟩:zL)).getD (⟨0,false,0⟩:zQ))) rfl zIp (zcN rfl) (zCx rfl)) rfl (rfl' [17]))) (jp (jb h fun p vD h=>jn (.N [8,10,13] [14,15] [(3,.om zY zZ 2 [0] p.1)] [⟨17,197,[kI p.2.1,kB p.2.2.1,k8 p.2.2.2]⟩]) ?_ ?_)))
 ·replace h:=vD;refine jI h ?_ ?_<;>intro uZ h
  ·refine jb h fun kj vb h=>jr (lb 1 zY [] (⟨rv.1.Number,rv.1.Wire⟩:zL) (rl 0 [0] 16 call117 (zzU vb) rf)) (jr (lb 1 zY [] (⟨rv.1.Number,rv.1.Wire⟩:zL) (lb 0 zZ [] kj (rms (C1:=[]) (D:=[]) 0 [] 2 [0] met (⟨rv.1.Number,rv.1.Wire⟩:zL) kj [0] zIp (zcN rfl) (zcN rfl) rf))) ?_);cases h;exact zV lzz
  cases h;exact zV lzz
 refine zez (jp (jI h ?_ ?_))<;>intro va h
 ·refine jd [3,8,9] [14] zcw (by exact (lx (zM (r:=zk) [] [] (⟨(⟨0,0,0,0,0⟩:zj),0,false⟩:zi) rfl zFA rfl rfl) (lwn 2 (ly [.ptr 14 0,.rc zk [] (⟨(⟨0,0,0,0,0⟩:zj),0,false⟩:zi)] (zto (r:=zk) (b:=⟨14,68,[kI 0,kI 0,kI 0,kI 0,kI 0,kI 0,kB false]⟩) (off:=0) [kI 0,kI 0,kI 0,kI 0,kI 0,kI 0,kB false] rfl sizeOf68 rfl rfl rfl rfl) rfl l0)))) ?_;cases h;exact zdP (lks [14] [(14,3)] lzz)
 refine jr (lb 0 zp [] rv.1 (rc 4 rfl (zM (r:=zk) [.rc zp [] rv.1,kI p.2.1,kB p.2.2.1] [] (⟨rv.1,p.2.1,p.2.2.1⟩:zi) rfl zFA rfl rfl) rf)) ?_;cases h;exact zdP (lks [14] [(14,3)] lzz)
theorem zpQ (v:Int) (v2:(List UInt8)):ItOk prog 199 [.bp kd 3 919900 [] v,.bp (Rp.list Rp.byte) 24 919901 [0] v2] (fun x:((List UInt8)×Int)=>[.sl Rp.byte [0] x.1,k8 x.2]) (fun {σ:Type} (kf:Rnd σ ((List UInt8)×Int)) (sg:σ)=>zff v v2 kf sg):=by
 refine zLb 38 [(1,.ptr 919900 0),(2,.ptr 919901 0)] [⟨919900,3,[kI v]⟩,⟨919901,24,[.sl Rp.byte [0] v2]⟩] func199 rfl rfl rfl rfl (.cons kd 3 919900 [] v [kI v] rfl rfl (.cons (Rp.list Rp.byte) 24 919901 [0] v2 [.sl Rp.byte [0] v2] rfl rfl (.nil _))) ?_;intro σ kf sg s1 h l I hI F_ hT;replace h:zff v v2 kf sg=some s1:=h;refine zbE (zqO (E':=⟨[(0,.lf (.val (.func (.yield l) #[] #[]))),(1,.ptr 919900 0),(2,.ptr 919901 0)],[⟨919900,3,[kI v]⟩,⟨919901,24,[.sl Rp.byte [0] v2]⟩]⟩) (fun _ _ _ hs=>hs) ?_);unfold zff at h;refine jb h fun rv u9 h=>jr (rl 1 [1] 9 call174 (zuN u9) rf) (jp (jI h ?_ ?_))<;>intro uY h
 ·refine jb h fun y vT h=>zEy (E':=⟨[],[]⟩) (x:=(([]:(List UInt8)),2)) (b:=y.1) (s':=y.2) 1 (some 13) [.const (.slice none 0 0),.const (.int .u8 2)] [kN,k8 2] [.sl Rp.byte [0] ([]:(List UInt8)),k8 2] ⟨[(12,.lf (.val (.func (.yield l) #[] #[])))],[]⟩ hT rfl rfl rfl rfl rfl rgg rfl ⟨rfl,⟨rfl,trivial⟩⟩ rfl ⟨ziZ _ _,kh _,trivial⟩ rfl rfl vT rgg ?_;cases h;exact zPk lzz
 refine jp (zr (jb h fun q ve h=>zLd (fun s:((List UInt8)×σ)=>zcm kf rv s.1 s.2) (fun s=>⟨⟨38,[]⟩,itX I hI F_ s.2,false,#[]⟩) (fun s=>⟨[(0,.lf (.val (.func (.yield l) #[] #[]))),(4,kI rv),(5,.sl Rp.byte [0] s.1)],[]⟩) (fun o e a w=>match o with| (.inl v_)=>e= .exit 0/\Sx ⟨⟨38,[]⟩,itX I hI F_ v_,false,#[]⟩ ⟨[],[]⟩ a w| (.inr v_)=>e= .ret/\Sx ⟨⟨38,[]⟩,itX I hI F_ v_,false,#[]⟩ ⟨[],[]⟩ a w) ?_ ve rfl lzz ?_))
 ·clear h;intro s o h;obtain ⟨kl,sg2⟩:=s;refine zbE ?_;replace h:zcm kf rv kl sg2=some o:=h;unfold zcm at h;refine jp (jI h ?_ ?_)<;>intro uZ h
  ·refine zr (jb h fun kj vb h=>jr (rl 2 [0] 10 call200 (zDn vb) rf) (jb h fun v3 vu h=>jb h fun y2 vR h=>zEy (E':=⟨[(0,.lf (.val (.func (.yield l) #[] #[]))),(4,kI rv),(5,.sl Rp.byte [0] kl),(6,kI kj.1),(34,kB ((!y2.1)|| (kj.2 !=0)))],[]⟩) (x:=(v3,kj.2)) (b:=y2.1) (s':=y2.2) 5 (some 29) [.tmp 27,.tmp 28] [.sl Rp.byte [0] v3,k8 kj.2] [.sl Rp.byte [0] v3,k8 kj.2] ⟨[(0,.lf (.val (.func (.yield l) #[] #[]))),(4,kI rv),(5,.sl Rp.byte [0] kl),(6,kI kj.1),(7,k8 kj.2),(24,.lf (.val (.func (.yield l) #[] #[]))),(27,.sl Rp.byte [0] v3),(28,k8 kj.2)],[]⟩ hT rfl rfl rfl rfl rfl (ra 3 [.sl Rp.byte [0] kl,kI kj.1] rfl (zfO none (some (kI kj.1)) rfl zap.el (zbd _ _ _) ⟨rfl,rfl⟩ ⟨rfl,rfl⟩ vu) rfl rgg) rfl ⟨rfl,⟨rfl,trivial⟩⟩ rfl ⟨kh _,kh _,trivial⟩ rfl rfl vR ?_ ?_))
   ·refine (rsl 2 [] 31 (!y2.1) ?_ ?_)<;>intro va
    · exact (rbl [] 34 true rfl (by grind))
    exact (rbl [] 34 (kj.2 !=0) rfl (by grind))
   refine jI h ?_ ?_<;>intro vd h
   ·cases h;exact zrZ lzz
   refine jb h fun v5 vU h=>jr (ra 2 [.sl Rp.byte [0] kl,kI kj.1] rfl (zfO (some (kI kj.1)) none rfl zap.el (zbd _ _ _) ⟨rfl,rfl⟩ ⟨rfl,rfl⟩ vU) rfl rf) (zK ?_);cases h;exact zV lzz
  cases h;exact zae rfl lzz
 rcases q with u| u2
 ·refine zar _ rfl ?_;cases h;exact zPj lzz
 cases h;exact zPm lzz
theorem zyP (h:zkY f before b rv=some r):zgA prog 79 [.rc zb [0] f,.cu (mxC Rp.byte 5 before) 801000 [0] [],.sl Rp.byte [0] b,.rc zp [0] rv] [.cu (mxC Rp.byte 5 r) 801000 [0] []] [.any,.any,.any,.any]:=by
 refine zlJ (E:=⟨[(8,.cu (mxC Rp.byte 5 r) 801000 [0] [])],[]⟩) 51 [] func79 rfl rfl rfl ⟨rfl,trivial⟩ ⟨.inl rfl,.inl rfl,.inl rfl,.inl rfl,trivial⟩ rfl (fun Xt old=>?_);refine zbE ?_;unfold zkY at h;refine jq [11,12] (jp (jb h fun g u0 h=>jg [1,2,4,7,9] [11,12] [(20,kB g)] ?_ ?_))
 ·refine (rsI 3 15 u0 ?_ ?_)<;>intro uY u0
  ·refine jb u0 fun kj vb u0=>?_;cases u0;exact (rl 2 [1] 11 call113 (zoD vb) (rel [] lzz))
  cases u0;exact (rel [] lzz)
 refine jb h fun p vD h=>jn (.N [1,2,4,7] [11,12] [(9,kI p)] []) ?_ ?_
 ·replace h:=vD;refine jI h ?_ ?_<;>intro uZ h
  ·cases h;exact jy
  cases h;exact zV lzz
 refine zez (jg [1,2,7,9] [12] [(10,kB ((!f.Repeated)&&(f.Kind !=17)))] ?_ ?_)
 ·refine (rsl 4 [] 26 (!f.Repeated) ?_ ?_)<;>intro va
  · exact (rbl [] 10 (f.Kind !=17) rfl (by grind))
  exact (rbl [] 10 false rfl (by grind))
 refine jg [1,2,7,9] [12] [(36,kB (((!f.Repeated)&&(f.Kind !=17))|| ((before.length:Int)==0)))] ?_ ?_
 ·refine (rsl 2 [] 32 ((!f.Repeated)&&(f.Kind !=17)) ?_ ?_)<;>intro vd
  · exact (rbl [] 36 true rfl (by grind))
  exact (ra 1 [.cu (mxC Rp.byte 5 before) 801000 [0] []] rfl (zND rfl underlying24) rfl (rbl [] 36 ((before.length:Int)==0) rfl (by grind)))
 refine jI h ?_ ?_<;>intro vf h
 ·refine jb h fun v3 vu h=>jr (ra 6 [.sl Rp.byte [0] b,kI p,kI rv.To,kI rv.To] rfl (zNC 5 801000 rfl zap.el (zbd _ _ _) vu) rfl rf) ?_;obtain rfl:=(sj h);exact zdP lzz
 refine jb h fun v4 vK h=>jb h fun v5 vU h=>jr (ra 5 [.sl Rp.byte [0] b,kI p,kI rv.To] rfl (zfO (some (kI p)) (some (kI rv.To)) rfl zap.el (zbd _ _ _) ⟨rfl,rfl⟩ ⟨rfl,rfl⟩ vK) rfl (ra 0 [.cu (mxC Rp.byte 5 before) 801000 [0] [],.sl Rp.byte [0] v4] rfl (zNz [0] rfl zap.el rfl (zbd _ _ _) vU (.inl zaI) rfl) rfl rf)) ?_;obtain rfl:=(sj h);exact zdP lzz
theorem zFu (h:zrA k l=some r):kg 135 [kI k,.sl ke [0] l] [.own Rp.byte 5 2 [] r.1,k8 r.2]:=by
 refine fi 31 func135 fun Xt=>?_
 unfold zrA at h;refine jp (jb h fun rv u9 h=>jr (rl 1 [1] 12 call174 (zuN u9) rf) (jI h ?_ ?_))<;>intro uY h
 ·refine jp ?_;cases h;exact zx lw
 refine jp (jp (zr (jb h fun q ve h=>jL ve [0,14,15] [] (fun s=>[(6,.own Rp.byte 5 16 [] s.1),(16,kI s.2)]) (fun o=> .x 0 ⟨[(6,.own Rp.byte 5 16 [] o)],[]⟩) ?_ lw ?_)))
 ·clear h;intro s o h;obtain ⟨b,v⟩:=s;replace h:zgP k l b v=some o:=h;unfold zgP at h;refine jp (jI h ?_ ?_)<;>intro uZ h
  ·refine zr (jb h fun x vi h=>jr (rx 0 [0] ztb.el vi rfl rfl rf) (jb h fun kj vb h=>jr (rl 2 [1] 15 call175 (zsY vb) rf) (jb h fun v2 vx h=>jr (rc 2 rfl (lao 16 [] 5 17 [] [] zap.el vx (.inl zaI)) rf) (zK ?_))));cases h;exact jy
  cases h;exact zae rfl lzz
 refine zar _ rfl (jp ?_);cases h;exact zx (lks [] [(16,2)] lzz)
theorem zrc (h:zmw out vq wire value=some r):zgA prog 143 [.own Rp.byte 5 800000 [0] out,kI vq,kI wire,.sl Rp.byte [0] value] [.own Rp.byte 5 800000 [] r] [.any,.any,.any,.any]:=by
 refine zlJ (E:=⟨[(8,.own Rp.byte 5 800000 [] r)],[]⟩) 21 [] func143 rfl rfl rfl ⟨rfl,trivial⟩ ⟨.inl rfl,.inl rfl,.inl rfl,.inl rfl,trivial⟩ rfl (fun Xt old=>?_);refine zbE ?_;unfold zmw at h;refine jp (jb h fun rv u9 h=>jr (rl 3 [0] 9 call137 (FnOk.le (ins':=[kN,kI vq,kI wire,.sl Rp.byte [0] value]) (zsV u9) ⟨ziZ _ _,kh _,kh _,kh _,trivial⟩) rf) (jb h fun v vn h=>jr (rc 2 rfl (lao 800000 [0] 5 11 [] [] zap.el vn (.inl zaI)) rf) ?_));obtain rfl:=(sj h);exact zdP lzz
theorem zAr (h:zmA b vq value=some r):kg 179 [.sl Rp.byte [0] b,kI vq,.sl Rp.byte [0] value] [.own Rp.byte 5 2 [] r]:=by
 refine fi 22 func179 fun Xt=>?_
 unfold zmA at h;refine jp (jb h fun rv u9 h=>jr (rl 3 [0] 12 call137 (zsV u9) rf) (jp (jI h ?_ ?_)))<;>intro uY h
 ·refine jb h fun kj vb h=>jr (rc 1 rfl (zfe [.sl Rp.byte [0] b] 15 [0] ([b]:(List (List UInt8))) rfl zGc rfl rfl rfl rfl) (rl 0 [15,0] 14 call71 (zeD vb) rf)) ?_;obtain rfl:=(sj h);exact zx (lks [] [(16,2)] lzz)
 refine jp ?_;cases h;exact zx (lks [] [(14,2)] lzz)
theorem zqg (h:zfy vl sv vj b d=some r):kg 12 [.sl zd [0] sv,kI vj,.sl Rp.byte [0] b,kI d] [kI r.1,kI r.2]:=by
 refine fi 25 func12 fun Xt=>?_
 unfold zfy at h;refine jp (jb h fun rv u9 h=>jr (rl 3 [0] 9 call30 (zqG u9) rf) (jp (jI h ?_ ?_)))<;>intro uY h
 ·cases h;exact jz
 refine jb h fun kj vb h=>jr (rl 4 [0] 9 call31 (zqh vb) rf) ?_;cases h;exact zx lzz
theorem zsD (wD:∀{sv:(List zc)} {vj:Int} {b:(List UInt8)} {r:zh},xa sv vj b=some r->kg 20 [.sl zd [0] sv,kI vj,.sl Rp.byte [0] b] [.ag (zaS 3 [4] 5 [] r)]) (h:zgf xa sv vj b=some r):kg 20 [.sl zd [0] sv,kI vj,.sl Rp.byte [0] b] [.ag (zaS 3 [4] 5 [] r)]:=by
 refine fj ⟨[(6,.ptr 2 0)],[⟨2,47,(zaS 3 [4] 5 [] r)⟩]⟩ 221 func20 ⟨⟨_,_,rfl,rfl,rfl,zOw⟩,trivial⟩ fun Xt=>?_
 unfold zgf at h;refine jq [146] (jb h fun x vi h=>jb h fun rv u9 h=>jr (rx 2 [0] zgS.el vi rfl rfl (rc 0 rfl (lde zd [0] x zwf) (rl 1 [0] 145 call35 (zsC u9) rf))) (jq [148] (jb h fun x2 vr h=>jb h fun kj vb h=>jr (rx 2 [0] zgS.el vr rfl rfl (rc 0 rfl (lde zd [0] x2 zwf) (rl 0 [0] 147 call36 (zpd vb) rf))) (jp (zr (jb h fun q2 vE h=>jl vE [0,1,2,6,7,10,11] [146] (fun s=>[(12,kI s.1)]) (fun s=>[⟨148,47,[.own zy 79 193 [150] s.2,kN]⟩]) (fun o=> .X 0 [2,6,7,10] [146] [] [⟨148,47,[.own zy 79 193 [150] o,kN]⟩]) ?_ lw ?_))))))
 ·clear h;intro s o h;obtain ⟨i,f⟩:=s;replace h:zcg b xa vj rv kj sv i f=some o:=h;unfold zcg at h;refine jp (jI h ?_ ?_)<;>intro uY h
  ·refine zr (jb h fun x3 vC h=>jb h fun x4 vO h=>jb h fun x5 vS h=>jd [0,1,2,6,7,10,11,12,13] [146,148,236] zcw (by exact (lwn 2 (di [0] zgS.el vC (lw_e (lx (ldl zd [0] x3 1 zb x3.Fields) (lwn 2 (ly [.own kd 3 149 [] kj,kI i] (zhI rfl zkd.el (zbv _ _ _ _ _) vO) rfl (lw_e (di [0] zkc.el vS (lx (lde zb [0] x5 zoj) (lx (zqW 236 [kS [],kI 0,kI 0,kB false,kB false,kI 0] rfl zeroValue59 rfl) (ly [.ptr 236 0,.rc zb [0] x5] (zto (r:=zb) (b:=⟨236,59,[kS [],kI 0,kI 0,kB false,kB false,kI 0]⟩) (off:=0) (zT x5) rfl sizeOf59 rfl rfl rfl rfl) rfl l0)))))))))))) (jr (ra 2 [kI x5.Number] rfl (zBk [kI x5.Number] [kI x5.Number,kN,kN,kN] rfl zQO rfl) rfl (rfl' [237])) (jp (jp (jp (zr (jb h fun q ve h=>jl ve [0,1,2,6,7,10,11,12,13,14] [146,148,236] (fun s=>[(15,.own Rp.byte 5 249 [] s.1),(16,kB s.2.1),(17,kI s.2.2.1)]) (fun s=>[⟨237,79,[kI x5.Number,.own ke 90 240 [] s.2.2.2.1,.own Rp.str 9 251 [] s.2.2.2.2.1,.own zN 47 248 [238] s.2.2.2.2.2]⟩]) (fun o=> .X 2 [0,1,2,6,7,10,11,12,13,14] [146,148,236] [(15,.own Rp.byte 5 249 [] o.1),(16,kB o.2.1)] [⟨237,79,[kI x5.Number,.own ke 90 240 [] o.2.2.1,.own Rp.str 9 251 [] o.2.2.2.1,.own zN 47 248 [238] o.2.2.2.2]⟩]) ?_ lw ?_)))))))
   ·clear h;intro s o h;obtain ⟨k9,met,k,f3,f4,f5⟩:=s;replace h:zch b i xa rv kj sv x5 k9 met k f3 f4 f5=some o:=h;unfold zch at h;refine jp (jI h ?_ ?_)<;>intro uZ h
    ·refine zr (jb h fun x6 wb h=>jb h fun x7 wu h=>jd [0,1,2,6,7,10,11,12,13,14,15,16,17,74] [146,148,236,237] zcw (by exact (lwn 2 (ly [.own zao 86 147 [] rv.1,kI k] (zhI rfl zvj.el (zbv _ _ _ _ _) wb) rfl (lwn 4 (ly [.own kd 3 149 [] kj,kI i] (zhI rfl zkd.el (zbv _ _ _ _ _) wu) rfl l0))))) (jI h ?_ ?_))<;>intro va h
     ·refine zNq _ rfl ?_;cases h;exact jy
     refine jp (jb h fun x8 wT h=>jb h fun x9 wU h=>jb h fun v vn h=>jd [0,1,2,6,7,10,11,12,13,14,15,16,17,18] [146,148,236,237] zcw (by exact (lwn 3 (ly [.own zao 86 147 [] rv.1,kI k] (zhI rfl zvj.el (zbv _ _ _ _ _) wT) rfl (lwn 5 (ly [.own zao 86 147 [] rv.1,kI k] (zhI rfl zvj.el (zbv _ _ _ _ _) wU) rfl (lwn 3 (ly [.sl Rp.byte [0] b,kI x8.R.At,kI x9.R.To] (zfO (some (kI x8.R.At)) (some (kI x9.R.To)) rfl zap.el (zbd _ _ _) ⟨rfl,rfl⟩ ⟨rfl,rfl⟩ vn) rfl l0))))))) (jp (jb h fun p vD h=>jn (.N [0,1,2,6,7,10,11,12,13,14,15,16,17,18] [146,148,236] [] [⟨237,79,[kI x5.Number,.own ke 90 240 [] p.1,.own Rp.str 9 251 [] p.2,.own zN 47 248 [238] f5]⟩]) ?_ ?_)))
     ·replace h:=vD;refine jI h ?_ ?_<;>intro vd h
      ·refine jp ?_;cases h;exact zV lw
      cases h;exact zV lzz
     refine zez (zr (jb h fun x10 wV h=>jr (ra 2 [.own zao 86 147 [] rv.1,kI k] rfl (zhI rfl zvj.el (zbv _ _ _ _ _) wV) rfl rf) (jI h ?_ ?_)))<;>intro vf h
     ·refine jb h fun kr vm h=>jr (rl 3 [0] 257 call37 (zqf vm) rf) (jb h fun v2 vx h=>jr (rc 3 rfl (lao 240 [] 90 259 [] [] ztb.el vx (.inl (zjc _))) rf) (zK (zK ?_)));cases h;exact jy
     refine jb h fun kE vv h=>jr (rl 2 [1] 258 call38 (zbz vv) rf) (jI h ?_ ?_)<;>intro vk h
     ·refine jb h fun rv5 vG h=>jr (rl 3 [0] 258 call39 (zkS vG) rf) (jb h fun v3 vu h=>jr (rc 3 rfl (zfe [kU rv5.1] 260 [] ([rv5.1]:(List Int)) rfl ztb rfl rfl rfl rfl) (rc 0 rfl (lao 240 [] 90 260 [] [] ztb.el vu (.inl (zjc _))) rf)) (zK (zK ?_)));cases h;exact jy
     refine jg [0,1,2,6,7,10,11,12,13,14,15,16,17,18] [146,148,236,237] [(136,kB ((x5.Kind==17)&&x5.Repeated))] ?_ ?_
     ·refine (rsl 4 [] 140 (x5.Kind==17) ?_ ?_)<;>intro vp
      · exact (rbl [] 136 x5.Repeated rfl (by grind))
      exact (rbl [] 136 false rfl (by grind))
     refine jI h ?_ ?_<;>intro vy h
     ·refine jb h fun rv6 vV h=>jb h fun v5 vU h=>jd [0,1,2,6,7,10,11,12,13,14,15,16,17] [146,148,236,237] zcw (by exact (lwn 6 (lx (lf1 20 (lc0 259 call20 (wD vV))) (lx (zB.lw (lbs1 265 [262,263,264] rv6 zJd) (.l (zlC zN [262,263,264] rv6 (zaS 262 [263] 264 [] rv6) (by rw [zhb]<;>rfl) rfl))) (ly [.own zN 47 248 [238] f5,.own zN 47 265 [262,263,264] ([rv6]:(List zh))] (zB.withBx (zCK 248 [238,265,262,263,264] rfl zJd.el rfl (zoy _ _ _ _ _) (zbv _ _ _ _ _) vU (.inr rfl) rfl) ⟨237,79,[kI x5.Number,.own ke 90 240 [] p.1,.own Rp.str 9 251 [] p.2,.own zN 47 248 [238] f5]⟩ rfl rfl) rfl (lw_e (ly [.ptr 237 3,.own zN 47 248 [238,265,262,263,264] v5] (zGL (b:=⟨237,79,[kI x5.Number,.own ke 90 240 [] p.1,.own Rp.str 9 251 [] p.2,.any]⟩) (off:=3) rfl sizeOf77 rfl rfl rfl) rfl l0))))))) (zK (zK (jp ?_)));cases h;exact zV (lks [146,148,236,237] [(265,238),(262,238),(263,238),(264,238)] lw)
     refine jp (jI h ?_ ?_)<;>intro vA h
     ·refine jb h fun v6 wa h=>jr (rc 2 rfl (las 249 [] [0] [] zap.el wa (.inl zaI)) rf) (zK (zK ?_));cases h;exact jy
     refine jb h fun v7 wW h=>jr (ra 3 [.sl Rp.byte [0] v] rfl (zqX rfl underlying24 underlying5 underlying9 (zbd _ _ _)) rfl (rc 0 rfl (zfe [kS v] 266 [] ([v]:(List Str)) rfl zBX rfl rfl rfl rfl) (rc 0 rfl (lao 251 [] 9 266 [] [] zBX.el wW (.inl zBy)) rf))) (zK (zK ?_));cases h;exact jy
    cases h;exact zae rfl lzz
   refine zar _ rfl (jg [0,1,2,6,7,10,11,12,13,14,15] [146,148,236,237] [(171,kB (q.2.1&&((x5.Kind==17)&&(!x5.Repeated))))] ?_ ?_)
   ·refine (rsl 2 [] 162 q.2.1 ?_ ?_)<;>intro vB
    ·refine (rsl 5 [] 167 (x5.Kind==17) ?_ ?_)<;>intro vI
     · exact (rbl [] 171 (!x5.Repeated) rfl (by grind))
     exact (rbl [] 171 false rfl (by grind))
    exact (rbl [] 171 false rfl (by grind))
   refine jb h fun p2 vM h=>jn (.N [0,1,2,6,7,10,11,12,14] [146,148] [] [⟨237,79,[kI x5.Number,.own ke 90 240 [] q.2.2.1,.own Rp.str 9 251 [] q.2.2.2.1,.own zN 47 271 [268,269,270,238] p2]⟩]) ?_ ?_
   ·replace h:=vM;refine jI h ?_ ?_<;>intro vF h
    ·refine jb h fun rv7 vY h=>jr (rl 4 [0,249] 270 call20 (wD vY) (rc 0 rfl (zB.lw (lbs1 276 [273,274,275] rv7 zJd) (.l (zlC zN [273,274,275] rv7 (zaS 273 [274] 275 [] rv7) (by rw [zhb]<;>rfl) rfl))) rf)) ?_;cases h;exact zV (lks [146,148,237] [(276,271),(273,238),(274,238),(275,238)] lw)
    cases h;exact zV (lks [146,148,237] [(248,271)] lw)
   refine zez (jb h fun rv8 vZ h=>jr (rc 1 rfl (lcz [.ag [kI x5.Number,.own ke 90 240 [] q.2.2.1,.own Rp.str 9 251 [] q.2.2.2.1,.own zN 47 271 [268,269,270,238] p2]] 275 call40 (zqH vZ) (.c (zbU _) .n)) rf) (jI h ?_ ?_))<;>intro vJ h
   ·refine jb h fun v9 wX h=>jr (rc 3 rfl (zB.lw (lbs1 277 [240,251,271,268,269,270,238] (⟨x5.Number,q.2.2.1,q.2.2.2.1,p2⟩:ze) zJc) (.l (zlC zy [240,251,271,268,269,270,238] (⟨x5.Number,q.2.2.1,q.2.2.2.1,p2⟩:ze) [kI x5.Number,.own ke 90 240 [] q.2.2.1,.own Rp.str 9 251 [] q.2.2.2.1,.own zN 47 271 [268,269,270,238] p2] (by rw [zbU]<;>rfl) rfl))) (rc 0 rfl (lao 193 [150] 79 277 [240,251,271,268,269,270,238] [150,277,240,251,271,268,269,270,238] zJc.el wX (.inr rfl)) rf)) (zK (jp ?_));cases h;exact zV (lks [146,148] [(277,150),(240,150),(251,150),(271,150),(268,150),(269,150),(270,150),(238,150)] lw)
   refine zK ?_;cases h;exact jy
  cases h;exact zae rfl lzz
 refine zar _ rfl (jp (zr (jb h fun q3 wr h=>jl wr [2,6,7,10] [146] (fun s=>[(23,kI s.1)]) (fun s=>[⟨148,47,[.own zy 79 193 [150] q2,.own Rp.str 9 280 [] s.2]⟩]) (fun o=> .X 5 [6,10] [146] [] [⟨148,47,[.own zy 79 193 [150] q2,.own Rp.str 9 280 [] o]⟩]) ?_ lw ?_)))
 ·clear h;intro s o h;obtain ⟨k2,f12⟩:=s;replace h:zba b rv k2 f12=some o:=h;unfold zba at h;refine jp (jI h ?_ ?_)<;>intro vL h
  ·refine zr (jb h fun x11 wY h=>jr (ra 2 [.own zao 86 147 [] rv.1,kI k2] rfl (zhI rfl zvj.el (zbv _ _ _ _ _) wY) rfl rf) (jI h ?_ ?_))<;>intro vH h
   ·refine jb h fun x12 wZ h=>jb h fun x13 w6 h=>jb h fun v10 w7 h=>jb h fun v11 w8 h=>jd [2,6,7,10,23] [146,148] zcw (by exact (lwn 5 (ly [.own zao 86 147 [] rv.1,kI k2] (zhI rfl zvj.el (zbv _ _ _ _ _) wZ) rfl (lwn 5 (ly [.own zao 86 147 [] rv.1,kI k2] (zhI rfl zvj.el (zbv _ _ _ _ _) w6) rfl (lwn 3 (ly [.sl Rp.byte [0] b,kI x12.R.From,kI x13.R.To] (zfO (some (kI x12.R.From)) (some (kI x13.R.To)) rfl zap.el (zbd _ _ _) ⟨rfl,rfl⟩ ⟨rfl,rfl⟩ w7) rfl (ly [.sl Rp.byte [0] v10] (zqX rfl underlying24 underlying5 underlying9 (zbd _ _ _)) rfl (lx (zfe [kS v10] 281 [] ([v10]:(List Str)) rfl zBX rfl rfl rfl rfl) (ly [.own Rp.str 9 280 [] f12,.own Rp.str 9 281 [] ([v10]:(List Str))] (zB.withBx (zCK 280 [] rfl zBX.el rfl (zoy _ _ _ _ _) (zbv _ _ _ _ _) w8 (.inl zBy) rfl) ⟨148,47,[.own zy 79 193 [150] q2,.own Rp.str 9 280 [] f12]⟩ rfl rfl) rfl (lw_e (ly [.ptr 148 1,.own Rp.str 9 280 [] v11] (zGL (b:=⟨148,47,[.own zy 79 193 [150] q2,.any]⟩) (off:=1) rfl sizeOf45 rfl rfl rfl) rfl l0)))))))))))) (zK ?_);cases h;exact jy
   refine zK ?_;cases h;exact jy
  cases h;exact zae rfl lzz
 refine zar _ rfl (jp ?_);cases h;exact zx (lks [146] [(146,2),(193,3),(280,5),(150,4)] lzz)
theorem ztg (h:zdN vl sv vj b=some r):kg 20 [.sl zd [0] sv,kI vj,.sl Rp.byte [0] b] [.ag (zaS 3 [4] 5 [] r)]:=by
  induction vl generalizing sv vj b r with
  | zero=>exact absurd h nofun
  | succ vl ih=>exact zsD (fun hh=>ih hh) h
end Go.Proofs.YtaglemhabeipfaaGreat

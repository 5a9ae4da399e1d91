/-
  The Go functions do what the plain functions say. No condition.
-/
import Derived.Test.YtkgohoggipdokaaGreatx2G4
set_option autoImplicit true
set_option relaxedAutoImplicit true
namespace Go.Proofs.YtkgohoggipdokaaGreat
open Tryz
open Go Go.RowKit
set_option linter.unusedVariables false
set_option maxRecDepth 100000
set_option maxHeartbeats 3200000
theorem zsU (h:zhJ sv=some r):vW 72 [.sl zi [0] sv] [.rc zdv [] r.1,k8 r.2]:=by
 refine fj ⟨[(2,.ptr 2 0),(3,k8 r.2)],[⟨2,126,(zmS r.1)⟩]⟩ 62 func72 ⟨⟨_,_,rfl,rfl,rfl,rfl,zJc⟩,rfl,trivial⟩ fun Xt=>?_
 unfold zhJ at h;refine jq [12] (jg [0,2] [12] [(18,kB ((decide ((sv.length:Int)<1))|| (decide ((sv.length:Int)>100))))] ?_ ?_)
 ·refine (rsl 4 [] 14 (decide ((sv.length:Int)<1)) ?_ ?_)<;>intro ur
  · exact (rbl [] 18 true rfl (by grind))
  exact (rbl [] 18 (decide ((sv.length:Int)>100)) rfl (by grind))
 refine jI h ?_ ?_<;>intro uv h
 ·refine jr (rc 0 rfl (zam (r:=zdv) [kI (-1),kI (-1),kI 1] [] (⟨(-1),(-1),1⟩:zaP) rfl zyv rfl rfl) rf) ?_;cases h;exact zH (lks [12] [(12,2)] lzz)
 refine jb h fun rv uu h=>jr (rl 2 [1] 11 call118 (zzC uu) (rc 0 rfl (zlJ (rk:=zM) (rv:=Rp.bool) 14 rfl) (rc 0 rfl (zlJ (rk:=zN) (rv:=Rp.bool) 15 rfl) (rc 0 rfl (lbd [kI (sv.length:Int),.own vU 3 13 [] rv,.om zM Rp.bool 14 [] ([]:(List (zt×Bool))),.om zN Rp.bool 15 [] ([]:(List (zu×Bool)))] zJP) (rfl' [16]))))) (jp (zw (jb h fun q2 uN h=>jl uN [2,4,26,27] [12] (fun s=>[(28,kI s.1)]) (fun s=>[⟨16,187,[kI (sv.length:Int),.own vU 3 13 [] rv,.om zM Rp.bool 14 [13,0] s.2.1,.om zN Rp.bool 15 [13,0] s.2.2]⟩]) (fun| (.inl v_)=> .X 0 [2] [12] [] []| (.inr v_)=> .r ⟨[(2,.ptr 12 0),(3,k8 9)],[⟨12,126,[kI v_.1,kI v_.2.1,kI v_.2.2]⟩]⟩) ?_ lw ?_)))
 ·clear h;intro s o h;obtain ⟨v2,f,f2⟩:=s;replace h:zbf rv sv v2 f f2=some o:=h;unfold zbf at h;refine jp (jI h ?_ ?_)<;>intro uy h
  ·refine zw (jb h fun x uD h=>jr (rx 1 [0] zoj.el uD rfl rfl (rc 0 rfl (lde zi [0] x zyK) (ral 2 [18] [.ptr 18 0,.rc zi [0] x] rfl (zfW (r:=zi) (b:=⟨18,71,[kS [],kN]⟩) (off:=0) (zV [0] x) rfl sizeOf71 rfl rfl rfl rfl) rfl rf))) (jb h fun wd uE h=>jr (rkl 2 [] ⟨[(2,.ptr 12 0),(4,.ptr 16 0),(5,kI v2),(6,.ptr 18 0),(26,.sl zi [0] sv),(27,kI (sv.length:Int)),(28,kI v2),(33,.ag [kI (sv.length:Int),.own vU 3 13 [] rv,.om zM Rp.bool 14 [13,0] f,.om zN Rp.bool 15 [13,0] f2]),(34,.ag (zV [0] x))],[⟨12,126,[kI 0,kI 0,kI 0]⟩,⟨16,187,[kI (sv.length:Int),.own vU 3 13 [] rv,.om zM Rp.bool 14 [13,0] f,.om zN Rp.bool 15 [13,0] f2]⟩,⟨18,71,(zV [0] x)⟩]⟩ (zkZ ⟨[(2,.ptr 12 0),(4,.ptr 16 0),(5,kI v2),(6,.ptr 18 0),(26,.sl zi [0] sv),(27,kI (sv.length:Int)),(28,kI v2),(33,.ag [kI (sv.length:Int),.own vU 3 13 [] rv,.om zM Rp.bool 14 [13,0] wd.2.1,.om zN Rp.bool 15 [13,0] wd.2.2]),(34,.ag (zV [0] x))],[⟨12,126,[kI 0,kI 0,kI 0]⟩,⟨16,187,[kI (sv.length:Int),.own vU 3 13 [] rv,.om zM Rp.bool 14 [13,0] wd.2.1,.om zN Rp.bool 15 [13,0] wd.2.2]⟩,⟨18,71,(zV [0] x)⟩]⟩ (zlv.le (ins':=[(.tmp 33,.ag [kI (sv.length:Int),.own vU 3 13 [] rv,.om zM Rp.bool 14 [13,0] f,.om zN Rp.bool 15 [13,0] f2]),(.tmp 34,.ag (zV [0] x))]) (zlc (args:=[.tmp 33,.tmp 34]) [.ag [kI (sv.length:Int),.own vU 3 13 [] rv,.om zM Rp.bool 14 [13,0] f,.om zN Rp.bool 15 [13,0] f2],.rc zi [0] x] [(14,2),(15,3)] [13,0] 19 [] rfl call119 (zlW uE) rfl rfl (by kernel_rfl) rfl rfl rfl) ⟨⟨rfl,vX _⟩,⟨rfl,zjD zi [0] x (zV [0] x) rfl rfl⟩,trivial⟩) rfl (by kernel_rfl) (by kernel_rfl) ⟨⟨_,rfl,zy rfl⟩,⟨_,rfl,zy rfl⟩,⟨_,rfl,zy rfl⟩,⟨_,rfl,zy rfl⟩,⟨_,rfl,zy rfl⟩,⟨_,rfl,zy rfl⟩,⟨_,rfl,zy rfl⟩,⟨_,rfl,zpi ⟨zy rfl,zy rfl,zgw 0 rfl,zgw 1 rfl,trivial⟩⟩,⟨_,rfl,zy rfl⟩,trivial⟩ ⟨⟨_,rfl,rfl,rfl,⟨zy rfl,zy rfl,zy rfl,trivial⟩⟩,⟨_,rfl,rfl,rfl,⟨zy rfl,zy rfl,zgw 0 rfl,zgw 1 rfl,trivial⟩⟩,⟨_,rfl,rfl,rfl,⟨zy rfl,zy rfl,trivial⟩⟩,trivial⟩ rf)) (jp (jI h ?_ ?_))))<;>intro uC h
   ·refine jr (rc 2 rfl (zam (r:=zdv) [kI v2,kI (-1),kI wd.1] [] (⟨v2,(-1),wd.1⟩:zaP) rfl zyv rfl rfl) rf) ?_;cases h;exact zot lzz
   refine jp (zw (jb h fun q uA h=>jl uA [2,4,5,26,27,28,42,43] [12] (fun s=>[(44,kI s.1)]) (fun s=>[⟨16,187,[kI (sv.length:Int),.own vU 3 13 [] rv,.om zM Rp.bool 14 [13,0] s.2.1,.om zN Rp.bool 15 [13,0] s.2.2]⟩]) (fun| (.inl v_)=> .X 2 [2,4,26,27,28] [12] [] [⟨16,187,[kI (sv.length:Int),.own vU 3 13 [] rv,.om zM Rp.bool 14 [13,0] v_.1,.om zN Rp.bool 15 [13,0] v_.2]⟩]| (.inr v_)=> .r ⟨[(2,.ptr 12 0),(3,k8 9)],[⟨12,126,[kI v2,kI v_.1,kI v_.2]⟩]⟩) ?_ lzz ?_))
   ·clear h;intro s o h;obtain ⟨v3,f6,f7⟩:=s;replace h:zbM rv sv v2 x v3 f6 f7=some o:=h;unfold zbM at h;refine jp (jI h ?_ ?_)<;>intro uJ h
    ·refine zw (jb h fun x2 uH h=>jr (rx 1 [0] zpl.el uH rfl rfl (rc 0 rfl (lde zf [0] x2 zpU) (rfl' [24]))) (jb h fun rv5 uZ h=>jr (lb 2 zf [] x2 (rkl 0 [] ⟨[(2,.ptr 12 0),(4,.ptr 16 0),(5,kI v2),(8,kI v3),(26,.sl zi [0] sv),(27,kI (sv.length:Int)),(28,kI v2),(42,.sl zf [0] x.Fields),(43,kI (x.Fields.length:Int)),(44,kI v3),(49,.ag [kI (sv.length:Int),.own vU 3 13 [] rv,.om zM Rp.bool 14 [13,0] f6,.om zN Rp.bool 15 [13,0] f7]),(50,kI v2),(51,.rc zf [] x2)],[⟨12,126,[kI 0,kI 0,kI 0]⟩,⟨16,187,[kI (sv.length:Int),.own vU 3 13 [] rv,.om zM Rp.bool 14 [13,0] f6,.om zN Rp.bool 15 [13,0] f7]⟩]⟩ (zkZ ⟨[(2,.ptr 12 0),(4,.ptr 16 0),(5,kI v2),(8,kI v3),(26,.sl zi [0] sv),(27,kI (sv.length:Int)),(28,kI v2),(42,.sl zf [0] x.Fields),(43,kI (x.Fields.length:Int)),(44,kI v3),(49,.ag [kI (sv.length:Int),.own vU 3 13 [] rv,.om zM Rp.bool 14 [13,0] rv5.2.1,.om zN Rp.bool 15 [13,0] rv5.2.2]),(50,kI v2),(51,.rc zf [] x2)],[⟨12,126,[kI 0,kI 0,kI 0]⟩,⟨16,187,[kI (sv.length:Int),.own vU 3 13 [] rv,.om zM Rp.bool 14 [13,0] rv5.2.1,.om zN Rp.bool 15 [13,0] rv5.2.2]⟩]⟩ (zlc [.ag [kI (sv.length:Int),.own vU 3 13 [] rv,.om zM Rp.bool 14 [13,0] f6,.om zN Rp.bool 15 [13,0] f7],kI v2,.rc zf [] x2] [(14,2),(15,3)] [13,0] 25 [] rfl call120 (zmV uZ) rfl rfl (by kernel_rfl) rfl rfl rfl) rfl (by kernel_rfl) (by kernel_rfl) ⟨⟨_,rfl,zy rfl⟩,⟨_,rfl,zy rfl⟩,⟨_,rfl,zy rfl⟩,⟨_,rfl,zy rfl⟩,⟨_,rfl,zy rfl⟩,⟨_,rfl,zy rfl⟩,⟨_,rfl,zy rfl⟩,⟨_,rfl,zy rfl⟩,⟨_,rfl,zy rfl⟩,⟨_,rfl,zy rfl⟩,⟨_,rfl,zpi ⟨zy rfl,zy rfl,zgw 0 rfl,zgw 1 rfl,trivial⟩⟩,⟨_,rfl,zy rfl⟩,⟨_,rfl,zy rfl⟩,trivial⟩ ⟨⟨_,rfl,rfl,rfl,⟨zy rfl,zy rfl,zy rfl,trivial⟩⟩,⟨_,rfl,rfl,rfl,⟨zy rfl,zy rfl,zgw 0 rfl,zgw 1 rfl,trivial⟩⟩,trivial⟩ rf))) (jp (jI h ?_ ?_))))<;>intro uL h
     ·refine jr (rc 3 rfl (zam (r:=zdv) [kI v2,kI v3,kI rv5.1] [] (⟨v2,v3,rv5.1⟩:zaP) rfl zyv rfl rfl) rf) ?_;cases h;exact zot lzz
     refine zal ?_;cases h;exact jy
    cases h;exact zaJ rfl lzz
   rcases q with u| u2
   ·refine zbo _ rfl (zal ?_);cases h;exact jy
   cases h;exact zCB lzz
  cases h;exact zaJ rfl lzz
 rcases q2 with u3| u4
 ·refine zbo _ rfl (jr (rc 0 rfl (zam (r:=zdv) [] [] (⟨0,0,0⟩:zaP) rfl zyv rfl rfl) rf) ?_);cases h;exact zH (lks [12] [(12,2)] lzz)
 cases h;exact zfe (lks [12] [(12,2)] lzz)
theorem zrV (h:zgK l=some r):vW 111 [.sl Rp.str [0] l] [kB r]:=by
 refine fi 16 func111 fun Xt=>?_
 unfold zgK at h;refine jp (jp (zw (jb h fun q uA h=>jL uA [5,6] [] (fun s=>[(7,kI s)]) (fun| (.inl v_)=> .x 0 ⟨[],[]⟩| (.inr v_)=> .r ⟨[(2,kB false)],[]⟩) ?_ lzz ?_)))
 ·clear h;intro v o h;unfold zch at h;refine jp (jI h ?_ ?_)<;>intro ur h
  ·refine zw (jb h fun x uD h=>jr (rx 0 [0] zmQ.el uD rfl rfl rf) (jb h fun v2 uP h=>jb h fun rv uu h=>jr (ra 1 [kS x] rfl (ztn 12 rfl underlying9 underlying35 underlying5 uP) rfl (rl 0 [12] 11 call145 (zrb uu) rf)) (jI h ?_ ?_)))<;>intro uv h
   ·cases h;exact jz'
   refine zal ?_;cases h;exact jy
  cases h;exact zaJ rfl lzz
 rcases q with u| u2
 ·refine zbo _ rfl (jp ?_);obtain rfl:=(sj h);exact zH lzz
 obtain rfl:=(sj h);exact zfe lzz
theorem zAg (h:znP k l=some r):vW 114 [kI k,.sl vV [0] l] [.own Rp.byte 5 2 [] r.1,k8 r.2]:=by
 refine fi 31 func114 fun Xt=>?_
 unfold znP at h;refine jp (jb h fun rv uu h=>jr (rl 1 [1] 12 call147 (zqJ uu) rf) (jI h ?_ ?_))<;>intro ur h
 ·refine jp ?_;cases h;exact zH lw
 refine jp (jp (zw (jb h fun q uA h=>jL uA [0,14,15] [] (fun s=>[(6,.own Rp.byte 5 16 [] s.1),(16,kI s.2)]) (fun o=> .x 0 ⟨[(6,.own Rp.byte 5 16 [] o)],[]⟩) ?_ lw ?_)))
 ·clear h;intro s o h;obtain ⟨b,v⟩:=s;replace h:zed k l b v=some o:=h;unfold zed at h;refine jp (jI h ?_ ?_)<;>intro uv h
  ·refine zw (jb h fun x uD h=>jr (rx 0 [0] zsK.el uD rfl rfl rf) (jb h fun vY uz h=>jr (rl 2 [1] 15 call148 (zph uz) rf) (jb h fun v2 uP h=>jr (rc 2 rfl (lao 16 [] 5 17 [] [] zdK.el uP (.inl zin)) rf) (zal ?_))));cases h;exact jy
  cases h;exact zaJ rfl lzz
 refine zbo _ rfl (jp ?_);cases h;exact zH (lks [] [(16,2)] lzz)
theorem zvP (h:zkt b uO value=some r):vW 153 [.sl Rp.byte [0] b,kI uO,.sl Rp.byte [0] value] [.own Rp.byte 5 2 [] r]:=by
 refine fi 22 func153 fun Xt=>?_
 unfold zkt at h;refine jp (jb h fun rv uu h=>jr (rl 3 [0] 12 call116 (zpe uu) rf) (jp (jI h ?_ ?_)))<;>intro ur h
 ·refine jb h fun vY uz h=>jr (rc 1 rfl (zjl [.sl Rp.byte [0] b] 15 [0] ([b]:(List (List UInt8))) rfl zmg rfl rfl rfl rfl) (rl 0 [15,0] 14 call66 (zbG uz) rf)) ?_;obtain rfl:=(sj h);exact zH (lks [] [(16,2)] lzz)
 refine jp ?_;cases h;exact zH (lks [] [(14,2)] lzz)
theorem zfu (h:zbP wv uO wire value=some r):zgE prog 70 [.ptr 800000 0,kI uO,kI wire,.sl Rp.byte [0] value] [] [⟨800000,76,(zo 800001 [0] wv)⟩] [800000] [⟨800000,76,(zo 800001 [0,2,3] r)⟩]:=by
 refine zjO (E:=⟨[(0,.ptr 800000 0)],[⟨800000,76,(zo 800001 [0,2,3] r)⟩]⟩) 20 [0] [(0,800000)] func70 rfl rfl rfl trivial ⟨⟨rfl,rfl,rfl⟩,trivial⟩ ⟨rfl,trivial⟩ (fun Xt old=>?_);refine zbR ?_;unfold zbP at h;refine jb h fun rv uu h=>jr (rl 3 [0] 11 call116 (FnOk.le (ins':=[kN,kI uO,kI wire,.sl Rp.byte [0] value]) (zpe uu) ⟨zff _ _,vX _,vX _,vX _,trivial⟩) rf) (jb h fun vY uz h=>jr (ra 2 [.ptr 800000 0,.own Rp.byte 5 13 [] rv.1] rfl (zfH (args:=[.tmp 17,.tmp 18]) [.ptr 800000 0,.own Rp.byte 5 13 [] rv.1] [⟨800000,76,(zo 800001 [0] wv)⟩] [(800000,800000),(800001,800001)] [0,13] 12 [800001] rfl call65 (zfV uz) rfl rfl rfl rfl rfl rfl rfl rfl) rfl rf) ?_);obtain rfl:=(sj h);exact zwF (lks [800000] [(13,3),(14,3)] lw)
theorem zrf (h:zjZ m b uF met=some r):zhu prog 123 [.rc zi [0] m,.sl Rp.byte [0] b,kI uF,.om zah zap 2 [0] met] [.rc zg [] r.1,k8 r.2.1] [.any,.any,.any,.om zah zap 2 [0] r.2.2]:=by
 refine zjP (E:=⟨[(3,.om zah zap 2 [0] r.2.2),(8,.ptr 3 0),(9,k8 r.2.1)],[⟨3,154,(zcj r.1)⟩]⟩) 56 [3] func123 rfl rfl rfl ⟨⟨_,_,rfl,rfl,rfl,rfl,zne⟩,rfl,trivial⟩ ⟨.inl rfl,.inl rfl,.inl rfl,.inr ⟨rfl,rfl⟩,trivial⟩ rfl (fun Xt old=>?_);refine zbR ?_;unfold zjZ at h;refine jr (ra 0 [.rc zi [0] m] rfl (zhC 13 (zV [0] m) [0] rfl rfl rfl rfl rfl) rfl (rfl' [14])) (jb h fun rv uu h=>jr (rl 2 [0] 13 call164 (zku uu) (rfl' [15])) (jp (jI h ?_ ?_)))<;>intro ur h
 ·refine jr (rc 0 rfl (zam (r:=zg) [] [] (⟨(⟨0,0,0,0,0⟩:zq),0,false⟩:ze) rfl zve rfl rfl) rf) ?_;cases h;exact zfG (lks [14] [(14,3)] lzz)
 refine jr (rc 4 rfl (zam (r:=zah) [kI rv.1.Number,kI rv.1.Wire] [] (⟨rv.1.Number,rv.1.Wire⟩:zQ) rfl zJV rfl rfl) (rfl' [16])) (jr (lb 1 zah [] (⟨rv.1.Number,rv.1.Wire⟩:zQ) (ra 0 [.om zah zap 2 [0] met,.rc zah [] (⟨rv.1.Number,rv.1.Wire⟩:zQ)] rfl (zrD (rk:=zah) (rv:=zap) (m:=met) (k:=(⟨rv.1.Number,rv.1.Wire⟩:zQ)) (.rc zap [0] ((mget met (⟨rv.1.Number,rv.1.Wire⟩:zQ)).getD (⟨0,false,0⟩:zT))) rfl zCR (zcL rfl) (zxR rfl)) rfl (rfl' [17]))) (jp (jb h fun p uS h=>jn (.N [8,10,13] [14,15] [(3,.om zah zap 2 [0] p.1)] [⟨17,245,[kI p.2.1,kB p.2.2.1,k8 p.2.2.2]⟩]) ?_ ?_)))
 ·replace h:=uS;refine jI h ?_ ?_<;>intro uv h
  ·refine jb h fun vY uz h=>jr (lb 1 zah [] (⟨rv.1.Number,rv.1.Wire⟩:zQ) (rl 0 [0] 16 call165 (zvu uz) rf)) (jr (lb 1 zah [] (⟨rv.1.Number,rv.1.Wire⟩:zQ) (lb 0 zap [] vY (rms (C1:=[]) (D:=[]) 0 [] 2 [0] met (⟨rv.1.Number,rv.1.Wire⟩:zQ) vY [0] zCR (zcL rfl) (zcL rfl) rf))) ?_);cases h;exact zaT lzz
  cases h;exact zaT lzz
 refine zim (jp (jI h ?_ ?_))<;>intro uy h
 ·refine jd [3,8,9] [14] zeY (by exact (lx (zam (r:=zg) [] [] (⟨(⟨0,0,0,0,0⟩:zq),0,false⟩:ze) rfl zve rfl rfl) (lwn 2 (ly [.ptr 14 0,.rc zg [] (⟨(⟨0,0,0,0,0⟩:zq),0,false⟩:ze)] (zfW (r:=zg) (b:=⟨14,154,[kI 0,kI 0,kI 0,kI 0,kI 0,kI 0,kB false]⟩) (off:=0) [kI 0,kI 0,kI 0,kI 0,kI 0,kI 0,kB false] rfl sizeOf154 rfl rfl rfl rfl) rfl l0)))) ?_;cases h;exact zfG (lks [14] [(14,3)] lzz)
 refine jr (lb 0 zaM [] rv.1 (rc 4 rfl (zam (r:=zg) [.rc zaM [] rv.1,kI p.2.1,kB p.2.2.1] [] (⟨rv.1,p.2.1,p.2.2.1⟩:ze) rfl zve rfl rfl) rf)) ?_;cases h;exact zfG (lks [14] [(14,3)] lzz)
theorem zmK (v:Int) (v2:(List UInt8)):ItOk prog 223 [.bp vU 3 922300 [] v,.bp (Rp.list Rp.byte) 35 922301 [0] v2] (fun x:((List UInt8)×Int)=>[.sl Rp.byte [0] x.1,k8 x.2]) (fun {σ:Type} (kf:Rnd σ ((List UInt8)×Int)) (sg:σ)=>zdW v v2 kf sg):=by
 refine zFw 38 [(1,.ptr 922300 0),(2,.ptr 922301 0)] [⟨922300,3,[kI v]⟩,⟨922301,35,[.sl Rp.byte [0] v2]⟩] func223 rfl rfl rfl rfl (.cons vU 3 922300 [] v [kI v] rfl rfl (.cons (Rp.list Rp.byte) 35 922301 [0] v2 [.sl Rp.byte [0] v2] rfl rfl (.nil _))) ?_;intro σ kf sg s1 h l I hI F_ hT;replace h:zdW v v2 kf sg=some s1:=h;refine zbR (znq (E':=⟨[(0,.lf (.val (.func (.yield l) #[] #[]))),(1,.ptr 922300 0),(2,.ptr 922301 0)],[⟨922300,3,[kI v]⟩,⟨922301,35,[.sl Rp.byte [0] v2]⟩]⟩) (fun _ _ _ hs=>hs) ?_);unfold zdW at h;refine jb h fun rv uu h=>jr (rl 1 [1] 9 call147 (zqJ uu) rf) (jp (jI h ?_ ?_))<;>intro ur h
 ·refine jb h fun y vn h=>zzy (E':=⟨[],[]⟩) (x:=(([]:(List UInt8)),2)) (b:=y.1) (s':=y.2) 1 (some 13) [.const (.slice none 0 0),.const (.int .u8 2)] [kN,k8 2] [.sl Rp.byte [0] ([]:(List UInt8)),k8 2] ⟨[(12,.lf (.val (.func (.yield l) #[] #[])))],[]⟩ hT rfl rfl rfl rfl rfl rgg rfl ⟨rfl,⟨rfl,trivial⟩⟩ rfl ⟨zff _ _,vX _,trivial⟩ rfl rfl vn rgg ?_;cases h;exact zJm lzz
 refine jp (zw (jb h fun q uA h=>zFy (fun s:((List UInt8)×σ)=>zbA kf rv s.1 s.2) (fun s=>⟨⟨38,[]⟩,itX I hI F_ s.2,false,#[]⟩) (fun s=>⟨[(0,.lf (.val (.func (.yield l) #[] #[]))),(4,kI rv),(5,.sl Rp.byte [0] s.1)],[]⟩) (fun o e a w=>match o with| (.inl v_)=>e= .exit 0/\Sx ⟨⟨38,[]⟩,itX I hI F_ v_,false,#[]⟩ ⟨[],[]⟩ a w| (.inr v_)=>e= .ret/\Sx ⟨⟨38,[]⟩,itX I hI F_ v_,false,#[]⟩ ⟨[],[]⟩ a w) ?_ uA rfl lzz ?_))
 ·clear h;intro s o h;obtain ⟨vZ,sg2⟩:=s;refine zbR ?_;replace h:zbA kf rv vZ sg2=some o:=h;unfold zbA at h;refine jp (jI h ?_ ?_)<;>intro uv h
  ·refine zw (jb h fun vY uz h=>jr (rl 2 [0] 10 call224 (zyt uz) rf) (jb h fun v3 uM h=>jb h fun y2 vb h=>zzy (E':=⟨[(0,.lf (.val (.func (.yield l) #[] #[]))),(4,kI rv),(5,.sl Rp.byte [0] vZ),(6,kI vY.1),(34,kB ((!y2.1)|| (vY.2 !=0)))],[]⟩) (x:=(v3,vY.2)) (b:=y2.1) (s':=y2.2) 5 (some 29) [.tmp 27,.tmp 28] [.sl Rp.byte [0] v3,k8 vY.2] [.sl Rp.byte [0] v3,k8 vY.2] ⟨[(0,.lf (.val (.func (.yield l) #[] #[]))),(4,kI rv),(5,.sl Rp.byte [0] vZ),(6,kI vY.1),(7,k8 vY.2),(24,.lf (.val (.func (.yield l) #[] #[]))),(27,.sl Rp.byte [0] v3),(28,k8 vY.2)],[]⟩ hT rfl rfl rfl rfl rfl (ra 3 [.sl Rp.byte [0] vZ,kI vY.1] rfl (zgQ none (some (kI vY.1)) rfl zdK.el (zcH _ _ _) ⟨rfl,rfl⟩ ⟨rfl,rfl⟩ uM) rfl rgg) rfl ⟨rfl,⟨rfl,trivial⟩⟩ rfl ⟨vX _,vX _,trivial⟩ rfl rfl vb ?_ ?_))
   ·refine (rsl 2 [] 31 (!y2.1) ?_ ?_)<;>intro uy
    · exact (rbl [] 34 true rfl (by grind))
    exact (rbl [] 34 (vY.2 !=0) rfl (by grind))
   refine jI h ?_ ?_<;>intro uC h
   ·cases h;exact zot lzz
   refine jb h fun v5 vc h=>jr (ra 2 [.sl Rp.byte [0] vZ,kI vY.1] rfl (zgQ (some (kI vY.1)) none rfl zdK.el (zcH _ _ _) ⟨rfl,rfl⟩ ⟨rfl,rfl⟩ vc) rfl rf) (zal ?_);cases h;exact zaT lzz
  cases h;exact zaJ rfl lzz
 rcases q with u| u2
 ·refine zbo _ rfl ?_;cases h;exact zJl lzz
 cases h;exact zJo lzz
end Go.Proofs.YtkgohoggipdokaaGreat

/-
  The Go functions do what the plain functions say. No condition.
-/
import Derived.Test.YtaglemhabeipfaaGreatx2G4
set_option autoImplicit true
set_option relaxedAutoImplicit true
namespace Go.Proofs.YtaglemhabeipfaaGreat
open Tryz
open Go Go.RowKit
set_option linter.unusedVariables false
set_option maxRecDepth 100000
set_option maxHeartbeats 3200000
theorem zuW (h:ziH sv=some r):wL 99 [.sl zf [0] sv] [.rc zdN [] r.1,k8 r.2]:=by
 refine fj ⟨[(2,.ptr 2 0),(3,k8 r.2)],[⟨2,178,(zos r.1)⟩]⟩ 62 func99 ⟨⟨_,_,rfl,rfl,rfl,rfl,zMR⟩,rfl,trivial⟩ fun Xt=>?_
 unfold ziH at h;refine jq [12] (jg [0,2] [12] [(18,kB ((decide ((sv.length:Int)<1))|| (decide ((sv.length:Int)>100))))] ?_ ?_)
 ·refine (rsl 4 [] 14 (decide ((sv.length:Int)<1)) ?_ ?_)<;>intro uP
  · exact (rbl [] 18 true rfl (by grind))
  exact (rbl [] 18 (decide ((sv.length:Int)>100)) rfl (by grind))
 refine jI h ?_ ?_<;>intro uT h
 ·refine jr (rc 0 rfl (zaj (r:=zdN) [kI (-1),kI (-1),kI 1] [] (⟨(-1),(-1),1⟩:zaP) rfl zBg rfl rfl) rf) ?_;cases h;exact zG (lks [12] [(12,2)] lzz)
 refine jb h fun rv uR h=>jr (rl 2 [1] 11 call131 (zCr uR) (rc 0 rfl (zlp (rk:=zL) (rv:=Rp.bool) 14 rfl) (rc 0 rfl (zlp (rk:=zh) (rv:=Rp.bool) 15 rfl) (rc 0 rfl (lbd [kI (sv.length:Int),.own wI 3 13 [] rv,.om zL Rp.bool 14 [] ([]:(List (zy×Bool))),.om zh Rp.bool 15 [] ([]:(List (zi×Bool)))] zNK) (rfl' [16]))))) (jp (zx (jb h fun q2 vl h=>jl vl [2,4,26,27] [12] (fun s=>[(28,kI s.1)]) (fun s=>[⟨16,218,[kI (sv.length:Int),.own wI 3 13 [] rv,.om zL Rp.bool 14 [13,0] s.2.1,.om zh Rp.bool 15 [13,0] s.2.2]⟩]) (fun| (.inl v_)=> .X 0 [2] [12] [] []| (.inr v_)=> .r ⟨[(2,.ptr 12 0),(3,k8 9)],[⟨12,178,[kI v_.1,kI v_.2.1,kI v_.2.2]⟩]⟩) ?_ lw ?_)))
 ·clear h;intro s o h;obtain ⟨v2,f,f2⟩:=s;replace h:zbv rv sv v2 f f2=some o:=h;unfold zbv at h;refine jp (jI h ?_ ?_)<;>intro uV h
  ·refine zx (jb h fun x uZ h=>jr (rx 1 [0] znp.el uZ rfl rfl (rc 0 rfl (lde zf [0] x zyA) (ral 2 [18] [.ptr 18 0,.rc zf [0] x] rfl (zgB (r:=zf) (b:=⟨18,62,[kS [],kN]⟩) (off:=0) (zW [0] x) rfl sizeOf62 rfl rfl rfl rfl) rfl rf))) (jb h fun wQ u0 h=>jr (rkl 2 [] ⟨[(2,.ptr 12 0),(4,.ptr 16 0),(5,kI v2),(6,.ptr 18 0),(26,.sl zf [0] sv),(27,kI (sv.length:Int)),(28,kI v2),(33,.ag [kI (sv.length:Int),.own wI 3 13 [] rv,.om zL Rp.bool 14 [13,0] f,.om zh Rp.bool 15 [13,0] f2]),(34,.ag (zW [0] x))],[⟨12,178,[kI 0,kI 0,kI 0]⟩,⟨16,218,[kI (sv.length:Int),.own wI 3 13 [] rv,.om zL Rp.bool 14 [13,0] f,.om zh Rp.bool 15 [13,0] f2]⟩,⟨18,62,(zW [0] x)⟩]⟩ (zhF ⟨[(2,.ptr 12 0),(4,.ptr 16 0),(5,kI v2),(6,.ptr 18 0),(26,.sl zf [0] sv),(27,kI (sv.length:Int)),(28,kI v2),(33,.ag [kI (sv.length:Int),.own wI 3 13 [] rv,.om zL Rp.bool 14 [13,0] wQ.2.1,.om zh Rp.bool 15 [13,0] wQ.2.2]),(34,.ag (zW [0] x))],[⟨12,178,[kI 0,kI 0,kI 0]⟩,⟨16,218,[kI (sv.length:Int),.own wI 3 13 [] rv,.om zL Rp.bool 14 [13,0] wQ.2.1,.om zh Rp.bool 15 [13,0] wQ.2.2]⟩,⟨18,62,(zW [0] x)⟩]⟩ (zkm.le (km:=[(.tmp 33,.ag [kI (sv.length:Int),.own wI 3 13 [] rv,.om zL Rp.bool 14 [13,0] f,.om zh Rp.bool 15 [13,0] f2]),(.tmp 34,.ag (zW [0] x))]) (zkF (args:=[.tmp 33,.tmp 34]) [.ag [kI (sv.length:Int),.own wI 3 13 [] rv,.om zL Rp.bool 14 [13,0] f,.om zh Rp.bool 15 [13,0] f2],.rc zf [0] x] [(14,2),(15,3)] [13,0] 19 [] rfl call132 (znc u0) rfl rfl (by kernel_rfl) rfl rfl rfl) ⟨⟨rfl,wM _⟩,⟨rfl,zlV zf [0] x (zW [0] x) rfl rfl⟩,trivial⟩) rfl (by kernel_rfl) (by kernel_rfl) ⟨⟨_,rfl,zu rfl⟩,⟨_,rfl,zu rfl⟩,⟨_,rfl,zu rfl⟩,⟨_,rfl,zu rfl⟩,⟨_,rfl,zu rfl⟩,⟨_,rfl,zu rfl⟩,⟨_,rfl,zu rfl⟩,⟨_,rfl,zhy ⟨zu rfl,zu rfl,zdL 0 rfl,zdL 1 rfl,trivial⟩⟩,⟨_,rfl,zu rfl⟩,trivial⟩ ⟨⟨_,rfl,rfl,rfl,⟨zu rfl,zu rfl,zu rfl,trivial⟩⟩,⟨_,rfl,rfl,rfl,⟨zu rfl,zu rfl,zdL 0 rfl,zdL 1 rfl,trivial⟩⟩,⟨_,rfl,rfl,rfl,⟨zu rfl,zu rfl,trivial⟩⟩,trivial⟩ rf)) (jp (jI h ?_ ?_))))<;>intro uY h
   ·refine jr (rc 2 rfl (zaj (r:=zdN) [kI v2,kI (-1),kI wQ.1] [] (⟨v2,(-1),wQ.1⟩:zaP) rfl zBg rfl rfl) rf) ?_;cases h;exact zpZ lzz
   refine jp (zx (jb h fun q uW h=>jl uW [2,4,5,26,27,28,42,43] [12] (fun s=>[(44,kI s.1)]) (fun s=>[⟨16,218,[kI (sv.length:Int),.own wI 3 13 [] rv,.om zL Rp.bool 14 [13,0] s.2.1,.om zh Rp.bool 15 [13,0] s.2.2]⟩]) (fun| (.inl v_)=> .X 2 [2,4,26,27,28] [12] [] [⟨16,218,[kI (sv.length:Int),.own wI 3 13 [] rv,.om zL Rp.bool 14 [13,0] v_.1,.om zh Rp.bool 15 [13,0] v_.2]⟩]| (.inr v_)=> .r ⟨[(2,.ptr 12 0),(3,k8 9)],[⟨12,178,[kI v2,kI v_.1,kI v_.2]⟩]⟩) ?_ lzz ?_))
   ·clear h;intro s o h;obtain ⟨v3,f6,f7⟩:=s;replace h:zcz rv sv v2 x v3 f6 f7=some o:=h;unfold zcz at h;refine jp (jI h ?_ ?_)<;>intro ve h
    ·refine zx (jb h fun x2 vd h=>jr (rx 1 [0] zoq.el vd rfl rfl (rc 0 rfl (lde zc [0] x2 zoe) (rfl' [24]))) (jb h fun rv5 vr h=>jr (lb 2 zc [] x2 (rkl 0 [] ⟨[(2,.ptr 12 0),(4,.ptr 16 0),(5,kI v2),(8,kI v3),(26,.sl zf [0] sv),(27,kI (sv.length:Int)),(28,kI v2),(42,.sl zc [0] x.Fields),(43,kI (x.Fields.length:Int)),(44,kI v3),(49,.ag [kI (sv.length:Int),.own wI 3 13 [] rv,.om zL Rp.bool 14 [13,0] f6,.om zh Rp.bool 15 [13,0] f7]),(50,kI v2),(51,.rc zc [] x2)],[⟨12,178,[kI 0,kI 0,kI 0]⟩,⟨16,218,[kI (sv.length:Int),.own wI 3 13 [] rv,.om zL Rp.bool 14 [13,0] f6,.om zh Rp.bool 15 [13,0] f7]⟩]⟩ (zhF ⟨[(2,.ptr 12 0),(4,.ptr 16 0),(5,kI v2),(8,kI v3),(26,.sl zf [0] sv),(27,kI (sv.length:Int)),(28,kI v2),(42,.sl zc [0] x.Fields),(43,kI (x.Fields.length:Int)),(44,kI v3),(49,.ag [kI (sv.length:Int),.own wI 3 13 [] rv,.om zL Rp.bool 14 [13,0] rv5.2.1,.om zh Rp.bool 15 [13,0] rv5.2.2]),(50,kI v2),(51,.rc zc [] x2)],[⟨12,178,[kI 0,kI 0,kI 0]⟩,⟨16,218,[kI (sv.length:Int),.own wI 3 13 [] rv,.om zL Rp.bool 14 [13,0] rv5.2.1,.om zh Rp.bool 15 [13,0] rv5.2.2]⟩]⟩ (zkF [.ag [kI (sv.length:Int),.own wI 3 13 [] rv,.om zL Rp.bool 14 [13,0] f6,.om zh Rp.bool 15 [13,0] f7],kI v2,.rc zc [] x2] [(14,2),(15,3)] [13,0] 25 [] rfl call133 (zov vr) rfl rfl (by kernel_rfl) rfl rfl rfl) rfl (by kernel_rfl) (by kernel_rfl) ⟨⟨_,rfl,zu rfl⟩,⟨_,rfl,zu rfl⟩,⟨_,rfl,zu rfl⟩,⟨_,rfl,zu rfl⟩,⟨_,rfl,zu rfl⟩,⟨_,rfl,zu rfl⟩,⟨_,rfl,zu rfl⟩,⟨_,rfl,zu rfl⟩,⟨_,rfl,zu rfl⟩,⟨_,rfl,zu rfl⟩,⟨_,rfl,zhy ⟨zu rfl,zu rfl,zdL 0 rfl,zdL 1 rfl,trivial⟩⟩,⟨_,rfl,zu rfl⟩,⟨_,rfl,zu rfl⟩,trivial⟩ ⟨⟨_,rfl,rfl,rfl,⟨zu rfl,zu rfl,zu rfl,trivial⟩⟩,⟨_,rfl,rfl,rfl,⟨zu rfl,zu rfl,zdL 0 rfl,zdL 1 rfl,trivial⟩⟩,trivial⟩ rf))) (jp (jI h ?_ ?_))))<;>intro vh h
     ·refine jr (rc 3 rfl (zaj (r:=zdN) [kI v2,kI v3,kI rv5.1] [] (⟨v2,v3,rv5.1⟩:zaP) rfl zBg rfl rfl) rf) ?_;cases h;exact zpZ lzz
     refine zam ?_;cases h;exact jy
    cases h;exact zaI rfl lzz
   rcases q with u| u2
   ·refine zbo _ rfl (zam ?_);cases h;exact jy
   cases h;exact zFS lzz
  cases h;exact zaI rfl lzz
 rcases q2 with u3| u4
 ·refine zbo _ rfl (jr (rc 0 rfl (zaj (r:=zdN) [] [] (⟨0,0,0⟩:zaP) rfl zBg rfl rfl) rf) ?_);cases h;exact zG (lks [12] [(12,2)] lzz)
 cases h;exact zgz (lks [12] [(12,2)] lzz)
theorem ztb (h:zkX m b u9 met=some r):zhP prog 82 [.rc zf [0] m,.sl Rp.byte [0] b,kI u9,.om zal zao 2 [0] met] [.rc zj [] r.1,k8 r.2.1] [.any,.any,.any,.om zal zao 2 [0] r.2.2]:=by
 refine zjg (E:=⟨[(3,.om zal zao 2 [0] r.2.2),(8,.ptr 3 0),(9,k8 r.2.1)],[⟨3,68,(zcj r.1)⟩]⟩) 56 [3] func82 rfl rfl rfl ⟨⟨_,_,rfl,rfl,rfl,rfl,zul⟩,rfl,trivial⟩ ⟨.inl rfl,.inl rfl,.inl rfl,.inr ⟨rfl,rfl⟩,trivial⟩ rfl (fun Xt old=>?_);refine zbe ?_;unfold zkX at h;refine jr (ra 0 [.rc zf [0] m] rfl (zis 13 (zW [0] m) [0] rfl rfl rfl rfl rfl) rfl (rfl' [14])) (jb h fun rv uR h=>jr (rl 2 [0] 13 call111 (zgM uR) (rfl' [15])) (jp (jI h ?_ ?_)))<;>intro uP h
 ·refine jr (rc 0 rfl (zaj (r:=zj) [] [] (⟨(⟨0,0,0,0,0⟩:zt),0,false⟩:zg) rfl zDg rfl rfl) rf) ?_;cases h;exact zdc (lks [14] [(14,3)] lzz)
 refine jr (rc 4 rfl (zaj (r:=zal) [kI rv.1.Number,kI rv.1.Wire] [] (⟨rv.1.Number,rv.1.Wire⟩:zV) rfl zNP rfl rfl) (rfl' [16])) (jr (lb 1 zal [] (⟨rv.1.Number,rv.1.Wire⟩:zV) (ra 0 [.om zal zao 2 [0] met,.rc zal [] (⟨rv.1.Number,rv.1.Wire⟩:zV)] rfl (zqb (rk:=zal) (rv:=zao) (m:=met) (k:=(⟨rv.1.Number,rv.1.Wire⟩:zV)) (.rc zao [0] ((mget met (⟨rv.1.Number,rv.1.Wire⟩:zV)).getD (⟨0,false,0⟩:zab))) rfl zGg (zcv rfl) (zAs rfl)) rfl (rfl' [17]))) (jp (jb h fun p vm h=>jn (.N [8,10,13] [14,15] [(3,.om zal zao 2 [0] p.1)] [⟨17,197,[kI p.2.1,kB p.2.2.1,k8 p.2.2.2]⟩]) ?_ ?_)))
 ·replace h:=vm;refine jI h ?_ ?_<;>intro uT h
  ·refine jb h fun wN uU h=>jr (lb 1 zal [] (⟨rv.1.Number,rv.1.Wire⟩:zV) (rl 0 [0] 16 call117 (zxK uU) rf)) (jr (lb 1 zal [] (⟨rv.1.Number,rv.1.Wire⟩:zV) (lb 0 zao [] wN (rms (C1:=[]) (D:=[]) 0 [] 2 [0] met (⟨rv.1.Number,rv.1.Wire⟩:zV) wN [0] zGg (zcv rfl) (zcv rfl) rf))) ?_);cases h;exact zaJ lzz
  cases h;exact zaJ lzz
 refine ziq (jp (jI h ?_ ?_))<;>intro uV h
 ·refine jd [3,8,9] [14] zee (by exact (lx (zaj (r:=zj) [] [] (⟨(⟨0,0,0,0,0⟩:zt),0,false⟩:zg) rfl zDg rfl rfl) (lwn 2 (ly [.ptr 14 0,.rc zj [] (⟨(⟨0,0,0,0,0⟩:zt),0,false⟩:zg)] (zgB (r:=zj) (b:=⟨14,68,[kI 0,kI 0,kI 0,kI 0,kI 0,kI 0,kB false]⟩) (off:=0) [kI 0,kI 0,kI 0,kI 0,kI 0,kI 0,kB false] rfl sizeOf68 rfl rfl rfl rfl) rfl l0)))) ?_;cases h;exact zdc (lks [14] [(14,3)] lzz)
 refine jr (lb 0 zU [] rv.1 (rc 4 rfl (zaj (r:=zj) [.rc zU [] rv.1,kI p.2.1,kB p.2.2.1] [] (⟨rv.1,p.2.1,p.2.2.1⟩:zg) rfl zDg rfl rfl) rf)) ?_;cases h;exact zdc (lks [14] [(14,3)] lzz)
theorem zoj (v:Int) (v2:(List UInt8)):ItOk prog 199 [.bp wI 3 919900 [] v,.bp (Rp.list Rp.byte) 24 919901 [0] v2] (fun x:((List UInt8)×Int)=>[.sl Rp.byte [0] x.1,k8 x.2]) (fun {σ:Type} (kf:Rnd σ ((List UInt8)×Int)) (sg:σ)=>zet v v2 kf sg):=by
 refine zJd 38 [(1,.ptr 919900 0),(2,.ptr 919901 0)] [⟨919900,3,[kI v]⟩,⟨919901,24,[.sl Rp.byte [0] v2]⟩] func199 rfl rfl rfl rfl (.cons wI 3 919900 [] v [kI v] rfl rfl (.cons (Rp.list Rp.byte) 24 919901 [0] v2 [.sl Rp.byte [0] v2] rfl rfl (.nil _))) ?_;intro σ kf sg s1 h l I hI F_ hT;replace h:zet v v2 kf sg=some s1:=h;refine zbe (zoT (E':=⟨[(0,.lf (.val (.func (.yield l) #[] #[]))),(1,.ptr 919900 0),(2,.ptr 919901 0)],[⟨919900,3,[kI v]⟩,⟨919901,24,[.sl Rp.byte [0] v2]⟩]⟩) (fun _ _ _ hs=>hs) ?_);unfold zet at h;refine jb h fun rv uR h=>jr (rl 1 [1] 9 call174 (zsD uR) rf) (jp (jI h ?_ ?_))<;>intro uP h
 ·refine jb h fun y vN h=>zCm (E':=⟨[],[]⟩) (x:=(([]:(List UInt8)),2)) (b:=y.1) (s':=y.2) 1 (some 13) [.const (.slice none 0 0),.const (.int .u8 2)] [kN,k8 2] [.sl Rp.byte [0] ([]:(List UInt8)),k8 2] ⟨[(12,.lf (.val (.func (.yield l) #[] #[])))],[]⟩ hT rfl rfl rfl rfl rfl rgg rfl ⟨rfl,⟨rfl,trivial⟩⟩ rfl ⟨zeW _ _,wM _,trivial⟩ rfl rfl vN rgg ?_;cases h;exact zNf lzz
 refine jp (zx (jb h fun q uW h=>zJf (fun s:((List UInt8)×σ)=>zcc kf rv s.1 s.2) (fun s=>⟨⟨38,[]⟩,itX I hI F_ s.2,false,#[]⟩) (fun s=>⟨[(0,.lf (.val (.func (.yield l) #[] #[]))),(4,kI rv),(5,.sl Rp.byte [0] s.1)],[]⟩) (fun o e a w=>match o with| (.inl v_)=>e= .exit 0/\Sx ⟨⟨38,[]⟩,itX I hI F_ v_,false,#[]⟩ ⟨[],[]⟩ a w| (.inr v_)=>e= .ret/\Sx ⟨⟨38,[]⟩,itX I hI F_ v_,false,#[]⟩ ⟨[],[]⟩ a w) ?_ uW rfl lzz ?_))
 ·clear h;intro s o h;obtain ⟨wO,sg2⟩:=s;refine zbe ?_;replace h:zcc kf rv wO sg2=some o:=h;unfold zcc at h;refine jp (jI h ?_ ?_)<;>intro uT h
  ·refine zx (jb h fun wN uU h=>jr (rl 2 [0] 10 call200 (zBa uU) rf) (jb h fun v3 vf h=>jb h fun y2 vF h=>zCm (E':=⟨[(0,.lf (.val (.func (.yield l) #[] #[]))),(4,kI rv),(5,.sl Rp.byte [0] wO),(6,kI wN.1),(34,kB ((!y2.1)|| (wN.2 !=0)))],[]⟩) (x:=(v3,wN.2)) (b:=y2.1) (s':=y2.2) 5 (some 29) [.tmp 27,.tmp 28] [.sl Rp.byte [0] v3,k8 wN.2] [.sl Rp.byte [0] v3,k8 wN.2] ⟨[(0,.lf (.val (.func (.yield l) #[] #[]))),(4,kI rv),(5,.sl Rp.byte [0] wO),(6,kI wN.1),(7,k8 wN.2),(24,.lf (.val (.func (.yield l) #[] #[]))),(27,.sl Rp.byte [0] v3),(28,k8 wN.2)],[]⟩ hT rfl rfl rfl rfl rfl (ra 3 [.sl Rp.byte [0] wO,kI wN.1] rfl (zgA none (some (kI wN.1)) rfl zcd.el (zbI _ _ _) ⟨rfl,rfl⟩ ⟨rfl,rfl⟩ vf) rfl rgg) rfl ⟨rfl,⟨rfl,trivial⟩⟩ rfl ⟨wM _,wM _,trivial⟩ rfl rfl vF ?_ ?_))
   ·refine (rsl 2 [] 31 (!y2.1) ?_ ?_)<;>intro uV
    · exact (rbl [] 34 true rfl (by grind))
    exact (rbl [] 34 (wN.2 !=0) rfl (by grind))
   refine jI h ?_ ?_<;>intro uY h
   ·cases h;exact zpZ lzz
   refine jb h fun v5 vA h=>jr (ra 2 [.sl Rp.byte [0] wO,kI wN.1] rfl (zgA (some (kI wN.1)) none rfl zcd.el (zbI _ _ _) ⟨rfl,rfl⟩ ⟨rfl,rfl⟩ vA) rfl rf) (zam ?_);cases h;exact zaJ lzz
  cases h;exact zaI rfl lzz
 rcases q with u| u2
 ·refine zbo _ rfl ?_;cases h;exact zNe lzz
 cases h;exact zNh lzz
theorem zwL (h:zjN f before b rv=some r):zfw prog 79 [.rc zc [0] f,.cu (mxC Rp.byte 5 before) 801000 [0] [],.sl Rp.byte [0] b,.rc zU [0] rv] [.cu (mxC Rp.byte 5 r) 801000 [0] []] [.any,.any,.any,.any]:=by
 refine zkJ (E:=⟨[(8,.cu (mxC Rp.byte 5 r) 801000 [0] [])],[]⟩) 51 [] func79 rfl rfl rfl ⟨rfl,trivial⟩ ⟨.inl rfl,.inl rfl,.inl rfl,.inl rfl,trivial⟩ rfl (fun Xt old=>?_);refine zbe ?_;unfold zjN at h;refine jq [11,12] (jp (jb h fun g uQ h=>jg [1,2,4,7,9] [11,12] [(20,kB g)] ?_ ?_))
 ·refine (rsI 3 15 uQ ?_ ?_)<;>intro uP uQ
  ·refine jb uQ fun wN uU uQ=>?_;cases uQ;exact (rl 2 [1] 11 call113 (zmP uU) (rel [] lzz))
  cases uQ;exact (rel [] lzz)
 refine jb h fun p vm h=>jn (.N [1,2,4,7] [11,12] [(9,kI p)] []) ?_ ?_
 ·replace h:=vm;refine jI h ?_ ?_<;>intro uT h
  ·cases h;exact jy
  cases h;exact zaJ lzz
 refine ziq (jg [1,2,7,9] [12] [(10,kB ((!f.Repeated)&&(f.Kind !=17)))] ?_ ?_)
 ·refine (rsl 4 [] 26 (!f.Repeated) ?_ ?_)<;>intro uV
  · exact (rbl [] 10 (f.Kind !=17) rfl (by grind))
  exact (rbl [] 10 false rfl (by grind))
 refine jg [1,2,7,9] [12] [(36,kB (((!f.Repeated)&&(f.Kind !=17))|| ((before.length:Int)==0)))] ?_ ?_
 ·refine (rsl 2 [] 32 ((!f.Repeated)&&(f.Kind !=17)) ?_ ?_)<;>intro uY
  · exact (rbl [] 36 true rfl (by grind))
  exact (ra 1 [.cu (mxC Rp.byte 5 before) 801000 [0] []] rfl (zLz rfl underlying24) rfl (rbl [] 36 ((before.length:Int)==0) rfl (by grind)))
 refine jI h ?_ ?_<;>intro ve h
 ·refine jb h fun v3 vf h=>jr (ra 6 [.sl Rp.byte [0] b,kI p,kI rv.To,kI rv.To] rfl (zLy 5 801000 rfl zcd.el (zbI _ _ _) vf) rfl rf) ?_;obtain rfl:=(sj h);exact zdc lzz
 refine jb h fun v4 vt h=>jb h fun v5 vA h=>jr (ra 5 [.sl Rp.byte [0] b,kI p,kI rv.To] rfl (zgA (some (kI p)) (some (kI rv.To)) rfl zcd.el (zbI _ _ _) ⟨rfl,rfl⟩ ⟨rfl,rfl⟩ vt) rfl (ra 0 [.cu (mxC Rp.byte 5 before) 801000 [0] [],.sl Rp.byte [0] v4] rfl (zLv [0] rfl zcd.el rfl (zbI _ _ _) vA (.inl zeK) rfl) rfl rf)) ?_;obtain rfl:=(sj h);exact zdc lzz
theorem zuE (h:zmY k l=some r):wL 135 [kI k,.sl wK [0] l] [.own Rp.byte 5 2 [] r.1,k8 r.2]:=by
 refine fi 31 func135 fun Xt=>?_
 unfold zmY at h;refine jp (jb h fun rv uR h=>jr (rl 1 [1] 12 call174 (zsD uR) rf) (jI h ?_ ?_))<;>intro uP h
 ·refine jp ?_;cases h;exact zG lw
 refine jp (jp (zx (jb h fun q uW h=>jL uW [0,14,15] [] (fun s=>[(6,.own Rp.byte 5 16 [] s.1),(16,kI s.2)]) (fun o=> .x 0 ⟨[(6,.own Rp.byte 5 16 [] o)],[]⟩) ?_ lw ?_)))
 ·clear h;intro s o h;obtain ⟨b,v⟩:=s;replace h:zfM k l b v=some o:=h;unfold zfM at h;refine jp (jI h ?_ ?_)<;>intro uT h
  ·refine zx (jb h fun x uZ h=>jr (rx 0 [0] zxU.el uZ rfl rfl rf) (jb h fun wN uU h=>jr (rl 2 [1] 15 call175 (zmq uU) rf) (jb h fun v2 vi h=>jr (rc 2 rfl (lao 16 [] 5 17 [] [] zcd.el vi (.inl zeK)) rf) (zam ?_))));cases h;exact jy
  cases h;exact zaI rfl lzz
 refine zbo _ rfl (jp ?_);cases h;exact zG (lks [] [(16,2)] lzz)
theorem zpe (h:zlr out vg wire value=some r):zfw prog 143 [.own Rp.byte 5 800000 [0] out,kI vg,kI wire,.sl Rp.byte [0] value] [.own Rp.byte 5 800000 [] r] [.any,.any,.any,.any]:=by
 refine zkJ (E:=⟨[(8,.own Rp.byte 5 800000 [] r)],[]⟩) 21 [] func143 rfl rfl rfl ⟨rfl,trivial⟩ ⟨.inl rfl,.inl rfl,.inl rfl,.inl rfl,trivial⟩ rfl (fun Xt old=>?_);refine zbe ?_;unfold zlr at h;refine jp (jb h fun rv uR h=>jr (rl 3 [0] 9 call137 (FnOk.le (km:=[kN,kI vg,kI wire,.sl Rp.byte [0] value]) (zmp uR) ⟨zeW _ _,wM _,wM _,wM _,trivial⟩) rf) (jb h fun v vc h=>jr (rc 2 rfl (lao 800000 [0] 5 11 [] [] zcd.el vc (.inl zeK)) rf) ?_));obtain rfl:=(sj h);exact zdc lzz
theorem zqT (h:zjm b vg value=some r):wL 179 [.sl Rp.byte [0] b,kI vg,.sl Rp.byte [0] value] [.own Rp.byte 5 2 [] r]:=by
 refine fi 22 func179 fun Xt=>?_
 unfold zjm at h;refine jp (jb h fun rv uR h=>jr (rl 3 [0] 12 call137 (zmp uR) rf) (jp (jI h ?_ ?_)))<;>intro uP h
 ·refine jb h fun wN uU h=>jr (rc 1 rfl (zkg [.sl Rp.byte [0] b] 15 [0] ([b]:(List (List UInt8))) rfl znq rfl rfl rfl rfl) (rl 0 [15,0] 14 call71 (zbC uU) rf)) ?_;obtain rfl:=(sj h);exact zG (lks [] [(16,2)] lzz)
 refine jp ?_;cases h;exact zG (lks [] [(14,2)] lzz)
theorem ztZ (h:zhz l=some r):wL 164 [.sl Rp.str [0] l] [kB r]:=by
 refine fi 16 func164 fun Xt=>?_
 unfold zhz at h;refine jp (jp (zx (jb h fun q uW h=>jL uW [5,6] [] (fun s=>[(7,kI s)]) (fun| (.inl v_)=> .x 0 ⟨[],[]⟩| (.inr v_)=> .r ⟨[(2,kB false)],[]⟩) ?_ lzz ?_)))
 ·clear h;intro v o h;unfold zdJ at h;refine jp (jI h ?_ ?_)<;>intro uP h
  ·refine zx (jb h fun x uZ h=>jr (rx 0 [0] zqZ.el uZ rfl rfl rf) (jb h fun v2 vi h=>jb h fun rv uR h=>jr (ra 1 [kS x] rfl (zvr 12 rfl underlying9 underlying24 underlying5 vi) rfl (rl 0 [12] 11 call181 (zsW uR) rf)) (jI h ?_ ?_)))<;>intro uT h
   ·cases h;exact jz'
   refine zam ?_;cases h;exact jy
  cases h;exact zaI rfl lzz
 rcases q with u| u2
 ·refine zbo _ rfl (jp ?_);obtain rfl:=(sj h);exact zG lzz
 obtain rfl:=(sj h);exact zgz lzz
theorem zfS (h:zbO wv vg wire value=some r):zht prog 103 [.ptr 800000 0,kI vg,kI wire,.sl Rp.byte [0] value] [] [⟨800000,98,(zr 800001 [0] wv)⟩] [800000] [⟨800000,98,(zr 800001 [0,2,3] r)⟩]:=by
 refine zkI (E:=⟨[(0,.ptr 800000 0)],[⟨800000,98,(zr 800001 [0,2,3] r)⟩]⟩) 20 [0] [(0,800000)] func103 rfl rfl rfl trivial ⟨⟨rfl,rfl,rfl⟩,trivial⟩ ⟨rfl,trivial⟩ (fun Xt old=>?_);refine zbe ?_;unfold zbO at h;refine jb h fun rv uR h=>jr (rl 3 [0] 11 call137 (FnOk.le (km:=[kN,kI vg,kI wire,.sl Rp.byte [0] value]) (zmp uR) ⟨zeW _ _,wM _,wM _,wM _,trivial⟩) rf) (jb h fun wN uU h=>jr (ra 2 [.ptr 800000 0,.own Rp.byte 5 13 [] rv.1] rfl (zgj (args:=[.tmp 17,.tmp 18]) [.ptr 800000 0,.own Rp.byte 5 13 [] rv.1] [⟨800000,98,(zr 800001 [0] wv)⟩] [(800000,800000),(800001,800001)] [0,13] 12 [800001] rfl call70 (zgy uU) rfl rfl rfl rfl rfl rfl rfl rfl) rfl rf) ?_);obtain rfl:=(sj h);exact zyY (lks [800000] [(13,3),(14,3)] lw)
end Go.Proofs.YtaglemhabeipfaaGreat

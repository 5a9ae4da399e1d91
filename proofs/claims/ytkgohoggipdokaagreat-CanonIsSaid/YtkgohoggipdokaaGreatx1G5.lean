/-
  The Go functions do what the plain functions say. No condition.
-/
import Derived.Test.YtkgohoggipdokaaGreatx1G4
set_option autoImplicit true
set_option relaxedAutoImplicit true
namespace Go.Proofs.YtkgohoggipdokaaGreat
open Tryz
open Go Go.RowKit
set_option linter.unusedVariables false
set_option maxRecDepth 100000
set_option maxHeartbeats 3200000
theorem zwm (h:zjN sv=some r):w6 72 [.sl zg [0] sv] [.rc zeJ [] r.1,k8 r.2]:=by
 refine fj ⟨[(2,.ptr 2 0),(3,k8 r.2)],[⟨2,126,(zpU r.1)⟩]⟩ 62 func72 ⟨⟨_,_,rfl,rfl,rfl,rfl,zNd⟩,rfl,trivial⟩ fun Xt=>?_
 unfold zjN at h;refine jq [12] (jg [0,2] [12] [(18,kB ((decide ((sv.length:Int)<1))|| (decide ((sv.length:Int)>100))))] ?_ ?_)
 ·refine (rsl 4 [] 14 (decide ((sv.length:Int)<1)) ?_ ?_)<;>intro uS
  · exact (rbl [] 18 true rfl (by grind))
  exact (rbl [] 18 (decide ((sv.length:Int)>100)) rfl (by grind))
 refine jI h ?_ ?_<;>intro uT h
 ·refine jr (rc 0 rfl (zab (r:=zeJ) [kI (-1),kI (-1),kI 1] [] (⟨(-1),(-1),1⟩:zaR) rfl zCm rfl rfl) rf) ?_;cases h;exact zx (lks [12] [(12,2)] lzz)
 refine jb h fun rv uU h=>jr (rl 2 [1] 11 call118 (zDo uU) (rc 0 rfl (zov (rk:=zO) (rv:=Rp.bool) 14 rfl) (rc 0 rfl (zov (rk:=zP) (rv:=Rp.bool) 15 rfl) (rc 0 rfl (lbd [kI (sv.length:Int),.own wY 3 13 [] rv,.om zO Rp.bool 14 [] ([]:(List (zu×Bool))),.om zP Rp.bool 15 [] ([]:(List (zw×Bool)))] zNQ) (rfl' [16]))))) (jp (zq (jb h fun q2 vn h=>jl vn [2,4,26,27] [12] (fun s=>[(28,kI s.1)]) (fun s=>[⟨16,187,[kI (sv.length:Int),.own wY 3 13 [] rv,.om zO Rp.bool 14 [13,0] s.2.1,.om zP Rp.bool 15 [13,0] s.2.2]⟩]) (fun| (.inl v_)=> .X 0 [2] [12] [] []| (.inr v_)=> .r ⟨[(2,.ptr 12 0),(3,k8 9)],[⟨12,126,[kI v_.1,kI v_.2.1,kI v_.2.2]⟩]⟩) ?_ lw ?_)))
 ·clear h;intro s o h;obtain ⟨v2,f,f2⟩:=s;replace h:zbl rv sv v2 f f2=some o:=h;unfold zbl at h;refine jp (jI h ?_ ?_)<;>intro uW h
  ·refine zq (jb h fun x va h=>jr (rx 1 [0] zhl.el va rfl rfl (rc 0 rfl (lde zg [0] x ztp) (ral 2 [18] [.ptr 18 0,.rc zg [0] x] rfl (ziD (r:=zg) (b:=⟨18,71,[kS [],kN]⟩) (off:=0) (zT [0] x) rfl sizeOf71 rfl rfl rfl rfl) rfl rf))) (jb h fun kg vd h=>jr (rkl 2 [] ⟨[(2,.ptr 12 0),(4,.ptr 16 0),(5,kI v2),(6,.ptr 18 0),(26,.sl zg [0] sv),(27,kI (sv.length:Int)),(28,kI v2),(33,.ag [kI (sv.length:Int),.own wY 3 13 [] rv,.om zO Rp.bool 14 [13,0] f,.om zP Rp.bool 15 [13,0] f2]),(34,.ag (zT [0] x))],[⟨12,126,[kI 0,kI 0,kI 0]⟩,⟨16,187,[kI (sv.length:Int),.own wY 3 13 [] rv,.om zO Rp.bool 14 [13,0] f,.om zP Rp.bool 15 [13,0] f2]⟩,⟨18,71,(zT [0] x)⟩]⟩ (znz ⟨[(2,.ptr 12 0),(4,.ptr 16 0),(5,kI v2),(6,.ptr 18 0),(26,.sl zg [0] sv),(27,kI (sv.length:Int)),(28,kI v2),(33,.ag [kI (sv.length:Int),.own wY 3 13 [] rv,.om zO Rp.bool 14 [13,0] kg.2.1,.om zP Rp.bool 15 [13,0] kg.2.2]),(34,.ag (zT [0] x))],[⟨12,126,[kI 0,kI 0,kI 0]⟩,⟨16,187,[kI (sv.length:Int),.own wY 3 13 [] rv,.om zO Rp.bool 14 [13,0] kg.2.1,.om zP Rp.bool 15 [13,0] kg.2.2]⟩,⟨18,71,(zT [0] x)⟩]⟩ (zoh.le (ins':=[(.tmp 33,.ag [kI (sv.length:Int),.own wY 3 13 [] rv,.om zO Rp.bool 14 [13,0] f,.om zP Rp.bool 15 [13,0] f2]),(.tmp 34,.ag (zT [0] x))]) (znB (args:=[.tmp 33,.tmp 34]) [.ag [kI (sv.length:Int),.own wY 3 13 [] rv,.om zO Rp.bool 14 [13,0] f,.om zP Rp.bool 15 [13,0] f2],.rc zg [0] x] [(14,2),(15,3)] [13,0] 19 [] rfl call119 (zoH vd) rfl rfl (by kernel_rfl) rfl rfl rfl) ⟨⟨rfl,w7 _⟩,⟨rfl,ziP zg [0] x (zT [0] x) rfl rfl⟩,trivial⟩) rfl (by kernel_rfl) (by kernel_rfl) ⟨⟨_,rfl,zz rfl⟩,⟨_,rfl,zz rfl⟩,⟨_,rfl,zz rfl⟩,⟨_,rfl,zz rfl⟩,⟨_,rfl,zz rfl⟩,⟨_,rfl,zz rfl⟩,⟨_,rfl,zz rfl⟩,⟨_,rfl,zsE ⟨zz rfl,zz rfl,ziA 0 rfl,ziA 1 rfl,trivial⟩⟩,⟨_,rfl,zz rfl⟩,trivial⟩ ⟨⟨_,rfl,rfl,rfl,⟨zz rfl,zz rfl,zz rfl,trivial⟩⟩,⟨_,rfl,rfl,rfl,⟨zz rfl,zz rfl,ziA 0 rfl,ziA 1 rfl,trivial⟩⟩,⟨_,rfl,rfl,rfl,⟨zz rfl,zz rfl,trivial⟩⟩,trivial⟩ rf)) (jp (jI h ?_ ?_))))<;>intro uZ h
   ·refine jr (rc 2 rfl (zab (r:=zeJ) [kI v2,kI (-1),kI kg.1] [] (⟨v2,(-1),kg.1⟩:zaR) rfl zCm rfl rfl) rf) ?_;cases h;exact zrK lzz
   refine jp (zq (jb h fun q u0 h=>jl u0 [2,4,5,26,27,28,42,43] [12] (fun s=>[(44,kI s.1)]) (fun s=>[⟨16,187,[kI (sv.length:Int),.own wY 3 13 [] rv,.om zO Rp.bool 14 [13,0] s.2.1,.om zP Rp.bool 15 [13,0] s.2.2]⟩]) (fun| (.inl v_)=> .X 2 [2,4,26,27,28] [12] [] [⟨16,187,[kI (sv.length:Int),.own wY 3 13 [] rv,.om zO Rp.bool 14 [13,0] v_.1,.om zP Rp.bool 15 [13,0] v_.2]⟩]| (.inr v_)=> .r ⟨[(2,.ptr 12 0),(3,k8 9)],[⟨12,126,[kI v2,kI v_.1,kI v_.2]⟩]⟩) ?_ lzz ?_))
   ·clear h;intro s o h;obtain ⟨v3,f6,f7⟩:=s;replace h:zco rv sv v2 x v3 f6 f7=some o:=h;unfold zco at h;refine jp (jI h ?_ ?_)<;>intro u9 h
    ·refine zq (jb h fun x2 vh h=>jr (rx 1 [0] zjp.el vh rfl rfl (rc 0 rfl (lde ze [0] x2 znp) (rfl' [24]))) (jb h fun rv5 vC h=>jr (lb 2 ze [] x2 (rkl 0 [] ⟨[(2,.ptr 12 0),(4,.ptr 16 0),(5,kI v2),(8,kI v3),(26,.sl zg [0] sv),(27,kI (sv.length:Int)),(28,kI v2),(42,.sl ze [0] x.Fields),(43,kI (x.Fields.length:Int)),(44,kI v3),(49,.ag [kI (sv.length:Int),.own wY 3 13 [] rv,.om zO Rp.bool 14 [13,0] f6,.om zP Rp.bool 15 [13,0] f7]),(50,kI v2),(51,.rc ze [] x2)],[⟨12,126,[kI 0,kI 0,kI 0]⟩,⟨16,187,[kI (sv.length:Int),.own wY 3 13 [] rv,.om zO Rp.bool 14 [13,0] f6,.om zP Rp.bool 15 [13,0] f7]⟩]⟩ (znz ⟨[(2,.ptr 12 0),(4,.ptr 16 0),(5,kI v2),(8,kI v3),(26,.sl zg [0] sv),(27,kI (sv.length:Int)),(28,kI v2),(42,.sl ze [0] x.Fields),(43,kI (x.Fields.length:Int)),(44,kI v3),(49,.ag [kI (sv.length:Int),.own wY 3 13 [] rv,.om zO Rp.bool 14 [13,0] rv5.2.1,.om zP Rp.bool 15 [13,0] rv5.2.2]),(50,kI v2),(51,.rc ze [] x2)],[⟨12,126,[kI 0,kI 0,kI 0]⟩,⟨16,187,[kI (sv.length:Int),.own wY 3 13 [] rv,.om zO Rp.bool 14 [13,0] rv5.2.1,.om zP Rp.bool 15 [13,0] rv5.2.2]⟩]⟩ (znB [.ag [kI (sv.length:Int),.own wY 3 13 [] rv,.om zO Rp.bool 14 [13,0] f6,.om zP Rp.bool 15 [13,0] f7],kI v2,.rc ze [] x2] [(14,2),(15,3)] [13,0] 25 [] rfl call120 (zqf vC) rfl rfl (by kernel_rfl) rfl rfl rfl) rfl (by kernel_rfl) (by kernel_rfl) ⟨⟨_,rfl,zz rfl⟩,⟨_,rfl,zz rfl⟩,⟨_,rfl,zz rfl⟩,⟨_,rfl,zz rfl⟩,⟨_,rfl,zz rfl⟩,⟨_,rfl,zz rfl⟩,⟨_,rfl,zz rfl⟩,⟨_,rfl,zz rfl⟩,⟨_,rfl,zz rfl⟩,⟨_,rfl,zz rfl⟩,⟨_,rfl,zsE ⟨zz rfl,zz rfl,ziA 0 rfl,ziA 1 rfl,trivial⟩⟩,⟨_,rfl,zz rfl⟩,⟨_,rfl,zz rfl⟩,trivial⟩ ⟨⟨_,rfl,rfl,rfl,⟨zz rfl,zz rfl,zz rfl,trivial⟩⟩,⟨_,rfl,rfl,rfl,⟨zz rfl,zz rfl,ziA 0 rfl,ziA 1 rfl,trivial⟩⟩,trivial⟩ rf))) (jp (jI h ?_ ?_))))<;>intro vf h
     ·refine jr (rc 3 rfl (zab (r:=zeJ) [kI v2,kI v3,kI rv5.1] [] (⟨v2,v3,rv5.1⟩:zaR) rfl zCm rfl rfl) rf) ?_;cases h;exact zrK lzz
     refine zS ?_;cases h;exact jy
    cases h;exact zag rfl lzz
   rcases q with u| u2
   ·refine zaA _ rfl (zS ?_);cases h;exact jy
   cases h;exact zwE lzz
  cases h;exact zag rfl lzz
 rcases q2 with u3| u4
 ·refine zaA _ rfl (jr (rc 0 rfl (zab (r:=zeJ) [] [] (⟨0,0,0⟩:zaR) rfl zCm rfl rfl) rf) ?_);cases h;exact zx (lks [12] [(12,2)] lzz)
 cases h;exact zfn (lks [12] [(12,2)] lzz)
theorem zvp (h:ziN l=some r):w6 111 [.sl Rp.str [0] l] [kB r]:=by
 refine fi 16 func111 fun Xt=>?_
 unfold ziN at h;refine jp (jp (zq (jb h fun q u0 h=>jL u0 [5,6] [] (fun s=>[(7,kI s)]) (fun| (.inl v_)=> .x 0 ⟨[],[]⟩| (.inr v_)=> .r ⟨[(2,kB false)],[]⟩) ?_ lzz ?_)))
 ·clear h;intro v o h;unfold zcV at h;refine jp (jI h ?_ ?_)<;>intro uS h
  ·refine zq (jb h fun x va h=>jr (rx 0 [0] znG.el va rfl rfl rf) (jb h fun v2 vq h=>jb h fun rv uU h=>jr (ra 1 [kS x] rfl (ztL 12 rfl underlying9 underlying35 underlying5 vq) rfl (rl 0 [12] 11 call145 (zut uU) rf)) (jI h ?_ ?_)))<;>intro uT h
   ·cases h;exact jz'
   refine zS ?_;cases h;exact jy
  cases h;exact zag rfl lzz
 rcases q with u| u2
 ·refine zaA _ rfl (jp ?_);obtain rfl:=(sj h);exact zx lzz
 obtain rfl:=(sj h);exact zfn lzz
theorem zEa (h:zrj k l=some r):w6 114 [kI k,.sl wZ [0] l] [.own Rp.byte 5 2 [] r.1,k8 r.2]:=by
 refine fi 31 func114 fun Xt=>?_
 unfold zrj at h;refine jp (jb h fun rv uU h=>jr (rl 1 [1] 12 call147 (zuc uU) rf) (jI h ?_ ?_))<;>intro uS h
 ·refine jp ?_;cases h;exact zx lw
 refine jp (jp (zq (jb h fun q u0 h=>jL u0 [0,14,15] [] (fun s=>[(6,.own Rp.byte 5 16 [] s.1),(16,kI s.2)]) (fun o=> .x 0 ⟨[(6,.own Rp.byte 5 16 [] o)],[]⟩) ?_ lw ?_)))
 ·clear h;intro s o h;obtain ⟨b,v⟩:=s;replace h:zfy k l b v=some o:=h;unfold zfy at h;refine jp (jI h ?_ ?_)<;>intro uT h
  ·refine zq (jb h fun x va h=>jr (rx 0 [0] zoU.el va rfl rfl rf) (jb h fun w8 uY h=>jr (rl 2 [1] 15 call148 (zsD uY) rf) (jb h fun v2 vq h=>jr (rc 2 rfl (lao 16 [] 5 17 [] [] zbB.el vq (.inl zcH)) rf) (zS ?_))));cases h;exact jy
  cases h;exact zag rfl lzz
 refine zaA _ rfl (jp ?_);cases h;exact zx (lks [] [(16,2)] lzz)
theorem zzq (h:zmF b vl value=some r):w6 153 [.sl Rp.byte [0] b,kI vl,.sl Rp.byte [0] value] [.own Rp.byte 5 2 [] r]:=by
 refine fi 22 func153 fun Xt=>?_
 unfold zmF at h;refine jp (jb h fun rv uU h=>jr (rl 3 [0] 12 call116 (zsA uU) rf) (jp (jI h ?_ ?_)))<;>intro uS h
 ·refine jb h fun w8 uY h=>jr (rc 1 rfl (zey [.sl Rp.byte [0] b] 15 [0] ([b]:(List (List UInt8))) rfl zoV rfl rfl rfl rfl) (rl 0 [15,0] 14 call66 (zck uY) rf)) ?_;obtain rfl:=(sj h);exact zx (lks [] [(16,2)] lzz)
 refine jp ?_;cases h;exact zx (lks [] [(14,2)] lzz)
theorem zhm (h:zcr wv vl wire value=some r):ziI prog 70 [.ptr 800000 0,kI vl,kI wire,.sl Rp.byte [0] value] [] [⟨800000,76,(zp 800001 [0] wv)⟩] [800000] [⟨800000,76,(zp 800001 [0,2,3] r)⟩]:=by
 refine zlO (E:=⟨[(0,.ptr 800000 0)],[⟨800000,76,(zp 800001 [0,2,3] r)⟩]⟩) 20 [0] [(0,800000)] func70 rfl rfl rfl trivial ⟨⟨rfl,rfl,rfl⟩,trivial⟩ ⟨rfl,trivial⟩ (fun Xt old=>?_);refine zcw ?_;unfold zcr at h;refine jb h fun rv uU h=>jr (rl 3 [0] 11 call116 (FnOk.le (ins':=[kN,kI vl,kI wire,.sl Rp.byte [0] value]) (zsA uU) ⟨zha _ _,w7 _,w7 _,w7 _,trivial⟩) rf) (jb h fun w8 uY h=>jr (ra 2 [.ptr 800000 0,.own Rp.byte 5 13 [] rv.1] rfl (zhD (args:=[.tmp 17,.tmp 18]) [.ptr 800000 0,.own Rp.byte 5 13 [] rv.1] [⟨800000,76,(zp 800001 [0] wv)⟩] [(800000,800000),(800001,800001)] [0,13] 12 [800001] rfl call65 (zhQ uY) rfl rfl rfl rfl rfl rfl rfl rfl) rfl rf) ?_);obtain rfl:=(sj h);exact zAi (lks [800000] [(13,3),(14,3)] lw)
theorem zqd (h:zfS vb sv vc b d=some r):w6 49 [.sl zg [0] sv,kI vc,.sl Rp.byte [0] b,kI d] [kI r.1,kI r.2]:=by
 refine fi 25 func49 fun Xt=>?_
 unfold zfS at h;refine jp (jb h fun rv uU h=>jr (rl 3 [0] 9 call81 (zqD uU) rf) (jp (jI h ?_ ?_)))<;>intro uS h
 ·cases h;exact jz
 refine jb h fun w8 uY h=>jr (rl 4 [0] 9 call82 (zqe uY) rf) ?_;cases h;exact zx lzz
theorem zsk (wu:∀{sv:(List zc)} {vc:Int} {b:(List UInt8)} {r:zd},xa sv vc b=some r->w6 24 [.sl zg [0] sv,kI vc,.sl Rp.byte [0] b] [.ag (zbF 3 [4] 5 [] r)]) (h:zgw xa sv vc b=some r):w6 24 [.sl zg [0] sv,kI vc,.sl Rp.byte [0] b] [.ag (zbF 3 [4] 5 [] r)]:=by
 refine fj ⟨[(6,.ptr 2 0)],[⟨2,33,(zbF 3 [4] 5 [] r)⟩]⟩ 221 func24 ⟨⟨_,_,rfl,rfl,rfl,zMz⟩,trivial⟩ fun Xt=>?_
 unfold zgw at h;refine jq [146] (jb h fun x va h=>jb h fun rv uU h=>jr (rx 2 [0] zhl.el va rfl rfl (rc 0 rfl (lde zg [0] x ztp) (rl 1 [0] 145 call50 (zsj uU) rf))) (jq [148] (jb h fun x2 vh h=>jb h fun w8 uY h=>jr (rx 2 [0] zhl.el vh rfl rfl (rc 0 rfl (lde zg [0] x2 ztp) (rl 0 [0] 147 call51 (zpe uY) rf))) (jp (zq (jb h fun q2 vn h=>jl vn [0,1,2,6,7,10,11] [146] (fun s=>[(12,kI s.1)]) (fun s=>[⟨148,33,[.own zj 55 193 [150] s.2,kN]⟩]) (fun o=> .X 0 [2,6,7,10] [146] [] [⟨148,33,[.own zj 55 193 [150] o,kN]⟩]) ?_ lw ?_))))))
 ·clear h;intro s o h;obtain ⟨i,f⟩:=s;replace h:zbQ b xa vc rv w8 sv i f=some o:=h;unfold zbQ at h;refine jp (jI h ?_ ?_)<;>intro uS h
  ·refine zq (jb h fun x3 vp h=>jb h fun x4 vz h=>jb h fun x5 vB h=>jd [0,1,2,6,7,10,11,12,13] [146,148,236] zdc (by exact (lwn 2 (di [0] zhl.el vp (lw_e (lx (ldl zg [0] x3 1 ze x3.Fields) (lwn 2 (ly [.own wY 3 149 [] w8,kI i] (zjG rfl zkb.el (zcn _ _ _ _ _) vz) rfl (lw_e (di [0] zjp.el vB (lx (lde ze [0] x5 znp) (lx (zou 236 [kS [],kI 0,kI 0,kB false,kB false,kI 0] rfl zeroValue47 rfl) (ly [.ptr 236 0,.rc ze [0] x5] (ziD (r:=ze) (b:=⟨236,47,[kS [],kI 0,kI 0,kB false,kB false,kI 0]⟩) (off:=0) (zaE x5) rfl sizeOf47 rfl rfl rfl rfl) rfl l0)))))))))))) (jr (ra 2 [kI x5.Number] rfl (zlV [kI x5.Number] [kI x5.Number,kN,kN,kN] rfl zOG rfl) rfl (rfl' [237])) (jp (jp (jp (zq (jb h fun q u0 h=>jl u0 [0,1,2,6,7,10,11,12,13,14] [146,148,236] (fun s=>[(15,.own Rp.byte 5 249 [] s.1),(16,kB s.2.1),(17,kI s.2.2.1)]) (fun s=>[⟨237,55,[kI x5.Number,.own wZ 72 240 [] s.2.2.2.1,.own Rp.str 9 251 [] s.2.2.2.2.1,.own zm 33 248 [238] s.2.2.2.2.2]⟩]) (fun o=> .X 2 [0,1,2,6,7,10,11,12,13,14] [146,148,236] [(15,.own Rp.byte 5 249 [] o.1),(16,kB o.2.1)] [⟨237,55,[kI x5.Number,.own wZ 72 240 [] o.2.2.1,.own Rp.str 9 251 [] o.2.2.2.1,.own zm 33 248 [238] o.2.2.2.2]⟩]) ?_ lw ?_)))))))
   ·clear h;intro s o h;obtain ⟨kH,met,k,f3,f4,f5⟩:=s;replace h:zbR b i xa rv w8 sv x5 kH met k f3 f4 f5=some o:=h;unfold zbR at h;refine jp (jI h ?_ ?_)<;>intro uT h
    ·refine zq (jb h fun x6 vS h=>jb h fun x7 wa h=>jd [0,1,2,6,7,10,11,12,13,14,15,16,17,74] [146,148,236,237] zdc (by exact (lwn 2 (ly [.own zaK 104 147 [] rv.1,kI k] (zjG rfl zuC.el (zcn _ _ _ _ _) vS) rfl (lwn 4 (ly [.own wY 3 149 [] w8,kI i] (zjG rfl zkb.el (zcn _ _ _ _ _) wa) rfl l0))))) (jI h ?_ ?_))<;>intro uW h
     ·refine zGw _ rfl ?_;cases h;exact jy
     refine jp (jb h fun x8 wP h=>jb h fun x9 wQ h=>jb h fun v vi h=>jd [0,1,2,6,7,10,11,12,13,14,15,16,17,18] [146,148,236,237] zdc (by exact (lwn 3 (ly [.own zaK 104 147 [] rv.1,kI k] (zjG rfl zuC.el (zcn _ _ _ _ _) wP) rfl (lwn 5 (ly [.own zaK 104 147 [] rv.1,kI k] (zjG rfl zuC.el (zcn _ _ _ _ _) wQ) rfl (lwn 3 (ly [.sl Rp.byte [0] b,kI x8.R.At,kI x9.R.To] (zge (some (kI x8.R.At)) (some (kI x9.R.To)) rfl zbB.el (zce _ _ _) ⟨rfl,rfl⟩ ⟨rfl,rfl⟩ vi) rfl l0))))))) (jp (jb h fun p vt h=>jn (.N [0,1,2,6,7,10,11,12,13,14,15,16,17,18] [146,148,236] [] [⟨237,55,[kI x5.Number,.own wZ 72 240 [] p.1,.own Rp.str 9 251 [] p.2,.own zm 33 248 [238] f5]⟩]) ?_ ?_)))
     ·replace h:=vt;refine jI h ?_ ?_<;>intro uZ h
      ·refine jp ?_;cases h;exact zae lw
      cases h;exact zae lzz
     refine zek (zq (jb h fun x10 wR h=>jr (ra 2 [.own zaK 104 147 [] rv.1,kI k] rfl (zjG rfl zuC.el (zcn _ _ _ _ _) wR) rfl rf) (jI h ?_ ?_)))<;>intro u9 h
     ·refine jb h fun kg vd h=>jr (rl 3 [0] 257 call52 (zqc vd) rf) (jb h fun v2 vq h=>jr (rc 3 rfl (lao 240 [] 72 259 [] [] zoU.el vq (.inl (zio _))) rf) (zS (zS ?_)));cases h;exact jy
     refine jb h fun kq vm h=>jr (rl 2 [1] 258 call42 (zcm vm) rf) (jI h ?_ ?_)<;>intro vf h
     ·refine jb h fun rv5 vC h=>jr (rl 3 [0] 258 call53 (zkQ vC) rf) (jb h fun v3 vk h=>jr (rc 3 rfl (zey [kU rv5.1] 260 [] ([rv5.1]:(List Int)) rfl zoU rfl rfl rfl rfl) (rc 0 rfl (lao 240 [] 72 260 [] [] zoU.el vk (.inl (zio _))) rf)) (zS (zS ?_)));cases h;exact jy
     refine jg [0,1,2,6,7,10,11,12,13,14,15,16,17,18] [146,148,236,237] [(136,kB ((x5.Kind==17)&&x5.Repeated))] ?_ ?_
     ·refine (rsl 4 [] 140 (x5.Kind==17) ?_ ?_)<;>intro vj
      · exact (rbl [] 136 x5.Repeated rfl (by grind))
      exact (rbl [] 136 false rfl (by grind))
     refine jI h ?_ ?_<;>intro vr h
     ·refine jb h fun rv6 vP h=>jb h fun v5 vJ h=>jd [0,1,2,6,7,10,11,12,13,14,15,16,17] [146,148,236,237] zdc (by exact (lwn 6 (lx (lf1 24 (lc0 259 call24 (wu vP))) (lx (zy.lw (lbs1 265 [262,263,264] rv6 zHx) (.l (ziP zm [262,263,264] rv6 (zbF 262 [263] 264 [] rv6) (by rw [zbb]<;>rfl) rfl))) (ly [.own zm 33 248 [238] f5,.own zm 33 265 [262,263,264] ([rv6]:(List zd))] (zy.withBx (zxP 248 [238,265,262,263,264] rfl zHx.el rfl (zlQ _ _ _ _ _) (zcn _ _ _ _ _) vJ (.inr rfl) rfl) ⟨237,55,[kI x5.Number,.own wZ 72 240 [] p.1,.own Rp.str 9 251 [] p.2,.own zm 33 248 [238] f5]⟩ rfl rfl) rfl (lw_e (ly [.ptr 237 3,.own zm 33 248 [238,265,262,263,264] v5] (zxS (b:=⟨237,55,[kI x5.Number,.own wZ 72 240 [] p.1,.own Rp.str 9 251 [] p.2,.any]⟩) (off:=3) rfl sizeOf42 rfl rfl rfl) rfl l0))))))) (zS (zS (jp ?_)));cases h;exact zae (lks [146,148,236,237] [(265,238),(262,238),(263,238),(264,238)] lw)
     refine jp (jI h ?_ ?_)<;>intro vu h
     ·refine jb h fun v6 vY h=>jr (rc 2 rfl (las 249 [] [0] [] zbB.el vY (.inl zcH)) rf) (zS (zS ?_));cases h;exact jy
     refine jb h fun v7 wb h=>jr (ra 3 [.sl Rp.byte [0] v] rfl (znZ rfl underlying35 underlying5 underlying9 (zce _ _ _)) rfl (rc 0 rfl (zey [kS v] 266 [] ([v]:(List Str)) rfl znG rfl rfl rfl rfl) (rc 0 rfl (lao 251 [] 9 266 [] [] znG.el wb (.inl zva)) rf))) (zS (zS ?_));cases h;exact jy
    cases h;exact zag rfl lzz
   refine zaA _ rfl (jg [0,1,2,6,7,10,11,12,13,14,15] [146,148,236,237] [(171,kB (q.2.1&&((x5.Kind==17)&&(!x5.Repeated))))] ?_ ?_)
   ·refine (rsl 2 [] 162 q.2.1 ?_ ?_)<;>intro vv
    ·refine (rsl 5 [] 167 (x5.Kind==17) ?_ ?_)<;>intro vF
     · exact (rbl [] 171 (!x5.Repeated) rfl (by grind))
     exact (rbl [] 171 false rfl (by grind))
    exact (rbl [] 171 false rfl (by grind))
   refine jb h fun p2 vE h=>jn (.N [0,1,2,6,7,10,11,12,14] [146,148] [] [⟨237,55,[kI x5.Number,.own wZ 72 240 [] q.2.2.1,.own Rp.str 9 251 [] q.2.2.2.1,.own zm 33 271 [268,269,270,238] p2]⟩]) ?_ ?_
   ·replace h:=vE;refine jI h ?_ ?_<;>intro vy h
    ·refine jb h fun rv7 vQ h=>jr (rl 4 [0,249] 270 call24 (wu vQ) (rc 0 rfl (zy.lw (lbs1 276 [273,274,275] rv7 zHx) (.l (ziP zm [273,274,275] rv7 (zbF 273 [274] 275 [] rv7) (by rw [zbb]<;>rfl) rfl))) rf)) ?_;cases h;exact zae (lks [146,148,237] [(276,271),(273,238),(274,238),(275,238)] lw)
    cases h;exact zae (lks [146,148,237] [(248,271)] lw)
   refine zek (jb h fun rv8 vT h=>jr (rc 1 rfl (lcz [.ag [kI x5.Number,.own wZ 72 240 [] q.2.2.1,.own Rp.str 9 251 [] q.2.2.2.1,.own zm 33 271 [268,269,270,238] p2]] 275 call40 (zqE vT) (.c (zaa _) .n)) rf) (jI h ?_ ?_))<;>intro vD h
   ·refine jb h fun v9 wS h=>jr (rc 3 rfl (zy.lw (lbs1 277 [240,251,271,268,269,270,238] (⟨x5.Number,q.2.2.1,q.2.2.2.1,p2⟩:zb) zHw) (.l (ziP zj [240,251,271,268,269,270,238] (⟨x5.Number,q.2.2.1,q.2.2.2.1,p2⟩:zb) [kI x5.Number,.own wZ 72 240 [] q.2.2.1,.own Rp.str 9 251 [] q.2.2.2.1,.own zm 33 271 [268,269,270,238] p2] (by rw [zaa]<;>rfl) rfl))) (rc 0 rfl (lao 193 [150] 55 277 [240,251,271,268,269,270,238] [150,277,240,251,271,268,269,270,238] zHw.el wS (.inr rfl)) rf)) (zS (jp ?_));cases h;exact zae (lks [146,148] [(277,150),(240,150),(251,150),(271,150),(268,150),(269,150),(270,150),(238,150)] lw)
   refine zS ?_;cases h;exact jy
  cases h;exact zag rfl lzz
 refine zaA _ rfl (jp (zq (jb h fun q3 v8 h=>jl v8 [2,6,7,10] [146] (fun s=>[(23,kI s.1)]) (fun s=>[⟨148,33,[.own zj 55 193 [150] q2,.own Rp.str 9 280 [] s.2]⟩]) (fun o=> .X 5 [6,10] [146] [] [⟨148,33,[.own zj 55 193 [150] q2,.own Rp.str 9 280 [] o]⟩]) ?_ lw ?_)))
 ·clear h;intro s o h;obtain ⟨k2,f12⟩:=s;replace h:zba b rv k2 f12=some o:=h;unfold zba at h;refine jp (jI h ?_ ?_)<;>intro vG h
  ·refine zq (jb h fun x11 wT h=>jr (ra 2 [.own zaK 104 147 [] rv.1,kI k2] rfl (zjG rfl zuC.el (zcn _ _ _ _ _) wT) rfl rf) (jI h ?_ ?_))<;>intro vA h
   ·refine jb h fun x12 wU h=>jb h fun x13 wV h=>jb h fun v10 wW h=>jb h fun v11 wX h=>jd [2,6,7,10,23] [146,148] zdc (by exact (lwn 5 (ly [.own zaK 104 147 [] rv.1,kI k2] (zjG rfl zuC.el (zcn _ _ _ _ _) wU) rfl (lwn 5 (ly [.own zaK 104 147 [] rv.1,kI k2] (zjG rfl zuC.el (zcn _ _ _ _ _) wV) rfl (lwn 3 (ly [.sl Rp.byte [0] b,kI x12.R.From,kI x13.R.To] (zge (some (kI x12.R.From)) (some (kI x13.R.To)) rfl zbB.el (zce _ _ _) ⟨rfl,rfl⟩ ⟨rfl,rfl⟩ wW) rfl (ly [.sl Rp.byte [0] v10] (znZ rfl underlying35 underlying5 underlying9 (zce _ _ _)) rfl (lx (zey [kS v10] 281 [] ([v10]:(List Str)) rfl znG rfl rfl rfl rfl) (ly [.own Rp.str 9 280 [] f12,.own Rp.str 9 281 [] ([v10]:(List Str))] (zy.withBx (zxP 280 [] rfl znG.el rfl (zlQ _ _ _ _ _) (zcn _ _ _ _ _) wX (.inl zva) rfl) ⟨148,33,[.own zj 55 193 [150] q2,.own Rp.str 9 280 [] f12]⟩ rfl rfl) rfl (lw_e (ly [.ptr 148 1,.own Rp.str 9 280 [] v11] (zxS (b:=⟨148,33,[.own zj 55 193 [150] q2,.any]⟩) (off:=1) rfl sizeOf25 rfl rfl rfl) rfl l0)))))))))))) (zS ?_);cases h;exact jy
   refine zS ?_;cases h;exact jy
  cases h;exact zag rfl lzz
 refine zaA _ rfl (jp ?_);cases h;exact zx (lks [146] [(146,2),(193,3),(280,5),(150,4)] lzz)
theorem zsM (h:zee vb sv vc b=some r):w6 24 [.sl zg [0] sv,kI vc,.sl Rp.byte [0] b] [.ag (zbF 3 [4] 5 [] r)]:=by
  induction vb generalizing sv vc b r with
  | zero=>exact absurd h nofun
  | succ vb ih=>exact zsk (fun hh=>ih hh) h
theorem zux (h:zmb m b ve met=some r):zjv prog 123 [.rc zg [0] m,.sl Rp.byte [0] b,kI ve,.om zak zan 2 [0] met] [.rc zh [] r.1,k8 r.2.1] [.any,.any,.any,.om zak zan 2 [0] r.2.2]:=by
 refine zlP (E:=⟨[(3,.om zak zan 2 [0] r.2.2),(8,.ptr 3 0),(9,k8 r.2.1)],[⟨3,154,(zcY r.1)⟩]⟩) 56 [3] func123 rfl rfl rfl ⟨⟨_,_,rfl,rfl,rfl,rfl,zqn⟩,rfl,trivial⟩ ⟨.inl rfl,.inl rfl,.inl rfl,.inr ⟨rfl,rfl⟩,trivial⟩ rfl (fun Xt old=>?_);refine zcw ?_;unfold zmb at h;refine jr (ra 0 [.rc zg [0] m] rfl (zhu 13 (zT [0] m) [0] rfl rfl rfl rfl rfl) rfl (rfl' [14])) (jb h fun rv uU h=>jr (rl 2 [0] 13 call164 (zmG uU) (rfl' [15])) (jp (jI h ?_ ?_)))<;>intro uS h
 ·refine jr (rc 0 rfl (zab (r:=zh) [] [] (⟨(⟨0,0,0,0,0⟩:zn),0,false⟩:zf) rfl zyJ rfl rfl) rf) ?_;cases h;exact zhB (lks [14] [(14,3)] lzz)
 refine jr (rc 4 rfl (zab (r:=zak) [kI rv.1.Number,kI rv.1.Wire] [] (⟨rv.1.Number,rv.1.Wire⟩:zU) rfl zNW rfl rfl) (rfl' [16])) (jr (lb 1 zak [] (⟨rv.1.Number,rv.1.Wire⟩:zU) (ra 0 [.om zak zan 2 [0] met,.rc zak [] (⟨rv.1.Number,rv.1.Wire⟩:zU)] rfl (zuS (rk:=zak) (rv:=zan) (m:=met) (k:=(⟨rv.1.Number,rv.1.Wire⟩:zU)) (.rc zan [0] ((mget met (⟨rv.1.Number,rv.1.Wire⟩:zU)).getD (⟨0,false,0⟩:zX))) rfl zGQ (zdQ rfl) (zBx rfl)) rfl (rfl' [17]))) (jp (jb h fun p vt h=>jn (.N [8,10,13] [14,15] [(3,.om zak zan 2 [0] p.1)] [⟨17,245,[kI p.2.1,kB p.2.2.1,k8 p.2.2.2]⟩]) ?_ ?_)))
 ·replace h:=vt;refine jI h ?_ ?_<;>intro uT h
  ·refine jb h fun w8 uY h=>jr (lb 1 zak [] (⟨rv.1.Number,rv.1.Wire⟩:zU) (rl 0 [0] 16 call165 (zyX uY) rf)) (jr (lb 1 zak [] (⟨rv.1.Number,rv.1.Wire⟩:zU) (lb 0 zan [] w8 (rms (C1:=[]) (D:=[]) 0 [] 2 [0] met (⟨rv.1.Number,rv.1.Wire⟩:zU) w8 [0] zGQ (zdQ rfl) (zdQ rfl) rf))) ?_);cases h;exact zae lzz
  cases h;exact zae lzz
 refine zek (jp (jI h ?_ ?_))<;>intro uW h
 ·refine jd [3,8,9] [14] zdc (by exact (lx (zab (r:=zh) [] [] (⟨(⟨0,0,0,0,0⟩:zn),0,false⟩:zf) rfl zyJ rfl rfl) (lwn 2 (ly [.ptr 14 0,.rc zh [] (⟨(⟨0,0,0,0,0⟩:zn),0,false⟩:zf)] (ziD (r:=zh) (b:=⟨14,154,[kI 0,kI 0,kI 0,kI 0,kI 0,kI 0,kB false]⟩) (off:=0) [kI 0,kI 0,kI 0,kI 0,kI 0,kI 0,kB false] rfl sizeOf154 rfl rfl rfl rfl) rfl l0)))) ?_;cases h;exact zhB (lks [14] [(14,3)] lzz)
 refine jr (lb 0 zH [] rv.1 (rc 4 rfl (zab (r:=zh) [.rc zH [] rv.1,kI p.2.1,kB p.2.2.1] [] (⟨rv.1,p.2.1,p.2.2.1⟩:zf) rfl zyJ rfl rfl) rf)) ?_;cases h;exact zhB (lks [14] [(14,3)] lzz)
theorem zpM (v:Int) (v2:(List UInt8)):ItOk prog 223 [.bp wY 3 922300 [] v,.bp (Rp.list Rp.byte) 35 922301 [0] v2] (fun x:((List UInt8)×Int)=>[.sl Rp.byte [0] x.1,k8 x.2]) (fun {σ:Type} (kf:Rnd σ ((List UInt8)×Int)) (sg:σ)=>zfr v v2 kf sg):=by
 refine zJp 38 [(1,.ptr 922300 0),(2,.ptr 922301 0)] [⟨922300,3,[kI v]⟩,⟨922301,35,[.sl Rp.byte [0] v2]⟩] func223 rfl rfl rfl rfl (.cons wY 3 922300 [] v [kI v] rfl rfl (.cons (Rp.list Rp.byte) 35 922301 [0] v2 [.sl Rp.byte [0] v2] rfl rfl (.nil _))) ?_;intro σ kf sg s1 h l I hI F_ hT;replace h:zfr v v2 kf sg=some s1:=h;refine zcw (zqJ (E':=⟨[(0,.lf (.val (.func (.yield l) #[] #[]))),(1,.ptr 922300 0),(2,.ptr 922301 0)],[⟨922300,3,[kI v]⟩,⟨922301,35,[.sl Rp.byte [0] v2]⟩]⟩) (fun _ _ _ hs=>hs) ?_);unfold zfr at h;refine jb h fun rv uU h=>jr (rl 1 [1] 9 call147 (zuc uU) rf) (jp (jI h ?_ ?_))<;>intro uS h
 ·refine jb h fun y vM h=>zDk (E':=⟨[],[]⟩) (x:=(([]:(List UInt8)),2)) (b:=y.1) (s':=y.2) 1 (some 13) [.const (.slice none 0 0),.const (.int .u8 2)] [kN,k8 2] [.sl Rp.byte [0] ([]:(List UInt8)),k8 2] ⟨[(12,.lf (.val (.func (.yield l) #[] #[])))],[]⟩ hT rfl rfl rfl rfl rfl rgg rfl ⟨rfl,⟨rfl,trivial⟩⟩ rfl ⟨zha _ _,w7 _,trivial⟩ rfl rfl vM rgg ?_;cases h;exact zNm lzz
 refine jp (zq (jb h fun q u0 h=>zJr (fun s:((List UInt8)×σ)=>zcb kf rv s.1 s.2) (fun s=>⟨⟨38,[]⟩,itX I hI F_ s.2,false,#[]⟩) (fun s=>⟨[(0,.lf (.val (.func (.yield l) #[] #[]))),(4,kI rv),(5,.sl Rp.byte [0] s.1)],[]⟩) (fun o e a w=>match o with| (.inl v_)=>e= .exit 0/\Sx ⟨⟨38,[]⟩,itX I hI F_ v_,false,#[]⟩ ⟨[],[]⟩ a w| (.inr v_)=>e= .ret/\Sx ⟨⟨38,[]⟩,itX I hI F_ v_,false,#[]⟩ ⟨[],[]⟩ a w) ?_ u0 rfl lzz ?_))
 ·clear h;intro s o h;obtain ⟨w9,sg2⟩:=s;refine zcw ?_;replace h:zcb kf rv w9 sg2=some o:=h;unfold zcb at h;refine jp (jI h ?_ ?_)<;>intro uT h
  ·refine zq (jb h fun w8 uY h=>jr (rl 2 [0] 10 call224 (zCh uY) rf) (jb h fun v3 vk h=>jb h fun y2 vL h=>zDk (E':=⟨[(0,.lf (.val (.func (.yield l) #[] #[]))),(4,kI rv),(5,.sl Rp.byte [0] w9),(6,kI w8.1),(34,kB ((!y2.1)|| (w8.2 !=0)))],[]⟩) (x:=(v3,w8.2)) (b:=y2.1) (s':=y2.2) 5 (some 29) [.tmp 27,.tmp 28] [.sl Rp.byte [0] v3,k8 w8.2] [.sl Rp.byte [0] v3,k8 w8.2] ⟨[(0,.lf (.val (.func (.yield l) #[] #[]))),(4,kI rv),(5,.sl Rp.byte [0] w9),(6,kI w8.1),(7,k8 w8.2),(24,.lf (.val (.func (.yield l) #[] #[]))),(27,.sl Rp.byte [0] v3),(28,k8 w8.2)],[]⟩ hT rfl rfl rfl rfl rfl (ra 3 [.sl Rp.byte [0] w9,kI w8.1] rfl (zge none (some (kI w8.1)) rfl zbB.el (zce _ _ _) ⟨rfl,rfl⟩ ⟨rfl,rfl⟩ vk) rfl rgg) rfl ⟨rfl,⟨rfl,trivial⟩⟩ rfl ⟨w7 _,w7 _,trivial⟩ rfl rfl vL ?_ ?_))
   ·refine (rsl 2 [] 31 (!y2.1) ?_ ?_)<;>intro uW
    · exact (rbl [] 34 true rfl (by grind))
    exact (rbl [] 34 (w8.2 !=0) rfl (by grind))
   refine jI h ?_ ?_<;>intro uZ h
   ·cases h;exact zrK lzz
   refine jb h fun v5 vJ h=>jr (ra 2 [.sl Rp.byte [0] w9,kI w8.1] rfl (zge (some (kI w8.1)) none rfl zbB.el (zce _ _ _) ⟨rfl,rfl⟩ ⟨rfl,rfl⟩ vJ) rfl rf) (zS ?_);cases h;exact zae lzz
  cases h;exact zag rfl lzz
 rcases q with u| u2
 ·refine zaA _ rfl ?_;cases h;exact zNl lzz
 cases h;exact zNo lzz
end Go.Proofs.YtkgohoggipdokaaGreat

/-
  The Go functions do what the plain functions say. No condition.
-/
import Derived.Test.YtkgohoggipdokaaGreatx2G4
set_option autoImplicit true
set_option relaxedAutoImplicit true
namespace Go.Proofs.YtkgohoggipdokaaGreat
open Tryz
open Go Go.RowKit
set_option linter.unusedVariables false
set_option maxRecDepth 100000
set_option maxHeartbeats 3200000
theorem zse (h:zhV sv=some r):vT 72 [.sl zh [0] sv] [.rc zdY [] r.1,k8 r.2]:=by
 refine fj ⟨[(2,.ptr 2 0),(3,k8 r.2)],[⟨2,126,(zna r.1)⟩]⟩ 62 func72 ⟨⟨_,_,rfl,rfl,rfl,rfl,zFP⟩,rfl,trivial⟩ fun Xt=>?_
 unfold zhV at h;refine jq [12] (jg [0,2] [12] [(18,kB ((decide ((sv.length:Int)<1))|| (decide ((sv.length:Int)>100))))] ?_ ?_)
 ·refine (rsl 4 [] 14 (decide ((sv.length:Int)<1)) ?_ ?_)<;>intro pV
  · exact (rbl [] 18 true rfl (by grind))
  exact (rbl [] 18 (decide ((sv.length:Int)>100)) rfl (by grind))
 refine jI h ?_ ?_<;>intro pX h
 ·refine jr (rc 0 rfl (zak (r:=zdY) [kI (-1),kI (-1),kI 1] [] (⟨(-1),(-1),1⟩:zaw) rfl zwP rfl rfl) rf) ?_;cases h;exact zz (lks [12] [(12,2)] lzz)
 refine jb h fun rv pY h=>jr (rl 2 [1] 11 call118 (zxS pY) (rc 0 rfl (ztr (rk:=zE) (rv:=Rp.bool) 14 rfl) (rc 0 rfl (ztr (rk:=zG) (rv:=Rp.bool) 15 rfl) (rc 0 rfl (lbd [kI (sv.length:Int),.own vR 3 13 [] rv,.om zE Rp.bool 14 [] ([]:(List (zp×Bool))),.om zG Rp.bool 15 [] ([]:(List (zr×Bool)))] zGy) (rfl' [16]))))) (jp (zm (jb h fun q2 ur h=>jl ur [2,4,26,27] [12] (fun s=>[(28,kI s.1)]) (fun s=>[⟨16,187,[kI (sv.length:Int),.own vR 3 13 [] rv,.om zE Rp.bool 14 [13,0] s.2.1,.om zG Rp.bool 15 [13,0] s.2.2]⟩]) (fun| (.inl v_)=> .X 0 [2] [12] [] []| (.inr v_)=> .r ⟨[(2,.ptr 12 0),(3,k8 9)],[⟨12,126,[kI v_.1,kI v_.2.1,kI v_.2.2]⟩]⟩) ?_ lw ?_)))
 ·clear h;intro s o h;obtain ⟨v2,f,f2⟩:=s;replace h:zaN rv sv v2 f f2=some o:=h;unfold zaN at h;refine jp (jI h ?_ ?_)<;>intro pZ h
  ·refine zm (jb h fun x ul h=>jr (rx 1 [0] zgU.el ul rfl rfl (rc 0 rfl (lde zh [0] x zuU) (ral 2 [18] [.ptr 18 0,.rc zh [0] x] rfl (zko (r:=zh) (b:=⟨18,71,[kS [],kN]⟩) (off:=0) (zbg [0] x) rfl sizeOf71 rfl rfl rfl rfl) rfl rf))) (jb h fun v8 uj h=>jr (rkl 2 [] ⟨[(2,.ptr 12 0),(4,.ptr 16 0),(5,kI v2),(6,.ptr 18 0),(26,.sl zh [0] sv),(27,kI (sv.length:Int)),(28,kI v2),(33,.ag [kI (sv.length:Int),.own vR 3 13 [] rv,.om zE Rp.bool 14 [13,0] f,.om zG Rp.bool 15 [13,0] f2]),(34,.ag (zbg [0] x))],[⟨12,126,[kI 0,kI 0,kI 0]⟩,⟨16,187,[kI (sv.length:Int),.own vR 3 13 [] rv,.om zE Rp.bool 14 [13,0] f,.om zG Rp.bool 15 [13,0] f2]⟩,⟨18,71,(zbg [0] x)⟩]⟩ (zAI ⟨[(2,.ptr 12 0),(4,.ptr 16 0),(5,kI v2),(6,.ptr 18 0),(26,.sl zh [0] sv),(27,kI (sv.length:Int)),(28,kI v2),(33,.ag [kI (sv.length:Int),.own vR 3 13 [] rv,.om zE Rp.bool 14 [13,0] v8.2.1,.om zG Rp.bool 15 [13,0] v8.2.2]),(34,.ag (zbg [0] x))],[⟨12,126,[kI 0,kI 0,kI 0]⟩,⟨16,187,[kI (sv.length:Int),.own vR 3 13 [] rv,.om zE Rp.bool 14 [13,0] v8.2.1,.om zG Rp.bool 15 [13,0] v8.2.2]⟩,⟨18,71,(zbg [0] x)⟩]⟩ (zns.le (ins':=[(.tmp 33,.ag [kI (sv.length:Int),.own vR 3 13 [] rv,.om zE Rp.bool 14 [13,0] f,.om zG Rp.bool 15 [13,0] f2]),(.tmp 34,.ag (zbg [0] x))]) (zAM (args:=[.tmp 33,.tmp 34]) [.ag [kI (sv.length:Int),.own vR 3 13 [] rv,.om zE Rp.bool 14 [13,0] f,.om zG Rp.bool 15 [13,0] f2],.rc zh [0] x] [(14,2),(15,3)] [13,0] 19 [] rfl call119 (zmj uj) rfl rfl (by kernel_rfl) rfl rfl rfl) ⟨⟨rfl,vU _⟩,⟨rfl,zmD zh [0] x (zbg [0] x) rfl rfl⟩,trivial⟩) rfl (by kernel_rfl) (by kernel_rfl) ⟨⟨_,rfl,zaO rfl⟩,⟨_,rfl,zaO rfl⟩,⟨_,rfl,zaO rfl⟩,⟨_,rfl,zaO rfl⟩,⟨_,rfl,zaO rfl⟩,⟨_,rfl,zaO rfl⟩,⟨_,rfl,zaO rfl⟩,⟨_,rfl,zDH ⟨zaO rfl,zaO rfl,zpf 0 rfl,zpf 1 rfl,trivial⟩⟩,⟨_,rfl,zaO rfl⟩,trivial⟩ ⟨⟨_,rfl,rfl,rfl,⟨zaO rfl,zaO rfl,zaO rfl,trivial⟩⟩,⟨_,rfl,rfl,rfl,⟨zaO rfl,zaO rfl,zpf 0 rfl,zpf 1 rfl,trivial⟩⟩,⟨_,rfl,rfl,rfl,⟨zaO rfl,zaO rfl,trivial⟩⟩,trivial⟩ rf)) (jp (jI h ?_ ?_))))<;>intro p9 h
   ·refine jr (rc 2 rfl (zak (r:=zdY) [kI v2,kI (-1),kI v8.1] [] (⟨v2,(-1),v8.1⟩:zaw) rfl zwP rfl rfl) rf) ?_;cases h;exact zwo lzz
   refine jp (zm (jb h fun q ue h=>jl ue [2,4,5,26,27,28,42,43] [12] (fun s=>[(44,kI s.1)]) (fun s=>[⟨16,187,[kI (sv.length:Int),.own vR 3 13 [] rv,.om zE Rp.bool 14 [13,0] s.2.1,.om zG Rp.bool 15 [13,0] s.2.2]⟩]) (fun| (.inl v_)=> .X 2 [2,4,26,27,28] [12] [] [⟨16,187,[kI (sv.length:Int),.own vR 3 13 [] rv,.om zE Rp.bool 14 [13,0] v_.1,.om zG Rp.bool 15 [13,0] v_.2]⟩]| (.inr v_)=> .r ⟨[(2,.ptr 12 0),(3,k8 9)],[⟨12,126,[kI v2,kI v_.1,kI v_.2]⟩]⟩) ?_ lzz ?_))
   ·clear h;intro s o h;obtain ⟨v3,f6,f7⟩:=s;replace h:zbO rv sv v2 x v3 f6 f7=some o:=h;unfold zbO at h;refine jp (jI h ?_ ?_)<;>intro uh h
    ·refine zm (jb h fun x2 up h=>jr (rx 1 [0] zmr.el up rfl rfl (rc 0 rfl (lde zd [0] x2 zrB) (rfl' [24]))) (jb h fun rv5 uK h=>jr (lb 2 zd [] x2 (rkl 0 [] ⟨[(2,.ptr 12 0),(4,.ptr 16 0),(5,kI v2),(8,kI v3),(26,.sl zh [0] sv),(27,kI (sv.length:Int)),(28,kI v2),(42,.sl zd [0] x.Fields),(43,kI (x.Fields.length:Int)),(44,kI v3),(49,.ag [kI (sv.length:Int),.own vR 3 13 [] rv,.om zE Rp.bool 14 [13,0] f6,.om zG Rp.bool 15 [13,0] f7]),(50,kI v2),(51,.rc zd [] x2)],[⟨12,126,[kI 0,kI 0,kI 0]⟩,⟨16,187,[kI (sv.length:Int),.own vR 3 13 [] rv,.om zE Rp.bool 14 [13,0] f6,.om zG Rp.bool 15 [13,0] f7]⟩]⟩ (zAI ⟨[(2,.ptr 12 0),(4,.ptr 16 0),(5,kI v2),(8,kI v3),(26,.sl zh [0] sv),(27,kI (sv.length:Int)),(28,kI v2),(42,.sl zd [0] x.Fields),(43,kI (x.Fields.length:Int)),(44,kI v3),(49,.ag [kI (sv.length:Int),.own vR 3 13 [] rv,.om zE Rp.bool 14 [13,0] rv5.2.1,.om zG Rp.bool 15 [13,0] rv5.2.2]),(50,kI v2),(51,.rc zd [] x2)],[⟨12,126,[kI 0,kI 0,kI 0]⟩,⟨16,187,[kI (sv.length:Int),.own vR 3 13 [] rv,.om zE Rp.bool 14 [13,0] rv5.2.1,.om zG Rp.bool 15 [13,0] rv5.2.2]⟩]⟩ (zAM [.ag [kI (sv.length:Int),.own vR 3 13 [] rv,.om zE Rp.bool 14 [13,0] f6,.om zG Rp.bool 15 [13,0] f7],kI v2,.rc zd [] x2] [(14,2),(15,3)] [13,0] 25 [] rfl call120 (znl uK) rfl rfl (by kernel_rfl) rfl rfl rfl) rfl (by kernel_rfl) (by kernel_rfl) ⟨⟨_,rfl,zaO rfl⟩,⟨_,rfl,zaO rfl⟩,⟨_,rfl,zaO rfl⟩,⟨_,rfl,zaO rfl⟩,⟨_,rfl,zaO rfl⟩,⟨_,rfl,zaO rfl⟩,⟨_,rfl,zaO rfl⟩,⟨_,rfl,zaO rfl⟩,⟨_,rfl,zaO rfl⟩,⟨_,rfl,zaO rfl⟩,⟨_,rfl,zDH ⟨zaO rfl,zaO rfl,zpf 0 rfl,zpf 1 rfl,trivial⟩⟩,⟨_,rfl,zaO rfl⟩,⟨_,rfl,zaO rfl⟩,trivial⟩ ⟨⟨_,rfl,rfl,rfl,⟨zaO rfl,zaO rfl,zaO rfl,trivial⟩⟩,⟨_,rfl,rfl,rfl,⟨zaO rfl,zaO rfl,zpf 0 rfl,zpf 1 rfl,trivial⟩⟩,trivial⟩ rf))) (jp (jI h ?_ ?_))))<;>intro ui h
     ·refine jr (rc 3 rfl (zak (r:=zdY) [kI v2,kI v3,kI rv5.1] [] (⟨v2,v3,rv5.1⟩:zaw) rfl zwP rfl rfl) rf) ?_;cases h;exact zwo lzz
     refine zS ?_;cases h;exact jy
    cases h;exact zX rfl lzz
   rcases q with u| u2
   ·refine zau _ rfl (zS ?_);cases h;exact jy
   cases h;exact zwp lzz
  cases h;exact zX rfl lzz
 rcases q2 with u3| u4
 ·refine zau _ rfl (jr (rc 0 rfl (zak (r:=zdY) [] [] (⟨0,0,0⟩:zaw) rfl zwP rfl rfl) rf) ?_);cases h;exact zz (lks [12] [(12,2)] lzz)
 cases h;exact zeQ (lks [12] [(12,2)] lzz)
theorem zrv (h:zhe l=some r):vT 111 [.sl Rp.str [0] l] [kB r]:=by
 refine fi 16 func111 fun Xt=>?_
 unfold zhe at h;refine jp (jp (zm (jb h fun q ue h=>jL ue [5,6] [] (fun s=>[(7,kI s)]) (fun| (.inl v_)=> .x 0 ⟨[],[]⟩| (.inr v_)=> .r ⟨[(2,kB false)],[]⟩) ?_ lzz ?_)))
 ·clear h;intro v o h;unfold zck at h;refine jp (jI h ?_ ?_)<;>intro pV h
  ·refine zm (jb h fun x ul h=>jr (rx 0 [0] zlg.el ul rfl rfl rf) (jb h fun v2 uB h=>jb h fun rv pY h=>jr (ra 1 [kS x] rfl (zmF 12 rfl underlying9 underlying35 underlying5 uB) rfl (rl 0 [12] 11 call145 (zwZ pY) rf)) (jI h ?_ ?_)))<;>intro pX h
   ·cases h;exact jz'
   refine zS ?_;cases h;exact jy
  cases h;exact zX rfl lzz
 rcases q with u| u2
 ·refine zau _ rfl (jp ?_);obtain rfl:=(sj h);exact zz lzz
 obtain rfl:=(sj h);exact zeQ lzz
theorem zyy (h:zoe k l=some r):vT 114 [kI k,.sl vS [0] l] [.own Rp.byte 5 2 [] r.1,k8 r.2]:=by
 refine fi 31 func114 fun Xt=>?_
 unfold zoe at h;refine jp (jb h fun rv pY h=>jr (rl 1 [1] 12 call147 (zwL pY) rf) (jI h ?_ ?_))<;>intro pV h
 ·refine jp ?_;cases h;exact zz lw
 refine jp (jp (zm (jb h fun q ue h=>jL ue [0,14,15] [] (fun s=>[(6,.own Rp.byte 5 16 [] s.1),(16,kI s.2)]) (fun o=> .x 0 ⟨[(6,.own Rp.byte 5 16 [] o)],[]⟩) ?_ lw ?_)))
 ·clear h;intro s o h;obtain ⟨b,v⟩:=s;replace h:zex k l b v=some o:=h;unfold zex at h;refine jp (jI h ?_ ?_)<;>intro pX h
  ·refine zm (jb h fun x ul h=>jr (rx 0 [0] zuq.el ul rfl rfl rf) (jb h fun vV ud h=>jr (rl 2 [1] 15 call148 (zpe ud) rf) (jb h fun v2 uB h=>jr (rc 2 rfl (lao 16 [] 5 17 [] [] zcd.el uB (.inl zcm)) rf) (zS ?_))));cases h;exact jy
  cases h;exact zX rfl lzz
 refine zau _ rfl (jp ?_);cases h;exact zz (lks [] [(16,2)] lzz)
theorem zuD (h:zkr b uu value=some r):vT 153 [.sl Rp.byte [0] b,kI uu,.sl Rp.byte [0] value] [.own Rp.byte 5 2 [] r]:=by
 refine fi 22 func153 fun Xt=>?_
 unfold zkr at h;refine jp (jb h fun rv pY h=>jr (rl 3 [0] 12 call116 (zpc pY) rf) (jp (jI h ?_ ?_)))<;>intro pV h
 ·refine jb h fun vV ud h=>jr (rc 1 rfl (zgv [.sl Rp.byte [0] b] 15 [0] ([b]:(List (List UInt8))) rfl zqQ rfl rfl rfl rfl) (rl 0 [15,0] 14 call66 (zcr ud) rf)) ?_;obtain rfl:=(sj h);exact zz (lks [] [(16,2)] lzz)
 refine jp ?_;cases h;exact zz (lks [] [(14,2)] lzz)
theorem zfZ (h:zbQ wv uu wire value=some r):zgO prog 70 [.ptr 800000 0,kI uu,kI wire,.sl Rp.byte [0] value] [] [⟨800000,76,(zj 800001 [0] wv)⟩] [800000] [⟨800000,76,(zj 800001 [0,2,3] r)⟩]:=by
 refine zjF (E:=⟨[(0,.ptr 800000 0)],[⟨800000,76,(zj 800001 [0,2,3] r)⟩]⟩) 20 [0] [(0,800000)] func70 rfl rfl rfl trivial ⟨⟨rfl,rfl,rfl⟩,trivial⟩ ⟨rfl,trivial⟩ (fun Xt old=>?_);refine zgg ?_;unfold zbQ at h;refine jb h fun rv pY h=>jr (rl 3 [0] 11 call116 (FnOk.le (ins':=[kN,kI uu,kI wire,.sl Rp.byte [0] value]) (zpc pY) ⟨zgm _ _,vU _,vU _,vU _,trivial⟩) rf) (jb h fun vV ud h=>jr (ra 2 [.ptr 800000 0,.own Rp.byte 5 13 [] rv.1] rfl (zgh (args:=[.tmp 17,.tmp 18]) [.ptr 800000 0,.own Rp.byte 5 13 [] rv.1] [⟨800000,76,(zj 800001 [0] wv)⟩] [(800000,800000),(800001,800001)] [0,13] 12 [800001] rfl call65 (zgs ud) rfl rfl rfl rfl rfl rfl rfl rfl) rfl rf) ?_);obtain rfl:=(sj h);exact zvi (lks [800000] [(13,3),(14,3)] lw)
end Go.Proofs.YtkgohoggipdokaaGreat

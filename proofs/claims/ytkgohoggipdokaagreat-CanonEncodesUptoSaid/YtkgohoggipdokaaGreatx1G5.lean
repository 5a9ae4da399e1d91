/-
  The Go functions do what the plain functions say. No condition.
-/
import Derived.Test.YtkgohoggipdokaaGreatx1G4
set_option autoImplicit true
set_option relaxedAutoImplicit true
namespace Go.Proofs.YtkgohoggipdokaaGreat
open Tryz
open Go Go.RowKit
set_option linter.unusedVariables false
set_option maxRecDepth 100000
set_option maxHeartbeats 3200000
theorem zsk (h:zhZ sv=some r):vT 72 [.sl zi [0] sv] [.rc zdY [] r.1,k8 r.2]:=by
 refine fj ⟨[(2,.ptr 2 0),(3,k8 r.2)],[⟨2,126,(zne r.1)⟩]⟩ 62 func72 ⟨⟨_,_,rfl,rfl,rfl,rfl,zFT⟩,rfl,trivial⟩ fun Xt=>?_
 unfold zhZ at h;refine jq [12] (jg [0,2] [12] [(18,kB ((decide ((sv.length:Int)<1))|| (decide ((sv.length:Int)>100))))] ?_ ?_)
 ·refine (rsl 4 [] 14 (decide ((sv.length:Int)<1)) ?_ ?_)<;>intro pV
  · exact (rbl [] 18 true rfl (by grind))
  exact (rbl [] 18 (decide ((sv.length:Int)>100)) rfl (by grind))
 refine jI h ?_ ?_<;>intro pX h
 ·refine jr (rc 0 rfl (zai (r:=zdY) [kI (-1),kI (-1),kI 1] [] (⟨(-1),(-1),1⟩:zaw) rfl zwX rfl rfl) rf) ?_;cases h;exact zz (lks [12] [(12,2)] lzz)
 refine jb h fun rv pY h=>jr (rl 2 [1] 11 call118 (zxX pY) (rc 0 rfl (zty (rk:=zD) (rv:=Rp.bool) 14 rfl) (rc 0 rfl (zty (rk:=zE) (rv:=Rp.bool) 15 rfl) (rc 0 rfl (lbd [kI (sv.length:Int),.own vR 3 13 [] rv,.om zD Rp.bool 14 [] ([]:(List (zp×Bool))),.om zE Rp.bool 15 [] ([]:(List (zr×Bool)))] zGC) (rfl' [16]))))) (jp (zm (jb h fun q2 ur h=>jl ur [2,4,26,27] [12] (fun s=>[(28,kI s.1)]) (fun s=>[⟨16,187,[kI (sv.length:Int),.own vR 3 13 [] rv,.om zD Rp.bool 14 [13,0] s.2.1,.om zE Rp.bool 15 [13,0] s.2.2]⟩]) (fun| (.inl v_)=> .X 0 [2] [12] [] []| (.inr v_)=> .r ⟨[(2,.ptr 12 0),(3,k8 9)],[⟨12,126,[kI v_.1,kI v_.2.1,kI v_.2.2]⟩]⟩) ?_ lw ?_)))
 ·clear h;intro s o h;obtain ⟨v2,f,f2⟩:=s;replace h:zaO rv sv v2 f f2=some o:=h;unfold zaO at h;refine jp (jI h ?_ ?_)<;>intro pZ h
  ·refine zm (jb h fun x uk h=>jr (rx 1 [0] zgU.el uk rfl rfl (rc 0 rfl (lde zi [0] x zuZ) (ral 2 [18] [.ptr 18 0,.rc zi [0] x] rfl (zkr (r:=zi) (b:=⟨18,71,[kS [],kN]⟩) (off:=0) (zbj [0] x) rfl sizeOf71 rfl rfl rfl rfl) rfl rf))) (jb h fun wa ul h=>jr (rkl 2 [] ⟨[(2,.ptr 12 0),(4,.ptr 16 0),(5,kI v2),(6,.ptr 18 0),(26,.sl zi [0] sv),(27,kI (sv.length:Int)),(28,kI v2),(33,.ag [kI (sv.length:Int),.own vR 3 13 [] rv,.om zD Rp.bool 14 [13,0] f,.om zE Rp.bool 15 [13,0] f2]),(34,.ag (zbj [0] x))],[⟨12,126,[kI 0,kI 0,kI 0]⟩,⟨16,187,[kI (sv.length:Int),.own vR 3 13 [] rv,.om zD Rp.bool 14 [13,0] f,.om zE Rp.bool 15 [13,0] f2]⟩,⟨18,71,(zbj [0] x)⟩]⟩ (zAQ ⟨[(2,.ptr 12 0),(4,.ptr 16 0),(5,kI v2),(6,.ptr 18 0),(26,.sl zi [0] sv),(27,kI (sv.length:Int)),(28,kI v2),(33,.ag [kI (sv.length:Int),.own vR 3 13 [] rv,.om zD Rp.bool 14 [13,0] wa.2.1,.om zE Rp.bool 15 [13,0] wa.2.2]),(34,.ag (zbj [0] x))],[⟨12,126,[kI 0,kI 0,kI 0]⟩,⟨16,187,[kI (sv.length:Int),.own vR 3 13 [] rv,.om zD Rp.bool 14 [13,0] wa.2.1,.om zE Rp.bool 15 [13,0] wa.2.2]⟩,⟨18,71,(zbj [0] x)⟩]⟩ (znv.le (ins':=[(.tmp 33,.ag [kI (sv.length:Int),.own vR 3 13 [] rv,.om zD Rp.bool 14 [13,0] f,.om zE Rp.bool 15 [13,0] f2]),(.tmp 34,.ag (zbj [0] x))]) (zAU (args:=[.tmp 33,.tmp 34]) [.ag [kI (sv.length:Int),.own vR 3 13 [] rv,.om zD Rp.bool 14 [13,0] f,.om zE Rp.bool 15 [13,0] f2],.rc zi [0] x] [(14,2),(15,3)] [13,0] 19 [] rfl call119 (zmk ul) rfl rfl (by kernel_rfl) rfl rfl rfl) ⟨⟨rfl,vU _⟩,⟨rfl,zlb zi [0] x (zbj [0] x) rfl rfl⟩,trivial⟩) rfl (by kernel_rfl) (by kernel_rfl) ⟨⟨_,rfl,zaP rfl⟩,⟨_,rfl,zaP rfl⟩,⟨_,rfl,zaP rfl⟩,⟨_,rfl,zaP rfl⟩,⟨_,rfl,zaP rfl⟩,⟨_,rfl,zaP rfl⟩,⟨_,rfl,zaP rfl⟩,⟨_,rfl,zDN ⟨zaP rfl,zaP rfl,zpk 0 rfl,zpk 1 rfl,trivial⟩⟩,⟨_,rfl,zaP rfl⟩,trivial⟩ ⟨⟨_,rfl,rfl,rfl,⟨zaP rfl,zaP rfl,zaP rfl,trivial⟩⟩,⟨_,rfl,rfl,rfl,⟨zaP rfl,zaP rfl,zpk 0 rfl,zpk 1 rfl,trivial⟩⟩,⟨_,rfl,rfl,rfl,⟨zaP rfl,zaP rfl,trivial⟩⟩,trivial⟩ rf)) (jp (jI h ?_ ?_))))<;>intro p9 h
   ·refine jr (rc 2 rfl (zai (r:=zdY) [kI v2,kI (-1),kI wa.1] [] (⟨v2,(-1),wa.1⟩:zaw) rfl zwX rfl rfl) rf) ?_;cases h;exact zww lzz
   refine jp (zm (jb h fun q ue h=>jl ue [2,4,5,26,27,28,42,43] [12] (fun s=>[(44,kI s.1)]) (fun s=>[⟨16,187,[kI (sv.length:Int),.own vR 3 13 [] rv,.om zD Rp.bool 14 [13,0] s.2.1,.om zE Rp.bool 15 [13,0] s.2.2]⟩]) (fun| (.inl v_)=> .X 2 [2,4,26,27,28] [12] [] [⟨16,187,[kI (sv.length:Int),.own vR 3 13 [] rv,.om zD Rp.bool 14 [13,0] v_.1,.om zE Rp.bool 15 [13,0] v_.2]⟩]| (.inr v_)=> .r ⟨[(2,.ptr 12 0),(3,k8 9)],[⟨12,126,[kI v2,kI v_.1,kI v_.2]⟩]⟩) ?_ lzz ?_))
   ·clear h;intro s o h;obtain ⟨v3,f6,f7⟩:=s;replace h:zbO rv sv v2 x v3 f6 f7=some o:=h;unfold zbO at h;refine jp (jI h ?_ ?_)<;>intro ug h
    ·refine zm (jb h fun x2 uo h=>jr (rx 1 [0] zms.el uo rfl rfl (rc 0 rfl (lde ze [0] x2 zrH) (rfl' [24]))) (jb h fun rv5 uK h=>jr (lb 2 ze [] x2 (rkl 0 [] ⟨[(2,.ptr 12 0),(4,.ptr 16 0),(5,kI v2),(8,kI v3),(26,.sl zi [0] sv),(27,kI (sv.length:Int)),(28,kI v2),(42,.sl ze [0] x.Fields),(43,kI (x.Fields.length:Int)),(44,kI v3),(49,.ag [kI (sv.length:Int),.own vR 3 13 [] rv,.om zD Rp.bool 14 [13,0] f6,.om zE Rp.bool 15 [13,0] f7]),(50,kI v2),(51,.rc ze [] x2)],[⟨12,126,[kI 0,kI 0,kI 0]⟩,⟨16,187,[kI (sv.length:Int),.own vR 3 13 [] rv,.om zD Rp.bool 14 [13,0] f6,.om zE Rp.bool 15 [13,0] f7]⟩]⟩ (zAQ ⟨[(2,.ptr 12 0),(4,.ptr 16 0),(5,kI v2),(8,kI v3),(26,.sl zi [0] sv),(27,kI (sv.length:Int)),(28,kI v2),(42,.sl ze [0] x.Fields),(43,kI (x.Fields.length:Int)),(44,kI v3),(49,.ag [kI (sv.length:Int),.own vR 3 13 [] rv,.om zD Rp.bool 14 [13,0] rv5.2.1,.om zE Rp.bool 15 [13,0] rv5.2.2]),(50,kI v2),(51,.rc ze [] x2)],[⟨12,126,[kI 0,kI 0,kI 0]⟩,⟨16,187,[kI (sv.length:Int),.own vR 3 13 [] rv,.om zD Rp.bool 14 [13,0] rv5.2.1,.om zE Rp.bool 15 [13,0] rv5.2.2]⟩]⟩ (zAU [.ag [kI (sv.length:Int),.own vR 3 13 [] rv,.om zD Rp.bool 14 [13,0] f6,.om zE Rp.bool 15 [13,0] f7],kI v2,.rc ze [] x2] [(14,2),(15,3)] [13,0] 25 [] rfl call120 (znp uK) rfl rfl (by kernel_rfl) rfl rfl rfl) rfl (by kernel_rfl) (by kernel_rfl) ⟨⟨_,rfl,zaP rfl⟩,⟨_,rfl,zaP rfl⟩,⟨_,rfl,zaP rfl⟩,⟨_,rfl,zaP rfl⟩,⟨_,rfl,zaP rfl⟩,⟨_,rfl,zaP rfl⟩,⟨_,rfl,zaP rfl⟩,⟨_,rfl,zaP rfl⟩,⟨_,rfl,zaP rfl⟩,⟨_,rfl,zaP rfl⟩,⟨_,rfl,zDN ⟨zaP rfl,zaP rfl,zpk 0 rfl,zpk 1 rfl,trivial⟩⟩,⟨_,rfl,zaP rfl⟩,⟨_,rfl,zaP rfl⟩,trivial⟩ ⟨⟨_,rfl,rfl,rfl,⟨zaP rfl,zaP rfl,zaP rfl,trivial⟩⟩,⟨_,rfl,rfl,rfl,⟨zaP rfl,zaP rfl,zpk 0 rfl,zpk 1 rfl,trivial⟩⟩,trivial⟩ rf))) (jp (jI h ?_ ?_))))<;>intro uj h
     ·refine jr (rc 3 rfl (zai (r:=zdY) [kI v2,kI v3,kI rv5.1] [] (⟨v2,v3,rv5.1⟩:zaw) rfl zwX rfl rfl) rf) ?_;cases h;exact zww lzz
     refine zS ?_;cases h;exact jy
    cases h;exact zV rfl lzz
   rcases q with u| u2
   ·refine zat _ rfl (zS ?_);cases h;exact jy
   cases h;exact zwx lzz
  cases h;exact zV rfl lzz
 rcases q2 with u3| u4
 ·refine zat _ rfl (jr (rc 0 rfl (zai (r:=zdY) [] [] (⟨0,0,0⟩:zaw) rfl zwX rfl rfl) rf) ?_);cases h;exact zz (lks [12] [(12,2)] lzz)
 cases h;exact zes (lks [12] [(12,2)] lzz)
theorem zrB (h:zhj l=some r):vT 111 [.sl Rp.str [0] l] [kB r]:=by
 refine fi 16 func111 fun Xt=>?_
 unfold zhj at h;refine jp (jp (zm (jb h fun q ue h=>jL ue [5,6] [] (fun s=>[(7,kI s)]) (fun| (.inl v_)=> .x 0 ⟨[],[]⟩| (.inr v_)=> .r ⟨[(2,kB false)],[]⟩) ?_ lzz ?_)))
 ·clear h;intro v o h;unfold zck at h;refine jp (jI h ?_ ?_)<;>intro pV h
  ·refine zm (jb h fun x uk h=>jr (rx 0 [0] zlj.el uk rfl rfl rf) (jb h fun v2 uA h=>jb h fun rv pY h=>jr (ra 1 [kS x] rfl (zmG 12 rfl underlying9 underlying35 underlying5 uA) rfl (rl 0 [12] 11 call145 (zxg pY) rf)) (jI h ?_ ?_)))<;>intro pX h
   ·cases h;exact jz'
   refine zS ?_;cases h;exact jy
  cases h;exact zV rfl lzz
 rcases q with u| u2
 ·refine zat _ rfl (jp ?_);obtain rfl:=(sj h);exact zz lzz
 obtain rfl:=(sj h);exact zes lzz
theorem zyE (h:zoh k l=some r):vT 114 [kI k,.sl vS [0] l] [.own Rp.byte 5 2 [] r.1,k8 r.2]:=by
 refine fi 31 func114 fun Xt=>?_
 unfold zoh at h;refine jp (jb h fun rv pY h=>jr (rl 1 [1] 12 call147 (zwT pY) rf) (jI h ?_ ?_))<;>intro pV h
 ·refine jp ?_;cases h;exact zz lw
 refine jp (jp (zm (jb h fun q ue h=>jL ue [0,14,15] [] (fun s=>[(6,.own Rp.byte 5 16 [] s.1),(16,kI s.2)]) (fun o=> .x 0 ⟨[(6,.own Rp.byte 5 16 [] o)],[]⟩) ?_ lw ?_)))
 ·clear h;intro s o h;obtain ⟨b,v⟩:=s;replace h:zex k l b v=some o:=h;unfold zex at h;refine jp (jI h ?_ ?_)<;>intro pX h
  ·refine zm (jb h fun x uk h=>jr (rx 0 [0] zuv.el uk rfl rfl rf) (jb h fun vV ud h=>jr (rl 2 [1] 15 call148 (zpj ud) rf) (jb h fun v2 uA h=>jr (rc 2 rfl (lao 16 [] 5 17 [] [] zcd.el uA (.inl zcn)) rf) (zS ?_))));cases h;exact jy
  cases h;exact zV rfl lzz
 refine zat _ rfl (jp ?_);cases h;exact zz (lks [] [(16,2)] lzz)
theorem zuI (h:zku b ut value=some r):vT 153 [.sl Rp.byte [0] b,kI ut,.sl Rp.byte [0] value] [.own Rp.byte 5 2 [] r]:=by
 refine fi 22 func153 fun Xt=>?_
 unfold zku at h;refine jp (jb h fun rv pY h=>jr (rl 3 [0] 12 call116 (zph pY) rf) (jp (jI h ?_ ?_)))<;>intro pV h
 ·refine jb h fun vV ud h=>jr (rc 1 rfl (zgt [.sl Rp.byte [0] b] 15 [0] ([b]:(List (List UInt8))) rfl zqX rfl rfl rfl rfl) (rl 0 [15,0] 14 call66 (zcr ud) rf)) ?_;obtain rfl:=(sj h);exact zz (lks [] [(16,2)] lzz)
 refine jp ?_;cases h;exact zz (lks [] [(14,2)] lzz)
theorem zfY (h:zbQ wv ut wire value=some r):zhc prog 70 [.ptr 800000 0,kI ut,kI wire,.sl Rp.byte [0] value] [] [⟨800000,76,(zj 800001 [0] wv)⟩] [800000] [⟨800000,76,(zj 800001 [0,2,3] r)⟩]:=by
 refine zjJ (E:=⟨[(0,.ptr 800000 0)],[⟨800000,76,(zj 800001 [0,2,3] r)⟩]⟩) 20 [0] [(0,800000)] func70 rfl rfl rfl trivial ⟨⟨rfl,rfl,rfl⟩,trivial⟩ ⟨rfl,trivial⟩ (fun Xt old=>?_);refine zgf ?_;unfold zbQ at h;refine jb h fun rv pY h=>jr (rl 3 [0] 11 call116 (FnOk.le (ins':=[kN,kI ut,kI wire,.sl Rp.byte [0] value]) (zph pY) ⟨zgl _ _,vU _,vU _,vU _,trivial⟩) rf) (jb h fun vV ud h=>jr (ra 2 [.ptr 800000 0,.own Rp.byte 5 13 [] rv.1] rfl (zgg (args:=[.tmp 17,.tmp 18]) [.ptr 800000 0,.own Rp.byte 5 13 [] rv.1] [⟨800000,76,(zj 800001 [0] wv)⟩] [(800000,800000),(800001,800001)] [0,13] 12 [800001] rfl call65 (zgq ud) rfl rfl rfl rfl rfl rfl rfl rfl) rfl rf) ?_);obtain rfl:=(sj h);exact zvn (lks [800000] [(13,3),(14,3)] lw)
theorem zoZ (h:zfK uh sv ui l=some r):vT 14 [.sl zi [0] sv,kI ui,.sl zh [0] l] [kI r]:=by
 refine fi 29 func14 fun Xt=>?_
 unfold zfK at h;refine jp (jb h fun rv pY h=>jr (rl 2 [0] 9 call33 (znJ pY) rf) (jp (jI h ?_ ?_)))<;>intro pV h
 ·refine jp ?_;obtain rfl:=(sj h);exact zz lzz
 refine jp (zm (jb h fun q ue h=>jL ue [0,1,2] [] (fun s=>[(8,kI s)]) (fun| (.inl v_)=> .x 0 ⟨[],[]⟩| (.inr v_)=> .r ⟨[(6,kI 12)],[]⟩) ?_ lzz ?_))
 ·clear h;intro i o h;unfold zbB at h;refine jp (jI h ?_ ?_)<;>intro pX h
  ·refine zm (jb h fun x uk h=>jb h fun vV ud h=>jr (rx 4 [0] zwd.el uk rfl rfl (rc 0 rfl (lde zh [0] x zzX) (rl 0 [0] 10 call34 (zno ud) rf))) (jI h ?_ ?_))<;>intro pZ h
   ·cases h;exact jz'
   refine zS ?_;cases h;exact jy
  cases h;exact zV rfl lzz
 rcases q with u| u2
 ·refine zat _ rfl ?_;cases h;exact jz
 cases h;exact zes lzz
end Go.Proofs.YtkgohoggipdokaaGreat

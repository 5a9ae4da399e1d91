/-
  The Go functions do what the plain functions say. No condition.
-/
import Derived.Test.YtkgohoggipdokaaGreatx1G2
set_option autoImplicit true
set_option relaxedAutoImplicit true
namespace Go.Proofs.YtkgohoggipdokaaGreat
open Go.IntKind (i64)
open Tryz
open Go Go.RowKit
set_option linter.unusedVariables false
set_option maxRecDepth 100000
set_option maxHeartbeats 3200000
theorem zmk (h:zec c m=some r):zrD prog 119 [.ag [kI c.size,.sl vR [0] c.kinds,.om zD Rp.bool 2 [0] c.names,.om zE Rp.bool 3 [0] c.numbers],.rc zi [0] m] [kI r.1] [.ag [.any,.any,.om zD Rp.bool 2 [0] r.2.1,.om zE Rp.bool 3 [0] r.2.2],.any]:=by
 refine zvk (E:=⟨[(0,.ag [.any,.any,.om zD Rp.bool 2 [0] r.2.1,.om zE Rp.bool 3 [0] r.2.2]),(4,kI r.1)],[]⟩) 27 [0] func119 rfl rfl rfl ⟨rfl,trivial⟩ ⟨.inr ⟨rfl,rfl⟩,.inl rfl,trivial⟩ rfl (fun Xt old=>?_);refine zgf ?_;unfold zec at h;refine jr (ral 1 [11] [.rc zi [0] m] rfl (zjo 12 (zbj [0] m) [0] rfl rfl rfl rfl rfl) rfl rf) (jr (rc 2 rfl (zai (r:=zD) [kI (-1),kS m.Name] [] (⟨(-1),m.Name⟩:zp) rfl zDL rfl rfl) (rfl' [13])) (zm (jb h fun rv pY h=>jr (rl 2 [1] 12 call156 (zml pY) rf) (jI h ?_ ?_))))<;>intro pV h
 ·refine jp ?_;cases h;exact zlZ lw
 refine jr (lb 2 zD [] (⟨(-1),m.Name⟩:zp) (ra 0 [.om zD Rp.bool 2 [0] c.names,.rc zD [] (⟨(-1),m.Name⟩:zp)] rfl (ztx (rk:=zD) (rv:=Rp.bool) (m:=c.names) (k:=(⟨(-1),m.Name⟩:zp)) (kB ((mget c.names (⟨(-1),m.Name⟩:zp)).getD false)) rfl zsB (zeE rfl) (zwr rfl rfl rfl)) rfl rf)) (jI h ?_ ?_)<;>intro pX h
 ·refine jp ?_;cases h;exact zlZ lw
 refine jp (jI h ?_ ?_)<;>intro pZ h
 ·refine jp ?_;cases h;exact zlZ lw
 refine zS (jr (lb 2 zD [] (⟨(-1),m.Name⟩:zp) (rms (C1:=[]) 0 [] 2 [0] c.names (⟨(-1),m.Name⟩:zp) true [0] zsB (zeE rfl) (zfs rfl rfl) rf)) (jp ?_));cases h;exact zlZ lw
theorem ztt (h:ziX k=some r):vT 190 [kI k] [kB r]:=by
 refine fi 16 func190 fun Xt=>?_
 unfold ziX at h;refine jp (jb h fun rv pY h=>jr (rl 1 [1] 9 call214 (zwA pY) rf) (jg [] [] [(2,kB ((rv.2==0)&&(rv.1 !=2)))] ?_ ?_))
 ·refine (rsl 3 [] 12 (rv.2==0) ?_ ?_)<;>intro pV
  · exact (rbl [] 2 (rv.1 !=2) rfl (by grind))
  exact (rbl [] 2 false rfl (by grind))
 cases h;exact zz lzz
theorem zxd (h:zjQ uh x=some r):vT 58 [.rc zh [0] x] [kB r]:=by
 refine fi 6 func58 fun Xt=>?_
 unfold zjQ at h;refine jr (rc 0 rfl (lbx 11 [0] (zas [0] x)) rf) (jb h fun rv pY h=>jr (rc 1 rfl (lw0 10 call26 (zuO pY) (.l (zZ [0] x))) rf) ?_);cases h;exact zz lzz
theorem zhr (h:zbY m v=some r):vT 107 [.rc zi [0] m,.fv 108 [.ep vR [0] v 0]] [kI r.1,kB r.2]:=by
 refine fi 15 func107 fun Xt=>?_
 unfold zbY at h;refine jr (ra 0 [.rc zi [0] m] rfl (zjo 11 (zbj [0] m) [0] rfl rfl rfl rfl rfl) rfl rf) (jb h fun rv pY h=>jr (rl 3 [0] 10 call143 (zdE pY) rf) ?_);cases h;exact jz
theorem zyT (h:zox b=some r):vT 210 [.sl Rp.byte [0] b] [kI r.1,kI r.2]:=by
 refine fi 20 func210 fun Xt=>?_
 unfold zox at h;refine jp (jb h fun rv pY h=>jr (rl 1 [0] 9 call226 (zsc pY) rf) (zm (jb h fun q ue h=>jL ue [0] [] (fun s=>[(2,kI s.1),(3,kI s.2.1),(4,kI s.2.2)]) (fun o=> .x 0 ⟨[(2,kI o.1),(3,kI o.2)],[]⟩) ?_ lzz ?_)))
 ·clear h;intro s o h;obtain ⟨wc,points,size⟩:=s;replace h:zfr b wc points size=some o:=h;unfold zfr at h;refine jp (jI h ?_ ?_)<;>intro pV h
  ·refine zm (jp (jp (zS (jb h fun v uy h=>jb h fun vV ud h=>jr (ra 2 [.sl Rp.byte [0] b,kI (i64.wrap (wc+size))] rfl (zrk (some (kI (i64.wrap (wc+size)))) none rfl zcd.el (zhm _ _ _) ⟨rfl,rfl⟩ ⟨rfl,rfl⟩ uy) rfl (rl 0 [0] 10 call226 (zsc ud) rf)) ?_))));cases h;exact zX lzz
  cases h;exact zV rfl lzz
 refine zat _ rfl ?_;cases h;exact jz
theorem zlH (h:zho k wv=some r):vT 146 [kI k,kU wv] [kU r.1,k8 r.2]:=by
 refine fi 34 func146 fun Xt=>?_
 unfold zho at h;refine jp (jp (zm (jp (jb h fun p uL h=>jn (.N [1,6] [] [(7,kB p)] []) ?_ ?_))))
 ·replace h:=uL;refine jI h ?_ ?_<;>intro pV h
  ·cases h;exact zX lzz
  cases h;exact jy
 refine zfv (jI h ?_ ?_)<;>intro pX h
 ·refine jb h fun rv pY h=>jb h fun vV ud h=>jr (rl 1 [1] 9 call177 (zsS pY) (rl 0 [1] 9 call176 (zsT ud) rf)) ?_;cases h;exact zz lzz
 refine jp (jb h fun p2 uS h=>jn (.N [1,6] [] [(13,kB p2)] []) ?_ ?_)
 ·replace h:=uS;refine jI h ?_ ?_<;>intro pZ h
  ·cases h;exact zX lzz
  refine jp (jI h ?_ ?_)<;>intro p9 h
  ·cases h;exact zX lzz
  refine jp (jI h ?_ ?_)<;>intro ug h
  ·cases h;exact zX lzz
  refine jp (jI h ?_ ?_)<;>intro uj h
  ·cases h;exact zX lzz
  cases h;exact jy
 refine zfv (jI h ?_ ?_)<;>intro up h
 ·refine jb h fun wa ul h=>jr (rl 1 [1] 9 call178 (zpd ul) rf) ?_;cases h;exact zz lzz
 refine jp (jI h ?_ ?_)<;>intro uu h
 ·refine jb h fun rv4 uB h=>jr (rl 1 [1] 9 call179 (zuH uB) rf) ?_;cases h;exact zz lzz
 refine jp (jb h fun p3 vc h=>jn (.n ⟨[(1,kU wv),(26,kB p3)],[]⟩) ?_ ?_)
 ·replace h:=vc;refine jI h ?_ ?_<;>intro uv h
  ·cases h;exact zX lzz
  refine jp (jI h ?_ ?_)<;>intro uD h
  ·cases h;exact zX lzz
  refine jp (jI h ?_ ?_)<;>intro uM h
  ·cases h;exact zX lzz
  refine jp (jI h ?_ ?_)<;>intro uE h
  ·cases h;exact zX lzz
  refine jp (jI h ?_ ?_)<;>intro uF h
  ·cases h;exact zX lzz
  cases h;exact jy
 refine zfv (jI h ?_ ?_)<;>intro uH h
 ·cases h;exact jz
 refine zS ?_;cases h;exact jz
theorem zyI (h:zop b=some r):vT 193 [.sl Rp.byte [0] b] [.rc zbP [] r.1,kI r.2.1,k8 r.2.2]:=by
 refine fj ⟨[(2,.ptr 2 0),(3,kI r.2.1),(4,k8 r.2.2)],[⟨2,224,(ztb r.1)⟩]⟩ 35 func193 ⟨⟨_,_,rfl,rfl,rfl,rfl,zFV⟩,rfl,rfl,trivial⟩ fun Xt=>?_
 unfold zop at h;refine jq [12] (jb h fun rv pY h=>jr (rl 1 [0] 11 call213 (zkD pY) rf) (jp (jI h ?_ ?_)))<;>intro pV h
 ·refine jr (rc 0 rfl (zai (r:=zbP) [] [] (⟨0,0⟩:zP) rfl zwZ rfl rfl) rf) ?_;cases h;exact zz (lks [12] [(12,2)] lzz)
 refine jr (ra 1 [kU rv.1,kU 3] rfl (zhU rfl rfl) rfl rf) (jr (rc 5 rfl (zai (r:=zbP) [kI (i64.wrap (if (536870912:Int)<(shrI .u64 rv.1 3) then 536870912 else (shrI .u64 rv.1 3))),kI (i64.wrap (andI .u64 rv.1 7))] [] (⟨(i64.wrap (if (536870912:Int)<(shrI .u64 rv.1 3) then 536870912 else (shrI .u64 rv.1 3))),(i64.wrap (andI .u64 rv.1 7))⟩:zP) rfl zwZ rfl rfl) (rfl' [13])) (jb h fun vV ud h=>jr (lb 0 zbP [] (⟨(i64.wrap (if (536870912:Int)<(shrI .u64 rv.1 3) then 536870912 else (shrI .u64 rv.1 3))),(i64.wrap (andI .u64 rv.1 7))⟩:zP) (rl 0 [1] 12 call183 (zqK ud) rf)) (jI h ?_ ?_)))<;>intro pX h
 ·refine jr (rc 0 rfl (zai (r:=zbP) [] [] (⟨0,0⟩:zP) rfl zwZ rfl rfl) rf) ?_;cases h;exact zz (lks [12] [(12,2)] lzz)
 refine jr (lb 0 zbP [] (⟨(i64.wrap (if (536870912:Int)<(shrI .u64 rv.1 3) then 536870912 else (shrI .u64 rv.1 3))),(i64.wrap (andI .u64 rv.1 7))⟩:zP) rf) ?_;cases h;exact zz (lks [12] [(12,2)] lzz)
theorem zoc (h:zhC wire b=some r):vT 185 [kI wire,.sl Rp.byte [0] b] [kI r.1,kI r.2.1,k8 r.2.2]:=by
 refine fi 45 func185 fun Xt=>?_
 unfold zhC at h;refine jp (jp (jp (zm (jp (jI h ?_ ?_)))))<;>intro pV h
 ·refine jb h fun rv pY h=>jr (rl 1 [0] 9 call212 (zuo pY) rf) ?_;cases h;exact jz
 refine jp (jb h fun p uL h=>jn (.N [1] [] [(4,kI p.1),(6,k8 p.2.1),(7,kU p.2.2)] []) ?_ ?_)
 ·replace h:=uL;refine jI h ?_ ?_<;>intro pX h
  ·cases h;exact jy
  refine jp (jI h ?_ ?_)<;>intro pZ h
  ·cases h;exact jy
  refine jp (jI h ?_ ?_)<;>intro p9 h
  ·refine jb h fun vV ud h=>jr (rl 1 [0] 9 call213 (zkD ud) rf) ?_;cases h;exact zX lzz
  cases h;exact zX lzz
 refine zfv (zS (jp (jI h ?_ ?_)))<;>intro ug h
 ·cases h;exact jz
 refine jp (jI h ?_ ?_)<;>intro uj h
 ·cases h;exact jz
 cases h;exact jz
theorem zzQ (h:zmP b t=some r):vT 150 [.sl Rp.byte [0] b,.rc zbP [0] t] [.own Rp.byte 5 2 [] r.1,k8 r.2]:=by
 refine fi 13 func150 fun Xt=>?_
 unfold zmP at h;refine jq [13] (jb h fun rv pY h=>jr (lb 0 zbP [] t (rl 0 [1] 12 call183 (zqK pY) rf)) (jI h ?_ ?_))<;>intro pV h
 ·refine jp ?_;cases h;exact zz lw
 refine jb h fun vV ud h=>jb h fun wa ul h=>jr (lb 1 zbP [] t (rl 0 [1] 12 call184 (zyJ ud) (rl 0 [0] 12 call152 (zlM ul) rf))) ?_;cases h;exact zz (lks [] [(14,2)] lzz)
theorem znc (h:zfX wv=some r):vT 32 [.qp zhd [0] wv] [.own Rp.byte 5 2 [] r]:=by
 refine fi 8 func32 fun Xt=>?_
 unfold zfX at h;refine jp (jb h fun x uk h=>jb h fun rv pY h=>jr (ra 1 [.qp zhd [0] wv] rfl (zEK (x0:=x) rfl uk) rfl (rc 1 rfl (ldl zhd [0] x 0 (Rp.list Rp.byte) x.pieces) (rl 0 [0] 10 call66 (zcr pY) rf))) ?_);obtain rfl:=(sj h);exact zz (lks [] [(12,2)] lzz)
theorem znk (h:zeM sv=some r):vT 39 [.sl zi [0] sv] [kI r.1,kI r.2.1,kI r.2.2]:=by
 refine fi 80 func39 fun Xt=>?_
 unfold zeM at h;refine jp (jg [0] [] [(17,kB (((sv.length:Int)==0)|| (decide ((sv.length:Int)>100))))] ?_ ?_)
 ·refine (rsl 4 [] 13 ((sv.length:Int)==0) ?_ ?_)<;>intro pV
  · exact (rbl [] 17 true rfl (by grind))
  exact (rbl [] 17 (decide ((sv.length:Int)>100)) rfl (by grind))
 refine jI h ?_ ?_<;>intro pX h
 ·cases h;exact jz
 refine jp (zm (jb h fun q3 vd h=>jL vd [0] [] (fun s=>[(5,kI s)]) (fun| (.inl v_)=> .x 0 ⟨[],[]⟩| (.inr v_)=> .r ⟨[(2,kI v_.1),(3,kI v_.2.1),(4,kI v_.2.2)],[]⟩) ?_ lzz ?_))
 ·clear h;intro i o h;unfold zaU at h;refine jp (jI h ?_ ?_)<;>intro pZ h
  ·refine zm (jp (jp (zm (jb h fun q ue h=>jL ue [0,5] [] (fun s=>[(6,kB s.1),(7,kI s.2)]) (fun o=> .X 2 [0,5] [] [(6,kB o)] []) ?_ lzz ?_))))
   ·clear h;intro s o h;obtain ⟨twice,k⟩:=s;replace h:zaV i sv twice k=some o:=h;unfold zaV at h;refine jp (jI h ?_ ?_)<;>intro p9 h
    ·refine zm (jb h fun g pW h=>jn (.N [0,5,7] [] [(6,kB g)] []) ?_ (zfv ?_))
     ·rcases zeP pW with ⟨ug,pW⟩| ⟨ug,pW⟩
      ·cases pW;exact jd [0,5,6,7] [] zcM (by exact (lw_e (dg 29 ug l0))) (zX lzz)
      refine jb pW fun x uk pW=>jb pW fun x2 uo pW=>?_;cases pW;exact jd [0,5,6,7] [] zcM (by exact (lw_e (dg 29 ug (lwn 2 (di [0] zgU.el uk (lwn 4 (di [0] zgU.el uo l0))))))) (zX lzz)
     refine zS ?_;cases h;exact jy
    cases h;exact zV rfl lzz
   refine zat _ rfl (jb h fun x3 uw h=>jb h fun rv pY h=>jr (rx 2 [0] zgU.el uw rfl rfl (rl 2 [1] 11 call73 (ziS pY) rf)) (jI h ?_ ?_))<;>intro uj h
   ·cases h;exact jz'
   refine jp (jI h ?_ ?_)<;>intro up h
   ·cases h;exact jz'
   refine jb h fun x4 uG h=>jr (rx 2 [0] zgU.el uG rfl rfl (rc 1 rfl (ldl zi [0] x4 1 ze x4.Fields) rf)) (jI h ?_ ?_)<;>intro uu h
   ·cases h;exact jz'
   refine jp (zm (jb h fun q2 ur h=>jL ur [0,5] [] (fun s=>[(8,kI s)]) (fun| (.inl v_)=> .X 4 [0,5] [] [] []| (.inr v_)=> .r ⟨[(2,kI i),(3,kI v_.1),(4,kI v_.2)],[]⟩) ?_ lzz ?_))
   ·clear h;intro k2 o h;unfold zaW at h;refine jb h fun x5 uJ h=>jr (rx 3 [0] zgU.el uJ rfl rfl (rc 1 rfl (ldl zi [0] x5 1 ze x5.Fields) rf)) (jI h ?_ ?_)<;>intro uv h
    ·refine zm (jb h fun vV ud h=>jr (rl 3 [0] 12 call74 (znl ud) rf) (jp (jI h ?_ ?_)))<;>intro uD h
     ·cases h;exact jz'
     refine zS ?_;cases h;exact jy
    cases h;exact zV rfl lzz
   rcases q2 with u| u2
   ·refine zat _ rfl (zS ?_);cases h;exact jy
   cases h;exact zwx lzz
  cases h;exact zV rfl lzz
 rcases q3 with u3| u4
 ·refine zat _ rfl ?_;cases h;exact jz
 cases h;exact zes lzz
theorem zni (h:zeK b wd=some r):vT 77 [.sl Rp.byte [0] b,kI wd] [kI r.1,kI r.2]:=by
 refine fi 28 func77 fun Xt=>?_
 unfold zeK at h;refine jp (jp (zm (jb h fun q ue h=>jL ue [0,1] [] (fun s=>[(6,kI s.1),(7,kI s.2)]) (fun o=> .r ⟨[(4,kI o.1),(5,kI o.2)],[]⟩) ?_ lzz ?_)))
 ·clear h;intro s o h;obtain ⟨wc,count⟩:=s;replace h:zaT b wd wc count=some o:=h;unfold zaT at h;refine zm (jb h fun rv pY h=>jr (rl 2 [0] 10 call121 (znF pY) rf) (jg [0,1,6,7,8] [] [(20,kB ((rv==0)|| (decide ((i64.wrap (wc+rv))>wd))))] ?_ ?_))
  ·refine (rsl 3 [] 14 (rv==0) ?_ ?_)<;>intro pV
   · exact (rbl [] 20 true rfl (by grind))
   exact (rbl [] 20 (decide ((i64.wrap (wc+rv))>wd)) rfl (by grind))
  refine jI h ?_ ?_<;>intro pX h
  ·cases h;exact jz'
  refine jp (jp (zS ?_));cases h;exact zX lzz
 cases h;exact zes lzz
theorem znG (h:zfj b uz=some r):vT 67 [.sl Rp.byte [0] b,kI uz] [.rc zN [] r.1,kI r.2]:=by
 refine fj ⟨[(4,.ptr 2 0),(5,kI r.2)],[⟨2,102,(zgO r.1)⟩]⟩ 108 func67 ⟨⟨_,_,rfl,rfl,rfl,rfl,zFS⟩,rfl,trivial⟩ fun Xt=>?_
 unfold zfj at h;refine jq [12] (jg [0,1,4] [12] [(26,kB ((decide (uz<0))|| (decide (uz>=(b.length:Int)))))] ?_ ?_)
 ·refine (rsl 3 [] 21 (decide (uz<0)) ?_ ?_)<;>intro pV
  · exact (rbl [] 26 true rfl (by grind))
  exact (rbl [] 26 (decide (uz>=(b.length:Int))) rfl (by grind))
 refine jI h ?_ ?_<;>intro pX h
 ·refine jr (rc 0 rfl (zai (r:=zN) [] [] (⟨0,0,0,0,0⟩:zn) rfl zpS rfl rfl) rf) ?_;cases h;exact zz (lks [12] [(12,2)] lzz)
 refine jb h fun rv pY h=>jr (rl 2 [0] 11 call110 (znE pY) rf) (jp (jI h ?_ ?_))<;>intro pZ h
 ·refine jr (rc 0 rfl (zai (r:=zN) [] [] (⟨0,0,0,0,0⟩:zn) rfl zpS rfl rfl) rf) ?_;cases h;exact zz (lks [12] [(12,2)] lzz)
 refine jr (rc 6 rfl (zai (r:=zN) [kI rv.1,kI rv.2.1,kI uz,kI (i64.wrap (uz+rv.2.2.1))] [] (⟨rv.1,rv.2.1,uz,(i64.wrap (uz+rv.2.2.1)),0⟩:zn) rfl zpS rfl rfl) (rfl' [13])) (jp (jp (jp (jb h fun p uL h=>jn (.N [0,4,7,10,11] [12,13] [(12,kI p)] []) ?_ ?_))))
 ·replace h:=uL;refine jI h ?_ ?_<;>intro p9 h
  ·cases h;exact jy
  cases h;exact zX lzz
 refine zfv (jp (jb h fun p2 uS h=>jn (match p2 with| (.inl v_)=> .N [0,4,7,10,11] [12,13] [(12,kI v_)] []| (.inr v_)=> .r ⟨[(4,.ptr 12 0),(5,kI v_)],[⟨12,102,[kI 0,kI 0,kI 0,kI 0,kI 0]⟩]⟩) ?_ ?_))
 ·replace h:=uS;refine jI h ?_ ?_<;>intro ug h
  ·refine jb h fun vV ud h=>jr (rl 3 [0] 12 call87 (zgz ud) rf) (jp (jI h ?_ ?_))<;>intro uj h
   ·refine jr (rc 0 rfl (zai (r:=zN) [] [] (⟨0,0,0,0,0⟩:zn) rfl zpS rfl rfl) rf) ?_;cases h;exact zz lzz
   cases h;exact jy
  cases h;exact zX lzz
 rcases p2 with u| u4
 ·refine zfv (jp (jb h fun p3 vc h=>jn (match p3 with| (.inl v_)=> .N [4,10] [12] [(11,kI v_.1),(12,kI v_.2.1)] [⟨13,102,[kI rv.1,kI rv.2.1,kI uz,kI v_.2.2,kI 0]⟩]| (.inr v_)=> .r ⟨[(4,.ptr 12 0),(5,kI v_)],[⟨12,102,[kI 0,kI 0,kI 0,kI 0,kI 0]⟩]⟩) ?_ ?_))
  ·replace h:=vc;refine jI h ?_ ?_<;>intro up h
   ·refine jb h fun wa ul h=>jr (rl 3 [0] 12 call87 (zgz ul) rf) (jp (jI h ?_ ?_))<;>intro uu h
    ·refine jr (rc 0 rfl (zai (r:=zN) [] [] (⟨0,0,0,0,0⟩:zn) rfl zpS rfl rfl) rf) ?_;cases h;exact zz lzz
    refine jp (jp (jp (jI h ?_ ?_)))<;>intro uv h
    ·refine jr (rc 0 rfl (zai (r:=zN) [] [] (⟨0,0,0,0,0⟩:zn) rfl zpS rfl rfl) rf) ?_;cases h;exact zz lzz
    cases h;exact jy
   cases h;exact zX lzz
  rcases p3 with u2| u3
  ·refine zfv (jp (jI h ?_ ?_))<;>intro uD h
   ·refine jr (rc 0 rfl (zai (r:=zN) [] [] (⟨0,0,0,0,0⟩:zn) rfl zpS rfl rfl) rf) ?_;cases h;exact zz (lks [12] [(12,2)] lzz)
   refine jp (jr (lb 0 zN [] (⟨rv.1,rv.2.1,uz,u2.2.2,(i64.wrap (u2.2.2+u2.2.1))⟩:zn) rf) ?_);cases h;exact zz (lks [12] [(12,2)] lzz)
  cases h;exact zes (lks [12] [(12,2)] lzz)
 cases h;exact zes (lks [12] [(12,2)] lzz)
theorem zjr (h:zez uh k wv=some r):vT 48 [kI k,kU wv] [.own Rp.byte 5 2 [] r]:=by
 refine fi 18 func48 fun Xt=>?_
 unfold zez at h;refine jp (jb h fun rv pY h=>jr (rl 2 [1] 10 call43 (zif pY) rf) (jp (jI h ?_ ?_)))<;>intro pV h
 ·refine jb h fun vV ud h=>jr (rl 1 [1] 10 call80 (zhQ ud) rf) ?_;obtain rfl:=(sj h);exact zz (lks [] [(12,2)] lzz)
 refine jp (jI h ?_ ?_)<;>intro pX h
 ·refine jb h fun wa ul h=>jr (rl 1 [1] 11 call80 (zhQ ul) rf) ?_;obtain rfl:=(sj h);exact zz (lks [] [(13,2)] lzz)
 refine jb h fun rv4 uB h=>jr (rl 1 [1] 12 call79 (zgZ uB) rf) ?_;obtain rfl:=(sj h);exact zz (lks [] [(14,2)] lzz)
theorem zfC (h:zcX uh ut wire value=some r):vT 45 [kI ut,kI wire,.sl Rp.byte [0] value] [.own Rp.byte 5 2 [] r]:=by
 refine fi 22 func45 fun Xt=>?_
 unfold zcX at h;refine jp (jb h fun rv pY h=>jr (rl 2 [1] 10 call78 (zoX pY) rf) (jp (jI h ?_ ?_)))<;>intro pV h
 ·refine jb h fun vV ud h=>jb h fun v uy h=>jr (rl 4 [1] 11 call79 (zgZ ud) (rc 0 rfl (lao 12 [] 5 13 [] [] zcd.el uy (.inl zcn)) rf)) (jb h fun v2 uA h=>jr (rc 2 rfl (las 12 [] [0] [] zcd.el uA (.inl zcn)) rf) ?_);obtain rfl:=(sj h);exact zz (lks [] [(12,2)] lzz)
 refine jb h fun v3 uC h=>jr (rc 2 rfl (las 12 [] [0] [] zcd.el uC (.inl zcn)) rf) ?_;obtain rfl:=(sj h);exact zz (lks [] [(12,2)] lzz)
theorem zqG (h:zgE f=some r):vT 159 [.rc ze [0] f] [kB r]:=by
 refine fi 10 func159 fun Xt=>?_
 unfold zgE at h;refine jq [11] (jb h fun g pW h=>jg [] [] [(2,kB g)] ?_ ?_)
 ·refine (rsI 3 5 pW ?_ ?_)<;>intro pV pW
  ·refine jb pW fun rv pY pW=>?_;cases pW;exact (rl 2 [1] 10 call190 (ztt pY) rgg)
  cases pW;exact rgg
 obtain rfl:=(sj h);exact zz lzz
theorem zhq (h:zdH m ut=some r):vT 64 [.rc zi [0] m,kI ut] [kI r.1,kB r.2]:=by
 refine fi 11 func64 fun Xt=>?_
 unfold zdH at h;refine jr (ra 0 [.rc zi [0] m] rfl (zjo 11 (zbj [0] m) [0] rfl rfl rfl rfl rfl) rfl (rfl' [910800])) (jb h fun rv pY h=>jr (ra 1 [.ptr 910800 0] rfl (zEJ (g:=108) [.tmp 3] [⟨910800,3,[kI ut]⟩] [.ep vR [910800] ut 0] rfl ⟨⟨rfl,rfl,rfl⟩,trivial⟩ rfl) rfl (rl 0 [0,910800] 10 call107 (zhr pY) rf)) ?_);cases h;exact zz lzz
theorem zxf (h:zmn b=some r):vT 175 [.sl Rp.byte [0] b] [kI r]:=by
 refine fi 11 func175 fun Xt=>?_
 unfold zmn at h;refine jp (jb h fun rv pY h=>jr (rl 1 [0] 9 call210 (zyT pY) rf) ?_);cases h;exact jz
theorem zot (h:zfq k l=some r):vT 113 [kI k,.sl vS [0] l] [kB r]:=by
 refine fi 29 func113 fun Xt=>?_
 unfold zfq at h;refine jp (jp (zm (jb h fun q ue h=>jL ue [0,9,10] [] (fun s=>[(11,kI s)]) (fun| (.inl v_)=> .x 0 ⟨[],[]⟩| (.inr v_)=> .r ⟨[(4,kB false)],[]⟩) ?_ lzz ?_)))
 ·clear h;intro v o h;unfold zaN at h;refine jp (jI h ?_ ?_)<;>intro pV h
  ·refine zm (jb h fun x uk h=>jr (rx 0 [0] zuv.el uk rfl rfl rf) (jb h fun rv pY h=>jr (rl 2 [1] 10 call146 (zlH pY) rf) (jg [0,9,10,11] [] [(27,kB ((rv.2 !=0)|| (rv.1 !=x)))] ?_ ?_)))
   ·refine (rsl 3 [] 23 (rv.2 !=0) ?_ ?_)<;>intro pX
    · exact (rbl [] 27 true rfl (by grind))
    exact (rbl [] 27 (rv.1 !=x) rfl (by grind))
   refine jI h ?_ ?_<;>intro pZ h
   ·cases h;exact jz'
   refine zS ?_;cases h;exact jy
  cases h;exact zV rfl lzz
 rcases q with u| u2
 ·refine zat _ rfl (jp ?_);obtain rfl:=(sj h);exact zz lzz
 obtain rfl:=(sj h);exact zes lzz
theorem ztP (h:zja b uz=some r):vT 164 [.sl Rp.byte [0] b,kI uz] [.rc zN [] r.1,k8 r.2]:=by
 refine fj ⟨[(4,.ptr 2 0),(5,k8 r.2)],[⟨2,152,(zgO r.1)⟩]⟩ 62 func164 ⟨⟨_,_,rfl,rfl,rfl,rfl,zFU⟩,rfl,trivial⟩ fun Xt=>?_
 unfold zja at h;refine jq [12] (jg [0,1,4] [12] [(19,kB ((decide (uz<0))|| (decide (uz>=(b.length:Int)))))] ?_ ?_)
 ·refine (rsl 3 [] 14 (decide (uz<0)) ?_ ?_)<;>intro pV
  · exact (rbl [] 19 true rfl (by grind))
  exact (rbl [] 19 (decide (uz>=(b.length:Int))) rfl (by grind))
 refine jI h ?_ ?_<;>intro pX h
 ·refine jr (rc 0 rfl (zai (r:=zN) [] [] (⟨0,0,0,0,0⟩:zn) rfl zwY rfl rfl) rf) ?_;cases h;exact zz (lks [12] [(12,2)] lzz)
 refine jb h fun v2 uA h=>jb h fun rv pY h=>jr (ra 2 [.sl Rp.byte [0] b,kI uz] rfl (zrk (some (kI uz)) none rfl zcd.el (zhm _ _ _) ⟨rfl,rfl⟩ ⟨rfl,rfl⟩ uA) rfl (rl 0 [0] 11 call193 (zyI pY) (rfl' [13]))) (jp (jI h ?_ ?_))<;>intro pZ h
 ·refine jr (rc 0 rfl (zai (r:=zN) [] [] (⟨0,0,0,0,0⟩:zn) rfl zwY rfl rfl) rf) ?_;cases h;exact zz (lks [12] [(12,2)] lzz)
 refine jp (jb h fun v3 uC h=>jb h fun vV ud h=>jd [1,4,6,8,9,10,11] [12,13] zcM (by exact (lwn 4 (ly [.sl Rp.byte [0] b,kI (i64.wrap (uz+rv.2.1))] (zrk (some (kI (i64.wrap (uz+rv.2.1)))) none rfl zcd.el (zhm _ _ _) ⟨rfl,rfl⟩ ⟨rfl,rfl⟩ uC) rfl (lx (lf1 185 (lc0 12 call185 (zoc ud))) l0)))) (jp (jI h ?_ ?_)))<;>intro p9 h
 ·refine jr (rc 0 rfl (zai (r:=zN) [] [] (⟨0,0,0,0,0⟩:zn) rfl zwY rfl rfl) rf) ?_;cases h;exact zz (lks [12] [(12,2)] lzz)
 refine jr (rc 11 rfl (zai (r:=zN) [kI rv.1.Number,kI rv.1.Wire,kI uz,kI (i64.wrap ((i64.wrap (uz+rv.2.1))+vV.1)),kI (i64.wrap ((i64.wrap (uz+rv.2.1))+vV.2.1))] [] (⟨rv.1.Number,rv.1.Wire,uz,(i64.wrap ((i64.wrap (uz+rv.2.1))+vV.1)),(i64.wrap ((i64.wrap (uz+rv.2.1))+vV.2.1))⟩:zn) rfl zwY rfl rfl) rf) ?_;cases h;exact zz (lks [12] [(12,2)] lzz)
theorem zoj (h:zhF k wv=some r):vT 149 [kI k,kU wv] [kI r]:=by
 refine fi 29 func149 fun Xt=>?_
 unfold zhF at h;refine jp (jb h fun rv pY h=>jr (rl 1 [1] 9 call180 (zmX pY) rf) (jg [0,1,5] [] [(19,kB ((rv.2 !=0)|| (rv.1 !=0)))] ?_ ?_))
 ·refine (rsl 3 [] 16 (rv.2 !=0) ?_ ?_)<;>intro pV
  · exact (rbl [] 19 true rfl (by grind))
  exact (rbl [] 19 (rv.1 !=0) rfl (by grind))
 refine jI h ?_ ?_<;>intro pX h
 ·cases h;exact jz
 refine jb h fun vV ud h=>jr (rl 2 [1] 9 call146 (zlH ud) rf) (jb h fun wa ul h=>jr (rl 1 [1] 9 call182 (zrJ ul) rf) ?_);obtain rfl:=(sj h);exact zz lzz
theorem zpj (h:ziA k wv=some r):vT 148 [kI k,kU wv] [.own Rp.byte 5 2 [] r.1,k8 r.2]:=by
 refine fi 32 func148 fun Xt=>?_
 unfold ziA at h;refine jp (jb h fun rv pY h=>jr (rl 1 [1] 10 call180 (zmX pY) rf) (jp (jI h ?_ ?_)))<;>intro pV h
 ·refine jp ?_;cases h;exact zz lw
 refine jb h fun vV ud h=>jr (rl 2 [1] 10 call146 (zlH ud) rf) (jp (jI h ?_ ?_))<;>intro pX h
 ·refine jb h fun wa ul h=>jr (rl 1 [1] 10 call152 (FnOk.le (ins':=[kN,kU vV.1]) (zlM ul) ⟨zgl _ _,vU _,trivial⟩) rf) ?_;cases h;exact zz (lks [] [(12,2)] lzz)
 refine jb h fun rv4 uB h=>jr (rl 2 [1] 11 call181 (zsR uB) rf) ?_;cases h;exact zz (lks [] [(13,2)] lzz)
theorem ztQ (h:zjb wire value=some r):vT 151 [kI wire,.sl Rp.byte [0] value] [kB r]:=by
 refine fi 25 func151 fun Xt=>?_
 unfold zjb at h;refine jp (jp (jI h ?_ ?_))<;>intro pV h
 ·refine jp ?_;obtain rfl:=(sj h);exact zz lzz
 refine jb h fun rv pY h=>jr (rl 2 [0] 9 call185 (zoc pY) rf) (jg [] [] [(4,kB ((rv.2.2==0)&&(rv.2.1==(value.length:Int))))] ?_ ?_)
 ·refine (rsl 3 [] 19 (rv.2.2==0) ?_ ?_)<;>intro pX
  · exact (rbl [] 4 (rv.2.1==(value.length:Int)) rfl (by grind))
  exact (rbl [] 4 false rfl (by grind))
 cases h;exact zz lzz
theorem znm (h:zeO sv=some r):vT 20 [.sl zi [0] sv] [kB r]:=by
 refine fi 14 func20 fun Xt=>?_
 unfold zeO at h;refine jp (jb h fun rv pY h=>jr (rl 1 [0] 9 call39 (znk pY) rf) ?_);cases h;exact jz
theorem znj (h:zeL b=some r):vT 44 [.sl Rp.byte [0] b] [kB r]:=by
 refine fi 16 func44 fun Xt=>?_
 unfold zeL at h;refine jp (jb h fun rv pY h=>jr (rl 3 [0] 9 call77 (zni pY) rf) ?_);cases h;exact jz
theorem znI (h:zfl uh k l=some r):vT 46 [kI k,.sl vS [0] l] [.own Rp.byte 5 2 [] r]:=by
 refine fi 22 func46 fun Xt=>?_
 unfold zfl at h;refine jp (jp (jp (zm (jb h fun q ue h=>jL ue [0,1] [] (fun s=>[(5,.own Rp.byte 5 16 [] s.1),(6,kI s.2)]) (fun o=> .x 0 ⟨[(5,.own Rp.byte 5 16 [] o)],[]⟩) ?_ lw ?_))))
 ·clear h;intro s o h;obtain ⟨out,i⟩:=s;replace h:zbr uh k l out i=some o:=h;unfold zbr at h;refine jp (jI h ?_ ?_)<;>intro pV h
  ·refine zm (jb h fun x uk h=>jb h fun rv pY h=>jb h fun v uy h=>jr (rx 4 [0] zuv.el uk rfl rfl (rl 1 [1] 15 call48 (zjr pY) (rc 0 rfl (lao 16 [] 5 17 [] [] zcd.el uy (.inl zcn)) rf))) (zS ?_));cases h;exact jy
  cases h;exact zV rfl lzz
 refine zat _ rfl (jp ?_);obtain rfl:=(sj h);exact zz (lks [] [(16,2)] lzz)
end Go.Proofs.YtkgohoggipdokaaGreat

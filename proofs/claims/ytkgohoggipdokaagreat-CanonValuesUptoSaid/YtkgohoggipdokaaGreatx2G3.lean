/-
  The Go functions do what the plain functions say. No condition.
-/
import Derived.Test.YtkgohoggipdokaaGreatx2G2
set_option autoImplicit true
set_option relaxedAutoImplicit true
namespace Go.Proofs.YtkgohoggipdokaaGreat
open Go.IntKind (i64)
open Tryz
open Go Go.RowKit
set_option linter.unusedVariables false
set_option maxRecDepth 100000
set_option maxHeartbeats 3200000
theorem zmj (h:zec c m=some r):zrx prog 119 [.ag [kI c.size,.sl vR [0] c.kinds,.om zE Rp.bool 2 [0] c.names,.om zG Rp.bool 3 [0] c.numbers],.rc zh [0] m] [kI r.1] [.ag [.any,.any,.om zE Rp.bool 2 [0] r.2.1,.om zG Rp.bool 3 [0] r.2.2],.any]:=by
 refine zvf (E:=⟨[(0,.ag [.any,.any,.om zE Rp.bool 2 [0] r.2.1,.om zG Rp.bool 3 [0] r.2.2]),(4,kI r.1)],[]⟩) 27 [0] func119 rfl rfl rfl ⟨rfl,trivial⟩ ⟨.inr ⟨rfl,rfl⟩,.inl rfl,trivial⟩ rfl (fun Xt old=>?_);refine zgg ?_;unfold zec at h;refine jr (ral 1 [11] [.rc zh [0] m] rfl (zhl 12 (zbg [0] m) [0] rfl rfl rfl rfl rfl) rfl rf) (jr (rc 2 rfl (zak (r:=zE) [kI (-1),kS m.Name] [] (⟨(-1),m.Name⟩:zp) rfl zDE rfl rfl) (rfl' [13])) (zm (jb h fun rv pY h=>jr (rl 2 [1] 12 call156 (zmk pY) rf) (jI h ?_ ?_))))<;>intro pV h
 ·refine jp ?_;cases h;exact zlZ lw
 refine jr (lb 2 zE [] (⟨(-1),m.Name⟩:zp) (ra 0 [.om zE Rp.bool 2 [0] c.names,.rc zE [] (⟨(-1),m.Name⟩:zp)] rfl (ztq (rk:=zE) (rv:=Rp.bool) (m:=c.names) (k:=(⟨(-1),m.Name⟩:zp)) (kB ((mget c.names (⟨(-1),m.Name⟩:zp)).getD false)) rfl zsu (zeE rfl) (zwj rfl rfl rfl)) rfl rf)) (jI h ?_ ?_)<;>intro pX h
 ·refine jp ?_;cases h;exact zlZ lw
 refine jp (jI h ?_ ?_)<;>intro pZ h
 ·refine jp ?_;cases h;exact zlZ lw
 refine zS (jr (lb 2 zE [] (⟨(-1),m.Name⟩:zp) (rms (C1:=[]) 0 [] 2 [0] c.names (⟨(-1),m.Name⟩:zp) true [0] zsu (zeE rfl) (zfw rfl rfl) rf)) (jp ?_));cases h;exact zlZ lw
theorem ztm (h:ziU k=some r):vT 190 [kI k] [kB r]:=by
 refine fi 16 func190 fun Xt=>?_
 unfold ziU at h;refine jp (jb h fun rv pY h=>jr (rl 1 [1] 9 call214 (zws pY) rf) (jg [] [] [(2,kB ((rv.2==0)&&(rv.1 !=2)))] ?_ ?_))
 ·refine (rsl 3 [] 12 (rv.2==0) ?_ ?_)<;>intro pV
  · exact (rbl [] 2 (rv.1 !=2) rfl (by grind))
  exact (rbl [] 2 false rfl (by grind))
 cases h;exact zz lzz
theorem zqH (h:ziz ug x=some r):vT 58 [.rc zi [0] x] [kB r]:=by
 refine fi 6 func58 fun Xt=>?_
 unfold ziz at h;refine jr (rc 0 rfl (lbx 11 [0] (zaM [0] x)) rf) (jb h fun rv pY h=>jr (rc 1 rfl (lw0 10 call26 (zuJ pY) (.l (zbh [0] x))) rf) ?_);cases h;exact zz lzz
theorem zho (h:zca m v=some r):vT 107 [.rc zh [0] m,.fv 108 [.ep vR [0] v 0]] [kI r.1,kB r.2]:=by
 refine fi 15 func107 fun Xt=>?_
 unfold zca at h;refine jr (ra 0 [.rc zh [0] m] rfl (zhl 11 (zbg [0] m) [0] rfl rfl rfl rfl rfl) rfl rf) (jb h fun rv pY h=>jr (rl 3 [0] 10 call143 (zdC pY) rf) ?_);cases h;exact jz
theorem zyL (h:zou b=some r):vT 210 [.sl Rp.byte [0] b] [kI r.1,kI r.2]:=by
 refine fi 20 func210 fun Xt=>?_
 unfold zou at h;refine jp (jb h fun rv pY h=>jr (rl 1 [0] 9 call226 (zrV pY) rf) (zm (jb h fun q ue h=>jL ue [0] [] (fun s=>[(2,kI s.1),(3,kI s.2.1),(4,kI s.2.2)]) (fun o=> .x 0 ⟨[(2,kI o.1),(3,kI o.2)],[]⟩) ?_ lzz ?_)))
 ·clear h;intro s o h;obtain ⟨wc,points,size⟩:=s;replace h:zfu b wc points size=some o:=h;unfold zfu at h;refine jp (jI h ?_ ?_)<;>intro pV h
  ·refine zm (jp (jp (zS (jb h fun v uy h=>jb h fun vV ud h=>jr (ra 2 [.sl Rp.byte [0] b,kI (i64.wrap (wc+size))] rfl (zre (some (kI (i64.wrap (wc+size)))) none rfl zcd.el (zhh _ _ _) ⟨rfl,rfl⟩ ⟨rfl,rfl⟩ uy) rfl (rl 0 [0] 10 call226 (zrV ud) rf)) ?_))));cases h;exact zY lzz
  cases h;exact zX rfl lzz
 refine zau _ rfl ?_;cases h;exact jz
theorem zlF (h:zhk k wv=some r):vT 146 [kI k,kU wv] [kU r.1,k8 r.2]:=by
 refine fi 34 func146 fun Xt=>?_
 unfold zhk at h;refine jp (jp (zm (jp (jb h fun p uL h=>jn (.N [1,6] [] [(7,kB p)] []) ?_ ?_))))
 ·replace h:=uL;refine jI h ?_ ?_<;>intro pV h
  ·cases h;exact zY lzz
  cases h;exact jy
 refine zfz (jI h ?_ ?_)<;>intro pX h
 ·refine jb h fun rv pY h=>jb h fun vV ud h=>jr (rl 1 [1] 9 call177 (zsL pY) (rl 0 [1] 9 call176 (zsM ud) rf)) ?_;cases h;exact zz lzz
 refine jp (jb h fun p2 uS h=>jn (.N [1,6] [] [(13,kB p2)] []) ?_ ?_)
 ·replace h:=uS;refine jI h ?_ ?_<;>intro pZ h
  ·cases h;exact zY lzz
  refine jp (jI h ?_ ?_)<;>intro p9 h
  ·cases h;exact zY lzz
  refine jp (jI h ?_ ?_)<;>intro uh h
  ·cases h;exact zY lzz
  refine jp (jI h ?_ ?_)<;>intro ui h
  ·cases h;exact zY lzz
  cases h;exact jy
 refine zfz (jI h ?_ ?_)<;>intro uq h
 ·refine jb h fun v8 uj h=>jr (rl 1 [1] 9 call178 (zoY uj) rf) ?_;cases h;exact zz lzz
 refine jp (jI h ?_ ?_)<;>intro uv h
 ·refine jb h fun rv4 uA h=>jr (rl 1 [1] 9 call179 (zuC uA) rf) ?_;cases h;exact zz lzz
 refine jp (jb h fun p3 vc h=>jn (.n ⟨[(1,kU wv),(26,kB p3)],[]⟩) ?_ ?_)
 ·replace h:=vc;refine jI h ?_ ?_<;>intro ut h
  ·cases h;exact zY lzz
  refine jp (jI h ?_ ?_)<;>intro uC h
  ·cases h;exact zY lzz
  refine jp (jI h ?_ ?_)<;>intro uM h
  ·cases h;exact zY lzz
  refine jp (jI h ?_ ?_)<;>intro uE h
  ·cases h;exact zY lzz
  refine jp (jI h ?_ ?_)<;>intro uF h
  ·cases h;exact zY lzz
  cases h;exact jy
 refine zfz (jI h ?_ ?_)<;>intro uH h
 ·cases h;exact jz
 refine zS ?_;cases h;exact jz
theorem zyC (h:zom b=some r):vT 193 [.sl Rp.byte [0] b] [.rc zbP [] r.1,kI r.2.1,k8 r.2.2]:=by
 refine fj ⟨[(2,.ptr 2 0),(3,kI r.2.1),(4,k8 r.2.2)],[⟨2,224,(zsU r.1)⟩]⟩ 35 func193 ⟨⟨_,_,rfl,rfl,rfl,rfl,zFR⟩,rfl,rfl,trivial⟩ fun Xt=>?_
 unfold zom at h;refine jq [12] (jb h fun rv pY h=>jr (rl 1 [0] 11 call213 (zkA pY) rf) (jp (jI h ?_ ?_)))<;>intro pV h
 ·refine jr (rc 0 rfl (zak (r:=zbP) [] [] (⟨0,0⟩:zQ) rfl zwR rfl rfl) rf) ?_;cases h;exact zz (lks [12] [(12,2)] lzz)
 refine jr (ra 1 [kU rv.1,kU 3] rfl (zhQ rfl rfl) rfl rf) (jr (rc 5 rfl (zak (r:=zbP) [kI (i64.wrap (if (536870912:Int)<(shrI .u64 rv.1 3) then 536870912 else (shrI .u64 rv.1 3))),kI (i64.wrap (andI .u64 rv.1 7))] [] (⟨(i64.wrap (if (536870912:Int)<(shrI .u64 rv.1 3) then 536870912 else (shrI .u64 rv.1 3))),(i64.wrap (andI .u64 rv.1 7))⟩:zQ) rfl zwR rfl rfl) (rfl' [13])) (jb h fun vV ud h=>jr (lb 0 zbP [] (⟨(i64.wrap (if (536870912:Int)<(shrI .u64 rv.1 3) then 536870912 else (shrI .u64 rv.1 3))),(i64.wrap (andI .u64 rv.1 7))⟩:zQ) (rl 0 [1] 12 call183 (zqC ud) rf)) (jI h ?_ ?_)))<;>intro pX h
 ·refine jr (rc 0 rfl (zak (r:=zbP) [] [] (⟨0,0⟩:zQ) rfl zwR rfl rfl) rf) ?_;cases h;exact zz (lks [12] [(12,2)] lzz)
 refine jr (lb 0 zbP [] (⟨(i64.wrap (if (536870912:Int)<(shrI .u64 rv.1 3) then 536870912 else (shrI .u64 rv.1 3))),(i64.wrap (andI .u64 rv.1 7))⟩:zQ) rf) ?_;cases h;exact zz (lks [12] [(12,2)] lzz)
theorem znY (h:zhy wire b=some r):vT 185 [kI wire,.sl Rp.byte [0] b] [kI r.1,kI r.2.1,k8 r.2.2]:=by
 refine fi 45 func185 fun Xt=>?_
 unfold zhy at h;refine jp (jp (jp (zm (jp (jI h ?_ ?_)))))<;>intro pV h
 ·refine jb h fun rv pY h=>jr (rl 1 [0] 9 call212 (zui pY) rf) ?_;cases h;exact jz
 refine jp (jb h fun p uL h=>jn (.N [1] [] [(4,kI p.1),(6,k8 p.2.1),(7,kU p.2.2)] []) ?_ ?_)
 ·replace h:=uL;refine jI h ?_ ?_<;>intro pX h
  ·cases h;exact jy
  refine jp (jI h ?_ ?_)<;>intro pZ h
  ·cases h;exact jy
  refine jp (jI h ?_ ?_)<;>intro p9 h
  ·refine jb h fun vV ud h=>jr (rl 1 [0] 9 call213 (zkA ud) rf) ?_;cases h;exact zY lzz
  cases h;exact zY lzz
 refine zfz (zS (jp (jI h ?_ ?_)))<;>intro uh h
 ·cases h;exact jz
 refine jp (jI h ?_ ?_)<;>intro ui h
 ·cases h;exact jz
 cases h;exact jz
theorem zzH (h:zmO b t=some r):vT 150 [.sl Rp.byte [0] b,.rc zbP [0] t] [.own Rp.byte 5 2 [] r.1,k8 r.2]:=by
 refine fi 13 func150 fun Xt=>?_
 unfold zmO at h;refine jq [13] (jb h fun rv pY h=>jr (lb 0 zbP [] t (rl 0 [1] 12 call183 (zqC pY) rf)) (jI h ?_ ?_))<;>intro pV h
 ·refine jp ?_;cases h;exact zz lw
 refine jb h fun vV ud h=>jb h fun v8 uj h=>jr (lb 1 zbP [] t (rl 0 [1] 12 call184 (zyD ud) (rl 0 [0] 12 call152 (zlK uj) rf))) ?_;cases h;exact zz (lks [] [(14,2)] lzz)
theorem zib (h:zdP wv=some r):vT 32 [.qp zfv [0] wv] [.own Rp.byte 5 2 [] r]:=by
 refine fi 8 func32 fun Xt=>?_
 unfold zdP at h;refine jp (jb h fun x ul h=>jb h fun rv pY h=>jr (ra 1 [.qp zfv [0] wv] rfl (zED (x0:=x) rfl ul) rfl (rc 1 rfl (ldl zfv [0] x 0 (Rp.list Rp.byte) x.pieces) (rl 0 [0] 10 call66 (zcr pY) rf))) ?_);obtain rfl:=(sj h);exact zz (lks [] [(12,2)] lzz)
theorem zng (h:zeM sv=some r):vT 39 [.sl zh [0] sv] [kI r.1,kI r.2.1,kI r.2.2]:=by
 refine fi 80 func39 fun Xt=>?_
 unfold zeM at h;refine jp (jg [0] [] [(17,kB (((sv.length:Int)==0)|| (decide ((sv.length:Int)>100))))] ?_ ?_)
 ·refine (rsl 4 [] 13 ((sv.length:Int)==0) ?_ ?_)<;>intro pV
  · exact (rbl [] 17 true rfl (by grind))
  exact (rbl [] 17 (decide ((sv.length:Int)>100)) rfl (by grind))
 refine jI h ?_ ?_<;>intro pX h
 ·cases h;exact jz
 refine jp (zm (jb h fun q3 vd h=>jL vd [0] [] (fun s=>[(5,kI s)]) (fun| (.inl v_)=> .x 0 ⟨[],[]⟩| (.inr v_)=> .r ⟨[(2,kI v_.1),(3,kI v_.2.1),(4,kI v_.2.2)],[]⟩) ?_ lzz ?_))
 ·clear h;intro i o h;unfold zaS at h;refine jp (jI h ?_ ?_)<;>intro pZ h
  ·refine zm (jp (jp (zm (jb h fun q ue h=>jL ue [0,5] [] (fun s=>[(6,kB s.1),(7,kI s.2)]) (fun o=> .X 2 [0,5] [] [(6,kB o)] []) ?_ lzz ?_))))
   ·clear h;intro s o h;obtain ⟨twice,k⟩:=s;replace h:zaT i sv twice k=some o:=h;unfold zaT at h;refine jp (jI h ?_ ?_)<;>intro p9 h
    ·refine zm (jb h fun g pW h=>jn (.N [0,5,7] [] [(6,kB g)] []) ?_ (zfz ?_))
     ·rcases zeP pW with ⟨uh,pW⟩| ⟨uh,pW⟩
      ·cases pW;exact jd [0,5,6,7] [] zcM (by exact (lw_e (dg 29 uh l0))) (zY lzz)
      refine jb pW fun x ul pW=>jb pW fun x2 up pW=>?_;cases pW;exact jd [0,5,6,7] [] zcM (by exact (lw_e (dg 29 uh (lwn 2 (di [0] zgU.el ul (lwn 4 (di [0] zgU.el up l0))))))) (zY lzz)
     refine zS ?_;cases h;exact jy
    cases h;exact zX rfl lzz
   refine zau _ rfl (jb h fun x3 uw h=>jb h fun rv pY h=>jr (rx 2 [0] zgU.el uw rfl rfl (rl 2 [1] 11 call73 (ziP pY) rf)) (jI h ?_ ?_))<;>intro ui h
   ·cases h;exact jz'
   refine jp (jI h ?_ ?_)<;>intro uq h
   ·cases h;exact jz'
   refine jb h fun x4 uG h=>jr (rx 2 [0] zgU.el uG rfl rfl (rc 1 rfl (ldl zh [0] x4 1 zd x4.Fields) rf)) (jI h ?_ ?_)<;>intro uv h
   ·cases h;exact jz'
   refine jp (zm (jb h fun q2 ur h=>jL ur [0,5] [] (fun s=>[(8,kI s)]) (fun| (.inl v_)=> .X 4 [0,5] [] [] []| (.inr v_)=> .r ⟨[(2,kI i),(3,kI v_.1),(4,kI v_.2)],[]⟩) ?_ lzz ?_))
   ·clear h;intro k2 o h;unfold zaU at h;refine jb h fun x5 uJ h=>jr (rx 3 [0] zgU.el uJ rfl rfl (rc 1 rfl (ldl zh [0] x5 1 zd x5.Fields) rf)) (jI h ?_ ?_)<;>intro ut h
    ·refine zm (jb h fun vV ud h=>jr (rl 3 [0] 12 call74 (znh ud) rf) (jp (jI h ?_ ?_)))<;>intro uC h
     ·cases h;exact jz'
     refine zS ?_;cases h;exact jy
    cases h;exact zX rfl lzz
   rcases q2 with u| u2
   ·refine zau _ rfl (zS ?_);cases h;exact jy
   cases h;exact zwp lzz
  cases h;exact zX rfl lzz
 rcases q3 with u3| u4
 ·refine zau _ rfl ?_;cases h;exact jz
 cases h;exact zeQ lzz
theorem zne (h:zeK b wd=some r):vT 77 [.sl Rp.byte [0] b,kI wd] [kI r.1,kI r.2]:=by
 refine fi 28 func77 fun Xt=>?_
 unfold zeK at h;refine jp (jp (zm (jb h fun q ue h=>jL ue [0,1] [] (fun s=>[(6,kI s.1),(7,kI s.2)]) (fun o=> .r ⟨[(4,kI o.1),(5,kI o.2)],[]⟩) ?_ lzz ?_)))
 ·clear h;intro s o h;obtain ⟨wc,count⟩:=s;replace h:zaR b wd wc count=some o:=h;unfold zaR at h;refine zm (jb h fun rv pY h=>jr (rl 2 [0] 10 call121 (znB pY) rf) (jg [0,1,6,7,8] [] [(20,kB ((rv==0)|| (decide ((i64.wrap (wc+rv))>wd))))] ?_ ?_))
  ·refine (rsl 3 [] 14 (rv==0) ?_ ?_)<;>intro pV
   · exact (rbl [] 20 true rfl (by grind))
   exact (rbl [] 20 (decide ((i64.wrap (wc+rv))>wd)) rfl (by grind))
  refine jI h ?_ ?_<;>intro pX h
  ·cases h;exact jz'
  refine jp (jp (zS ?_));cases h;exact zY lzz
 cases h;exact zeQ lzz
theorem znC (h:zfm b uz=some r):vT 67 [.sl Rp.byte [0] b,kI uz] [.rc zN [] r.1,kI r.2]:=by
 refine fj ⟨[(4,.ptr 2 0),(5,kI r.2)],[⟨2,102,(zgP r.1)⟩]⟩ 108 func67 ⟨⟨_,_,rfl,rfl,rfl,rfl,zFO⟩,rfl,trivial⟩ fun Xt=>?_
 unfold zfm at h;refine jq [12] (jg [0,1,4] [12] [(26,kB ((decide (uz<0))|| (decide (uz>=(b.length:Int)))))] ?_ ?_)
 ·refine (rsl 3 [] 21 (decide (uz<0)) ?_ ?_)<;>intro pV
  · exact (rbl [] 26 true rfl (by grind))
  exact (rbl [] 26 (decide (uz>=(b.length:Int))) rfl (by grind))
 refine jI h ?_ ?_<;>intro pX h
 ·refine jr (rc 0 rfl (zak (r:=zN) [] [] (⟨0,0,0,0,0⟩:zn) rfl zpL rfl rfl) rf) ?_;cases h;exact zz (lks [12] [(12,2)] lzz)
 refine jb h fun rv pY h=>jr (rl 2 [0] 11 call110 (znA pY) rf) (jp (jI h ?_ ?_))<;>intro pZ h
 ·refine jr (rc 0 rfl (zak (r:=zN) [] [] (⟨0,0,0,0,0⟩:zn) rfl zpL rfl rfl) rf) ?_;cases h;exact zz (lks [12] [(12,2)] lzz)
 refine jr (rc 6 rfl (zak (r:=zN) [kI rv.1,kI rv.2.1,kI uz,kI (i64.wrap (uz+rv.2.2.1))] [] (⟨rv.1,rv.2.1,uz,(i64.wrap (uz+rv.2.2.1)),0⟩:zn) rfl zpL rfl rfl) (rfl' [13])) (jp (jp (jp (jb h fun p uL h=>jn (.N [0,4,7,10,11] [12,13] [(12,kI p)] []) ?_ ?_))))
 ·replace h:=uL;refine jI h ?_ ?_<;>intro p9 h
  ·cases h;exact jy
  cases h;exact zY lzz
 refine zfz (jp (jb h fun p2 uS h=>jn (match p2 with| (.inl v_)=> .N [0,4,7,10,11] [12,13] [(12,kI v_)] []| (.inr v_)=> .r ⟨[(4,.ptr 12 0),(5,kI v_)],[⟨12,102,[kI 0,kI 0,kI 0,kI 0,kI 0]⟩]⟩) ?_ ?_))
 ·replace h:=uS;refine jI h ?_ ?_<;>intro uh h
  ·refine jb h fun vV ud h=>jr (rl 3 [0] 12 call87 (zgB ud) rf) (jp (jI h ?_ ?_))<;>intro ui h
   ·refine jr (rc 0 rfl (zak (r:=zN) [] [] (⟨0,0,0,0,0⟩:zn) rfl zpL rfl rfl) rf) ?_;cases h;exact zz lzz
   cases h;exact jy
  cases h;exact zY lzz
 rcases p2 with u| u4
 ·refine zfz (jp (jb h fun p3 vc h=>jn (match p3 with| (.inl v_)=> .N [4,10] [12] [(11,kI v_.1),(12,kI v_.2.1)] [⟨13,102,[kI rv.1,kI rv.2.1,kI uz,kI v_.2.2,kI 0]⟩]| (.inr v_)=> .r ⟨[(4,.ptr 12 0),(5,kI v_)],[⟨12,102,[kI 0,kI 0,kI 0,kI 0,kI 0]⟩]⟩) ?_ ?_))
  ·replace h:=vc;refine jI h ?_ ?_<;>intro uq h
   ·refine jb h fun v8 uj h=>jr (rl 3 [0] 12 call87 (zgB uj) rf) (jp (jI h ?_ ?_))<;>intro uv h
    ·refine jr (rc 0 rfl (zak (r:=zN) [] [] (⟨0,0,0,0,0⟩:zn) rfl zpL rfl rfl) rf) ?_;cases h;exact zz lzz
    refine jp (jp (jp (jI h ?_ ?_)))<;>intro ut h
    ·refine jr (rc 0 rfl (zak (r:=zN) [] [] (⟨0,0,0,0,0⟩:zn) rfl zpL rfl rfl) rf) ?_;cases h;exact zz lzz
    cases h;exact jy
   cases h;exact zY lzz
  rcases p3 with u2| u3
  ·refine zfz (jp (jI h ?_ ?_))<;>intro uC h
   ·refine jr (rc 0 rfl (zak (r:=zN) [] [] (⟨0,0,0,0,0⟩:zn) rfl zpL rfl rfl) rf) ?_;cases h;exact zz (lks [12] [(12,2)] lzz)
   refine jp (jr (lb 0 zN [] (⟨rv.1,rv.2.1,uz,u2.2.2,(i64.wrap (u2.2.2+u2.2.1))⟩:zn) rf) ?_);cases h;exact zz (lks [12] [(12,2)] lzz)
  cases h;exact zeQ (lks [12] [(12,2)] lzz)
 cases h;exact zeQ (lks [12] [(12,2)] lzz)
theorem zjm (h:zez ug k wv=some r):vT 48 [kI k,kU wv] [.own Rp.byte 5 2 [] r]:=by
 refine fi 18 func48 fun Xt=>?_
 unfold zez at h;refine jp (jb h fun rv pY h=>jr (rl 2 [1] 10 call43 (zic pY) rf) (jp (jI h ?_ ?_)))<;>intro pV h
 ·refine jb h fun vV ud h=>jr (rl 1 [1] 10 call80 (zhM ud) rf) ?_;obtain rfl:=(sj h);exact zz (lks [] [(12,2)] lzz)
 refine jp (jI h ?_ ?_)<;>intro pX h
 ·refine jb h fun v8 uj h=>jr (rl 1 [1] 11 call80 (zhM uj) rf) ?_;obtain rfl:=(sj h);exact zz (lks [] [(13,2)] lzz)
 refine jb h fun rv4 uA h=>jr (rl 1 [1] 12 call79 (zgX uA) rf) ?_;obtain rfl:=(sj h);exact zz (lks [] [(14,2)] lzz)
theorem zfG (h:zcW ug uu wire value=some r):vT 45 [kI uu,kI wire,.sl Rp.byte [0] value] [.own Rp.byte 5 2 [] r]:=by
 refine fi 22 func45 fun Xt=>?_
 unfold zcW at h;refine jp (jb h fun rv pY h=>jr (rl 2 [1] 10 call78 (zoT pY) rf) (jp (jI h ?_ ?_)))<;>intro pV h
 ·refine jb h fun vV ud h=>jb h fun v uy h=>jr (rl 4 [1] 11 call79 (zgX ud) (rc 0 rfl (lao 12 [] 5 13 [] [] zcd.el uy (.inl zcm)) rf)) (jb h fun v2 uB h=>jr (rc 2 rfl (las 12 [] [0] [] zcd.el uB (.inl zcm)) rf) ?_);obtain rfl:=(sj h);exact zz (lks [] [(12,2)] lzz)
 refine jb h fun v3 uD h=>jr (rc 2 rfl (las 12 [] [0] [] zcd.el uD (.inl zcm)) rf) ?_;obtain rfl:=(sj h);exact zz (lks [] [(12,2)] lzz)
theorem zqy (h:zgG f=some r):vT 159 [.rc zd [0] f] [kB r]:=by
 refine fi 10 func159 fun Xt=>?_
 unfold zgG at h;refine jq [11] (jb h fun g pW h=>jg [] [] [(2,kB g)] ?_ ?_)
 ·refine (rsI 3 5 pW ?_ ?_)<;>intro pV pW
  ·refine jb pW fun rv pY pW=>?_;cases pW;exact (rl 2 [1] 10 call190 (ztm pY) rgg)
  cases pW;exact rgg
 obtain rfl:=(sj h);exact zz lzz
theorem zhn (h:zdF m uu=some r):vT 64 [.rc zh [0] m,kI uu] [kI r.1,kB r.2]:=by
 refine fi 11 func64 fun Xt=>?_
 unfold zdF at h;refine jr (ra 0 [.rc zh [0] m] rfl (zhl 11 (zbg [0] m) [0] rfl rfl rfl rfl rfl) rfl (rfl' [910800])) (jb h fun rv pY h=>jr (ra 1 [.ptr 910800 0] rfl (zEC (g:=108) [.tmp 3] [⟨910800,3,[kI uu]⟩] [.ep vR [910800] uu 0] rfl ⟨⟨rfl,rfl,rfl⟩,trivial⟩ rfl) rfl (rl 0 [0,910800] 10 call107 (zho pY) rf)) ?_);cases h;exact zz lzz
theorem zwY (h:zmm b=some r):vT 175 [.sl Rp.byte [0] b] [kI r]:=by
 refine fi 11 func175 fun Xt=>?_
 unfold zmm at h;refine jp (jb h fun rv pY h=>jr (rl 1 [0] 9 call210 (zyL pY) rf) ?_);cases h;exact jz
theorem zoq (h:zft k l=some r):vT 113 [kI k,.sl vS [0] l] [kB r]:=by
 refine fi 29 func113 fun Xt=>?_
 unfold zft at h;refine jp (jp (zm (jb h fun q ue h=>jL ue [0,9,10] [] (fun s=>[(11,kI s)]) (fun| (.inl v_)=> .x 0 ⟨[],[]⟩| (.inr v_)=> .r ⟨[(4,kB false)],[]⟩) ?_ lzz ?_)))
 ·clear h;intro v o h;unfold zaL at h;refine jp (jI h ?_ ?_)<;>intro pV h
  ·refine zm (jb h fun x ul h=>jr (rx 0 [0] zuq.el ul rfl rfl rf) (jb h fun rv pY h=>jr (rl 2 [1] 10 call146 (zlF pY) rf) (jg [0,9,10,11] [] [(27,kB ((rv.2 !=0)|| (rv.1 !=x)))] ?_ ?_)))
   ·refine (rsl 3 [] 23 (rv.2 !=0) ?_ ?_)<;>intro pX
    · exact (rbl [] 27 true rfl (by grind))
    exact (rbl [] 27 (rv.1 !=x) rfl (by grind))
   refine jI h ?_ ?_<;>intro pZ h
   ·cases h;exact jz'
   refine zS ?_;cases h;exact jy
  cases h;exact zX rfl lzz
 rcases q with u| u2
 ·refine zau _ rfl (jp ?_);obtain rfl:=(sj h);exact zz lzz
 obtain rfl:=(sj h);exact zeQ lzz
theorem ztI (h:ziX b uz=some r):vT 164 [.sl Rp.byte [0] b,kI uz] [.rc zN [] r.1,k8 r.2]:=by
 refine fj ⟨[(4,.ptr 2 0),(5,k8 r.2)],[⟨2,152,(zgP r.1)⟩]⟩ 62 func164 ⟨⟨_,_,rfl,rfl,rfl,rfl,zFQ⟩,rfl,trivial⟩ fun Xt=>?_
 unfold ziX at h;refine jq [12] (jg [0,1,4] [12] [(19,kB ((decide (uz<0))|| (decide (uz>=(b.length:Int)))))] ?_ ?_)
 ·refine (rsl 3 [] 14 (decide (uz<0)) ?_ ?_)<;>intro pV
  · exact (rbl [] 19 true rfl (by grind))
  exact (rbl [] 19 (decide (uz>=(b.length:Int))) rfl (by grind))
 refine jI h ?_ ?_<;>intro pX h
 ·refine jr (rc 0 rfl (zak (r:=zN) [] [] (⟨0,0,0,0,0⟩:zn) rfl zwQ rfl rfl) rf) ?_;cases h;exact zz (lks [12] [(12,2)] lzz)
 refine jb h fun v2 uB h=>jb h fun rv pY h=>jr (ra 2 [.sl Rp.byte [0] b,kI uz] rfl (zre (some (kI uz)) none rfl zcd.el (zhh _ _ _) ⟨rfl,rfl⟩ ⟨rfl,rfl⟩ uB) rfl (rl 0 [0] 11 call193 (zyC pY) (rfl' [13]))) (jp (jI h ?_ ?_))<;>intro pZ h
 ·refine jr (rc 0 rfl (zak (r:=zN) [] [] (⟨0,0,0,0,0⟩:zn) rfl zwQ rfl rfl) rf) ?_;cases h;exact zz (lks [12] [(12,2)] lzz)
 refine jp (jb h fun v3 uD h=>jb h fun vV ud h=>jd [1,4,6,8,9,10,11] [12,13] zcM (by exact (lwn 4 (ly [.sl Rp.byte [0] b,kI (i64.wrap (uz+rv.2.1))] (zre (some (kI (i64.wrap (uz+rv.2.1)))) none rfl zcd.el (zhh _ _ _) ⟨rfl,rfl⟩ ⟨rfl,rfl⟩ uD) rfl (lx (lf1 185 (lc0 12 call185 (znY ud))) l0)))) (jp (jI h ?_ ?_)))<;>intro p9 h
 ·refine jr (rc 0 rfl (zak (r:=zN) [] [] (⟨0,0,0,0,0⟩:zn) rfl zwQ rfl rfl) rf) ?_;cases h;exact zz (lks [12] [(12,2)] lzz)
 refine jr (rc 11 rfl (zak (r:=zN) [kI rv.1.Number,kI rv.1.Wire,kI uz,kI (i64.wrap ((i64.wrap (uz+rv.2.1))+vV.1)),kI (i64.wrap ((i64.wrap (uz+rv.2.1))+vV.2.1))] [] (⟨rv.1.Number,rv.1.Wire,uz,(i64.wrap ((i64.wrap (uz+rv.2.1))+vV.1)),(i64.wrap ((i64.wrap (uz+rv.2.1))+vV.2.1))⟩:zn) rfl zwQ rfl rfl) rf) ?_;cases h;exact zz (lks [12] [(12,2)] lzz)
theorem zog (h:zhB k wv=some r):vT 149 [kI k,kU wv] [kI r]:=by
 refine fi 29 func149 fun Xt=>?_
 unfold zhB at h;refine jp (jb h fun rv pY h=>jr (rl 1 [1] 9 call180 (zmV pY) rf) (jg [0,1,5] [] [(19,kB ((rv.2 !=0)|| (rv.1 !=0)))] ?_ ?_))
 ·refine (rsl 3 [] 16 (rv.2 !=0) ?_ ?_)<;>intro pV
  · exact (rbl [] 19 true rfl (by grind))
  exact (rbl [] 19 (rv.1 !=0) rfl (by grind))
 refine jI h ?_ ?_<;>intro pX h
 ·cases h;exact jz
 refine jb h fun vV ud h=>jr (rl 2 [1] 9 call146 (zlF ud) rf) (jb h fun v8 uj h=>jr (rl 1 [1] 9 call182 (zrC uj) rf) ?_);obtain rfl:=(sj h);exact zz lzz
theorem zpe (h:ziv k wv=some r):vT 148 [kI k,kU wv] [.own Rp.byte 5 2 [] r.1,k8 r.2]:=by
 refine fi 32 func148 fun Xt=>?_
 unfold ziv at h;refine jp (jb h fun rv pY h=>jr (rl 1 [1] 10 call180 (zmV pY) rf) (jp (jI h ?_ ?_)))<;>intro pV h
 ·refine jp ?_;cases h;exact zz lw
 refine jb h fun vV ud h=>jr (rl 2 [1] 10 call146 (zlF ud) rf) (jp (jI h ?_ ?_))<;>intro pX h
 ·refine jb h fun v8 uj h=>jr (rl 1 [1] 10 call152 (FnOk.le (ins':=[kN,kU vV.1]) (zlK uj) ⟨zgm _ _,vU _,trivial⟩) rf) ?_;cases h;exact zz (lks [] [(12,2)] lzz)
 refine jb h fun rv4 uA h=>jr (rl 2 [1] 11 call181 (zsK uA) rf) ?_;cases h;exact zz (lks [] [(13,2)] lzz)
theorem ztJ (h:ziY wire value=some r):vT 151 [kI wire,.sl Rp.byte [0] value] [kB r]:=by
 refine fi 25 func151 fun Xt=>?_
 unfold ziY at h;refine jp (jp (jI h ?_ ?_))<;>intro pV h
 ·refine jp ?_;obtain rfl:=(sj h);exact zz lzz
 refine jb h fun rv pY h=>jr (rl 2 [0] 9 call185 (znY pY) rf) (jg [] [] [(4,kB ((rv.2.2==0)&&(rv.2.1==(value.length:Int))))] ?_ ?_)
 ·refine (rsl 3 [] 19 (rv.2.2==0) ?_ ?_)<;>intro pX
  · exact (rbl [] 4 (rv.2.1==(value.length:Int)) rfl (by grind))
  exact (rbl [] 4 false rfl (by grind))
 cases h;exact zz lzz
theorem zni (h:zeO sv=some r):vT 20 [.sl zh [0] sv] [kB r]:=by
 refine fi 14 func20 fun Xt=>?_
 unfold zeO at h;refine jp (jb h fun rv pY h=>jr (rl 1 [0] 9 call39 (zng pY) rf) ?_);cases h;exact jz
theorem znf (h:zeL b=some r):vT 44 [.sl Rp.byte [0] b] [kB r]:=by
 refine fi 16 func44 fun Xt=>?_
 unfold zeL at h;refine jp (jb h fun rv pY h=>jr (rl 3 [0] 9 call77 (zne pY) rf) ?_);cases h;exact jz
theorem znE (h:zfo ug k l=some r):vT 46 [kI k,.sl vS [0] l] [.own Rp.byte 5 2 [] r]:=by
 refine fi 22 func46 fun Xt=>?_
 unfold zfo at h;refine jp (jp (jp (zm (jb h fun q ue h=>jL ue [0,1] [] (fun s=>[(5,.own Rp.byte 5 16 [] s.1),(6,kI s.2)]) (fun o=> .x 0 ⟨[(5,.own Rp.byte 5 16 [] o)],[]⟩) ?_ lw ?_))))
 ·clear h;intro s o h;obtain ⟨out,i⟩:=s;replace h:zbo ug k l out i=some o:=h;unfold zbo at h;refine jp (jI h ?_ ?_)<;>intro pV h
  ·refine zm (jb h fun x ul h=>jb h fun rv pY h=>jb h fun v uy h=>jr (rx 4 [0] zuq.el ul rfl rfl (rl 1 [1] 15 call48 (zjm pY) (rc 0 rfl (lao 16 [] 5 17 [] [] zcd.el uy (.inl zcm)) rf))) (zS ?_));cases h;exact jy
  cases h;exact zX rfl lzz
 refine zau _ rfl (jp ?_);obtain rfl:=(sj h);exact zz (lks [] [(16,2)] lzz)
end Go.Proofs.YtkgohoggipdokaaGreat

/-
  The Go functions do what the plain functions say. No condition.
-/
import Derived.Test.YtnckiilakdkklaaGreatx1G2
set_option autoImplicit true
set_option relaxedAutoImplicit true
namespace Go.Proofs.YtnckiilakdkklaaGreat
open Go.IntKind (i64)
open Tryz
open Go Go.RowKit
set_option linter.unusedVariables false
set_option maxRecDepth 100000
set_option maxHeartbeats 3200000
theorem zme (h:zdK c m=some r):zhO prog 90 [.ag [kI c.size,.sl wh [0] c.kinds,.om zB Rp.bool 2 [0] c.names,.om zC Rp.bool 3 [0] c.numbers],.rc zi [0] m] [kI r.1] [.ag [.any,.any,.om zB Rp.bool 2 [0] r.2.1,.om zC Rp.bool 3 [0] r.2.2],.any]:=by
 refine zjJ (E:=⟨[(0,.ag [.any,.any,.om zB Rp.bool 2 [0] r.2.1,.om zC Rp.bool 3 [0] r.2.2]),(4,kI r.1)],[]⟩) 27 [0] func90 rfl rfl rfl ⟨rfl,trivial⟩ ⟨.inr ⟨rfl,rfl⟩,.inl rfl,trivial⟩ rfl (fun Xt old=>?_);refine zdt ?_;unfold zdK at h;refine jr (ral 1 [11] [.rc zi [0] m] rfl (zhT 12 (zK [0] m) [0] rfl rfl rfl rfl rfl) rfl rf) (jr (rc 2 rfl (zQ (r:=zB) [kI (-1),kS m.Name] [] (⟨(-1),m.Name⟩:zr) rfl zGb rfl rfl) (rfl' [13])) (zp (jb h fun rv ui h=>jr (rl 2 [1] 12 call116 (zmf ui) rf) (jI h ?_ ?_))))<;>intro uf h
 ·refine jp ?_;cases h;exact zgp lw
 refine jr (lb 2 zB [] (⟨(-1),m.Name⟩:zr) (ra 0 [.om zB Rp.bool 2 [0] c.names,.rc zB [] (⟨(-1),m.Name⟩:zr)] rfl (zqR (rk:=zB) (rv:=Rp.bool) (m:=c.names) (k:=(⟨(-1),m.Name⟩:zr)) (kB ((mget c.names (⟨(-1),m.Name⟩:zr)).getD false)) rfl ztA (zcT rfl) (ztw rfl rfl rfl)) rfl rf)) (jI h ?_ ?_)<;>intro ug h
 ·refine jp ?_;cases h;exact zgp lw
 refine jp (jI h ?_ ?_)<;>intro uj h
 ·refine jp ?_;cases h;exact zgp lw
 refine zJ (jr (lb 2 zB [] (⟨(-1),m.Name⟩:zr) (rms (C1:=[]) 0 [] 2 [0] c.names (⟨(-1),m.Name⟩:zr) true [0] ztA (zcT rfl) (zdw rfl rfl) rf)) (jp ?_));cases h;exact zgp lw
theorem zoe (h:zhu k=some r):wj 128 [kI k] [kB r]:=by
 refine fi 16 func128 fun Xt=>?_
 unfold zhu at h;refine jp (jb h fun rv ui h=>jr (rl 1 [1] 9 call129 (zqJ ui) rf) (jg [] [] [(2,kB ((rv.2==0)&&(rv.1 !=2)))] ?_ ?_))
 ·refine (rsl 3 [] 12 (rv.2==0) ?_ ?_)<;>intro uf
  · exact (rbl [] 2 (rv.1 !=2) rfl (by grind))
  exact (rbl [] 2 false rfl (by grind))
 cases h;exact zz lzz
theorem zAk (h:zoC b=some r):wj 96 [.sl Rp.byte [0] b] [.rc zeY [] r.1,kI r.2.1,k8 r.2.2]:=by
 refine fj ⟨[(2,.ptr 2 0),(3,kI r.2.1),(4,k8 r.2.2)],[⟨2,188,[kI r.1.Number,kI r.1.Wire]⟩]⟩ 35 func96 ⟨⟨_,_,rfl,rfl,rfl,rfl,zIt⟩,rfl,rfl,trivial⟩ fun Xt=>?_
 unfold zoC at h;refine jq [12] (jb h fun rv ui h=>jr (rl 1 [0] 11 call123 (zic ui) rf) (jp (jI h ?_ ?_)))<;>intro uf h
 ·refine jr (rc 0 rfl (zQ (r:=zeY) [] [] (⟨0,0⟩:zaH) rfl zBK rfl rfl) rf) ?_;cases h;exact zz (lks [12] [(12,2)] lzz)
 refine jr (ra 1 [kU rv.1,kU 3] rfl (zjo rfl rfl) rfl rf) (jr (rc 5 rfl (zQ (r:=zeY) [kI (i64.wrap (if (536870912:Int)<(shrI .u64 rv.1 3) then 536870912 else (shrI .u64 rv.1 3))),kI (i64.wrap (andI .u64 rv.1 7))] [] (⟨(i64.wrap (if (536870912:Int)<(shrI .u64 rv.1 3) then 536870912 else (shrI .u64 rv.1 3))),(i64.wrap (andI .u64 rv.1 7))⟩:zaH) rfl zBK rfl rfl) (rfl' [13])) (jb h fun wo uo h=>jr (lb 0 zeY [] (⟨(i64.wrap (if (536870912:Int)<(shrI .u64 rv.1 3) then 536870912 else (shrI .u64 rv.1 3))),(i64.wrap (andI .u64 rv.1 7))⟩:zaH) (rl 0 [1] 12 call124 (zyE uo) rf)) (jI h ?_ ?_)))<;>intro ug h
 ·refine jr (rc 0 rfl (zQ (r:=zeY) [] [] (⟨0,0⟩:zaH) rfl zBK rfl rfl) rf) ?_;cases h;exact zz (lks [12] [(12,2)] lzz)
 refine jr (lb 0 zeY [] (⟨(i64.wrap (if (536870912:Int)<(shrI .u64 rv.1 3) then 536870912 else (shrI .u64 rv.1 3))),(i64.wrap (andI .u64 rv.1 7))⟩:zaH) rf) ?_;cases h;exact zz (lks [12] [(12,2)] lzz)
theorem zuW (h:zjf wire b=some r):wj 97 [kI wire,.sl Rp.byte [0] b] [kI r.1,kI r.2.1,k8 r.2.2]:=by
 refine fi 45 func97 fun Xt=>?_
 unfold zjf at h;refine jp (jp (jp (zp (jp (jI h ?_ ?_)))))<;>intro uf h
 ·refine jb h fun rv ui h=>jr (rl 1 [0] 9 call125 (zoI ui) rf) ?_;cases h;exact jz
 refine jp (jb h fun p uH h=>jn (.N [1] [] [(4,kI p.1),(6,k8 p.2.1),(7,kU p.2.2)] []) ?_ ?_)
 ·replace h:=uH;refine jI h ?_ ?_<;>intro ug h
  ·cases h;exact jy
  refine jp (jI h ?_ ?_)<;>intro uj h
  ·cases h;exact jy
  refine jp (jI h ?_ ?_)<;>intro uk h
  ·refine jb h fun wo uo h=>jr (rl 1 [0] 9 call123 (zic uo) rf) ?_;cases h;exact zL lzz
  cases h;exact zL lzz
 refine zcQ (zJ (jp (jI h ?_ ?_)))<;>intro uq h
 ·cases h;exact jz
 refine jp (jI h ?_ ?_)<;>intro ur h
 ·cases h;exact jz
 cases h;exact jz
theorem zwd (h:zkz m uP=some r):wj 98 [.rc zi [0] m,kI uP] [kI r]:=by
 refine fi 9 func98 fun Xt=>?_
 unfold zkz at h;refine jr (ra 0 [.rc zi [0] m] rfl (zhT 11 (zK [0] m) [0] rfl rfl rfl rfl rfl) rfl (rfl' [912700])) (jb h fun rv ui h=>jr (ra 2 [.ptr 912700 0] rfl (zHf (g:=127) [.tmp 3] [⟨912700,3,[kI uP]⟩] [.ep wh [912700] uP 0] rfl ⟨⟨rfl,rfl,rfl⟩,trivial⟩ rfl) rfl (rl 0 [0,912700] 10 call126 (zdL ui) rf)) ?_);obtain rfl:=(sj h);exact zz lzz
theorem zyO (h:zmo k wire=some r):wj 100 [kI k,kI wire] [kB r]:=by
 refine fi 19 func100 fun Xt=>?_
 unfold zmo at h;refine jp (jb h fun rv ui h=>jr (rl 1 [1] 9 call129 (zqJ ui) rf) (jg [] [] [(4,kB ((rv.2==0)&&(rv.1==wire)))] ?_ ?_))
 ·refine (rsl 3 [] 14 (rv.2==0) ?_ ?_)<;>intro uf
  · exact (rbl [] 4 (rv.1==wire) rfl (by grind))
  exact (rbl [] 4 false rfl (by grind))
 cases h;exact zz lzz
theorem zpE (h:ziz k wv=some r):wj 140 [kI k,kU wv] [kU r.1,k8 r.2]:=by
 refine fi 34 func140 fun Xt=>?_
 unfold ziz at h;refine jp (jp (zp (jp (jb h fun p uH h=>jn (.N [1,6] [] [(7,kB p)] []) ?_ ?_))))
 ·replace h:=uH;refine jI h ?_ ?_<;>intro uf h
  ·cases h;exact zL lzz
  cases h;exact jy
 refine zcQ (jI h ?_ ?_)<;>intro ug h
 ·refine jb h fun rv ui h=>jb h fun wo uo h=>jr (rl 1 [1] 9 call153 (ztS ui) (rl 0 [1] 9 call152 (ztT uo) rf)) ?_;cases h;exact zz lzz
 refine jp (jb h fun p2 uR h=>jn (.N [1,6] [] [(13,kB p2)] []) ?_ ?_)
 ·replace h:=uR;refine jI h ?_ ?_<;>intro uj h
  ·cases h;exact zL lzz
  refine jp (jI h ?_ ?_)<;>intro uk h
  ·cases h;exact zL lzz
  refine jp (jI h ?_ ?_)<;>intro uq h
  ·cases h;exact zL lzz
  refine jp (jI h ?_ ?_)<;>intro ur h
  ·cases h;exact zL lzz
  cases h;exact jy
 refine zcQ (jI h ?_ ?_)<;>intro uy h
 ·refine jb h fun wy uB h=>jr (rl 1 [1] 9 call154 (zpA uB) rf) ?_;cases h;exact zz lzz
 refine jp (jI h ?_ ?_)<;>intro uC h
 ·refine jb h fun rv4 uM h=>jr (rl 1 [1] 9 call155 (zvQ uM) rf) ?_;cases h;exact zz lzz
 refine jp (jb h fun p3 vq h=>jn (.n ⟨[(1,kU wv),(26,kB p3)],[]⟩) ?_ ?_)
 ·replace h:=vq;refine jI h ?_ ?_<;>intro uF h
  ·cases h;exact zL lzz
  refine jp (jI h ?_ ?_)<;>intro uI h
  ·cases h;exact zL lzz
  refine jp (jI h ?_ ?_)<;>intro uS h
  ·cases h;exact zL lzz
  refine jp (jI h ?_ ?_)<;>intro uN h
  ·cases h;exact zL lzz
  refine jp (jI h ?_ ?_)<;>intro uQ h
  ·cases h;exact zL lzz
  cases h;exact jy
 refine zcQ (jI h ?_ ?_)<;>intro uT h
 ·cases h;exact jz
 refine zJ ?_;cases h;exact jz
theorem zys {wide:Int} (h:zmc wide b=some r):wj 138 [kI wide,.sl Rp.byte [0] b] [kI r.1,k8 r.2]:=by
 refine fi 19 func138 fun Xt=>?_
 unfold zmc at h;refine jp (zp (jp (jI h ?_ ?_)))<;>intro uf h
 ·refine jb h fun rv ui h=>jr (rl 1 [0] 9 call125 (zoI ui) rf) ?_;cases h;exact zz lzz
 refine jp (jI h ?_ ?_)<;>intro ug h
 ·cases h;exact jz
 refine zJ ?_;cases h;exact jz
theorem zAr (h:zoG b=some r):wj 156 [.sl Rp.byte [0] b] [kI r.1,kI r.2]:=by
 refine fi 20 func156 fun Xt=>?_
 unfold zoG at h;refine jp (jb h fun rv ui h=>jr (rl 1 [0] 9 call158 (zsZ ui) rf) (zp (jb h fun q ul h=>jL ul [0] [] (fun s=>[(2,kI s.1),(3,kI s.2.1),(4,kI s.2.2)]) (fun o=> .x 0 ⟨[(2,kI o.1),(3,kI o.2)],[]⟩) ?_ lzz ?_)))
 ·clear h;intro s o h;obtain ⟨wu,points,size⟩:=s;replace h:zgF b wu points size=some o:=h;unfold zgF at h;refine jp (jI h ?_ ?_)<;>intro uf h
  ·refine zp (jp (jp (zJ (jb h fun v uG h=>jb h fun wo uo h=>jr (ra 2 [.sl Rp.byte [0] b,kI (i64.wrap (wu+size))] rfl (zeD (some (kI (i64.wrap (wu+size)))) none rfl zcr.el (zbq _ _ _) ⟨rfl,rfl⟩ ⟨rfl,rfl⟩ uG) rfl (rl 0 [0] 10 call158 (zsZ uo) rf)) ?_))));cases h;exact zL lzz
  cases h;exact zad rfl lzz
 refine zao _ rfl ?_;cases h;exact jz
theorem znq (h:zen sv=some r):wj 62 [.sl zi [0] sv] [kI r.1,kI r.2.1,kI r.2.2]:=by
 refine fi 80 func62 fun Xt=>?_
 unfold zen at h;refine jp (jg [0] [] [(17,kB (((sv.length:Int)==0)|| (decide ((sv.length:Int)>100))))] ?_ ?_)
 ·refine (rsl 4 [] 13 ((sv.length:Int)==0) ?_ ?_)<;>intro uf
  · exact (rbl [] 17 true rfl (by grind))
  exact (rbl [] 17 (decide ((sv.length:Int)>100)) rfl (by grind))
 refine jI h ?_ ?_<;>intro ug h
 ·cases h;exact jz
 refine jp (zp (jb h fun q3 vg h=>jL vg [0] [] (fun s=>[(5,kI s)]) (fun| (.inl v_)=> .x 0 ⟨[],[]⟩| (.inr v_)=> .r ⟨[(2,kI v_.1),(3,kI v_.2.1),(4,kI v_.2.2)],[]⟩) ?_ lzz ?_))
 ·clear h;intro i o h;unfold zbu at h;refine jp (jI h ?_ ?_)<;>intro uj h
  ·refine zp (jp (jp (zp (jb h fun q ul h=>jL ul [0,5] [] (fun s=>[(6,kB s.1),(7,kI s.2)]) (fun o=> .X 2 [0,5] [] [(6,kB o)] []) ?_ lzz ?_))))
   ·clear h;intro s o h;obtain ⟨twice,k⟩:=s;replace h:zbv i sv twice k=some o:=h;unfold zbv at h;refine jp (jI h ?_ ?_)<;>intro uk h
    ·refine zp (jb h fun g uh h=>jn (.N [0,5,7] [] [(6,kB g)] []) ?_ (zcQ ?_))
     ·rcases zgx uh with ⟨uq,uh⟩| ⟨uq,uh⟩
      ·cases uh;exact jd [0,5,6,7] [] zbo (by exact (lw_e (dg 29 uq l0))) (zL lzz)
      refine jb uh fun x ut uh=>jb uh fun x2 uw uh=>?_;cases uh;exact jd [0,5,6,7] [] zbo (by exact (lw_e (dg 29 uq (lwn 2 (di [0] zfZ.el ut (lwn 4 (di [0] zfZ.el uw l0))))))) (zL lzz)
     refine zJ ?_;cases h;exact jy
    cases h;exact zad rfl lzz
   refine zao _ rfl (jb h fun x3 uE h=>jb h fun rv ui h=>jr (rx 2 [0] zfZ.el uE rfl rfl (rl 2 [1] 11 call77 (ziT ui) rf)) (jI h ?_ ?_))<;>intro ur h
   ·cases h;exact jz'
   refine jp (jI h ?_ ?_)<;>intro uy h
   ·cases h;exact jz'
   refine jb h fun x4 uL h=>jr (rx 2 [0] zfZ.el uL rfl rfl (rc 1 rfl (ldl zi [0] x4 1 zf x4.Fields) rf)) (jI h ?_ ?_)<;>intro uC h
   ·cases h;exact jz'
   refine jp (zp (jb h fun q2 uK h=>jL uK [0,5] [] (fun s=>[(8,kI s)]) (fun| (.inl v_)=> .X 4 [0,5] [] [] []| (.inr v_)=> .r ⟨[(2,kI i),(3,kI v_.1),(4,kI v_.2)],[]⟩) ?_ lzz ?_))
   ·clear h;intro k2 o h;unfold zbw at h;refine jb h fun x5 uU h=>jr (rx 3 [0] zfZ.el uU rfl rfl (rc 1 rfl (ldl zi [0] x5 1 zf x5.Fields) rf)) (jI h ?_ ?_)<;>intro uF h
    ·refine zp (jb h fun wo uo h=>jr (rl 3 [0] 12 call78 (znr uo) rf) (jp (jI h ?_ ?_)))<;>intro uI h
     ·cases h;exact jz'
     refine zJ ?_;cases h;exact jy
    cases h;exact zad rfl lzz
   rcases q2 with u| u2
   ·refine zao _ rfl (zJ ?_);cases h;exact jy
   cases h;exact zxU lzz
  cases h;exact zad rfl lzz
 rcases q3 with u3| u4
 ·refine zao _ rfl ?_;cases h;exact jz
 cases h;exact zer lzz
theorem znT (h:zdO b uu=some r):wj 63 [.sl Rp.byte [0] b,kI uu] [.rc zw [] r.1,kI r.2]:=by
 refine fj ⟨[(4,.ptr 2 0),(5,kI r.2)],[⟨2,83,(zgU r.1)⟩]⟩ 108 func63 ⟨⟨_,_,rfl,rfl,rfl,rfl,zJv⟩,rfl,trivial⟩ fun Xt=>?_
 unfold zdO at h;refine jq [12] (jg [0,1,4] [12] [(26,kB ((decide (uu<0))|| (decide (uu>=(b.length:Int)))))] ?_ ?_)
 ·refine (rsl 3 [] 21 (decide (uu<0)) ?_ ?_)<;>intro uf
  · exact (rbl [] 26 true rfl (by grind))
  exact (rbl [] 26 (decide (uu>=(b.length:Int))) rfl (by grind))
 refine jI h ?_ ?_<;>intro ug h
 ·refine jr (rc 0 rfl (zQ (r:=zw) [] [] (⟨0,0,0,0,0⟩:zj) rfl zvp rfl rfl) rf) ?_;cases h;exact zz (lks [12] [(12,2)] lzz)
 refine jb h fun rv ui h=>jr (rl 2 [0] 11 call79 (znQ ui) rf) (jp (jI h ?_ ?_))<;>intro uj h
 ·refine jr (rc 0 rfl (zQ (r:=zw) [] [] (⟨0,0,0,0,0⟩:zj) rfl zvp rfl rfl) rf) ?_;cases h;exact zz (lks [12] [(12,2)] lzz)
 refine jr (rc 6 rfl (zQ (r:=zw) [kI rv.1,kI rv.2.1,kI uu,kI (i64.wrap (uu+rv.2.2.1))] [] (⟨rv.1,rv.2.1,uu,(i64.wrap (uu+rv.2.2.1)),0⟩:zj) rfl zvp rfl rfl) (rfl' [13])) (jp (jp (jp (jb h fun p uH h=>jn (.N [0,4,7,10,11] [12,13] [(12,kI p)] []) ?_ ?_))))
 ·replace h:=uH;refine jI h ?_ ?_<;>intro uk h
  ·cases h;exact jy
  cases h;exact zL lzz
 refine zcQ (jp (jb h fun p2 uR h=>jn (match p2 with| (.inl v_)=> .N [0,4,7,10,11] [12,13] [(12,kI v_)] []| (.inr v_)=> .r ⟨[(4,.ptr 12 0),(5,kI v_)],[⟨12,83,[kI 0,kI 0,kI 0,kI 0,kI 0]⟩]⟩) ?_ ?_))
 ·replace h:=uR;refine jI h ?_ ?_<;>intro uq h
  ·refine jb h fun wo uo h=>jr (rl 3 [0] 12 call59 (zcF uo) rf) (jp (jI h ?_ ?_))<;>intro ur h
   ·refine jr (rc 0 rfl (zQ (r:=zw) [] [] (⟨0,0,0,0,0⟩:zj) rfl zvp rfl rfl) rf) ?_;cases h;exact zz lzz
   cases h;exact jy
  cases h;exact zL lzz
 rcases p2 with u| u4
 ·refine zcQ (jp (jb h fun p3 vq h=>jn (match p3 with| (.inl v_)=> .N [4,10] [12] [(11,kI v_.1),(12,kI v_.2.1)] [⟨13,83,[kI rv.1,kI rv.2.1,kI uu,kI v_.2.2,kI 0]⟩]| (.inr v_)=> .r ⟨[(4,.ptr 12 0),(5,kI v_)],[⟨12,83,[kI 0,kI 0,kI 0,kI 0,kI 0]⟩]⟩) ?_ ?_))
  ·replace h:=vq;refine jI h ?_ ?_<;>intro uy h
   ·refine jb h fun wy uB h=>jr (rl 3 [0] 12 call59 (zcF uB) rf) (jp (jI h ?_ ?_))<;>intro uC h
    ·refine jr (rc 0 rfl (zQ (r:=zw) [] [] (⟨0,0,0,0,0⟩:zj) rfl zvp rfl rfl) rf) ?_;cases h;exact zz lzz
    refine jp (jp (jp (jI h ?_ ?_)))<;>intro uF h
    ·refine jr (rc 0 rfl (zQ (r:=zw) [] [] (⟨0,0,0,0,0⟩:zj) rfl zvp rfl rfl) rf) ?_;cases h;exact zz lzz
    cases h;exact jy
   cases h;exact zL lzz
  rcases p3 with u2| u3
  ·refine zcQ (jp (jI h ?_ ?_))<;>intro uI h
   ·refine jr (rc 0 rfl (zQ (r:=zw) [] [] (⟨0,0,0,0,0⟩:zj) rfl zvp rfl rfl) rf) ?_;cases h;exact zz (lks [12] [(12,2)] lzz)
   refine jp (jr (lb 0 zw [] (⟨rv.1,rv.2.1,uu,u2.2.2,(i64.wrap (u2.2.2+u2.2.1))⟩:zj) rf) ?_);cases h;exact zz (lks [12] [(12,2)] lzz)
  cases h;exact zer (lks [12] [(12,2)] lzz)
 cases h;exact zer (lks [12] [(12,2)] lzz)
theorem zno (h:zem b most=some r):wj 65 [.sl Rp.byte [0] b,kI most] [kI r.1,kI r.2]:=by
 refine fi 28 func65 fun Xt=>?_
 unfold zem at h;refine jp (jp (zp (jb h fun q ul h=>jL ul [0,1] [] (fun s=>[(6,kI s.1),(7,kI s.2)]) (fun o=> .r ⟨[(4,kI o.1),(5,kI o.2)],[]⟩) ?_ lzz ?_)))
 ·clear h;intro s o h;obtain ⟨wu,count⟩:=s;replace h:zbs b most wu count=some o:=h;unfold zbs at h;refine zp (jb h fun rv ui h=>jr (rl 2 [0] 10 call80 (znR ui) rf) (jg [0,1,6,7,8] [] [(20,kB ((rv==0)|| (decide ((i64.wrap (wu+rv))>most))))] ?_ ?_))
  ·refine (rsl 3 [] 14 (rv==0) ?_ ?_)<;>intro uf
   · exact (rbl [] 20 true rfl (by grind))
   exact (rbl [] 20 (decide ((i64.wrap (wu+rv))>most)) rfl (by grind))
  refine jI h ?_ ?_<;>intro ug h
  ·cases h;exact jz'
  refine jp (jp (zJ ?_));cases h;exact zL lzz
 cases h;exact zer lzz
theorem ztj (h:zhX k b=some r):wj 139 [kI k,.sl Rp.byte [0] b] [kU r.1,k8 r.2]:=by
 refine fi 31 func139 fun Xt=>?_
 unfold zhX at h;refine jp (jb h fun rv ui h=>jr (rl 1 [1] 9 call149 (zng ui) rf) (zp (jp (jI h ?_ ?_))))<;>intro uf h
 ·cases h;exact jz
 refine jp (jI h ?_ ?_)<;>intro ug h
 ·refine jb h fun wo uo h=>jr (rl 1 [0] 9 call150 (ztk uo) rf) ?_;cases h;exact zz lzz
 refine jp (jI h ?_ ?_)<;>intro uj h
 ·cases h;exact jz
 refine zJ (jb h fun wy uB h=>jr (rl 1 [0] 9 call151 (zxA uB) rf) ?_);cases h;exact zz lzz
theorem ziU (h:zdQ k b=some r):wj 37 [kI k,.sl Rp.byte [0] b] [kU r.1,kI r.2]:=by
 refine fi 29 func37 fun Xt=>?_
 unfold zdQ at h;refine jp (jb h fun rv ui h=>jr (rl 1 [1] 9 call36 (zcX ui) rf) (jI h ?_ ?_))<;>intro uf h
 ·cases h;exact jz
 refine jb h fun wo uo h=>jb h fun wy uB h=>jr (rl 1 [1] 9 call57 (zgu uo) (rl 1 [0] 9 call56 (znS uB) rf)) (jI h ?_ ?_)<;>intro ug h
 ·cases h;exact jz
 refine jb h fun rv4 uM h=>jr (rl 1 [0] 9 call58 (znP uM) rf) (jb h fun rv5 uW h=>jr (rl 1 [1] 9 call57 (zgu uW) rf) (jI h ?_ ?_))<;>intro uj h
 ·refine jb h fun rv6 vc h=>jr (rl 1 [0] 9 call59 (zcF vc) rf) (jb h fun rv7 vd h=>jr (rl 2 [1] 9 call60 (zig vd) rf) ?_);cases h;exact zz lzz
 refine jb h fun rv8 vh h=>jr (rl 2 [1] 9 call60 (zig vh) rf) ?_;cases h;exact zz lzz
theorem znw (vR:∀{sv:(List ze)} {uv:Int} {av:zb} {b:zb} {r:zb},xi sv uv av b=some r->wj 11 [.sl zi [0] sv,kI uv,.rc zn [0] av,.rc zn [0] b] [.ag (zak [0,3] 4 [] r)]) (h:zea xi sv uv av b=some r):wj 11 [.sl zi [0] sv,kI uv,.rc zn [0] av,.rc zn [0] b] [.ag (zak [0,3] 4 [] r)]:=by
 refine fj ⟨[(8,.ptr 2 0)],[⟨2,40,(zak [0,3] 4 [] r)⟩]⟩ 110 func11 ⟨⟨_,_,rfl,rfl,rfl,znH⟩,trivial⟩ fun Xt=>?_
 unfold zea at h;refine jr (rc 0 rfl (lbx 95 [0] (zcU [0] av)) (rc 0 rfl (lbx 96 [0] (zcU [0] b)) (rfl' [97]))) (jq [98] (jp (zp (jb h fun q ul h=>jl ul [0,1,6,7,8,9] [95,96,97] (fun s=>[(10,kI s.1)]) (fun s=>[⟨98,40,[.sl zh [0,99] s.2.1,.sl Rp.str [0,99] s.2.2]⟩]) (fun o=> .X 0 [6,7,8,9] [95,96,97] [] [⟨98,40,[.sl zh [0,99] o.1,.sl Rp.str [0,99] o.2]⟩]) ?_ lw ?_))))
 ·clear h;intro s o h;obtain ⟨i,f,f2⟩:=s;replace h:zbP av b xi uv sv i f f2=some o:=h;unfold zbP at h;refine jp (jI h ?_ ?_)<;>intro uf h
  ·refine zp (jb h fun x ut h=>jr (rx 3 [0] zim.el ut rfl rfl (rc 0 rfl (lde zh [0] x zwm) (ral 1 [152] [.ptr 152 0,.rc zh [0] x] rfl (zjp (r:=zh) (b:=⟨152,74,[kI 0,kN,kN,kN]⟩) (off:=0) (zal [0] x) rfl sizeOf74 rfl rfl (by rw [zI]<;>rfl) rfl) rfl rf))) (jb h fun x2 uw h=>jb h fun x3 uE h=>jb h fun rv ui h=>jb h fun x4 uL h=>jd [0,1,6,7,8,9,10,11,12] [95,96,97,98,152,153] zbo (by exact (lwn 2 (di [0] zfZ.el uw (lw_e (lx (ldl zi [0] x2 1 zf x2.Fields) (lwn 2 (di [0] zfZ.el uE (lx (lde zi [0] x3 zsC) (lwn 2 (lx (lf1 30 (lc0 151 call30 (zih ui))) (di [0] zif.el uL (lx (lde zf [0] x4 znI) (lx (zkg 153 [kS [],kI 0,kI 0,kB false,kB false,kI 0] rfl zeroValue62 rfl) (ly [.ptr 153 0,.rc zf [0] x4] (zjp (r:=zf) (b:=⟨153,62,[kS [],kI 0,kI 0,kB false,kB false,kI 0]⟩) (off:=0) (zab x4) rfl sizeOf62 rfl rfl rfl rfl) rfl l0)))))))))))))) (jb h fun wo uo h=>jr (rc 3 rfl (lw0 152 call31 (zpq uo) (.c (zqz [0] av) (.k .n))) rf) (jp (jI h ?_ ?_)))))<;>intro ug h
   ·refine jb h fun x5 uU h=>jr (rx 3 [0] zim.el uU rfl rfl (rc 0 rfl (lde zh [0] x5 zwm) (ral 1 [154] [.ptr 154 0,.rc zh [0] x5] rfl (zjp (r:=zh) (b:=⟨154,74,[kI 0,kN,kN,kN]⟩) (off:=0) (zal [0] x5) rfl sizeOf74 rfl rfl (by rw [zI]<;>rfl) rfl) rfl rf))) (jp (jI h ?_ ?_))<;>intro uj h
    ·refine jb h fun v uG h=>jb h fun v2 uJ h=>jb h fun v3 uD h=>jb h fun v4 uX h=>jb h fun v5 uV h=>jb h fun v6 vf h=>jd [0,1,6,7,8,9,10,11] [95,96,97,98,152] zbo (by exact (lwn 2 (lx (zdE [] 155 [] ([]:(List Int)) rfl zmq rfl rfl rfl rfl) (lwn 2 (lx (las 155 [] [0] [] zmq.el uG (.inl (zfu _))) (lwn 2 (lx (las 155 [] [0] [] zmq.el uJ (.inl (zfu _))) (lx (zdE [] 156 [] ([]:(List Str)) rfl zhI rfl rfl rfl rfl) (lwn 2 (lx (las 156 [] [0] [] zhI.el uD (.inl zhA)) (lwn 2 (lx (las 156 [] [0] [] zhI.el uX (.inl zhA)) (lx (zdE [] 157 [] ([]:(List zb)) rfl zmr rfl rfl rfl rfl) (lwn 2 (lx (las 157 [] [0] [0] zmr.el uV (.inr rfl)) (lwn 2 (lx (las 157 [0] [0] [0] zmr.el vf (.inr rfl)) (lx (lbd [kI x.Number,.own wi 89 155 [] v2,.own Rp.str 9 156 [] v4,.own zn 40 157 [0] v6] zCV) (lx (stw ⟨152,74,(zal [0] x)⟩ 0 [kI x.Number,.own wi 89 155 [] v2,.own Rp.str 9 156 [] v4,.own zn 40 157 [0] v6] sizeOf74) l0))))))))))))))))))) (jb h fun wy uB h=>jr (rc 2 rfl (lcz [.ag [.sl zh [0,99] f,.sl Rp.str [0,99] f2],.ag [kI x.Number,.own wi 89 155 [] v2,.own Rp.str 9 156 [] v4,.own zn 40 157 [0] v6]] 156 call32 (zfk uB) (.c (zT _) (.c (zI _) .n))) rf) (zJ (jp ?_)));cases h;exact zL (lq ⟨[(0,.sl zi [0] sv),(1,kI uv),(6,.ptr 95 0),(7,.ptr 96 0),(8,.ptr 97 0),(9,.ptr 98 0),(10,kI (i64.wrap (i+1)))],[⟨95,40,(zaO [0] av)⟩,⟨96,40,(zaO [0] b)⟩,⟨97,40,[kN,kN]⟩,⟨98,40,(zbC 159 [160,0,99,155,156,157,161] [0,99,155,156,157] wy)⟩]⟩ (zCw 98 0 (.sl zh [159,160,0,99,155,156,157,161] wy.Values) rfl rfl (zuy _ _ _ _ _ _ rfl) (lks [95,96,97,98] [(159,99),(160,99),(155,99),(156,99),(157,99),(161,99)] lw)))
    refine jp (jI h ?_ ?_)<;>intro uk h
    ·refine jb h fun x6 vb h=>jb h fun x7 vr h=>jb h fun rv4 uM h=>jd [0,1,6,7,8,9,10,11] [95,96,97,98,152] zbo (by exact (lwn 7 (di [0] zmr.el vb (lx (lde zn [0] x6 znH) (lwn 2 (di [0] zmr.el vr (lx (lde zn [0] x7 znH) (lx (lf1 11 (lc0 160 call11 (vR uM))) (lx (zx.lw (lbs1 165 [0,163,164] rv4 zmr) (.l (zgM zn [0,163,164] rv4 (zak [0,163] 164 [] rv4) (by rw [zT]<;>rfl) rfl))) (ly [kI x.Number,.own zn 40 165 [0,163,164] ([rv4]:(List zb))] (zhv [kI x.Number,.own zn 40 165 [0,163,164] ([rv4]:(List zb))] [kI x.Number,kN,kN,.own zn 40 165 [0,163,164] ([rv4]:(List zb))] rfl zCV rfl) rfl (lx (stw ⟨152,74,(zal [0] x)⟩ 0 [kI x.Number,kN,kN,.own zn 40 165 [0,163,164] ([rv4]:(List zb))] sizeOf74) l0))))))))))) (jb h fun rv5 uW h=>jr (rc 2 rfl (lcz [.ag [.sl zh [0,99] f,.sl Rp.str [0,99] f2],.ag [kI x.Number,kN,kN,.own zn 40 165 [0,163,164] ([rv4]:(List zb))]] 164 call32 (zfk uW) (.c (zT _) (.c (zI _) .n))) rf) (zJ (jp ?_)));cases h;exact zL (lq ⟨[(0,.sl zi [0] sv),(1,kI uv),(6,.ptr 95 0),(7,.ptr 96 0),(8,.ptr 97 0),(9,.ptr 98 0),(10,kI (i64.wrap (i+1)))],[⟨95,40,(zaO [0] av)⟩,⟨96,40,(zaO [0] b)⟩,⟨97,40,[kN,kN]⟩,⟨98,40,(zbC 167 [168,0,99,165,163,164,169] [0,99,165,163,164] rv5)⟩]⟩ (zCw 98 0 (.sl zh [167,168,0,99,165,163,164,169] rv5.Values) rfl rfl (zuy _ _ _ _ _ _ rfl) (lks [95,96,97,98] [(167,99),(168,99),(165,99),(163,99),(164,99),(169,99)] lw)))
    refine jb h fun rv6 vc h=>jr (rc 2 rfl (lcz [.ag [.sl zh [0,99] f,.sl Rp.str [0,99] f2],.ag (zal [0] x)] 168 call32 (zfk vc) (.c (zT _) (.c (zI _) .n))) rf) (zJ (jp ?_));cases h;exact zL (lq ⟨[(0,.sl zi [0] sv),(1,kI uv),(6,.ptr 95 0),(7,.ptr 96 0),(8,.ptr 97 0),(9,.ptr 98 0),(10,kI (i64.wrap (i+1)))],[⟨95,40,(zaO [0] av)⟩,⟨96,40,(zaO [0] b)⟩,⟨97,40,[kN,kN]⟩,⟨98,40,(zbC 171 [172,0,99,173] [0,99] rv6)⟩]⟩ (zCw 98 0 (.sl zh [171,172,0,99,173] rv6.Values) rfl rfl (zuy _ _ _ _ _ _ rfl) (lks [95,96,97,98] [(171,99),(172,99),(173,99)] lw)))
   refine jb h fun rv7 vd h=>jr (rc 2 rfl (lcz [.ag [.sl zh [0,99] f,.sl Rp.str [0,99] f2],.ag (zal [0] x)] 172 call32 (zfk vd) (.c (zT _) (.c (zI _) .n))) rf) (zJ (jp ?_));cases h;exact zL (lq ⟨[(0,.sl zi [0] sv),(1,kI uv),(6,.ptr 95 0),(7,.ptr 96 0),(8,.ptr 97 0),(9,.ptr 98 0),(10,kI (i64.wrap (i+1)))],[⟨95,40,(zaO [0] av)⟩,⟨96,40,(zaO [0] b)⟩,⟨97,40,[kN,kN]⟩,⟨98,40,(zbC 175 [176,0,99,177] [0,99] rv7)⟩]⟩ (zCw 98 0 (.sl zh [175,176,0,99,177] rv7.Values) rfl rfl (zuy _ _ _ _ _ _ rfl) (lks [95,96,97,98] [(175,99),(176,99),(177,99)] lw)))
  cases h;exact zad rfl lzz
 refine zao _ rfl (jb h fun v7 vi h=>jb h fun v8 vS h=>jd [8,9] [97,98] zbo (by exact (lx (zdE [] 178 [] ([]:(List Str)) rfl zhI rfl rfl rfl rfl) (lwn 2 (lx (las 178 [] [0] [] zhI.el vi (.inl zhA)) (lwn 2 (lx (las 178 [] [0] [] zhI.el vS (.inl zhA)) (lw_e (ly [.ptr 98 1,.own Rp.str 9 178 [] v8] (zoh (b:=⟨98,40,[.sl zh [0,99] q.1,.sl Rp.str [0,99] q.2]⟩) (off:=1) rfl sizeOf33 rfl rfl rfl) rfl l0)))))))) (jp ?_));cases h;exact zz (lks [97] [(97,2),(178,4),(99,3)] lzz)
theorem znV (h:zcZ uz sv uv av b=some r):wj 11 [.sl zi [0] sv,kI uv,.rc zn [0] av,.rc zn [0] b] [.ag (zak [0,3] 4 [] r)]:=by
  induction uz generalizing sv uv av b r with
  | zero=>exact absurd h nofun
  | succ uz ih=>exact znw (fun hh=>ih hh) h
end Go.Proofs.YtnckiilakdkklaaGreat

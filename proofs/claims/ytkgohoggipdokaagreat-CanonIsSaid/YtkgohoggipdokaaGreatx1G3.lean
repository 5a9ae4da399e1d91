/-
  The Go functions do what the plain functions say. No condition.
-/
import Derived.Test.YtkgohoggipdokaaGreatx1G2
set_option autoImplicit true
set_option relaxedAutoImplicit true
namespace Go.Proofs.YtkgohoggipdokaaGreat
open Go.IntKind (i64)
open Tryz
open Go Go.RowKit
set_option linter.unusedVariables false
set_option maxRecDepth 100000
set_option maxHeartbeats 3200000
theorem zoH (h:zeO c m=some r):zjv prog 119 [.ag [kI c.size,.sl wY [0] c.kinds,.om zO Rp.bool 2 [0] c.names,.om zP Rp.bool 3 [0] c.numbers],.rc zg [0] m] [kI r.1] [.ag [.any,.any,.om zO Rp.bool 2 [0] r.2.1,.om zP Rp.bool 3 [0] r.2.2],.any]:=by
 refine zlP (E:=⟨[(0,.ag [.any,.any,.om zO Rp.bool 2 [0] r.2.1,.om zP Rp.bool 3 [0] r.2.2]),(4,kI r.1)],[]⟩) 27 [0] func119 rfl rfl rfl ⟨rfl,trivial⟩ ⟨.inr ⟨rfl,rfl⟩,.inl rfl,trivial⟩ rfl (fun Xt old=>?_);refine zcw ?_;unfold zeO at h;refine jr (ral 1 [11] [.rc zg [0] m] rfl (zhu 12 (zT [0] m) [0] rfl rfl rfl rfl rfl) rfl rf) (jr (rc 2 rfl (zab (r:=zO) [kI (-1),kS m.Name] [] (⟨(-1),m.Name⟩:zu) rfl zKD rfl rfl) (rfl' [13])) (zq (jb h fun rv uU h=>jr (rl 2 [1] 12 call156 (zoI uU) rf) (jI h ?_ ?_))))<;>intro uS h
 ·refine jp ?_;cases h;exact zhB lw
 refine jr (lb 2 zO [] (⟨(-1),m.Name⟩:zu) (ra 0 [.om zO Rp.bool 2 [0] c.names,.rc zO [] (⟨(-1),m.Name⟩:zu)] rfl (zxR (rk:=zO) (rv:=Rp.bool) (m:=c.names) (k:=(⟨(-1),m.Name⟩:zu)) (kB ((mget c.names (⟨(-1),m.Name⟩:zu)).getD false)) rfl zwG (zdQ rfl) (zBw rfl rfl rfl)) rfl rf)) (jI h ?_ ?_)<;>intro uT h
 ·refine jp ?_;cases h;exact zhB lw
 refine jp (jI h ?_ ?_)<;>intro uW h
 ·refine jp ?_;cases h;exact zhB lw
 refine zS (jr (lb 2 zO [] (⟨(-1),m.Name⟩:zu) (rms (C1:=[]) 0 [] 2 [0] c.names (⟨(-1),m.Name⟩:zu) true [0] zwG (zdQ rfl) (zfl rfl rfl) rf)) (jp ?_));cases h;exact zhB lw
theorem zqP (h:zjc k=some r):w6 190 [kI k] [kB r]:=by
 refine fi 16 func190 fun Xt=>?_
 unfold zjc at h;refine jp (jb h fun rv uU h=>jr (rl 1 [1] 9 call214 (ztF uU) rf) (jg [] [] [(2,kB ((rv.2==0)&&(rv.1 !=2)))] ?_ ?_))
 ·refine (rsl 3 [] 12 (rv.2==0) ?_ ?_)<;>intro uS
  · exact (rbl [] 2 (rv.1 !=2) rfl (by grind))
  exact (rbl [] 2 false rfl (by grind))
 cases h;exact zx lzz
theorem zCs (h:zma vb x=some r):w6 58 [.rc zm [0] x] [kB r]:=by
 refine fi 6 func58 fun Xt=>?_
 unfold zma at h;refine jr (rc 0 rfl (lbx 11 [0] (zcv [0] x)) rf) (jb h fun rv uU h=>jr (rc 1 rfl (lw0 10 call26 (zzy uU) (.l (zbH [0] x))) rf) ?_);cases h;exact zx lzz
theorem ziU (h:zcC m v=some r):w6 107 [.rc zg [0] m,.fv 108 [.ep wY [0] v 0]] [kI r.1,kB r.2]:=by
 refine fi 15 func107 fun Xt=>?_
 unfold zcC at h;refine jr (ra 0 [.rc zg [0] m] rfl (zhu 11 (zT [0] m) [0] rfl rfl rfl rfl rfl) rfl rf) (jb h fun rv uU h=>jr (rl 3 [0] 10 call143 (zed uU) rf) ?_);cases h;exact jz
theorem zEr (h:zrw b=some r):w6 210 [.sl Rp.byte [0] b] [kI r.1,kI r.2]:=by
 refine fi 20 func210 fun Xt=>?_
 unfold zrw at h;refine jp (jb h fun rv uU h=>jr (rl 1 [0] 9 call226 (zwa uU) rf) (zq (jb h fun q u0 h=>jL u0 [0] [] (fun s=>[(2,kI s.1),(3,kI s.2.1),(4,kI s.2.2)]) (fun o=> .x 0 ⟨[(2,kI o.1),(3,kI o.2)],[]⟩) ?_ lzz ?_)))
 ·clear h;intro s o h;obtain ⟨kd,points,size⟩:=s;replace h:zgE b kd points size=some o:=h;unfold zgE at h;refine jp (jI h ?_ ?_)<;>intro uS h
  ·refine zq (jp (jp (zS (jb h fun v vi h=>jb h fun w8 uY h=>jr (ra 2 [.sl Rp.byte [0] b,kI (i64.wrap (kd+size))] rfl (zge (some (kI (i64.wrap (kd+size)))) none rfl zbB.el (zce _ _ _) ⟨rfl,rfl⟩ ⟨rfl,rfl⟩ vi) rfl (rl 0 [0] 10 call226 (zwa uY) rf)) ?_))));cases h;exact zae lzz
  cases h;exact zag rfl lzz
 refine zaA _ rfl ?_;cases h;exact jz
theorem zkG (h:zib k wv=some r):w6 146 [kI k,kU wv] [kU r.1,k8 r.2]:=by
 refine fi 34 func146 fun Xt=>?_
 unfold zib at h;refine jp (jp (zq (jp (jb h fun p vt h=>jn (.N [1,6] [] [(7,kB p)] []) ?_ ?_))))
 ·replace h:=vt;refine jI h ?_ ?_<;>intro uS h
  ·cases h;exact zae lzz
  cases h;exact jy
 refine zek (jI h ?_ ?_)<;>intro uT h
 ·refine jb h fun rv uU h=>jb h fun w8 uY h=>jr (rl 1 [1] 9 call177 (zxd uU) (rl 0 [1] 9 call176 (zxe uY) rf)) ?_;cases h;exact zx lzz
 refine jp (jb h fun p2 vE h=>jn (.N [1,6] [] [(13,kB p2)] []) ?_ ?_)
 ·replace h:=vE;refine jI h ?_ ?_<;>intro uW h
  ·cases h;exact zae lzz
  refine jp (jI h ?_ ?_)<;>intro uZ h
  ·cases h;exact zae lzz
  refine jp (jI h ?_ ?_)<;>intro u9 h
  ·cases h;exact zae lzz
  refine jp (jI h ?_ ?_)<;>intro vf h
  ·cases h;exact zae lzz
  cases h;exact jy
 refine zek (jI h ?_ ?_)<;>intro vj h
 ·refine jb h fun kg vd h=>jr (rl 1 [1] 9 call178 (zss vd) rf) ?_;cases h;exact zx lzz
 refine jp (jI h ?_ ?_)<;>intro vr h
 ·refine jb h fun kq vm h=>jr (rl 1 [1] 9 call179 (zzp vm) rf) ?_;cases h;exact zx lzz
 refine jp (jb h fun p3 vZ h=>jn (.n ⟨[(1,kU wv),(26,kB p3)],[]⟩) ?_ ?_)
 ·replace h:=vZ;refine jI h ?_ ?_<;>intro vu h
  ·cases h;exact zae lzz
  refine jp (jI h ?_ ?_)<;>intro vv h
  ·cases h;exact zae lzz
  refine jp (jI h ?_ ?_)<;>intro vF h
  ·cases h;exact zae lzz
  refine jp (jI h ?_ ?_)<;>intro vy h
  ·cases h;exact zae lzz
  refine jp (jI h ?_ ?_)<;>intro vD h
  ·cases h;exact zae lzz
  cases h;exact jy
 refine zek (jI h ?_ ?_)<;>intro vG h
 ·cases h;exact jz
 refine zS ?_;cases h;exact jz
theorem zEh (h:zro b=some r):w6 193 [.sl Rp.byte [0] b] [.rc zcq [] r.1,kI r.2.1,k8 r.2.2]:=by
 refine fj ⟨[(2,.ptr 2 0),(3,kI r.2.1),(4,k8 r.2.2)],[⟨2,224,[kI r.1.Number,kI r.1.Wire]⟩]⟩ 35 func193 ⟨⟨_,_,rfl,rfl,rfl,rfl,zNf⟩,rfl,rfl,trivial⟩ fun Xt=>?_
 unfold zro at h;refine jq [12] (jb h fun rv uU h=>jr (rl 1 [0] 11 call213 (zjP uU) rf) (jp (jI h ?_ ?_)))<;>intro uS h
 ·refine jr (rc 0 rfl (zab (r:=zcq) [] [] (⟨0,0⟩:zao) rfl zCo rfl rfl) rf) ?_;cases h;exact zx (lks [12] [(12,2)] lzz)
 refine jr (ra 1 [kU rv.1,kU 3] rfl (zjH rfl rfl) rfl rf) (jr (rc 5 rfl (zab (r:=zcq) [kI (i64.wrap (if (536870912:Int)<(shrI .u64 rv.1 3) then 536870912 else (shrI .u64 rv.1 3))),kI (i64.wrap (andI .u64 rv.1 7))] [] (⟨(i64.wrap (if (536870912:Int)<(shrI .u64 rv.1 3) then 536870912 else (shrI .u64 rv.1 3))),(i64.wrap (andI .u64 rv.1 7))⟩:zao) rfl zCo rfl rfl) (rfl' [13])) (jb h fun w8 uY h=>jr (lb 0 zcq [] (⟨(i64.wrap (if (536870912:Int)<(shrI .u64 rv.1 3) then 536870912 else (shrI .u64 rv.1 3))),(i64.wrap (andI .u64 rv.1 7))⟩:zao) (rl 0 [1] 12 call183 (zuh uY) rf)) (jI h ?_ ?_)))<;>intro uT h
 ·refine jr (rc 0 rfl (zab (r:=zcq) [] [] (⟨0,0⟩:zao) rfl zCo rfl rfl) rf) ?_;cases h;exact zx (lks [12] [(12,2)] lzz)
 refine jr (lb 0 zcq [] (⟨(i64.wrap (if (536870912:Int)<(shrI .u64 rv.1 3) then 536870912 else (shrI .u64 rv.1 3))),(i64.wrap (andI .u64 rv.1 7))⟩:zao) rf) ?_;cases h;exact zx (lks [12] [(12,2)] lzz)
theorem zrd (h:zjg wire b=some r):w6 185 [kI wire,.sl Rp.byte [0] b] [kI r.1,kI r.2.1,k8 r.2.2]:=by
 refine fi 45 func185 fun Xt=>?_
 unfold zjg at h;refine jp (jp (jp (zq (jp (jI h ?_ ?_)))))<;>intro uS h
 ·refine jb h fun rv uU h=>jr (rl 1 [0] 9 call212 (zry uU) rf) ?_;cases h;exact jz
 refine jp (jb h fun p vt h=>jn (.N [1] [] [(4,kI p.1),(6,k8 p.2.1),(7,kU p.2.2)] []) ?_ ?_)
 ·replace h:=vt;refine jI h ?_ ?_<;>intro uT h
  ·cases h;exact jy
  refine jp (jI h ?_ ?_)<;>intro uW h
  ·cases h;exact jy
  refine jp (jI h ?_ ?_)<;>intro uZ h
  ·refine jb h fun w8 uY h=>jr (rl 1 [0] 9 call213 (zjP uY) rf) ?_;cases h;exact zae lzz
  cases h;exact zae lzz
 refine zek (zS (jp (jI h ?_ ?_)))<;>intro u9 h
 ·cases h;exact jz
 refine jp (jI h ?_ ?_)<;>intro vf h
 ·cases h;exact jz
 cases h;exact jz
theorem zFL (h:zpE b t=some r):w6 150 [.sl Rp.byte [0] b,.rc zcq [0] t] [.own Rp.byte 5 2 [] r.1,k8 r.2]:=by
 refine fi 13 func150 fun Xt=>?_
 unfold zpE at h;refine jq [13] (jb h fun rv uU h=>jr (lb 0 zcq [] t (rl 0 [1] 12 call183 (zuh uU) rf)) (jI h ?_ ?_))<;>intro uS h
 ·refine jp ?_;cases h;exact zx lw
 refine jb h fun w8 uY h=>jb h fun kg vd h=>jr (lb 1 zcq [] t (rl 0 [1] 12 call184 (zEi uY) (rl 0 [0] 12 call152 (zof vd) rf))) ?_;cases h;exact zx (lks [] [(14,2)] lzz)
theorem zjU (h:zeq wv=some r):w6 32 [.qp zgF [0] wv] [.own Rp.byte 5 2 [] r]:=by
 refine fi 8 func32 fun Xt=>?_
 unfold zeq at h;refine jp (jb h fun x va h=>jb h fun rv uU h=>jr (ra 1 [.qp zgF [0] wv] rfl (zLL (x0:=x) rfl va) rfl (rc 1 rfl (ldl zgF [0] x 0 (Rp.list Rp.byte) x.pieces) (rl 0 [0] 10 call66 (zck uU) rf))) ?_);obtain rfl:=(sj h);exact zx (lks [] [(12,2)] lzz)
theorem zpZ (h:zfO sv=some r):w6 39 [.sl zg [0] sv] [kI r.1,kI r.2.1,kI r.2.2]:=by
 refine fi 80 func39 fun Xt=>?_
 unfold zfO at h;refine jp (jg [0] [] [(17,kB (((sv.length:Int)==0)|| (decide ((sv.length:Int)>100))))] ?_ ?_)
 ·refine (rsl 4 [] 13 ((sv.length:Int)==0) ?_ ?_)<;>intro uS
  · exact (rbl [] 17 true rfl (by grind))
  exact (rbl [] 17 (decide ((sv.length:Int)>100)) rfl (by grind))
 refine jI h ?_ ?_<;>intro uT h
 ·cases h;exact jz
 refine jp (zq (jb h fun q3 v8 h=>jL v8 [0] [] (fun s=>[(5,kI s)]) (fun| (.inl v_)=> .x 0 ⟨[],[]⟩| (.inr v_)=> .r ⟨[(2,kI v_.1),(3,kI v_.2.1),(4,kI v_.2.2)],[]⟩) ?_ lzz ?_))
 ·clear h;intro i o h;unfold zbq at h;refine jp (jI h ?_ ?_)<;>intro uW h
  ·refine zq (jp (jp (zq (jb h fun q u0 h=>jL u0 [0,5] [] (fun s=>[(6,kB s.1),(7,kI s.2)]) (fun o=> .X 2 [0,5] [] [(6,kB o)] []) ?_ lzz ?_))))
   ·clear h;intro s o h;obtain ⟨twice,k⟩:=s;replace h:zbr i sv twice k=some o:=h;unfold zbr at h;refine jp (jI h ?_ ?_)<;>intro uZ h
    ·refine zq (jb h fun g uV h=>jn (.N [0,5,7] [] [(6,kB g)] []) ?_ (zek ?_))
     ·rcases zkW uV with ⟨u9,uV⟩| ⟨u9,uV⟩
      ·cases uV;exact jd [0,5,6,7] [] zdc (by exact (lw_e (dg 29 u9 l0))) (zae lzz)
      refine jb uV fun x va uV=>jb uV fun x2 vh uV=>?_;cases uV;exact jd [0,5,6,7] [] zdc (by exact (lw_e (dg 29 u9 (lwn 2 (di [0] zhl.el va (lwn 4 (di [0] zhl.el vh l0))))))) (zae lzz)
     refine zS ?_;cases h;exact jy
    cases h;exact zag rfl lzz
   refine zaA _ rfl (jb h fun x3 vp h=>jb h fun rv uU h=>jr (rx 2 [0] zhl.el vp rfl rfl (rl 2 [1] 11 call73 (zkP uU) rf)) (jI h ?_ ?_))<;>intro vf h
   ·cases h;exact jz'
   refine jp (jI h ?_ ?_)<;>intro vj h
   ·cases h;exact jz'
   refine jb h fun x4 vz h=>jr (rx 2 [0] zhl.el vz rfl rfl (rc 1 rfl (ldl zg [0] x4 1 ze x4.Fields) rf)) (jI h ?_ ?_)<;>intro vr h
   ·cases h;exact jz'
   refine jp (zq (jb h fun q2 vn h=>jL vn [0,5] [] (fun s=>[(8,kI s)]) (fun| (.inl v_)=> .X 4 [0,5] [] [] []| (.inr v_)=> .r ⟨[(2,kI i),(3,kI v_.1),(4,kI v_.2)],[]⟩) ?_ lzz ?_))
   ·clear h;intro k2 o h;unfold zbs at h;refine jb h fun x5 vB h=>jr (rx 3 [0] zhl.el vB rfl rfl (rc 1 rfl (ldl zg [0] x5 1 ze x5.Fields) rf)) (jI h ?_ ?_)<;>intro vu h
    ·refine zq (jb h fun w8 uY h=>jr (rl 3 [0] 12 call74 (zqa uY) rf) (jp (jI h ?_ ?_)))<;>intro vv h
     ·cases h;exact jz'
     refine zS ?_;cases h;exact jy
    cases h;exact zag rfl lzz
   rcases q2 with u| u2
   ·refine zaA _ rfl (zS ?_);cases h;exact jy
   cases h;exact zwE lzz
  cases h;exact zag rfl lzz
 rcases q3 with u3| u4
 ·refine zaA _ rfl ?_;cases h;exact jz
 cases h;exact zfn lzz
theorem zpX (h:zfN b km=some r):w6 77 [.sl Rp.byte [0] b,kI km] [kI r.1,kI r.2]:=by
 refine fi 28 func77 fun Xt=>?_
 unfold zfN at h;refine jp (jp (zq (jb h fun q u0 h=>jL u0 [0,1] [] (fun s=>[(6,kI s.1),(7,kI s.2)]) (fun o=> .r ⟨[(4,kI o.1),(5,kI o.2)],[]⟩) ?_ lzz ?_)))
 ·clear h;intro s o h;obtain ⟨kd,count⟩:=s;replace h:zbp b km kd count=some o:=h;unfold zbp at h;refine zq (jb h fun rv uU h=>jr (rl 2 [0] 10 call121 (zqz uU) rf) (jg [0,1,6,7,8] [] [(20,kB ((rv==0)|| (decide ((i64.wrap (kd+rv))>km))))] ?_ ?_))
  ·refine (rsl 3 [] 14 (rv==0) ?_ ?_)<;>intro uS
   · exact (rbl [] 20 true rfl (by grind))
   exact (rbl [] 20 (decide ((i64.wrap (kd+rv))>km)) rfl (by grind))
  refine jI h ?_ ?_<;>intro uT h
  ·cases h;exact jz'
  refine jp (jp (zS ?_));cases h;exact zae lzz
 cases h;exact zfn lzz
theorem zqB (h:zeU b ve=some r):w6 67 [.sl Rp.byte [0] b,kI ve] [.rc zH [] r.1,kI r.2]:=by
 refine fj ⟨[(4,.ptr 2 0),(5,kI r.2)],[⟨2,102,(zix r.1)⟩]⟩ 108 func67 ⟨⟨_,_,rfl,rfl,rfl,rfl,zNb⟩,rfl,trivial⟩ fun Xt=>?_
 unfold zeU at h;refine jq [12] (jg [0,1,4] [12] [(26,kB ((decide (ve<0))|| (decide (ve>=(b.length:Int)))))] ?_ ?_)
 ·refine (rsl 3 [] 21 (decide (ve<0)) ?_ ?_)<;>intro uS
  · exact (rbl [] 26 true rfl (by grind))
  exact (rbl [] 26 (decide (ve>=(b.length:Int))) rfl (by grind))
 refine jI h ?_ ?_<;>intro uT h
 ·refine jr (rc 0 rfl (zab (r:=zH) [] [] (⟨0,0,0,0,0⟩:zn) rfl ztg rfl rfl) rf) ?_;cases h;exact zx (lks [12] [(12,2)] lzz)
 refine jb h fun rv uU h=>jr (rl 2 [0] 11 call110 (zqy uU) rf) (jp (jI h ?_ ?_))<;>intro uW h
 ·refine jr (rc 0 rfl (zab (r:=zH) [] [] (⟨0,0,0,0,0⟩:zn) rfl ztg rfl rfl) rf) ?_;cases h;exact zx (lks [12] [(12,2)] lzz)
 refine jr (rc 6 rfl (zab (r:=zH) [kI rv.1,kI rv.2.1,kI ve,kI (i64.wrap (ve+rv.2.2.1))] [] (⟨rv.1,rv.2.1,ve,(i64.wrap (ve+rv.2.2.1)),0⟩:zn) rfl ztg rfl rfl) (rfl' [13])) (jp (jp (jp (jb h fun p vt h=>jn (.N [0,4,7,10,11] [12,13] [(12,kI p)] []) ?_ ?_))))
 ·replace h:=vt;refine jI h ?_ ?_<;>intro uZ h
  ·cases h;exact jy
  cases h;exact zae lzz
 refine zek (jp (jb h fun p2 vE h=>jn (match p2 with| (.inl v_)=> .N [0,4,7,10,11] [12,13] [(12,kI v_)] []| (.inr v_)=> .r ⟨[(4,.ptr 12 0),(5,kI v_)],[⟨12,102,[kI 0,kI 0,kI 0,kI 0,kI 0]⟩]⟩) ?_ ?_))
 ·replace h:=vE;refine jI h ?_ ?_<;>intro u9 h
  ·refine jb h fun w8 uY h=>jr (rl 3 [0] 12 call87 (zdA uY) rf) (jp (jI h ?_ ?_))<;>intro vf h
   ·refine jr (rc 0 rfl (zab (r:=zH) [] [] (⟨0,0,0,0,0⟩:zn) rfl ztg rfl rfl) rf) ?_;cases h;exact zx lzz
   cases h;exact jy
  cases h;exact zae lzz
 rcases p2 with u| u4
 ·refine zek (jp (jb h fun p3 vZ h=>jn (match p3 with| (.inl v_)=> .N [4,10] [12] [(11,kI v_.1),(12,kI v_.2.1)] [⟨13,102,[kI rv.1,kI rv.2.1,kI ve,kI v_.2.2,kI 0]⟩]| (.inr v_)=> .r ⟨[(4,.ptr 12 0),(5,kI v_)],[⟨12,102,[kI 0,kI 0,kI 0,kI 0,kI 0]⟩]⟩) ?_ ?_))
  ·replace h:=vZ;refine jI h ?_ ?_<;>intro vj h
   ·refine jb h fun kg vd h=>jr (rl 3 [0] 12 call87 (zdA vd) rf) (jp (jI h ?_ ?_))<;>intro vr h
    ·refine jr (rc 0 rfl (zab (r:=zH) [] [] (⟨0,0,0,0,0⟩:zn) rfl ztg rfl rfl) rf) ?_;cases h;exact zx lzz
    refine jp (jp (jp (jI h ?_ ?_)))<;>intro vu h
    ·refine jr (rc 0 rfl (zab (r:=zH) [] [] (⟨0,0,0,0,0⟩:zn) rfl ztg rfl rfl) rf) ?_;cases h;exact zx lzz
    cases h;exact jy
   cases h;exact zae lzz
  rcases p3 with u2| u3
  ·refine zek (jp (jI h ?_ ?_))<;>intro vv h
   ·refine jr (rc 0 rfl (zab (r:=zH) [] [] (⟨0,0,0,0,0⟩:zn) rfl ztg rfl rfl) rf) ?_;cases h;exact zx (lks [12] [(12,2)] lzz)
   refine jp (jr (lb 0 zH [] (⟨rv.1,rv.2.1,ve,u2.2.2,(i64.wrap (u2.2.2+u2.2.1))⟩:zn) rf) ?_);cases h;exact zx (lks [12] [(12,2)] lzz)
  cases h;exact zfn (lks [12] [(12,2)] lzz)
 cases h;exact zfn (lks [12] [(12,2)] lzz)
theorem zlv (h:zfA vb k wv=some r):w6 48 [kI k,kU wv] [.own Rp.byte 5 2 [] r]:=by
 refine fi 18 func48 fun Xt=>?_
 unfold zfA at h;refine jp (jb h fun rv uU h=>jr (rl 2 [1] 10 call43 (zhR uU) rf) (jp (jI h ?_ ?_)))<;>intro uS h
 ·refine jb h fun w8 uY h=>jr (rl 1 [1] 10 call80 (zjx uY) rf) ?_;obtain rfl:=(sj h);exact zx (lks [] [(12,2)] lzz)
 refine jp (jI h ?_ ?_)<;>intro uT h
 ·refine jb h fun kg vd h=>jr (rl 1 [1] 11 call80 (zjx vd) rf) ?_;obtain rfl:=(sj h);exact zx (lks [] [(13,2)] lzz)
 refine jb h fun kq vm h=>jr (rl 1 [1] 12 call79 (ziC vm) rf) ?_;obtain rfl:=(sj h);exact zx (lks [] [(14,2)] lzz)
theorem zgP (h:zdC vb vl wire value=some r):w6 45 [kI vl,kI wire,.sl Rp.byte [0] value] [.own Rp.byte 5 2 [] r]:=by
 refine fi 22 func45 fun Xt=>?_
 unfold zdC at h;refine jp (jb h fun rv uU h=>jr (rl 2 [1] 10 call78 (zsh uU) rf) (jp (jI h ?_ ?_)))<;>intro uS h
 ·refine jb h fun w8 uY h=>jb h fun v vi h=>jr (rl 4 [1] 11 call79 (ziC uY) (rc 0 rfl (lao 12 [] 5 13 [] [] zbB.el vi (.inl zcH)) rf)) (jb h fun v2 vq h=>jr (rc 2 rfl (las 12 [] [0] [] zbB.el vq (.inl zcH)) rf) ?_);obtain rfl:=(sj h);exact zx (lks [] [(12,2)] lzz)
 refine jb h fun v3 vk h=>jr (rc 2 rfl (las 12 [] [0] [] zbB.el vk (.inl zcH)) rf) ?_;obtain rfl:=(sj h);exact zx (lks [] [(12,2)] lzz)
theorem zkQ (h:zeW k b=some r):w6 53 [kI k,.sl Rp.byte [0] b] [kU r.1,kI r.2]:=by
 refine fi 29 func53 fun Xt=>?_
 unfold zeW at h;refine jp (jb h fun rv uU h=>jr (rl 1 [1] 9 call42 (zcm uU) rf) (jI h ?_ ?_))<;>intro uS h
 ·cases h;exact jz
 refine jb h fun w8 uY h=>jb h fun kg vd h=>jr (rl 1 [1] 9 call47 (zgs uY) (rl 1 [0] 9 call85 (zqA vd) rf)) (jI h ?_ ?_)<;>intro uT h
 ·cases h;exact jz
 refine jb h fun kq vm h=>jr (rl 1 [0] 9 call86 (zqw vm) rf) (jb h fun rv5 vC h=>jr (rl 1 [1] 9 call47 (zgs vC) rf) (jI h ?_ ?_))<;>intro uW h
 ·refine jb h fun rv6 vP h=>jr (rl 1 [0] 9 call87 (zdA vP) rf) (jb h fun rv7 vQ h=>jr (rl 2 [1] 9 call43 (zhR vQ) rf) ?_);cases h;exact zx lzz
 refine jb h fun rv8 vT h=>jr (rl 2 [1] 9 call43 (zhR vT) rf) ?_;cases h;exact zx lzz
theorem zzG (h:zmR m vl=some r):w6 194 [.rc zg [0] m,kI vl] [kI r]:=by
 refine fi 9 func194 fun Xt=>?_
 unfold zmR at h;refine jr (ra 0 [.rc zg [0] m] rfl (zhu 11 (zT [0] m) [0] rfl rfl rfl rfl rfl) rfl (rfl' [921600])) (jb h fun rv uU h=>jr (ra 2 [.ptr 921600 0] rfl (zGL (g:=216) [.tmp 3] [⟨921600,3,[kI vl]⟩] [.ep wY [921600] vl 0] rfl ⟨⟨rfl,rfl,rfl⟩,trivial⟩ rfl) rfl (rl 0 [0,921600] 10 call143 (zeQ uU) rf)) ?_);obtain rfl:=(sj h);exact zx lzz
theorem zCw (h:zoS k wire=some r):w6 196 [kI k,kI wire] [kB r]:=by
 refine fi 19 func196 fun Xt=>?_
 unfold zoS at h;refine jp (jb h fun rv uU h=>jr (rl 1 [1] 9 call214 (ztF uU) rf) (jg [] [] [(4,kB ((rv.2==0)&&(rv.1==wire)))] ?_ ?_))
 ·refine (rsl 3 [] 14 (rv.2==0) ?_ ?_)<;>intro uS
  · exact (rbl [] 4 (rv.1==wire) rfl (by grind))
  exact (rbl [] 4 false rfl (by grind))
 cases h;exact zx lzz
theorem zCh {wide:Int} (h:zoG wide b=some r):w6 224 [kI wide,.sl Rp.byte [0] b] [kI r.1,k8 r.2]:=by
 refine fi 19 func224 fun Xt=>?_
 unfold zoG at h;refine jp (zq (jp (jI h ?_ ?_)))<;>intro uS h
 ·refine jb h fun rv uU h=>jr (rl 1 [0] 9 call212 (zry uU) rf) ?_;cases h;exact zx lzz
 refine jp (jI h ?_ ?_)<;>intro uT h
 ·cases h;exact jz
 refine zS ?_;cases h;exact jz
theorem zwk (h:zjL k b=some r):w6 225 [kI k,.sl Rp.byte [0] b] [kU r.1,k8 r.2]:=by
 refine fi 31 func225 fun Xt=>?_
 unfold zjL at h;refine jp (jb h fun rv uU h=>jr (rl 1 [1] 9 call180 (zls uU) rf) (zq (jp (jI h ?_ ?_))))<;>intro uS h
 ·cases h;exact jz
 refine jp (jI h ?_ ?_)<;>intro uT h
 ·refine jb h fun w8 uY h=>jr (rl 1 [0] 9 call228 (zwl uY) rf) ?_;cases h;exact zx lzz
 refine jp (jI h ?_ ?_)<;>intro uW h
 ·cases h;exact jz
 refine zS (jb h fun kg vd h=>jr (rl 1 [0] 9 call229 (zBk vd) rf) ?_);cases h;exact zx lzz
theorem zud (h:zif f=some r):w6 159 [.rc ze [0] f] [kB r]:=by
 refine fi 10 func159 fun Xt=>?_
 unfold zif at h;refine jq [11] (jb h fun g uV h=>jg [] [] [(2,kB g)] ?_ ?_)
 ·refine (rsI 3 5 uV ?_ ?_)<;>intro uS uV
  ·refine jb uV fun rv uU uV=>?_;cases uV;exact (rl 2 [1] 10 call190 (zqP uU) rgg)
  cases uV;exact rgg
 obtain rfl:=(sj h);exact zx lzz
theorem ziT (h:zeh m vl=some r):w6 64 [.rc zg [0] m,kI vl] [kI r.1,kB r.2]:=by
 refine fi 11 func64 fun Xt=>?_
 unfold zeh at h;refine jr (ra 0 [.rc zg [0] m] rfl (zhu 11 (zT [0] m) [0] rfl rfl rfl rfl rfl) rfl (rfl' [910800])) (jb h fun rv uU h=>jr (ra 1 [.ptr 910800 0] rfl (zGL (g:=108) [.tmp 3] [⟨910800,3,[kI vl]⟩] [.ep wY [910800] vl 0] rfl ⟨⟨rfl,rfl,rfl⟩,trivial⟩ rfl) rfl (rl 0 [0,910800] 10 call107 (ziU uU) rf)) ?_);cases h;exact zx lzz
theorem zCu (h:zoN b=some r):w6 175 [.sl Rp.byte [0] b] [kI r]:=by
 refine fi 11 func175 fun Xt=>?_
 unfold zoN at h;refine jp (jb h fun rv uU h=>jr (rl 1 [0] 9 call210 (zEr uU) rf) ?_);cases h;exact jz
theorem zrs (h:zgC k l=some r):w6 113 [kI k,.sl wZ [0] l] [kB r]:=by
 refine fi 29 func113 fun Xt=>?_
 unfold zgC at h;refine jp (jp (zq (jb h fun q u0 h=>jL u0 [0,9,10] [] (fun s=>[(11,kI s)]) (fun| (.inl v_)=> .x 0 ⟨[],[]⟩| (.inr v_)=> .r ⟨[(4,kB false)],[]⟩) ?_ lzz ?_)))
 ·clear h;intro v o h;unfold zbj at h;refine jp (jI h ?_ ?_)<;>intro uS h
  ·refine zq (jb h fun x va h=>jr (rx 0 [0] zoU.el va rfl rfl rf) (jb h fun rv uU h=>jr (rl 2 [1] 10 call146 (zkG uU) rf) (jg [0,9,10,11] [] [(27,kB ((rv.2 !=0)|| (rv.1 !=x)))] ?_ ?_)))
   ·refine (rsl 3 [] 23 (rv.2 !=0) ?_ ?_)<;>intro uT
    · exact (rbl [] 27 true rfl (by grind))
    exact (rbl [] 27 (rv.1 !=x) rfl (by grind))
   refine jI h ?_ ?_<;>intro uW h
   ·cases h;exact jz'
   refine zS ?_;cases h;exact jy
  cases h;exact zag rfl lzz
 rcases q with u| u2
 ·refine zaA _ rfl (jp ?_);obtain rfl:=(sj h);exact zx lzz
 obtain rfl:=(sj h);exact zfn lzz
theorem zmG (h:zie b ve=some r):w6 164 [.sl Rp.byte [0] b,kI ve] [.rc zH [] r.1,k8 r.2]:=by
 refine fj ⟨[(4,.ptr 2 0),(5,k8 r.2)],[⟨2,152,(zix r.1)⟩]⟩ 62 func164 ⟨⟨_,_,rfl,rfl,rfl,rfl,zNe⟩,rfl,trivial⟩ fun Xt=>?_
 unfold zie at h;refine jq [12] (jg [0,1,4] [12] [(19,kB ((decide (ve<0))|| (decide (ve>=(b.length:Int)))))] ?_ ?_)
 ·refine (rsl 3 [] 14 (decide (ve<0)) ?_ ?_)<;>intro uS
  · exact (rbl [] 19 true rfl (by grind))
  exact (rbl [] 19 (decide (ve>=(b.length:Int))) rfl (by grind))
 refine jI h ?_ ?_<;>intro uT h
 ·refine jr (rc 0 rfl (zab (r:=zH) [] [] (⟨0,0,0,0,0⟩:zn) rfl zCn rfl rfl) rf) ?_;cases h;exact zx (lks [12] [(12,2)] lzz)
 refine jb h fun v2 vq h=>jb h fun rv uU h=>jr (ra 2 [.sl Rp.byte [0] b,kI ve] rfl (zge (some (kI ve)) none rfl zbB.el (zce _ _ _) ⟨rfl,rfl⟩ ⟨rfl,rfl⟩ vq) rfl (rl 0 [0] 11 call193 (zEh uU) (rfl' [13]))) (jp (jI h ?_ ?_))<;>intro uW h
 ·refine jr (rc 0 rfl (zab (r:=zH) [] [] (⟨0,0,0,0,0⟩:zn) rfl zCn rfl rfl) rf) ?_;cases h;exact zx (lks [12] [(12,2)] lzz)
 refine jp (jb h fun v3 vk h=>jb h fun w8 uY h=>jd [1,4,6,8,9,10,11] [12,13] zdc (by exact (lwn 4 (ly [.sl Rp.byte [0] b,kI (i64.wrap (ve+rv.2.1))] (zge (some (kI (i64.wrap (ve+rv.2.1)))) none rfl zbB.el (zce _ _ _) ⟨rfl,rfl⟩ ⟨rfl,rfl⟩ vk) rfl (lx (lf1 185 (lc0 12 call185 (zrd uY))) l0)))) (jp (jI h ?_ ?_)))<;>intro uZ h
 ·refine jr (rc 0 rfl (zab (r:=zH) [] [] (⟨0,0,0,0,0⟩:zn) rfl zCn rfl rfl) rf) ?_;cases h;exact zx (lks [12] [(12,2)] lzz)
 refine jr (rc 11 rfl (zab (r:=zH) [kI rv.1.Number,kI rv.1.Wire,kI ve,kI (i64.wrap ((i64.wrap (ve+rv.2.1))+w8.1)),kI (i64.wrap ((i64.wrap (ve+rv.2.1))+w8.2.1))] [] (⟨rv.1.Number,rv.1.Wire,ve,(i64.wrap ((i64.wrap (ve+rv.2.1))+w8.1)),(i64.wrap ((i64.wrap (ve+rv.2.1))+w8.2.1))⟩:zn) rfl zCn rfl rfl) rf) ?_;cases h;exact zx (lks [12] [(12,2)] lzz)
theorem zrl (h:zjj k wv=some r):w6 149 [kI k,kU wv] [kI r]:=by
 refine fi 29 func149 fun Xt=>?_
 unfold zjj at h;refine jp (jb h fun rv uU h=>jr (rl 1 [1] 9 call180 (zls uU) rf) (jg [0,1,5] [] [(19,kB ((rv.2 !=0)|| (rv.1 !=0)))] ?_ ?_))
 ·refine (rsl 3 [] 16 (rv.2 !=0) ?_ ?_)<;>intro uS
  · exact (rbl [] 19 true rfl (by grind))
  exact (rbl [] 19 (rv.1 !=0) rfl (by grind))
 refine jI h ?_ ?_<;>intro uT h
 ·cases h;exact jz
 refine jb h fun w8 uY h=>jr (rl 2 [1] 9 call146 (zkG uY) rf) (jb h fun kg vd h=>jr (rl 1 [1] 9 call182 (zvF vd) rf) ?_);obtain rfl:=(sj h);exact zx lzz
theorem zsD (h:zkw k wv=some r):w6 148 [kI k,kU wv] [.own Rp.byte 5 2 [] r.1,k8 r.2]:=by
 refine fi 32 func148 fun Xt=>?_
 unfold zkw at h;refine jp (jb h fun rv uU h=>jr (rl 1 [1] 10 call180 (zls uU) rf) (jp (jI h ?_ ?_)))<;>intro uS h
 ·refine jp ?_;cases h;exact zx lw
 refine jb h fun w8 uY h=>jr (rl 2 [1] 10 call146 (zkG uY) rf) (jp (jI h ?_ ?_))<;>intro uT h
 ·refine jb h fun kg vd h=>jr (rl 1 [1] 10 call152 (FnOk.le (ins':=[kN,kU w8.1]) (zof vd) ⟨zha _ _,w7 _,trivial⟩) rf) ?_;cases h;exact zx (lks [] [(12,2)] lzz)
 refine jb h fun kq vm h=>jr (rl 2 [1] 11 call181 (zxc vm) rf) ?_;cases h;exact zx (lks [] [(13,2)] lzz)
theorem zym (h:zla wire value=some r):w6 151 [kI wire,.sl Rp.byte [0] value] [kB r]:=by
 refine fi 25 func151 fun Xt=>?_
 unfold zla at h;refine jp (jp (jI h ?_ ?_))<;>intro uS h
 ·refine jp ?_;obtain rfl:=(sj h);exact zx lzz
 refine jb h fun rv uU h=>jr (rl 2 [0] 9 call185 (zrd uU) rf) (jg [] [] [(4,kB ((rv.2.2==0)&&(rv.2.1==(value.length:Int))))] ?_ ?_)
 ·refine (rsl 3 [] 19 (rv.2.2==0) ?_ ?_)<;>intro uT
  · exact (rbl [] 4 (rv.2.1==(value.length:Int)) rfl (by grind))
  exact (rbl [] 4 false rfl (by grind))
 cases h;exact zx lzz
theorem zqb (h:zfQ sv=some r):w6 20 [.sl zg [0] sv] [kB r]:=by
 refine fi 14 func20 fun Xt=>?_
 unfold zfQ at h;refine jp (jb h fun rv uU h=>jr (rl 1 [0] 9 call39 (zpZ uU) rf) ?_);cases h;exact jz
theorem zpY (h:zdt b=some r):w6 44 [.sl Rp.byte [0] b] [kB r]:=by
 refine fi 16 func44 fun Xt=>?_
 unfold zdt at h;refine jp (jb h fun rv uU h=>jr (rl 3 [0] 9 call77 (zpX uU) rf) ?_);cases h;exact jz
theorem zqC (h:zgt vb k l=some r):w6 46 [kI k,.sl wZ [0] l] [.own Rp.byte 5 2 [] r]:=by
 refine fi 22 func46 fun Xt=>?_
 unfold zgt at h;refine jp (jp (jp (zq (jb h fun q u0 h=>jL u0 [0,1] [] (fun s=>[(5,.own Rp.byte 5 16 [] s.1),(6,kI s.2)]) (fun o=> .x 0 ⟨[(5,.own Rp.byte 5 16 [] o)],[]⟩) ?_ lw ?_))))
 ·clear h;intro s o h;obtain ⟨out,i⟩:=s;replace h:zbN vb k l out i=some o:=h;unfold zbN at h;refine jp (jI h ?_ ?_)<;>intro uS h
  ·refine zq (jb h fun x va h=>jb h fun rv uU h=>jb h fun v vi h=>jr (rx 4 [0] zoU.el va rfl rfl (rl 1 [1] 15 call48 (zlv uU) (rc 0 rfl (lao 16 [] 5 17 [] [] zbB.el vi (.inl zcH)) rf))) (zS ?_));cases h;exact jy
  cases h;exact zag rfl lzz
 refine zaA _ rfl (jp ?_);obtain rfl:=(sj h);exact zx (lks [] [(16,2)] lzz)
theorem zkS (h:zeY m b ve=some r):w6 83 [.rc zg [0] m,.sl Rp.byte [0] b,kI ve] [.rc zaK [] r.1,kI r.2]:=by
 refine fj ⟨[(6,.ptr 2 0),(7,kI r.2)],[⟨2,104,(zxn r.1)⟩]⟩ 66 func83 ⟨⟨_,_,rfl,rfl,rfl,rfl,zNc⟩,rfl,trivial⟩ fun Xt=>?_
 unfold zeY at h;refine jr (ra 0 [.rc zg [0] m] rfl (zhu 13 (zT [0] m) [0] rfl rfl rfl rfl rfl) rfl (rfl' [14])) (jb h fun rv uU h=>jr (rl 2 [0] 13 call67 (zqB uU) (rfl' [15])) (jp (jI h ?_ ?_)))<;>intro uS h
 ·refine jr (rc 0 rfl (zab (r:=zaK) [] [] (⟨(⟨0,0,0,0,0⟩:zn),0,false⟩:zM) rfl zyI rfl rfl) rf) ?_;cases h;exact zx (lks [14] [(14,2)] lzz)
 refine jb h fun w8 uY h=>jr (rl 3 [0] 14 call35 (zjV uY) rf) (jp (jI h ?_ ?_))<;>intro uT h
 ·refine jr (lb 0 zH [] rv.1 (rc 0 rfl (zab (r:=zaK) [.rc zH [] rv.1,kI (-1)] [] (⟨rv.1,(-1),false⟩:zM) rfl zyI rfl rfl) rf)) ?_;cases h;exact zx (lks [14] [(14,2)] lzz)
 refine jb h fun x va h=>jr (rx 3 [0] zjp.el va rfl rfl (rc 0 rfl (lde ze [0] x znp) (rfl' [16]))) (jb h fun g uV h=>jg [6,8,10,11] [14,15,16] [(46,kB g)] ?_ ?_)
 ·refine (rsI 3 37 uV ?_ ?_)<;>intro uW uV
  ·refine jb uV fun kg vd uV=>(rl 2 [1] 15 call42 (zcm vd) (rsI 2 42 uV ?_ ?_))<;>intro uZ uV
   ·cases uV;exact (rel [] lzz)
   cases uV;exact (rel [] lzz)
  cases uV;exact (rel [] lzz)
 refine jI h ?_ ?_<;>intro u9 h
 ·refine jr (lb 0 zH [] rv.1 (rc 1 rfl (zab (r:=zaK) [.rc zH [] rv.1,kI w8,kB true] [] (⟨rv.1,w8,true⟩:zM) rfl zyI rfl rfl) rf)) ?_;cases h;exact zx (lks [14] [(14,2)] lzz)
 refine jb h fun g2 vg h=>jn (.N [6,8,10] [14,15] [(61,kB g2)] []) ?_ (zek ?_)
 ·refine jb vg fun kq vm vg=>?_;rcases zkW vg with ⟨vf,vg⟩| ⟨vf,vg⟩
  ·cases vg;exact jd [6,8,10,61] [14,15] zdc (by exact (lwn 2 (lx (lf1 41 (lcd [kI x.Kind] 15 call41 (zhS vm))) (lw_e (dg 53 vf l0))))) (zae lzz)
  refine jb vg fun rv5 vC vg=>?_;cases vg;exact jd [6,8,10,61] [14,15] zdc (by exact (lwn 2 (lx (lf1 41 (lcd [kI x.Kind] 15 call41 (zhS vm))) (lw_e (dg 53 vf (lwn 2 (lx (lf1 47 (lcd [kI x.Kind] 15 call47 (zgs vC))) l0))))))) (zae lzz)
 refine jI h ?_ ?_<;>intro vj h
 ·refine jr (rc 0 rfl (zab (r:=zaK) [] [] (⟨(⟨0,0,0,0,0⟩:zn),0,false⟩:zM) rfl zyI rfl rfl) rf) ?_;cases h;exact zx (lks [14] [(14,2)] lzz)
 refine jr (lb 0 zH [] rv.1 (rc 1 rfl (zab (r:=zaK) [.rc zH [] rv.1,kI w8] [] (⟨rv.1,w8,false⟩:zM) rfl zyI rfl rfl) rf)) ?_;cases h;exact zx (lks [14] [(14,2)] lzz)
theorem zqc (h:zfR k b=some r):w6 52 [kI k,.sl Rp.byte [0] b] [.own wZ 72 2 [] r.1,kI r.2]:=by
 refine fi 50 func52 fun Xt=>?_
 unfold zfR at h;refine jp (jb h fun rv uU h=>jr (rl 2 [0] 13 call84 (zkR uU) rf) (jp (jp (zq (jb h fun q u0 h=>jL u0 [0,1,6,7] [] (fun s=>[(8,.own wZ 72 18 [] s.1),(9,kI s.2)]) (fun o=> .X 0 [7] [] [(8,.own wZ 72 18 [] o)] []) ?_ lw ?_)))))
 ·clear h;intro s o h;obtain ⟨out,i⟩:=s;replace h:zaL b k rv out i=some o:=h;unfold zaL at h;refine jp (jI h ?_ ?_)<;>intro uS h
  ·refine zq (jp (jp (jb h fun p vt h=>jn (.N [0,1,6,7,8,9] [] [(10,kI p)] []) ?_ ?_)))
   ·replace h:=vt;refine jI h ?_ ?_<;>intro uT h
    ·refine jb h fun x va h=>jr (ra 3 [.own wY 3 15 [] rv.1,kI (i64.wrap (i - 1))] rfl (zjG rfl zkb.el (zcn _ _ _ _ _) va) rfl rf) ?_;cases h;exact zae lzz
    cases h;exact zae lzz
   refine zek (jb h fun x2 vh h=>jb h fun v vi h=>jb h fun w8 uY h=>jr (ra 5 [.own wY 3 15 [] rv.1,kI i] rfl (zjG rfl zkb.el (zcn _ _ _ _ _) vh) rfl (ra 1 [.sl Rp.byte [0] b,kI p,kI x2] rfl (zge (some (kI p)) (some (kI x2)) rfl zbB.el (zce _ _ _) ⟨rfl,rfl⟩ ⟨rfl,rfl⟩ vi) rfl (rl 0 [0] 17 call53 (zkQ uY) rf))) (jb h fun v2 vq h=>jr (rc 2 rfl (zey [kU w8.1] 19 [] ([w8.1]:(List Int)) rfl zoU rfl rfl rfl rfl) (rc 0 rfl (lao 18 [] 72 19 [] [] zoU.el vq (.inl (zio _))) rf)) (zS ?_)));cases h;exact jy
  cases h;exact zag rfl lzz
 refine zaA _ rfl (jp ?_);cases h;exact zx (lks [] [(18,2)] lzz)
theorem zzH (h:zmS f wire=some r):w6 195 [.rc ze [0] f,kI wire] [kB r]:=by
 refine fi 16 func195 fun Xt=>?_
 unfold zmS at h;refine jq [11] (jb h fun g uV h=>jg [] [] [(4,kB g)] ?_ ?_)
 ·refine (rsI 3 7 uV ?_ ?_)<;>intro uS uV
  ·refine (rsI 4 11 uV ?_ ?_)<;>intro uT uV
   ·refine jb uV fun rv uU uV=>?_;cases uV;exact (rl 2 [1] 10 call190 (zqP uU) rgg)
   cases uV;exact rgg
  cases uV;exact rgg
 obtain rfl:=(sj h);exact zx lzz
theorem zyB (h:zle k b=some r):w6 209 [kI k,.sl Rp.byte [0] b] [kU r.1,k8 r.2]:=by
 refine fi 22 func209 fun Xt=>?_
 unfold zle at h;refine jp (jb h fun rv uU h=>jr (rl 2 [0] 9 call225 (zwk uU) rf) (jp (jI h ?_ ?_)))<;>intro uS h
 ·cases h;exact jz
 refine jb h fun w8 uY h=>jr (rl 2 [1] 9 call146 (zkG uY) rf) ?_;cases h;exact zx lzz
end Go.Proofs.YtkgohoggipdokaaGreat

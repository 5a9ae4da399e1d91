/-
  The Go functions do what the plain functions say. No condition.
-/
import Derived.Test.YtnckiilakdkklaaGreatx3G3
set_option autoImplicit true
set_option relaxedAutoImplicit true
namespace Go.Proofs.YtnckiilakdkklaaGreat
open Go.IntKind (i64)
open Tryz
open Go Go.RowKit
set_option linter.unusedVariables false
set_option maxRecDepth 100000
set_option maxHeartbeats 3200000
theorem zmw (h:zea f=some r):uV 119 [.rc zb [0] f] [kB r]:=by
 refine fi 10 func119 fun Xt=>?_
 unfold zea at h;refine jq [11] (jb h fun g pA h=>jg [] [] [(2,kB g)] ?_ ?_)
 ·refine (rsI 3 5 pA ?_ ?_)<;>intro py pA
  ·refine jb pA fun rv pB pA=>?_;cases pA;exact (rl 2 [1] 10 call128 (zjP pB) rgg)
  cases pA;exact rgg
 obtain rfl:=(sj h);exact zw lzz
theorem zke (h:zeM b pH=some r):uV 83 [.sl Rp.byte [0] b,kI pH] [.rc zq [] r.1,k8 r.2]:=by
 refine fj ⟨[(4,.ptr 2 0),(5,k8 r.2)],[⟨2,104,(zen r.1)⟩]⟩ 62 func83 ⟨⟨_,_,rfl,rfl,rfl,rfl,zAF⟩,rfl,trivial⟩ fun Xt=>?_
 unfold zeM at h;refine jq [12] (jg [0,1,4] [12] [(19,kB ((decide (pH<0))|| (decide (pH>=(b.length:Int)))))] ?_ ?_)
 ·refine (rsl 3 [] 14 (decide (pH<0)) ?_ ?_)<;>intro py
  · exact (rbl [] 19 true rfl (by grind))
  exact (rbl [] 19 (decide (pH>=(b.length:Int))) rfl (by grind))
 refine jI h ?_ ?_<;>intro pz h
 ·refine jr (rc 0 rfl (zA (r:=zq) [] [] (⟨0,0,0,0,0⟩:zh) rfl zsi rfl rfl) rf) ?_;cases h;exact zw (lks [12] [(12,2)] lzz)
 refine jb h fun v2 uh h=>jb h fun rv pB h=>jr (ra 2 [.sl Rp.byte [0] b,kI pH] rfl (zeZ (some (kI pH)) none rfl zcd.el (zci _ _ _) ⟨rfl,rfl⟩ ⟨rfl,rfl⟩ uh) rfl (rl 0 [0] 11 call96 (ztI pB) (rfl' [13]))) (jp (jI h ?_ ?_))<;>intro pC h
 ·refine jr (rc 0 rfl (zA (r:=zq) [] [] (⟨0,0,0,0,0⟩:zh) rfl zsi rfl rfl) rf) ?_;cases h;exact zw (lks [12] [(12,2)] lzz)
 refine jp (jb h fun v3 pV h=>jb h fun uX pF h=>jd [1,4,6,8,9,10,11] [12,13] zeq (by exact (lwn 4 (ly [.sl Rp.byte [0] b,kI (i64.wrap (pH+rv.2.1))] (zeZ (some (kI (i64.wrap (pH+rv.2.1)))) none rfl zcd.el (zci _ _ _) ⟨rfl,rfl⟩ ⟨rfl,rfl⟩ pV) rfl (lx (lf1 97 (lc0 12 call97 (zpq pF))) l0)))) (jp (jI h ?_ ?_)))<;>intro pD h
 ·refine jr (rc 0 rfl (zA (r:=zq) [] [] (⟨0,0,0,0,0⟩:zh) rfl zsi rfl rfl) rf) ?_;cases h;exact zw (lks [12] [(12,2)] lzz)
 refine jr (rc 11 rfl (zA (r:=zq) [kI rv.1.Number,kI rv.1.Wire,kI pH,kI (i64.wrap ((i64.wrap (pH+rv.2.1))+uX.1)),kI (i64.wrap ((i64.wrap (pH+rv.2.1))+uX.2.1))] [] (⟨rv.1.Number,rv.1.Wire,pH,(i64.wrap ((i64.wrap (pH+rv.2.1))+uX.1)),(i64.wrap ((i64.wrap (pH+rv.2.1))+uX.2.1))⟩:zh) rfl zsi rfl rfl) rf) ?_;cases h;exact zw (lks [12] [(12,2)] lzz)
theorem zqn (h:zhe f wire=some r):uV 99 [.rc zb [0] f,kI wire] [kB r]:=by
 refine fi 16 func99 fun Xt=>?_
 unfold zhe at h;refine jq [11] (jb h fun g pA h=>jg [] [] [(4,kB g)] ?_ ?_)
 ·refine (rsI 3 7 pA ?_ ?_)<;>intro py pA
  ·refine (rsI 4 11 pA ?_ ?_)<;>intro pz pA
   ·refine jb pA fun rv pB pA=>?_;cases pA;exact (rl 2 [1] 10 call128 (zjP pB) rgg)
   cases pA;exact rgg
  cases pA;exact rgg
 obtain rfl:=(sj h);exact zw lzz
theorem zpC (h:zge k wv=some r):uV 148 [kI k,kU wv] [kI r]:=by
 refine fi 29 func148 fun Xt=>?_
 unfold zge at h;refine jp (jb h fun rv pB h=>jr (rl 1 [1] 9 call149 (znM pB) rf) (jg [0,1,5] [] [(19,kB ((rv.2 !=0)|| (rv.1 !=0)))] ?_ ?_))
 ·refine (rsl 3 [] 16 (rv.2 !=0) ?_ ?_)<;>intro py
  · exact (rbl [] 19 true rfl (by grind))
  exact (rbl [] 19 (rv.1 !=0) rfl (by grind))
 refine jI h ?_ ?_<;>intro pz h
 ·cases h;exact jz
 refine jb h fun uX pF h=>jr (rl 2 [1] 9 call140 (zqb pF) rf) (jb h fun u9 pP h=>jr (rl 1 [1] 9 call157 (zsB pP) rf) ?_);obtain rfl:=(sj h);exact zw lzz
theorem zsq (h:zis b=some r):uV 145 [.sl Rp.byte [0] b] [kI r]:=by
 refine fi 11 func145 fun Xt=>?_
 unfold zis at h;refine jp (jb h fun rv pB h=>jr (rl 1 [0] 9 call156 (ztQ pB) rf) ?_);cases h;exact jz
theorem zjk (h:zcB sv=some r):uV 46 [.sl zf [0] sv] [kB r]:=by
 refine fi 14 func46 fun Xt=>?_
 unfold zcB at h;refine jp (jb h fun rv pB h=>jr (rl 1 [0] 9 call62 (zjh pB) rf) ?_);cases h;exact jz
theorem zjF (h:zcV m b pH=some r):uV 47 [.rc zf [0] m,.sl Rp.byte [0] b,kI pH] [.rc zdG [] r.1,kI r.2]:=by
 refine fj ⟨[(6,.ptr 2 0),(7,kI r.2)],[⟨2,85,(zoy r.1)⟩]⟩ 66 func47 ⟨⟨_,_,rfl,rfl,rfl,rfl,zBG⟩,rfl,trivial⟩ fun Xt=>?_
 unfold zcV at h;refine jr (ra 0 [.rc zf [0] m] rfl (zgR 13 (zD [0] m) [0] rfl rfl rfl rfl rfl) rfl (rfl' [14])) (jb h fun rv pB h=>jr (rl 2 [0] 13 call63 (zjC pB) (rfl' [15])) (jp (jI h ?_ ?_)))<;>intro py h
 ·refine jr (rc 0 rfl (zA (r:=zdG) [] [] (⟨(⟨0,0,0,0,0⟩:zh),0,false⟩:zaq) rfl ztH rfl rfl) rf) ?_;cases h;exact zw (lks [14] [(14,2)] lzz)
 refine jb h fun uX pF h=>jr (rl 3 [0] 14 call30 (zjj pF) rf) (jp (jI h ?_ ?_))<;>intro pz h
 ·refine jr (lb 0 zq [] rv.1 (rc 0 rfl (zA (r:=zdG) [.rc zq [] rv.1,kI (-1)] [] (⟨rv.1,(-1),false⟩:zaq) rfl ztH rfl rfl) rf)) ?_;cases h;exact zw (lks [14] [(14,2)] lzz)
 refine jb h fun x pL h=>jr (rx 3 [0] zhD.el pL rfl rfl (rc 0 rfl (lde zb [0] x znq) (rfl' [16]))) (jb h fun g pA h=>jg [6,8,10,11] [14,15,16] [(46,kB g)] ?_ ?_)
 ·refine (rsI 3 37 pA ?_ ?_)<;>intro pC pA
  ·refine jb pA fun u9 pP pA=>(rl 2 [1] 15 call36 (zdp pP) (rsI 2 42 pA ?_ ?_))<;>intro pD pA
   ·cases pA;exact (rel [] lzz)
   cases pA;exact (rel [] lzz)
  cases pA;exact (rel [] lzz)
 refine jI h ?_ ?_<;>intro pG h
 ·refine jr (lb 0 zq [] rv.1 (rc 1 rfl (zA (r:=zdG) [.rc zq [] rv.1,kI uX,kB true] [] (⟨rv.1,uX,true⟩:zaq) rfl ztH rfl rfl) rf)) ?_;cases h;exact zw (lks [14] [(14,2)] lzz)
 refine jb h fun g2 pK h=>jn (.N [6,8,10] [14,15] [(61,kB g2)] []) ?_ (zdW ?_)
 ·refine jb pK fun rv4 pX pK=>?_;rcases zjK pK with ⟨pJ,pK⟩| ⟨pJ,pK⟩
  ·cases pK;exact jd [6,8,10,61] [14,15] zeq (by exact (lwn 2 (lx (lf1 64 (lcd [kI x.Kind] 15 call64 (zdN pX))) (lw_e (dg 53 pJ l0))))) (zU lzz)
  refine jb pK fun rv5 uj pK=>?_;cases pK;exact jd [6,8,10,61] [14,15] zeq (by exact (lwn 2 (lx (lf1 64 (lcd [kI x.Kind] 15 call64 (zdN pX))) (lw_e (dg 53 pJ (lwn 2 (lx (lf1 57 (lcd [kI x.Kind] 15 call57 (zjD uj))) l0))))))) (zU lzz)
 refine jI h ?_ ?_<;>intro pN h
 ·refine jr (rc 0 rfl (zA (r:=zdG) [] [] (⟨(⟨0,0,0,0,0⟩:zh),0,false⟩:zaq) rfl ztH rfl rfl) rf) ?_;cases h;exact zw (lks [14] [(14,2)] lzz)
 refine jr (lb 0 zq [] rv.1 (rc 1 rfl (zA (r:=zdG) [.rc zq [] rv.1,kI uX] [] (⟨rv.1,uX,false⟩:zaq) rfl ztH rfl rfl) rf)) ?_;cases h;exact zw (lks [14] [(14,2)] lzz)
theorem zjg (h:zbp b=some r):uV 49 [.sl Rp.byte [0] b] [kB r]:=by
 refine fi 16 func49 fun Xt=>?_
 unfold zbp at h;refine jp (jb h fun rv pB h=>jr (rl 3 [0] 9 call65 (zjf pB) rf) ?_);cases h;exact jz
theorem zjn (h:zcE c pE f=some r):zeV prog 91 [.ag [kI c.size,.sl uU [0] c.kinds,.om zt Rp.bool 2 [0] c.names,.om zu Rp.bool 3 [0] c.numbers],kI pE,.rc zb [0] f] [kI r.1] [.ag [.any,.any,.om zt Rp.bool 2 [0] r.2.1,.om zu Rp.bool 3 [0] r.2.2],.any,.any]:=by
 refine zgy (E:=⟨[(0,.ag [.any,.any,.om zt Rp.bool 2 [0] r.2.1,.om zu Rp.bool 3 [0] r.2.2]),(6,kI r.1)],[]⟩) 63 [0] func91 rfl rfl rfl ⟨rfl,trivial⟩ ⟨.inr ⟨rfl,rfl⟩,.inl rfl,.inl rfl,trivial⟩ rfl (fun Xt old=>?_);refine zcC ?_;unfold zcE at h;refine jq [11,12] (jd [0,3,5,7,8] [11,12,13,14] zeq (by exact (lwn 3 (lx (zA (r:=zt) [kI pE,kS f.Name] [] (⟨pE,f.Name⟩:zk) rfl zyI rfl rfl) (lwn 3 (lx (zA (r:=zu) [kI pE,kI f.Number] [] (⟨pE,f.Number⟩:zm) rfl zBv rfl rfl) (lx (zlY 13 [kI 0,kS []] rfl zeroValue216 rfl) (lx (zlY 14 [kI 0,kI 0] rfl zeroValue218 rfl) (ly [.ptr 13 0,.rc zt [] (⟨pE,f.Name⟩:zk)] (zlk (r:=zt) (b:=⟨13,216,[kI 0,kS []]⟩) (off:=0) [kI pE,kS f.Name] rfl sizeOf216 rfl rfl rfl rfl) rfl (ly [.ptr 14 0,.rc zu [] (⟨pE,f.Number⟩:zm)] (zlk (r:=zu) (b:=⟨14,218,[kI 0,kI 0]⟩) (off:=0) [kI pE,kI f.Number] rfl sizeOf218 rfl rfl rfl rfl) rfl l0))))))))) (zr (jb h fun rv pB h=>jr (rl 2 [1] 13 call116 (zio pB) rf) (jI h ?_ ?_))))<;>intro py h
 ·refine jp ?_;cases h;exact zdS lw
 refine jr (lb 2 zt [] (⟨pE,f.Name⟩:zk) (ra 0 [.om zt Rp.bool 2 [0] c.names,.rc zt [] (⟨pE,f.Name⟩:zk)] rfl (zlZ (rk:=zt) (rv:=Rp.bool) (m:=c.names) (k:=(⟨pE,f.Name⟩:zk)) (kB ((mget c.names (⟨pE,f.Name⟩:zk)).getD false)) rfl zoc (zbx rfl) (znW rfl rfl rfl)) rfl rf)) (jI h ?_ ?_)<;>intro pz h
 ·refine jp ?_;cases h;exact zdS lw
 refine jb h fun uX pF h=>jr (rl 2 [1] 13 call117 (zlx pF) rf) (jI h ?_ ?_)<;>intro pC h
 ·refine jp ?_;cases h;exact zdS lw
 refine jr (lb 2 zu [] (⟨pE,f.Number⟩:zm) (ra 0 [.om zu Rp.bool 3 [0] c.numbers,.rc zu [] (⟨pE,f.Number⟩:zm)] rfl (zlZ (rk:=zu) (rv:=Rp.bool) (m:=c.numbers) (k:=(⟨pE,f.Number⟩:zm)) (kB ((mget c.numbers (⟨pE,f.Number⟩:zm)).getD false)) rfl zvN (zbx rfl) (znW rfl rfl rfl)) rfl rf)) (jI h ?_ ?_)<;>intro pD h
 ·refine jp ?_;cases h;exact zdS lw
 refine jb h fun u9 pP h=>jr (rl 4 [0] 13 call118 (zgh pP) rf) (jI h ?_ ?_)<;>intro pG h
 ·refine jp ?_;cases h;exact zdS lw
 refine jb h fun g pA h=>jg [0,3,5,7,8] [11,12,13,14] [(44,kB g)] ?_ ?_
 ·refine (rsI 3 47 pA ?_ ?_)<;>intro pJ pA
  ·refine jb pA fun rv4 pX pA=>?_;cases pA;exact (lb 0 zb [] f (rl 0 [1] 13 call119 (zmw pX) (rel [] lzz)))
  cases pA;exact (rel [] lzz)
 refine jI h ?_ ?_<;>intro pN h
 ·refine jp ?_;cases h;exact zdS lw
 refine jb h fun rv5 uj h=>jr (lb 1 zb [] f (rl 0 [0,2,3] 13 call120 (zjo uj) rf)) (jI h ?_ ?_)<;>intro pQ h
 ·refine jp ?_;cases h;exact zdS lw
 refine zP (jr (lb 2 zt [] (⟨pE,f.Name⟩:zk) (rms (C1:=[]) 0 [] 2 [0] c.names (⟨pE,f.Name⟩:zk) true [0] zoc (zbx rfl) (zcp rfl rfl) rf)) (jr (lb 2 zu [] (⟨pE,f.Number⟩:zm) (rms (C1:=[]) 0 [] 3 [0] c.numbers (⟨pE,f.Number⟩:zm) true [0] zvN (zbx rfl) (zcp rfl rfl) rf)) (jp ?_)));cases h;exact zdS lw
theorem zpM (h:zeP m hv=some r):uV 84 [.rc zf [0] m,.rc zF [0] hv] [.rc zG [] r]:=by
 refine fj ⟨[(4,.ptr 2 0)],[⟨2,164,(zoz r)⟩]⟩ 38 func84 ⟨⟨_,_,rfl,rfl,rfl,rfl,zAH⟩,trivial⟩ fun Xt=>?_
 unfold zeP at h;refine jr (ra 0 [.rc zf [0] m] rfl (zgR 14 (zD [0] m) [0] rfl rfl rfl rfl rfl) rfl (rfl' [15,16])) (jb h fun rv pB h=>jr (rl 3 [0] 15 call98 (zqm pB) rf) (jp (jI h ?_ ?_)))<;>intro py h
 ·refine jr (rc 0 rfl (zA (r:=zG) [kI (-1)] [] (⟨(-1),false,0⟩:zz) rfl zuV rfl rfl) rf) ?_;cases h;exact zw (lks [16] [(16,2)] lzz)
 refine jb h fun x pL h=>jr (rx 3 [0] zhD.el pL rfl rfl (rc 0 rfl (lde zb [0] x znq) (rfl' [17]))) (jb h fun uX pF h=>jr (lb 0 zb [] x (rl 2 [1] 16 call99 (zqn pF) rf)) (jb h fun g pA h=>jg [4,5,7] [16] [(33,kB g)] ?_ ?_))
 ·refine (rsI 3 26 pA ?_ ?_)<;>intro pz pA
  ·refine jb pA fun u9 pP pA=>?_;cases pA;exact (rl 4 [1] 16 call100 (zsv pP) (rel [] lzz))
  cases pA;exact (rel [] lzz)
 refine jI h ?_ ?_<;>intro pC h
 ·refine jr (rc 0 rfl (zA (r:=zG) [k8 6] [] (⟨0,false,6⟩:zz) rfl zuV rfl rfl) rf) ?_;cases h;exact zw (lks [16] [(16,2)] lzz)
 refine jr (rc 2 rfl (zA (r:=zG) [kI rv,kB uX] [] (⟨rv,uX,0⟩:zz) rfl zuV rfl rfl) rf) ?_;cases h;exact zw (lks [16] [(16,2)] lzz)
theorem zsf (h:zim k=some r):uV 137 [kI k] [kI r]:=by
 refine fi 5 func137 fun Xt=>?_
 unfold zim at h;refine jp (jb h fun rv pB h=>jr (rl 1 [1] 9 call148 (zpC pB) rf) ?_);obtain rfl:=(sj h);exact zw lzz
theorem zsr (h:zit b=some r):uV 122 [.sl Rp.byte [0] b] [kB r]:=by
 refine fi 8 func122 fun Xt=>?_
 unfold zit at h;refine jp (jb h fun rv pB h=>jr (rl 1 [0] 9 call145 (zsq pB) rf) ?_);cases h;exact zw lzz
theorem zjG (h:zcW sv pM d=some r):uV 26 [.sl zf [0] sv,kI pM,kI d] [kI r]:=by
 refine fi 26 func26 fun Xt=>?_
 unfold zcW at h;refine jp (jb h fun rv pB h=>jr (rl 1 [0] 9 call46 (zjk pB) rf) (jI h ?_ ?_))<;>intro py h
 ·cases h;exact jz
 refine jg [] [] [(25,kB ((decide (pM<0))|| ((decide (pM>=(sv.length:Int)))|| ((decide (d<0))|| (decide (d>64))))))] ?_ ?_
 ·refine (rsl 3 [] 12 (decide (pM<0)) ?_ ?_)<;>intro pz
  · exact (rbl [] 25 true rfl (by grind))
  refine (rsl 6 [] 18 (decide (pM>=(sv.length:Int))) ?_ ?_)<;>intro pC
  · exact (rbl [] 25 true rfl (by grind))
  refine (rsl 4 [] 22 (decide (d<0)) ?_ ?_)<;>intro pD
  · exact (rbl [] 25 true rfl (by grind))
  exact (rbl [] 25 (decide (d>64)) rfl (by grind))
 refine jI h ?_ ?_<;>intro pG h
 ·cases h;exact jz
 cases h;exact jz
theorem ziC (uN:∀{sv:(List zc)} {m:Int} {b:(List UInt8)} {d:Int} {r:(Int×Int)},xb sv m b d=some r->uV 27 [.sl zf [0] sv,kI m,.sl Rp.byte [0] b,kI d] [kI r.1,kI r.2]) (h:zaU xb sv m b d=some r):uV 27 [.sl zf [0] sv,kI m,.sl Rp.byte [0] b,kI d] [kI r.1,kI r.2]:=by
 refine fi 106 func27 fun Xt=>?_
 unfold zaU at h;refine jp (jp (zr (jb h fun q pI h=>jL pI [0,1,2,3] [] (fun s=>[(10,kI s)]) (fun| (.inl v_)=> .x 0 ⟨[],[]⟩| (.inr v_)=> .r ⟨[(8,kI v_.1),(9,kI v_.2)],[]⟩) ?_ lzz ?_)))
 ·clear h;intro u0 o h;unfold zay at h;refine jp (jI h ?_ ?_)<;>intro py h
  ·refine zr (jb h fun x pL h=>jb h fun rv pB h=>jr (rx 2 [0] zeQ.el pL rfl rfl (rc 0 rfl (lde zf [0] x zsx) (rl 2 [0] 10 call47 (zjF pB) (rfl' [12])))) (jp (jI h ?_ ?_)))<;>intro pz h
   ·cases h;exact jz'
   refine jb h fun v3 pV h=>jr (ra 7 [.sl Rp.byte [0] b,kI rv.1.R.At,kI rv.1.R.To] rfl (zeZ (some (kI rv.1.R.At)) (some (kI rv.1.R.To)) rfl zcd.el (zci _ _ _) ⟨rfl,rfl⟩ ⟨rfl,rfl⟩ pV) rfl rf) (jp (jI h ?_ ?_))<;>intro pC h
   ·refine jb h fun x2 pO h=>jb h fun x3 p4 h=>jd [0,1,2,3,10,11,13,14] [12,13] zeq (by exact (lwn 2 (di [0] zeQ.el pO (lw_e (lx (ldl zf [0] x2 1 zb x2.Fields) (lwn 2 (di [0] zhD.el p4 (lx (lde zb [0] x3 znq) (lx (zlY 13 [kS [],kI 0,kI 0,kB false,kB false,kI 0] rfl zeroValue62 rfl) (ly [.ptr 13 0,.rc zb [0] x3] (zlk (r:=zb) (b:=⟨13,62,[kS [],kI 0,kI 0,kB false,kB false,kI 0]⟩) (off:=0) (zaP x3) rfl sizeOf62 rfl rfl rfl rfl) rfl l0)))))))))) (jp (jI h ?_ ?_))<;>intro pD h
    ·refine jb h fun uX pF h=>jr (rl 3 [0] 12 call48 (zjE pF) rf) (jp (jI h ?_ ?_))<;>intro pG h
     ·cases h;exact jz'
     refine jp (zP ?_);cases h;exact zU lzz
    refine jb h fun g pA h=>jg [0,1,2,3,10,11,13,14] [12,13] [(77,kB g)] ?_ ?_
    ·refine (rsI 4 73 pA ?_ ?_)<;>intro pJ pA
     ·refine jb pA fun u9 pP pA=>?_;cases pA;exact (rl 1 [0] 13 call49 (zjg pP) (rel [] lzz))
     cases pA;exact (rel [] lzz)
    refine jI h ?_ ?_<;>intro pN h
    ·cases h;exact jz'
    refine jp (jI h ?_ ?_)<;>intro pQ h
    ·refine jp (jI h ?_ ?_)<;>intro pS h
     ·cases h;exact jz'
     refine jb h fun rv4 pX h=>jr (rl 6 [0] 13 call27 (uN pX) rf) (jp (jI h ?_ ?_))<;>intro pT h
     ·cases h;exact jz'
     refine jp (zP ?_);cases h;exact zU lzz
    refine jp (zP ?_);cases h;exact zU lzz
   refine jp (zP ?_);cases h;exact zU lzz
  cases h;exact zap rfl lzz
 rcases q with u| u2
 ·refine zaV _ rfl ?_;cases h;exact jz
 cases h;exact zdO lzz
theorem zjl (h:zas pR sv m b d=some r):uV 27 [.sl zf [0] sv,kI m,.sl Rp.byte [0] b,kI d] [kI r.1,kI r.2]:=by
  induction pR generalizing sv m b d r with
  | zero=>exact absurd h nofun
  | succ pR ih=>exact ziC (fun hh=>ih hh) h
theorem znN (h:zfd sv=some r):uV 76 [.sl zf [0] sv] [.rc zbW [] r.1,k8 r.2]:=by
 refine fj ⟨[(2,.ptr 2 0),(3,k8 r.2)],[⟨2,150,(zjc r.1)⟩]⟩ 62 func76 ⟨⟨_,_,rfl,rfl,rfl,rfl,zAG⟩,rfl,trivial⟩ fun Xt=>?_
 unfold zfd at h;refine jq [12] (jg [0,2] [12] [(18,kB ((decide ((sv.length:Int)<1))|| (decide ((sv.length:Int)>100))))] ?_ ?_)
 ·refine (rsl 4 [] 14 (decide ((sv.length:Int)<1)) ?_ ?_)<;>intro py
  · exact (rbl [] 18 true rfl (by grind))
  exact (rbl [] 18 (decide ((sv.length:Int)>100)) rfl (by grind))
 refine jI h ?_ ?_<;>intro pz h
 ·refine jr (rc 0 rfl (zA (r:=zbW) [kI (-1),kI (-1),kI 1] [] (⟨(-1),(-1),1⟩:zS) rfl zsj rfl rfl) rf) ?_;cases h;exact zw (lks [12] [(12,2)] lzz)
 refine jb h fun rv pB h=>jr (rl 2 [1] 11 call89 (ztg pB) (rc 0 rfl (zgS (rk:=zt) (rv:=Rp.bool) 14 rfl) (rc 0 rfl (zgS (rk:=zu) (rv:=Rp.bool) 15 rfl) (rc 0 rfl (lbd [kI (sv.length:Int),.own uU 3 13 [] rv,.om zt Rp.bool 14 [] ([]:(List (zk×Bool))),.om zu Rp.bool 15 [] ([]:(List (zm×Bool)))] zBs) (rfl' [16]))))) (jp (zr (jb h fun q2 pZ h=>jl pZ [2,4,26,27] [12] (fun s=>[(28,kI s.1)]) (fun s=>[⟨16,177,[kI (sv.length:Int),.own uU 3 13 [] rv,.om zt Rp.bool 14 [13,0] s.2.1,.om zu Rp.bool 15 [13,0] s.2.2]⟩]) (fun| (.inl v_)=> .X 0 [2] [12] [] []| (.inr v_)=> .r ⟨[(2,.ptr 12 0),(3,k8 9)],[⟨12,150,[kI v_.1,kI v_.2.1,kI v_.2.2]⟩]⟩) ?_ lw ?_)))
 ·clear h;intro s o h;obtain ⟨v2,f,f2⟩:=s;replace h:zaA rv sv v2 f f2=some o:=h;unfold zaA at h;refine jp (jI h ?_ ?_)<;>intro pC h
  ·refine zr (jb h fun x pL h=>jr (rx 1 [0] zeQ.el pL rfl rfl (rc 0 rfl (lde zf [0] x zsx) (ral 2 [18] [.ptr 18 0,.rc zf [0] x] rfl (zlk (r:=zf) (b:=⟨18,65,[kS [],kN]⟩) (off:=0) (zD [0] x) rfl sizeOf65 rfl rfl rfl rfl) rfl rf))) (jb h fun u9 pP h=>jr (rkl 2 [] ⟨[(2,.ptr 12 0),(4,.ptr 16 0),(5,kI v2),(6,.ptr 18 0),(26,.sl zf [0] sv),(27,kI (sv.length:Int)),(28,kI v2),(33,.ag [kI (sv.length:Int),.own uU 3 13 [] rv,.om zt Rp.bool 14 [13,0] f,.om zu Rp.bool 15 [13,0] f2]),(34,.ag (zD [0] x))],[⟨12,150,[kI 0,kI 0,kI 0]⟩,⟨16,177,[kI (sv.length:Int),.own uU 3 13 [] rv,.om zt Rp.bool 14 [13,0] f,.om zu Rp.bool 15 [13,0] f2]⟩,⟨18,65,(zD [0] x)⟩]⟩ (zhy ⟨[(2,.ptr 12 0),(4,.ptr 16 0),(5,kI v2),(6,.ptr 18 0),(26,.sl zf [0] sv),(27,kI (sv.length:Int)),(28,kI v2),(33,.ag [kI (sv.length:Int),.own uU 3 13 [] rv,.om zt Rp.bool 14 [13,0] u9.2.1,.om zu Rp.bool 15 [13,0] u9.2.2]),(34,.ag (zD [0] x))],[⟨12,150,[kI 0,kI 0,kI 0]⟩,⟨16,177,[kI (sv.length:Int),.own uU 3 13 [] rv,.om zt Rp.bool 14 [13,0] u9.2.1,.om zu Rp.bool 15 [13,0] u9.2.2]⟩,⟨18,65,(zD [0] x)⟩]⟩ (zju.le (ins':=[(.tmp 33,.ag [kI (sv.length:Int),.own uU 3 13 [] rv,.om zt Rp.bool 14 [13,0] f,.om zu Rp.bool 15 [13,0] f2]),(.tmp 34,.ag (zD [0] x))]) (zhA (args:=[.tmp 33,.tmp 34]) [.ag [kI (sv.length:Int),.own uU 3 13 [] rv,.om zt Rp.bool 14 [13,0] f,.om zu Rp.bool 15 [13,0] f2],.rc zf [0] x] [(14,2),(15,3)] [13,0] 19 [] rfl call90 (zin pP) rfl rfl (by kernel_rfl) rfl rfl rfl) ⟨⟨rfl,uW _⟩,⟨rfl,zky zf [0] x (zD [0] x) rfl rfl⟩,trivial⟩) rfl (by kernel_rfl) (by kernel_rfl) ⟨⟨_,rfl,zo rfl⟩,⟨_,rfl,zo rfl⟩,⟨_,rfl,zo rfl⟩,⟨_,rfl,zo rfl⟩,⟨_,rfl,zo rfl⟩,⟨_,rfl,zo rfl⟩,⟨_,rfl,zo rfl⟩,⟨_,rfl,zla ⟨zo rfl,zo rfl,zeA 0 rfl,zeA 1 rfl,trivial⟩⟩,⟨_,rfl,zo rfl⟩,trivial⟩ ⟨⟨_,rfl,rfl,rfl,⟨zo rfl,zo rfl,zo rfl,trivial⟩⟩,⟨_,rfl,rfl,rfl,⟨zo rfl,zo rfl,zeA 0 rfl,zeA 1 rfl,trivial⟩⟩,⟨_,rfl,rfl,rfl,⟨zo rfl,zo rfl,trivial⟩⟩,trivial⟩ rf)) (jp (jI h ?_ ?_))))<;>intro pD h
   ·refine jr (rc 2 rfl (zA (r:=zbW) [kI v2,kI (-1),kI u9.1] [] (⟨v2,(-1),u9.1⟩:zS) rfl zsj rfl rfl) rf) ?_;cases h;exact zkv lzz
   refine jp (zr (jb h fun q pI h=>jl pI [2,4,5,26,27,28,42,43] [12] (fun s=>[(44,kI s.1)]) (fun s=>[⟨16,177,[kI (sv.length:Int),.own uU 3 13 [] rv,.om zt Rp.bool 14 [13,0] s.2.1,.om zu Rp.bool 15 [13,0] s.2.2]⟩]) (fun| (.inl v_)=> .X 2 [2,4,26,27,28] [12] [] [⟨16,177,[kI (sv.length:Int),.own uU 3 13 [] rv,.om zt Rp.bool 14 [13,0] v_.1,.om zu Rp.bool 15 [13,0] v_.2]⟩]| (.inr v_)=> .r ⟨[(2,.ptr 12 0),(3,k8 9)],[⟨12,150,[kI v2,kI v_.1,kI v_.2]⟩]⟩) ?_ lzz ?_))
   ·clear h;intro s o h;obtain ⟨v3,f6,f7⟩:=s;replace h:zbo rv sv v2 x v3 f6 f7=some o:=h;unfold zbo at h;refine jp (jI h ?_ ?_)<;>intro pG h
    ·refine zr (jb h fun x2 pO h=>jr (rx 1 [0] zhD.el pO rfl rfl (rc 0 rfl (lde zb [0] x2 znq) (rfl' [24]))) (jb h fun rv5 uj h=>jr (lb 2 zb [] x2 (rkl 0 [] ⟨[(2,.ptr 12 0),(4,.ptr 16 0),(5,kI v2),(8,kI v3),(26,.sl zf [0] sv),(27,kI (sv.length:Int)),(28,kI v2),(42,.sl zb [0] x.Fields),(43,kI (x.Fields.length:Int)),(44,kI v3),(49,.ag [kI (sv.length:Int),.own uU 3 13 [] rv,.om zt Rp.bool 14 [13,0] f6,.om zu Rp.bool 15 [13,0] f7]),(50,kI v2),(51,.rc zb [] x2)],[⟨12,150,[kI 0,kI 0,kI 0]⟩,⟨16,177,[kI (sv.length:Int),.own uU 3 13 [] rv,.om zt Rp.bool 14 [13,0] f6,.om zu Rp.bool 15 [13,0] f7]⟩]⟩ (zhy ⟨[(2,.ptr 12 0),(4,.ptr 16 0),(5,kI v2),(8,kI v3),(26,.sl zf [0] sv),(27,kI (sv.length:Int)),(28,kI v2),(42,.sl zb [0] x.Fields),(43,kI (x.Fields.length:Int)),(44,kI v3),(49,.ag [kI (sv.length:Int),.own uU 3 13 [] rv,.om zt Rp.bool 14 [13,0] rv5.2.1,.om zu Rp.bool 15 [13,0] rv5.2.2]),(50,kI v2),(51,.rc zb [] x2)],[⟨12,150,[kI 0,kI 0,kI 0]⟩,⟨16,177,[kI (sv.length:Int),.own uU 3 13 [] rv,.om zt Rp.bool 14 [13,0] rv5.2.1,.om zu Rp.bool 15 [13,0] rv5.2.2]⟩]⟩ (zhA [.ag [kI (sv.length:Int),.own uU 3 13 [] rv,.om zt Rp.bool 14 [13,0] f6,.om zu Rp.bool 15 [13,0] f7],kI v2,.rc zb [] x2] [(14,2),(15,3)] [13,0] 25 [] rfl call91 (zjn uj) rfl rfl (by kernel_rfl) rfl rfl rfl) rfl (by kernel_rfl) (by kernel_rfl) ⟨⟨_,rfl,zo rfl⟩,⟨_,rfl,zo rfl⟩,⟨_,rfl,zo rfl⟩,⟨_,rfl,zo rfl⟩,⟨_,rfl,zo rfl⟩,⟨_,rfl,zo rfl⟩,⟨_,rfl,zo rfl⟩,⟨_,rfl,zo rfl⟩,⟨_,rfl,zo rfl⟩,⟨_,rfl,zo rfl⟩,⟨_,rfl,zla ⟨zo rfl,zo rfl,zeA 0 rfl,zeA 1 rfl,trivial⟩⟩,⟨_,rfl,zo rfl⟩,⟨_,rfl,zo rfl⟩,trivial⟩ ⟨⟨_,rfl,rfl,rfl,⟨zo rfl,zo rfl,zo rfl,trivial⟩⟩,⟨_,rfl,rfl,rfl,⟨zo rfl,zo rfl,zeA 0 rfl,zeA 1 rfl,trivial⟩⟩,trivial⟩ rf))) (jp (jI h ?_ ?_))))<;>intro pJ h
     ·refine jr (rc 3 rfl (zA (r:=zbW) [kI v2,kI v3,kI rv5.1] [] (⟨v2,v3,rv5.1⟩:zS) rfl zsj rfl rfl) rf) ?_;cases h;exact zkv lzz
     refine zP ?_;cases h;exact jy
    cases h;exact zap rfl lzz
   rcases q with u| u2
   ·refine zaV _ rfl (zP ?_);cases h;exact jy
   cases h;exact zrL lzz
  cases h;exact zap rfl lzz
 rcases q2 with u3| u4
 ·refine zaV _ rfl (jr (rc 0 rfl (zA (r:=zbW) [] [] (⟨0,0,0⟩:zS) rfl zsj rfl rfl) rf) ?_);cases h;exact zw (lks [12] [(12,2)] lzz)
 cases h;exact zdO (lks [12] [(12,2)] lzz)
theorem zmD (h:zgF m b pH met=some r):zeV prog 67 [.rc zf [0] m,.sl Rp.byte [0] b,kI pH,.om zF zG 2 [0] met] [.rc ze [] r.1,k8 r.2.1] [.any,.any,.any,.om zF zG 2 [0] r.2.2]:=by
 refine zgy (E:=⟨[(3,.om zF zG 2 [0] r.2.2),(8,.ptr 3 0),(9,k8 r.2.1)],[⟨3,106,(zcm r.1)⟩]⟩) 56 [3] func67 rfl rfl rfl ⟨⟨_,_,rfl,rfl,rfl,rfl,zmJ⟩,rfl,trivial⟩ ⟨.inl rfl,.inl rfl,.inl rfl,.inr ⟨rfl,rfl⟩,trivial⟩ rfl (fun Xt old=>?_);refine zcC ?_;unfold zgF at h;refine jr (ra 0 [.rc zf [0] m] rfl (zgR 13 (zD [0] m) [0] rfl rfl rfl rfl rfl) rfl (rfl' [14])) (jb h fun rv pB h=>jr (rl 2 [0] 13 call83 (zke pB) (rfl' [15])) (jp (jI h ?_ ?_)))<;>intro py h
 ·refine jr (rc 0 rfl (zA (r:=ze) [] [] (⟨(⟨0,0,0,0,0⟩:zh),0,false⟩:za) rfl zpG rfl rfl) rf) ?_;cases h;exact zdS (lks [14] [(14,3)] lzz)
 refine jr (rc 4 rfl (zA (r:=zF) [kI rv.1.Number,kI rv.1.Wire] [] (⟨rv.1.Number,rv.1.Wire⟩:zx) rfl zBt rfl rfl) (rfl' [16])) (jr (lb 1 zF [] (⟨rv.1.Number,rv.1.Wire⟩:zx) (ra 0 [.om zF zG 2 [0] met,.rc zF [] (⟨rv.1.Number,rv.1.Wire⟩:zx)] rfl (zmU (rk:=zF) (rv:=zG) (m:=met) (k:=(⟨rv.1.Number,rv.1.Wire⟩:zx)) (.rc zG [0] ((mget met (⟨rv.1.Number,rv.1.Wire⟩:zx)).getD (⟨0,false,0⟩:zz))) rfl zvM (zbx rfl) (zrI rfl)) rfl (rfl' [17]))) (jp (jb h fun p pY h=>jn (.N [8,10,13] [14,15] [(3,.om zF zG 2 [0] p.1)] [⟨17,164,[kI p.2.1,kB p.2.2.1,k8 p.2.2.2]⟩]) ?_ ?_)))
 ·replace h:=pY;refine jI h ?_ ?_<;>intro pz h
  ·refine jb h fun uX pF h=>jr (lb 1 zF [] (⟨rv.1.Number,rv.1.Wire⟩:zx) (rl 0 [0] 16 call84 (zpM pF) rf)) (jr (lb 1 zF [] (⟨rv.1.Number,rv.1.Wire⟩:zx) (lb 0 zG [] uX (rms (C1:=[]) (D:=[]) 0 [] 2 [0] met (⟨rv.1.Number,rv.1.Wire⟩:zx) uX [0] zvM (zbx rfl) (zbx rfl) rf))) ?_);cases h;exact zU lzz
  cases h;exact zU lzz
 refine zdW (jp (jI h ?_ ?_))<;>intro pC h
 ·refine jd [3,8,9] [14] zeq (by exact (lx (zA (r:=ze) [] [] (⟨(⟨0,0,0,0,0⟩:zh),0,false⟩:za) rfl zpG rfl rfl) (lwn 2 (ly [.ptr 14 0,.rc ze [] (⟨(⟨0,0,0,0,0⟩:zh),0,false⟩:za)] (zlk (r:=ze) (b:=⟨14,106,[kI 0,kI 0,kI 0,kI 0,kI 0,kI 0,kB false]⟩) (off:=0) [kI 0,kI 0,kI 0,kI 0,kI 0,kI 0,kB false] rfl sizeOf106 rfl rfl rfl rfl) rfl l0)))) ?_;cases h;exact zdS (lks [14] [(14,3)] lzz)
 refine jr (lb 0 zq [] rv.1 (rc 4 rfl (zA (r:=ze) [.rc zq [] rv.1,kI p.2.1,kB p.2.2.1] [] (⟨rv.1,p.2.1,p.2.2.1⟩:za) rfl zpG rfl rfl) rf)) ?_;cases h;exact zdS (lks [14] [(14,3)] lzz)
theorem znL (v:Int) (v2:(List UInt8)):ItOk prog 136 [.bp uU 3 913600 [] v,.bp (Rp.list Rp.byte) 24 913601 [0] v2] (fun x:((List UInt8)×Int)=>[.sl Rp.byte [0] x.1,k8 x.2]) (fun {σ:Type} (kf:Rnd σ ((List UInt8)×Int)) (sg:σ)=>zdu v v2 kf sg):=by
 refine zxH 38 [(1,.ptr 913600 0),(2,.ptr 913601 0)] [⟨913600,3,[kI v]⟩,⟨913601,24,[.sl Rp.byte [0] v2]⟩] func136 rfl rfl rfl rfl (.cons uU 3 913600 [] v [kI v] rfl rfl (.cons (Rp.list Rp.byte) 24 913601 [0] v2 [.sl Rp.byte [0] v2] rfl rfl (.nil _))) ?_;intro σ kf sg s1 h l I hI F_ hT;replace h:zdu v v2 kf sg=some s1:=h;refine zcC (zqJ (E':=⟨[(0,.lf (.val (.func (.yield l) #[] #[]))),(1,.ptr 913600 0),(2,.ptr 913601 0)],[⟨913600,3,[kI v]⟩,⟨913601,24,[.sl Rp.byte [0] v2]⟩]⟩) (fun _ _ _ hs=>hs) ?_);unfold zdu at h;refine jb h fun rv pB h=>jr (rl 1 [1] 9 call137 (zsf pB) rf) (jp (jI h ?_ ?_))<;>intro py h
 ·refine jb h fun y uv h=>ztc (E':=⟨[],[]⟩) (x:=(([]:(List UInt8)),2)) (b:=y.1) (s':=y.2) 1 (some 13) [.const (.slice none 0 0),.const (.int .u8 2)] [kN,k8 2] [.sl Rp.byte [0] ([]:(List UInt8)),k8 2] ⟨[(12,.lf (.val (.func (.yield l) #[] #[])))],[]⟩ hT rfl rfl rfl rfl rfl rgg rfl ⟨rfl,⟨rfl,trivial⟩⟩ rfl ⟨zmT _ _,uW _,trivial⟩ rfl rfl uv rgg ?_;cases h;exact zAQ lzz
 refine jp (zr (jb h fun q pI h=>zxI (fun s:((List UInt8)×σ)=>zaY kf rv s.1 s.2) (fun s=>⟨⟨38,[]⟩,itX I hI F_ s.2,false,#[]⟩) (fun s=>⟨[(0,.lf (.val (.func (.yield l) #[] #[]))),(4,kI rv),(5,.sl Rp.byte [0] s.1)],[]⟩) (fun o e a w=>match o with| (.inl v_)=>e= .exit 0/\Sx ⟨⟨38,[]⟩,itX I hI F_ v_,false,#[]⟩ ⟨[],[]⟩ a w| (.inr v_)=>e= .ret/\Sx ⟨⟨38,[]⟩,itX I hI F_ v_,false,#[]⟩ ⟨[],[]⟩ a w) ?_ pI rfl lzz ?_))
 ·clear h;intro s o h;obtain ⟨uY,sg2⟩:=s;refine zcC ?_;replace h:zaY kf rv uY sg2=some o:=h;unfold zaY at h;refine jp (jI h ?_ ?_)<;>intro pz h
  ·refine zr (jb h fun uX pF h=>jr (rl 2 [0] 10 call138 (zse pF) rf) (jb h fun v3 pV h=>jb h fun y2 uw h=>ztc (E':=⟨[(0,.lf (.val (.func (.yield l) #[] #[]))),(4,kI rv),(5,.sl Rp.byte [0] uY),(6,kI uX.1),(34,kB ((!y2.1)|| (uX.2 !=0)))],[]⟩) (x:=(v3,uX.2)) (b:=y2.1) (s':=y2.2) 5 (some 29) [.tmp 27,.tmp 28] [.sl Rp.byte [0] v3,k8 uX.2] [.sl Rp.byte [0] v3,k8 uX.2] ⟨[(0,.lf (.val (.func (.yield l) #[] #[]))),(4,kI rv),(5,.sl Rp.byte [0] uY),(6,kI uX.1),(7,k8 uX.2),(24,.lf (.val (.func (.yield l) #[] #[]))),(27,.sl Rp.byte [0] v3),(28,k8 uX.2)],[]⟩ hT rfl rfl rfl rfl rfl (ra 3 [.sl Rp.byte [0] uY,kI uX.1] rfl (zeZ none (some (kI uX.1)) rfl zcd.el (zci _ _ _) ⟨rfl,rfl⟩ ⟨rfl,rfl⟩ pV) rfl rgg) rfl ⟨rfl,⟨rfl,trivial⟩⟩ rfl ⟨uW _,uW _,trivial⟩ rfl rfl uw ?_ ?_))
   ·refine (rsl 2 [] 31 (!y2.1) ?_ ?_)<;>intro pC
    · exact (rbl [] 34 true rfl (by grind))
    exact (rbl [] 34 (uX.2 !=0) rfl (by grind))
   refine jI h ?_ ?_<;>intro pD h
   ·cases h;exact zkv lzz
   refine jb h fun v5 uO h=>jr (ra 2 [.sl Rp.byte [0] uY,kI uX.1] rfl (zeZ (some (kI uX.1)) none rfl zcd.el (zci _ _ _) ⟨rfl,rfl⟩ ⟨rfl,rfl⟩ uO) rfl rf) (zP ?_);cases h;exact zU lzz
  cases h;exact zap rfl lzz
 rcases q with u| u2
 ·refine zaV _ rfl ?_;cases h;exact zAP lzz
 cases h;exact zAS lzz
theorem zfo (h:zbR pR sv pM b d=some r):uV 9 [.sl zf [0] sv,kI pM,.sl Rp.byte [0] b,kI d] [kI r.1,kI r.2]:=by
 refine fi 25 func9 fun Xt=>?_
 unfold zbR at h;refine jp (jb h fun rv pB h=>jr (rl 3 [0] 9 call26 (zjG pB) rf) (jp (jI h ?_ ?_)))<;>intro py h
 ·cases h;exact jz
 refine jb h fun uX pF h=>jr (rl 4 [0] 9 call27 (zjl pF) rf) ?_;cases h;exact zw lzz
end Go.Proofs.YtnckiilakdkklaaGreat

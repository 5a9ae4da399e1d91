/-
  The Go functions do what the plain functions say. No condition.
-/
import Derived.Test.YtnckiilakdkklaaGreatx2G3
set_option autoImplicit true
set_option relaxedAutoImplicit true
namespace Go.Proofs.YtnckiilakdkklaaGreat
open Go.IntKind (i64)
open Tryz
open Go Go.RowKit
set_option linter.unusedVariables false
set_option maxRecDepth 100000
set_option maxHeartbeats 3200000
theorem zmI (h:zel f=some r):va 119 [.rc za [0] f] [kB r]:=by
 refine fi 10 func119 fun Xt=>?_
 unfold zel at h;refine jq [11] (jb h fun g pC h=>jg [] [] [(2,kB g)] ?_ ?_)
 ·refine (rsI 3 5 pC ?_ ?_)<;>intro pA pC
  ·refine jb pC fun rv pE pC=>?_;cases pC;exact (rl 2 [1] 10 call128 (zke pE) rgg)
  cases pC;exact rgg
 obtain rfl:=(sj h);exact zy lzz
theorem zkq (h:zeX b pK=some r):va 83 [.sl Rp.byte [0] b,kI pK] [.rc zq [] r.1,k8 r.2]:=by
 refine fj ⟨[(4,.ptr 2 0),(5,k8 r.2)],[⟨2,104,(zev r.1)⟩]⟩ 62 func83 ⟨⟨_,_,rfl,rfl,rfl,rfl,zAT⟩,rfl,trivial⟩ fun Xt=>?_
 unfold zeX at h;refine jq [12] (jg [0,1,4] [12] [(19,kB ((decide (pK<0))|| (decide (pK>=(b.length:Int)))))] ?_ ?_)
 ·refine (rsl 3 [] 14 (decide (pK<0)) ?_ ?_)<;>intro pA
  · exact (rbl [] 19 true rfl (by grind))
  exact (rbl [] 19 (decide (pK>=(b.length:Int))) rfl (by grind))
 refine jI h ?_ ?_<;>intro pB h
 ·refine jr (rc 0 rfl (zD (r:=zq) [] [] (⟨0,0,0,0,0⟩:zg) rfl zsz rfl rfl) rf) ?_;cases h;exact zy (lks [12] [(12,2)] lzz)
 refine jb h fun v2 ut h=>jb h fun rv pE h=>jr (ra 2 [.sl Rp.byte [0] b,kI pK] rfl (zgX (some (kI pK)) none rfl zcq.el (zdb _ _ _) ⟨rfl,rfl⟩ ⟨rfl,rfl⟩ ut) rfl (rl 0 [0] 11 call96 (ztZ pE) (rfl' [13]))) (jp (jI h ?_ ?_))<;>intro pD h
 ·refine jr (rc 0 rfl (zD (r:=zq) [] [] (⟨0,0,0,0,0⟩:zg) rfl zsz rfl rfl) rf) ?_;cases h;exact zy (lks [12] [(12,2)] lzz)
 refine jp (jb h fun v3 pW h=>jb h fun vc pI h=>jd [1,4,6,8,9,10,11] [12,13] zdw (by exact (lwn 4 (ly [.sl Rp.byte [0] b,kI (i64.wrap (pK+rv.2.1))] (zgX (some (kI (i64.wrap (pK+rv.2.1)))) none rfl zcq.el (zdb _ _ _) ⟨rfl,rfl⟩ ⟨rfl,rfl⟩ pW) rfl (lx (lf1 97 (lc0 12 call97 (zpH pI))) l0)))) (jp (jI h ?_ ?_)))<;>intro pF h
 ·refine jr (rc 0 rfl (zD (r:=zq) [] [] (⟨0,0,0,0,0⟩:zg) rfl zsz rfl rfl) rf) ?_;cases h;exact zy (lks [12] [(12,2)] lzz)
 refine jr (rc 11 rfl (zD (r:=zq) [kI rv.1.Number,kI rv.1.Wire,kI pK,kI (i64.wrap ((i64.wrap (pK+rv.2.1))+vc.1)),kI (i64.wrap ((i64.wrap (pK+rv.2.1))+vc.2.1))] [] (⟨rv.1.Number,rv.1.Wire,pK,(i64.wrap ((i64.wrap (pK+rv.2.1))+vc.1)),(i64.wrap ((i64.wrap (pK+rv.2.1))+vc.2.1))⟩:zg) rfl zsz rfl rfl) rf) ?_;cases h;exact zy (lks [12] [(12,2)] lzz)
theorem zqE (h:zhj f wire=some r):va 99 [.rc za [0] f,kI wire] [kB r]:=by
 refine fi 16 func99 fun Xt=>?_
 unfold zhj at h;refine jq [11] (jb h fun g pC h=>jg [] [] [(4,kB g)] ?_ ?_)
 ·refine (rsI 3 7 pC ?_ ?_)<;>intro pA pC
  ·refine (rsI 4 11 pC ?_ ?_)<;>intro pB pC
   ·refine jb pC fun rv pE pC=>?_;cases pC;exact (rl 2 [1] 10 call128 (zke pE) rgg)
   cases pC;exact rgg
  cases pC;exact rgg
 obtain rfl:=(sj h);exact zy lzz
theorem zpS (h:zgl k wv=some r):va 148 [kI k,kU wv] [kI r]:=by
 refine fi 29 func148 fun Xt=>?_
 unfold zgl at h;refine jp (jb h fun rv pE h=>jr (rl 1 [1] 9 call149 (znW pE) rf) (jg [0,1,5] [] [(19,kB ((rv.2 !=0)|| (rv.1 !=0)))] ?_ ?_))
 ·refine (rsl 3 [] 16 (rv.2 !=0) ?_ ?_)<;>intro pA
  · exact (rbl [] 19 true rfl (by grind))
  exact (rbl [] 19 (rv.1 !=0) rfl (by grind))
 refine jI h ?_ ?_<;>intro pB h
 ·cases h;exact jz
 refine jb h fun vc pI h=>jr (rl 2 [1] 9 call140 (zqu pI) rf) (jb h fun vh pQ h=>jr (rl 1 [1] 9 call157 (zsQ pQ) rf) ?_);obtain rfl:=(sj h);exact zy lzz
theorem zsH (h:ziH b=some r):va 145 [.sl Rp.byte [0] b] [kI r]:=by
 refine fi 11 func145 fun Xt=>?_
 unfold ziH at h;refine jp (jb h fun rv pE h=>jr (rl 1 [0] 9 call156 (zuh pE) rf) ?_);cases h;exact jz
theorem zjB (h:zcF sv=some r):va 46 [.sl zf [0] sv] [kB r]:=by
 refine fi 14 func46 fun Xt=>?_
 unfold zcF at h;refine jp (jb h fun rv pE h=>jr (rl 1 [0] 9 call62 (zjy pE) rf) ?_);cases h;exact jz
theorem zgc (h:zcj m b pK=some r):va 47 [.rc zf [0] m,.sl Rp.byte [0] b,kI pK] [.rc zP [] r.1,kI r.2]:=by
 refine fj ⟨[(6,.ptr 2 0),(7,kI r.2)],[⟨2,85,(zoN r.1)⟩]⟩ 66 func47 ⟨⟨_,_,rfl,rfl,rfl,rfl,zBW⟩,rfl,trivial⟩ fun Xt=>?_
 unfold zcj at h;refine jr (ra 0 [.rc zf [0] m] rfl (zfH 13 (zC [0] m) [0] rfl rfl rfl rfl rfl) rfl (rfl' [14])) (jb h fun rv pE h=>jr (rl 2 [0] 13 call63 (zjT pE) (rfl' [15])) (jp (jI h ?_ ?_)))<;>intro pA h
 ·refine jr (rc 0 rfl (zD (r:=zP) [] [] (⟨(⟨0,0,0,0,0⟩:zg),0,false⟩:zt) rfl ztY rfl rfl) rf) ?_;cases h;exact zy (lks [14] [(14,2)] lzz)
 refine jb h fun vc pI h=>jr (rl 3 [0] 14 call30 (zjA pI) rf) (jp (jI h ?_ ?_))<;>intro pB h
 ·refine jr (lb 0 zq [] rv.1 (rc 0 rfl (zD (r:=zP) [.rc zq [] rv.1,kI (-1)] [] (⟨rv.1,(-1),false⟩:zt) rfl ztY rfl rfl) rf)) ?_;cases h;exact zy (lks [14] [(14,2)] lzz)
 refine jb h fun x pN h=>jr (rx 3 [0] zgq.el pN rfl rfl (rc 0 rfl (lde za [0] x znx) (rfl' [16]))) (jb h fun g pC h=>jg [6,8,10,11] [14,15,16] [(46,kB g)] ?_ ?_)
 ·refine (rsI 3 37 pC ?_ ?_)<;>intro pD pC
  ·refine jb pC fun vh pQ pC=>(rl 2 [1] 15 call36 (zdA pQ) (rsI 2 42 pC ?_ ?_))<;>intro pF pC
   ·cases pC;exact (rel [] lzz)
   cases pC;exact (rel [] lzz)
  cases pC;exact (rel [] lzz)
 refine jI h ?_ ?_<;>intro pJ h
 ·refine jr (lb 0 zq [] rv.1 (rc 1 rfl (zD (r:=zP) [.rc zq [] rv.1,kI vc,kB true] [] (⟨rv.1,vc,true⟩:zt) rfl ztY rfl rfl) rf)) ?_;cases h;exact zy (lks [14] [(14,2)] lzz)
 refine jb h fun g2 pG h=>jn (.N [6,8,10] [14,15] [(61,kB g2)] []) ?_ (zdn ?_)
 ·refine jb pG fun rv4 pY pG=>?_;rcases zfi pG with ⟨pM,pG⟩| ⟨pM,pG⟩
  ·cases pG;exact jd [6,8,10,61] [14,15] zdw (by exact (lwn 2 (lx (lf1 64 (lcd [kI x.Kind] 15 call64 (zdZ pY))) (lw_e (dg 53 pM l0))))) (zS lzz)
  refine jb pG fun rv5 uk pG=>?_;cases pG;exact jd [6,8,10,61] [14,15] zdw (by exact (lwn 2 (lx (lf1 64 (lcd [kI x.Kind] 15 call64 (zdZ pY))) (lw_e (dg 53 pM (lwn 2 (lx (lf1 57 (lcd [kI x.Kind] 15 call57 (zjU uk))) l0))))))) (zS lzz)
 refine jI h ?_ ?_<;>intro pP h
 ·refine jr (rc 0 rfl (zD (r:=zP) [] [] (⟨(⟨0,0,0,0,0⟩:zg),0,false⟩:zt) rfl ztY rfl rfl) rf) ?_;cases h;exact zy (lks [14] [(14,2)] lzz)
 refine jr (lb 0 zq [] rv.1 (rc 1 rfl (zD (r:=zP) [.rc zq [] rv.1,kI vc] [] (⟨rv.1,vc,false⟩:zt) rfl ztY rfl rfl) rf)) ?_;cases h;exact zy (lks [14] [(14,2)] lzz)
theorem zjx (h:zbq b=some r):va 49 [.sl Rp.byte [0] b] [kB r]:=by
 refine fi 16 func49 fun Xt=>?_
 unfold zbq at h;refine jp (jb h fun rv pE h=>jr (rl 3 [0] 9 call65 (zjw pE) rf) ?_);cases h;exact jz
theorem zjF (h:zcJ c pH f=some r):zff prog 91 [.ag [kI c.size,.sl u9 [0] c.kinds,.om zu Rp.bool 2 [0] c.names,.om zv Rp.bool 3 [0] c.numbers],kI pH,.rc za [0] f] [kI r.1] [.ag [.any,.any,.om zu Rp.bool 2 [0] r.2.1,.om zv Rp.bool 3 [0] r.2.2],.any,.any]:=by
 refine zgH (E:=⟨[(0,.ag [.any,.any,.om zu Rp.bool 2 [0] r.2.1,.om zv Rp.bool 3 [0] r.2.2]),(6,kI r.1)],[]⟩) 63 [0] func91 rfl rfl rfl ⟨rfl,trivial⟩ ⟨.inr ⟨rfl,rfl⟩,.inl rfl,.inl rfl,trivial⟩ rfl (fun Xt old=>?_);refine zcH ?_;unfold zcJ at h;refine jq [11,12] (jd [0,3,5,7,8] [11,12,13,14] zdw (by exact (lwn 3 (lx (zD (r:=zu) [kI pH,kS f.Name] [] (⟨pH,f.Name⟩:zk) rfl zyQ rfl rfl) (lwn 3 (lx (zD (r:=zv) [kI pH,kI f.Number] [] (⟨pH,f.Number⟩:zn) rfl zBJ rfl rfl) (lx (zmj 13 [kI 0,kS []] rfl zeroValue216 rfl) (lx (zmj 14 [kI 0,kI 0] rfl zeroValue218 rfl) (ly [.ptr 13 0,.rc zu [] (⟨pH,f.Name⟩:zk)] (zlu (r:=zu) (b:=⟨13,216,[kI 0,kS []]⟩) (off:=0) [kI pH,kS f.Name] rfl sizeOf216 rfl rfl rfl rfl) rfl (ly [.ptr 14 0,.rc zv [] (⟨pH,f.Number⟩:zn)] (zlu (r:=zv) (b:=⟨14,218,[kI 0,kI 0]⟩) (off:=0) [kI pH,kI f.Number] rfl sizeOf218 rfl rfl rfl rfl) rfl l0))))))))) (zr (jb h fun rv pE h=>jr (rl 2 [1] 13 call116 (ziE pE) rf) (jI h ?_ ?_))))<;>intro pA h
 ·refine jp ?_;cases h;exact zee lw
 refine jr (lb 2 zu [] (⟨pH,f.Name⟩:zk) (ra 0 [.om zu Rp.bool 2 [0] c.names,.rc zu [] (⟨pH,f.Name⟩:zk)] rfl (zmk (rk:=zu) (rv:=Rp.bool) (m:=c.names) (k:=(⟨pH,f.Name⟩:zk)) (kB ((mget c.names (⟨pH,f.Name⟩:zk)).getD false)) rfl zon (zbA rfl) (zog rfl rfl rfl)) rfl rf)) (jI h ?_ ?_)<;>intro pB h
 ·refine jp ?_;cases h;exact zee lw
 refine jb h fun vc pI h=>jr (rl 2 [1] 13 call117 (zlJ pI) rf) (jI h ?_ ?_)<;>intro pD h
 ·refine jp ?_;cases h;exact zee lw
 refine jr (lb 2 zv [] (⟨pH,f.Number⟩:zn) (ra 0 [.om zv Rp.bool 3 [0] c.numbers,.rc zv [] (⟨pH,f.Number⟩:zn)] rfl (zmk (rk:=zv) (rv:=Rp.bool) (m:=c.numbers) (k:=(⟨pH,f.Number⟩:zn)) (kB ((mget c.numbers (⟨pH,f.Number⟩:zn)).getD false)) rfl zvX (zbA rfl) (zog rfl rfl rfl)) rfl rf)) (jI h ?_ ?_)<;>intro pF h
 ·refine jp ?_;cases h;exact zee lw
 refine jb h fun vh pQ h=>jr (rl 4 [0] 13 call118 (zgn pQ) rf) (jI h ?_ ?_)<;>intro pJ h
 ·refine jp ?_;cases h;exact zee lw
 refine jb h fun g pC h=>jg [0,3,5,7,8] [11,12,13,14] [(44,kB g)] ?_ ?_
 ·refine (rsI 3 47 pC ?_ ?_)<;>intro pM pC
  ·refine jb pC fun rv4 pY pC=>?_;cases pC;exact (lb 0 za [] f (rl 0 [1] 13 call119 (zmI pY) (rel [] lzz)))
  cases pC;exact (rel [] lzz)
 refine jI h ?_ ?_<;>intro pP h
 ·refine jp ?_;cases h;exact zee lw
 refine jb h fun rv5 uk h=>jr (lb 1 za [] f (rl 0 [0,2,3] 13 call120 (zjG uk) rf)) (jI h ?_ ?_)<;>intro pS h
 ·refine jp ?_;cases h;exact zee lw
 refine zQ (jr (lb 2 zu [] (⟨pH,f.Name⟩:zk) (rms (C1:=[]) 0 [] 2 [0] c.names (⟨pH,f.Name⟩:zk) true [0] zon (zbA rfl) (zcr rfl rfl) rf)) (jr (lb 2 zv [] (⟨pH,f.Number⟩:zn) (rms (C1:=[]) 0 [] 3 [0] c.numbers (⟨pH,f.Number⟩:zn) true [0] zvX (zbA rfl) (zcr rfl rfl) rf)) (jp ?_)));cases h;exact zee lw
theorem zqe (h:zfa m hv=some r):va 84 [.rc zf [0] m,.rc zG [0] hv] [.rc zK [] r]:=by
 refine fj ⟨[(4,.ptr 2 0)],[⟨2,164,(zoO r)⟩]⟩ 38 func84 ⟨⟨_,_,rfl,rfl,rfl,rfl,zAV⟩,trivial⟩ fun Xt=>?_
 unfold zfa at h;refine jr (ra 0 [.rc zf [0] m] rfl (zfH 14 (zC [0] m) [0] rfl rfl rfl rfl rfl) rfl (rfl' [15,16])) (jb h fun rv pE h=>jr (rl 3 [0] 15 call98 (zqD pE) rf) (jp (jI h ?_ ?_)))<;>intro pA h
 ·refine jr (rc 0 rfl (zD (r:=zK) [kI (-1)] [] (⟨(-1),false,0⟩:zB) rfl zvf rfl rfl) rf) ?_;cases h;exact zy (lks [16] [(16,2)] lzz)
 refine jb h fun x pN h=>jr (rx 3 [0] zgq.el pN rfl rfl (rc 0 rfl (lde za [0] x znx) (rfl' [17]))) (jb h fun vc pI h=>jr (lb 0 za [] x (rl 2 [1] 16 call99 (zqE pI) rf)) (jb h fun g pC h=>jg [4,5,7] [16] [(33,kB g)] ?_ ?_))
 ·refine (rsI 3 26 pC ?_ ?_)<;>intro pB pC
  ·refine jb pC fun vh pQ pC=>?_;cases pC;exact (rl 4 [1] 16 call100 (zsK pQ) (rel [] lzz))
  cases pC;exact (rel [] lzz)
 refine jI h ?_ ?_<;>intro pD h
 ·refine jr (rc 0 rfl (zD (r:=zK) [k8 6] [] (⟨0,false,6⟩:zB) rfl zvf rfl rfl) rf) ?_;cases h;exact zy (lks [16] [(16,2)] lzz)
 refine jr (rc 2 rfl (zD (r:=zK) [kI rv,kB vc] [] (⟨rv,vc,0⟩:zB) rfl zvf rfl rfl) rf) ?_;cases h;exact zy (lks [16] [(16,2)] lzz)
theorem zsx (h:ziC k=some r):va 137 [kI k] [kI r]:=by
 refine fi 5 func137 fun Xt=>?_
 unfold ziC at h;refine jp (jb h fun rv pE h=>jr (rl 1 [1] 9 call148 (zpS pE) rf) ?_);obtain rfl:=(sj h);exact zy lzz
theorem zsI (h:ziI b=some r):va 122 [.sl Rp.byte [0] b] [kB r]:=by
 refine fi 8 func122 fun Xt=>?_
 unfold ziI at h;refine jp (jb h fun rv pE h=>jr (rl 1 [0] 9 call145 (zsH pE) rf) ?_);cases h;exact zy lzz
theorem zgd (h:zck sv pO d=some r):va 26 [.sl zf [0] sv,kI pO,kI d] [kI r]:=by
 refine fi 26 func26 fun Xt=>?_
 unfold zck at h;refine jp (jb h fun rv pE h=>jr (rl 1 [0] 9 call46 (zjB pE) rf) (jI h ?_ ?_))<;>intro pA h
 ·cases h;exact jz
 refine jg [] [] [(25,kB ((decide (pO<0))|| ((decide (pO>=(sv.length:Int)))|| ((decide (d<0))|| (decide (d>64))))))] ?_ ?_
 ·refine (rsl 3 [] 12 (decide (pO<0)) ?_ ?_)<;>intro pB
  · exact (rbl [] 25 true rfl (by grind))
  refine (rsl 6 [] 18 (decide (pO>=(sv.length:Int))) ?_ ?_)<;>intro pD
  · exact (rbl [] 25 true rfl (by grind))
  refine (rsl 4 [] 22 (decide (d<0)) ?_ ?_)<;>intro pF
  · exact (rbl [] 25 true rfl (by grind))
  exact (rbl [] 25 (decide (d>64)) rfl (by grind))
 refine jI h ?_ ?_<;>intro pJ h
 ·cases h;exact jz
 cases h;exact jz
theorem ziR (uT:∀{sv:(List zc)} {m:Int} {b:(List UInt8)} {d:Int} {r:(Int×Int)},xb sv m b d=some r->va 27 [.sl zf [0] sv,kI m,.sl Rp.byte [0] b,kI d] [kI r.1,kI r.2]) (h:zaW xb sv m b d=some r):va 27 [.sl zf [0] sv,kI m,.sl Rp.byte [0] b,kI d] [kI r.1,kI r.2]:=by
 refine fi 106 func27 fun Xt=>?_
 unfold zaW at h;refine jp (jp (zr (jb h fun q pL h=>jL pL [0,1,2,3] [] (fun s=>[(10,kI s)]) (fun| (.inl v_)=> .x 0 ⟨[],[]⟩| (.inr v_)=> .r ⟨[(8,kI v_.1),(9,kI v_.2)],[]⟩) ?_ lzz ?_)))
 ·clear h;intro vf o h;unfold zau at h;refine jp (jI h ?_ ?_)<;>intro pA h
  ·refine zr (jb h fun x pN h=>jb h fun rv pE h=>jr (rx 2 [0] zdS.el pN rfl rfl (rc 0 rfl (lde zf [0] x zoC) (rl 2 [0] 10 call47 (zgc pE) (rfl' [12])))) (jp (jI h ?_ ?_)))<;>intro pB h
   ·cases h;exact jz'
   refine jb h fun v3 pW h=>jr (ra 7 [.sl Rp.byte [0] b,kI rv.1.R.At,kI rv.1.R.To] rfl (zgX (some (kI rv.1.R.At)) (some (kI rv.1.R.To)) rfl zcq.el (zdb _ _ _) ⟨rfl,rfl⟩ ⟨rfl,rfl⟩ pW) rfl rf) (jp (jI h ?_ ?_))<;>intro pD h
   ·refine jb h fun x2 pR h=>jb h fun x3 p6 h=>jd [0,1,2,3,10,11,13,14] [12,13] zdw (by exact (lwn 2 (di [0] zdS.el pR (lw_e (lx (ldl zf [0] x2 1 za x2.Fields) (lwn 2 (di [0] zgq.el p6 (lx (lde za [0] x3 znx) (lx (zmj 13 [kS [],kI 0,kI 0,kB false,kB false,kI 0] rfl zeroValue62 rfl) (ly [.ptr 13 0,.rc za [0] x3] (zlu (r:=za) (b:=⟨13,62,[kS [],kI 0,kI 0,kB false,kB false,kI 0]⟩) (off:=0) (zaR x3) rfl sizeOf62 rfl rfl rfl rfl) rfl l0)))))))))) (jp (jI h ?_ ?_))<;>intro pF h
    ·refine jb h fun vc pI h=>jr (rl 3 [0] 12 call48 (zjV pI) rf) (jp (jI h ?_ ?_))<;>intro pJ h
     ·cases h;exact jz'
     refine jp (zQ ?_);cases h;exact zS lzz
    refine jb h fun g pC h=>jg [0,1,2,3,10,11,13,14] [12,13] [(77,kB g)] ?_ ?_
    ·refine (rsI 4 73 pC ?_ ?_)<;>intro pM pC
     ·refine jb pC fun vh pQ pC=>?_;cases pC;exact (rl 1 [0] 13 call49 (zjx pQ) (rel [] lzz))
     cases pC;exact (rel [] lzz)
    refine jI h ?_ ?_<;>intro pP h
    ·cases h;exact jz'
    refine jp (jI h ?_ ?_)<;>intro pS h
    ·refine jp (jI h ?_ ?_)<;>intro pV h
     ·cases h;exact jz'
     refine jb h fun rv4 pY h=>jr (rl 6 [0] 13 call27 (uT pY) rf) (jp (jI h ?_ ?_))<;>intro pT h
     ·cases h;exact jz'
     refine jp (zQ ?_);cases h;exact zS lzz
    refine jp (zQ ?_);cases h;exact zS lzz
   refine jp (zQ ?_);cases h;exact zS lzz
  cases h;exact zan rfl lzz
 rcases q with u| u2
 ·refine zaQ _ rfl ?_;cases h;exact jz
 cases h;exact zdo lzz
theorem zjD (h:zas pU sv m b d=some r):va 27 [.sl zf [0] sv,kI m,.sl Rp.byte [0] b,kI d] [kI r.1,kI r.2]:=by
  induction pU generalizing sv m b d r with
  | zero=>exact absurd h nofun
  | succ pU ih=>exact ziR (fun hh=>ih hh) h
theorem zgy (h:zcv m b=some r):va 33 [.rc zf [0] m,.sl Rp.byte [0] b] [.own zP 85 2 [] r.1,kI r.2.1,kI r.2.2]:=by
 refine fi 34 func33 fun Xt=>?_
 unfold zcv at h;refine jr (ra 0 [.rc zf [0] m] rfl (zfH 16 (zC [0] m) [0] rfl rfl rfl rfl rfl) rfl rf) (jp (jp (zr (jb h fun q pL h=>jL pL [1,2] [16] (fun s=>[(7,.own zP 85 20 [] s.1),(8,kI s.2)]) (fun| (.inl v_)=> .x 0 ⟨[(7,.own zP 85 20 [] v_)],[]⟩| (.inr v_)=> .r ⟨[(4,kN),(5,kI v_.1),(6,kI v_.2)],[]⟩) ?_ lw ?_))))
 ·clear h;intro s o h;obtain ⟨out,vf⟩:=s;replace h:zam b m out vf=some o:=h;unfold zam at h;refine jp (jI h ?_ ?_)<;>intro pA h
  ·refine zr (jb h fun rv pE h=>jr (rl 3 [0] 19 call47 (zgc pE) (rfl' [21])) (jp (jI h ?_ ?_)))<;>intro pB h
   ·cases h;exact jz'
   refine jb h fun v3 pW h=>jr (lb 1 zP [] rv.1 (rc 0 rfl (lbs1 22 [] rv.1 zkC) (rc 0 rfl (lao 20 [] 85 22 [] [] zkC.el pW (.inl zmx)) rf))) (jp (zQ ?_));cases h;exact zS lzz
  cases h;exact zan rfl lzz
 rcases q with u| u2
 ·refine zaQ _ rfl (jp ?_);cases h;exact zy (lks [] [(20,2)] lzz)
 cases h;exact zdo lw
theorem znX (h:zfm sv=some r):va 76 [.sl zf [0] sv] [.rc zbZ [] r.1,k8 r.2]:=by
 refine fj ⟨[(2,.ptr 2 0),(3,k8 r.2)],[⟨2,150,(zjt r.1)⟩]⟩ 62 func76 ⟨⟨_,_,rfl,rfl,rfl,rfl,zAU⟩,rfl,trivial⟩ fun Xt=>?_
 unfold zfm at h;refine jq [12] (jg [0,2] [12] [(18,kB ((decide ((sv.length:Int)<1))|| (decide ((sv.length:Int)>100))))] ?_ ?_)
 ·refine (rsl 4 [] 14 (decide ((sv.length:Int)<1)) ?_ ?_)<;>intro pA
  · exact (rbl [] 18 true rfl (by grind))
  exact (rbl [] 18 (decide ((sv.length:Int)>100)) rfl (by grind))
 refine jI h ?_ ?_<;>intro pB h
 ·refine jr (rc 0 rfl (zD (r:=zbZ) [kI (-1),kI (-1),kI 1] [] (⟨(-1),(-1),1⟩:zY) rfl zsA rfl rfl) rf) ?_;cases h;exact zy (lks [12] [(12,2)] lzz)
 refine jb h fun rv pE h=>jr (rl 2 [1] 11 call89 (ztv pE) (rc 0 rfl (zgY (rk:=zu) (rv:=Rp.bool) 14 rfl) (rc 0 rfl (zgY (rk:=zv) (rv:=Rp.bool) 15 rfl) (rc 0 rfl (lbd [kI (sv.length:Int),.own u9 3 13 [] rv,.om zu Rp.bool 14 [] ([]:(List (zk×Bool))),.om zv Rp.bool 15 [] ([]:(List (zn×Bool)))] zBG) (rfl' [16]))))) (jp (zr (jb h fun q2 p8 h=>jl p8 [2,4,26,27] [12] (fun s=>[(28,kI s.1)]) (fun s=>[⟨16,177,[kI (sv.length:Int),.own u9 3 13 [] rv,.om zu Rp.bool 14 [13,0] s.2.1,.om zv Rp.bool 15 [13,0] s.2.2]⟩]) (fun| (.inl v_)=> .X 0 [2] [12] [] []| (.inr v_)=> .r ⟨[(2,.ptr 12 0),(3,k8 9)],[⟨12,150,[kI v_.1,kI v_.2.1,kI v_.2.2]⟩]⟩) ?_ lw ?_)))
 ·clear h;intro s o h;obtain ⟨v2,f,f2⟩:=s;replace h:zax rv sv v2 f f2=some o:=h;unfold zax at h;refine jp (jI h ?_ ?_)<;>intro pD h
  ·refine zr (jb h fun x pN h=>jr (rx 1 [0] zdS.el pN rfl rfl (rc 0 rfl (lde zf [0] x zoC) (ral 2 [18] [.ptr 18 0,.rc zf [0] x] rfl (zlu (r:=zf) (b:=⟨18,65,[kS [],kN]⟩) (off:=0) (zC [0] x) rfl sizeOf65 rfl rfl rfl rfl) rfl rf))) (jb h fun vh pQ h=>jr (rkl 2 [] ⟨[(2,.ptr 12 0),(4,.ptr 16 0),(5,kI v2),(6,.ptr 18 0),(26,.sl zf [0] sv),(27,kI (sv.length:Int)),(28,kI v2),(33,.ag [kI (sv.length:Int),.own u9 3 13 [] rv,.om zu Rp.bool 14 [13,0] f,.om zv Rp.bool 15 [13,0] f2]),(34,.ag (zC [0] x))],[⟨12,150,[kI 0,kI 0,kI 0]⟩,⟨16,177,[kI (sv.length:Int),.own u9 3 13 [] rv,.om zu Rp.bool 14 [13,0] f,.om zv Rp.bool 15 [13,0] f2]⟩,⟨18,65,(zC [0] x)⟩]⟩ (zhF ⟨[(2,.ptr 12 0),(4,.ptr 16 0),(5,kI v2),(6,.ptr 18 0),(26,.sl zf [0] sv),(27,kI (sv.length:Int)),(28,kI v2),(33,.ag [kI (sv.length:Int),.own u9 3 13 [] rv,.om zu Rp.bool 14 [13,0] vh.2.1,.om zv Rp.bool 15 [13,0] vh.2.2]),(34,.ag (zC [0] x))],[⟨12,150,[kI 0,kI 0,kI 0]⟩,⟨16,177,[kI (sv.length:Int),.own u9 3 13 [] rv,.om zu Rp.bool 14 [13,0] vh.2.1,.om zv Rp.bool 15 [13,0] vh.2.2]⟩,⟨18,65,(zC [0] x)⟩]⟩ (zjM.le (ins':=[(.tmp 33,.ag [kI (sv.length:Int),.own u9 3 13 [] rv,.om zu Rp.bool 14 [13,0] f,.om zv Rp.bool 15 [13,0] f2]),(.tmp 34,.ag (zC [0] x))]) (zhH (args:=[.tmp 33,.tmp 34]) [.ag [kI (sv.length:Int),.own u9 3 13 [] rv,.om zu Rp.bool 14 [13,0] f,.om zv Rp.bool 15 [13,0] f2],.rc zf [0] x] [(14,2),(15,3)] [13,0] 19 [] rfl call90 (ziD pQ) rfl rfl (by kernel_rfl) rfl rfl rfl) ⟨⟨rfl,vb _⟩,⟨rfl,zkJ zf [0] x (zC [0] x) rfl rfl⟩,trivial⟩) rfl (by kernel_rfl) (by kernel_rfl) ⟨⟨_,rfl,zp rfl⟩,⟨_,rfl,zp rfl⟩,⟨_,rfl,zp rfl⟩,⟨_,rfl,zp rfl⟩,⟨_,rfl,zp rfl⟩,⟨_,rfl,zp rfl⟩,⟨_,rfl,zp rfl⟩,⟨_,rfl,zlj ⟨zp rfl,zp rfl,zeH 0 rfl,zeH 1 rfl,trivial⟩⟩,⟨_,rfl,zp rfl⟩,trivial⟩ ⟨⟨_,rfl,rfl,rfl,⟨zp rfl,zp rfl,zp rfl,trivial⟩⟩,⟨_,rfl,rfl,rfl,⟨zp rfl,zp rfl,zeH 0 rfl,zeH 1 rfl,trivial⟩⟩,⟨_,rfl,rfl,rfl,⟨zp rfl,zp rfl,trivial⟩⟩,trivial⟩ rf)) (jp (jI h ?_ ?_))))<;>intro pF h
   ·refine jr (rc 2 rfl (zD (r:=zbZ) [kI v2,kI (-1),kI vh.1] [] (⟨v2,(-1),vh.1⟩:zY) rfl zsA rfl rfl) rf) ?_;cases h;exact zkG lzz
   refine jp (zr (jb h fun q pL h=>jl pL [2,4,5,26,27,28,42,43] [12] (fun s=>[(44,kI s.1)]) (fun s=>[⟨16,177,[kI (sv.length:Int),.own u9 3 13 [] rv,.om zu Rp.bool 14 [13,0] s.2.1,.om zv Rp.bool 15 [13,0] s.2.2]⟩]) (fun| (.inl v_)=> .X 2 [2,4,26,27,28] [12] [] [⟨16,177,[kI (sv.length:Int),.own u9 3 13 [] rv,.om zu Rp.bool 14 [13,0] v_.1,.om zv Rp.bool 15 [13,0] v_.2]⟩]| (.inr v_)=> .r ⟨[(2,.ptr 12 0),(3,k8 9)],[⟨12,150,[kI v2,kI v_.1,kI v_.2]⟩]⟩) ?_ lzz ?_))
   ·clear h;intro s o h;obtain ⟨v3,f6,f7⟩:=s;replace h:zbp rv sv v2 x v3 f6 f7=some o:=h;unfold zbp at h;refine jp (jI h ?_ ?_)<;>intro pJ h
    ·refine zr (jb h fun x2 pR h=>jr (rx 1 [0] zgq.el pR rfl rfl (rc 0 rfl (lde za [0] x2 znx) (rfl' [24]))) (jb h fun rv5 uk h=>jr (lb 2 za [] x2 (rkl 0 [] ⟨[(2,.ptr 12 0),(4,.ptr 16 0),(5,kI v2),(8,kI v3),(26,.sl zf [0] sv),(27,kI (sv.length:Int)),(28,kI v2),(42,.sl za [0] x.Fields),(43,kI (x.Fields.length:Int)),(44,kI v3),(49,.ag [kI (sv.length:Int),.own u9 3 13 [] rv,.om zu Rp.bool 14 [13,0] f6,.om zv Rp.bool 15 [13,0] f7]),(50,kI v2),(51,.rc za [] x2)],[⟨12,150,[kI 0,kI 0,kI 0]⟩,⟨16,177,[kI (sv.length:Int),.own u9 3 13 [] rv,.om zu Rp.bool 14 [13,0] f6,.om zv Rp.bool 15 [13,0] f7]⟩]⟩ (zhF ⟨[(2,.ptr 12 0),(4,.ptr 16 0),(5,kI v2),(8,kI v3),(26,.sl zf [0] sv),(27,kI (sv.length:Int)),(28,kI v2),(42,.sl za [0] x.Fields),(43,kI (x.Fields.length:Int)),(44,kI v3),(49,.ag [kI (sv.length:Int),.own u9 3 13 [] rv,.om zu Rp.bool 14 [13,0] rv5.2.1,.om zv Rp.bool 15 [13,0] rv5.2.2]),(50,kI v2),(51,.rc za [] x2)],[⟨12,150,[kI 0,kI 0,kI 0]⟩,⟨16,177,[kI (sv.length:Int),.own u9 3 13 [] rv,.om zu Rp.bool 14 [13,0] rv5.2.1,.om zv Rp.bool 15 [13,0] rv5.2.2]⟩]⟩ (zhH [.ag [kI (sv.length:Int),.own u9 3 13 [] rv,.om zu Rp.bool 14 [13,0] f6,.om zv Rp.bool 15 [13,0] f7],kI v2,.rc za [] x2] [(14,2),(15,3)] [13,0] 25 [] rfl call91 (zjF uk) rfl rfl (by kernel_rfl) rfl rfl rfl) rfl (by kernel_rfl) (by kernel_rfl) ⟨⟨_,rfl,zp rfl⟩,⟨_,rfl,zp rfl⟩,⟨_,rfl,zp rfl⟩,⟨_,rfl,zp rfl⟩,⟨_,rfl,zp rfl⟩,⟨_,rfl,zp rfl⟩,⟨_,rfl,zp rfl⟩,⟨_,rfl,zp rfl⟩,⟨_,rfl,zp rfl⟩,⟨_,rfl,zp rfl⟩,⟨_,rfl,zlj ⟨zp rfl,zp rfl,zeH 0 rfl,zeH 1 rfl,trivial⟩⟩,⟨_,rfl,zp rfl⟩,⟨_,rfl,zp rfl⟩,trivial⟩ ⟨⟨_,rfl,rfl,rfl,⟨zp rfl,zp rfl,zp rfl,trivial⟩⟩,⟨_,rfl,rfl,rfl,⟨zp rfl,zp rfl,zeH 0 rfl,zeH 1 rfl,trivial⟩⟩,trivial⟩ rf))) (jp (jI h ?_ ?_))))<;>intro pM h
     ·refine jr (rc 3 rfl (zD (r:=zbZ) [kI v2,kI v3,kI rv5.1] [] (⟨v2,v3,rv5.1⟩:zY) rfl zsA rfl rfl) rf) ?_;cases h;exact zkG lzz
     refine zQ ?_;cases h;exact jy
    cases h;exact zan rfl lzz
   rcases q with u| u2
   ·refine zaQ _ rfl (zQ ?_);cases h;exact jy
   cases h;exact zsc lzz
  cases h;exact zan rfl lzz
 rcases q2 with u3| u4
 ·refine zaQ _ rfl (jr (rc 0 rfl (zD (r:=zbZ) [] [] (⟨0,0,0⟩:zY) rfl zsA rfl rfl) rf) ?_);cases h;exact zy (lks [12] [(12,2)] lzz)
 cases h;exact zdo (lks [12] [(12,2)] lzz)
theorem zmO (h:zgN m b pK met=some r):zff prog 67 [.rc zf [0] m,.sl Rp.byte [0] b,kI pK,.om zG zK 2 [0] met] [.rc ze [] r.1,k8 r.2.1] [.any,.any,.any,.om zG zK 2 [0] r.2.2]:=by
 refine zgH (E:=⟨[(3,.om zG zK 2 [0] r.2.2),(8,.ptr 3 0),(9,k8 r.2.1)],[⟨3,106,(zcm r.1)⟩]⟩) 56 [3] func67 rfl rfl rfl ⟨⟨_,_,rfl,rfl,rfl,rfl,zoB⟩,rfl,trivial⟩ ⟨.inl rfl,.inl rfl,.inl rfl,.inr ⟨rfl,rfl⟩,trivial⟩ rfl (fun Xt old=>?_);refine zcH ?_;unfold zgN at h;refine jr (ra 0 [.rc zf [0] m] rfl (zfH 13 (zC [0] m) [0] rfl rfl rfl rfl rfl) rfl (rfl' [14])) (jb h fun rv pE h=>jr (rl 2 [0] 13 call83 (zkq pE) (rfl' [15])) (jp (jI h ?_ ?_)))<;>intro pA h
 ·refine jr (rc 0 rfl (zD (r:=ze) [] [] (⟨(⟨0,0,0,0,0⟩:zg),0,false⟩:zb) rfl zpX rfl rfl) rf) ?_;cases h;exact zee (lks [14] [(14,3)] lzz)
 refine jr (rc 4 rfl (zD (r:=zG) [kI rv.1.Number,kI rv.1.Wire] [] (⟨rv.1.Number,rv.1.Wire⟩:zz) rfl zBH rfl rfl) (rfl' [16])) (jr (lb 1 zG [] (⟨rv.1.Number,rv.1.Wire⟩:zz) (ra 0 [.om zG zK 2 [0] met,.rc zG [] (⟨rv.1.Number,rv.1.Wire⟩:zz)] rfl (zne (rk:=zG) (rv:=zK) (m:=met) (k:=(⟨rv.1.Number,rv.1.Wire⟩:zz)) (.rc zK [0] ((mget met (⟨rv.1.Number,rv.1.Wire⟩:zz)).getD (⟨0,false,0⟩:zB))) rfl zvW (zbA rfl) (zrX rfl)) rfl (rfl' [17]))) (jp (jb h fun p pZ h=>jn (.N [8,10,13] [14,15] [(3,.om zG zK 2 [0] p.1)] [⟨17,164,[kI p.2.1,kB p.2.2.1,k8 p.2.2.2]⟩]) ?_ ?_)))
 ·replace h:=pZ;refine jI h ?_ ?_<;>intro pB h
  ·refine jb h fun vc pI h=>jr (lb 1 zG [] (⟨rv.1.Number,rv.1.Wire⟩:zz) (rl 0 [0] 16 call84 (zqe pI) rf)) (jr (lb 1 zG [] (⟨rv.1.Number,rv.1.Wire⟩:zz) (lb 0 zK [] vc (rms (C1:=[]) (D:=[]) 0 [] 2 [0] met (⟨rv.1.Number,rv.1.Wire⟩:zz) vc [0] zvW (zbA rfl) (zbA rfl) rf))) ?_);cases h;exact zS lzz
  cases h;exact zS lzz
 refine zdn (jp (jI h ?_ ?_))<;>intro pD h
 ·refine jd [3,8,9] [14] zdw (by exact (lx (zD (r:=ze) [] [] (⟨(⟨0,0,0,0,0⟩:zg),0,false⟩:zb) rfl zpX rfl rfl) (lwn 2 (ly [.ptr 14 0,.rc ze [] (⟨(⟨0,0,0,0,0⟩:zg),0,false⟩:zb)] (zlu (r:=ze) (b:=⟨14,106,[kI 0,kI 0,kI 0,kI 0,kI 0,kI 0,kB false]⟩) (off:=0) [kI 0,kI 0,kI 0,kI 0,kI 0,kI 0,kB false] rfl sizeOf106 rfl rfl rfl rfl) rfl l0)))) ?_;cases h;exact zee (lks [14] [(14,3)] lzz)
 refine jr (lb 0 zq [] rv.1 (rc 4 rfl (zD (r:=ze) [.rc zq [] rv.1,kI p.2.1,kB p.2.2.1] [] (⟨rv.1,p.2.1,p.2.2.1⟩:zb) rfl zpX rfl rfl) rf)) ?_;cases h;exact zee (lks [14] [(14,3)] lzz)
theorem znV (v:Int) (v2:(List UInt8)):ItOk prog 136 [.bp u9 3 913600 [] v,.bp (Rp.list Rp.byte) 24 913601 [0] v2] (fun x:((List UInt8)×Int)=>[.sl Rp.byte [0] x.1,k8 x.2]) (fun {σ:Type} (kf:Rnd σ ((List UInt8)×Int)) (sg:σ)=>zdF v v2 kf sg):=by
 refine zxS 38 [(1,.ptr 913600 0),(2,.ptr 913601 0)] [⟨913600,3,[kI v]⟩,⟨913601,24,[.sl Rp.byte [0] v2]⟩] func136 rfl rfl rfl rfl (.cons u9 3 913600 [] v [kI v] rfl rfl (.cons (Rp.list Rp.byte) 24 913601 [0] v2 [.sl Rp.byte [0] v2] rfl rfl (.nil _))) ?_;intro σ kf sg s1 h l I hI F_ hT;replace h:zdF v v2 kf sg=some s1:=h;refine zcH (zra (E':=⟨[(0,.lf (.val (.func (.yield l) #[] #[]))),(1,.ptr 913600 0),(2,.ptr 913601 0)],[⟨913600,3,[kI v]⟩,⟨913601,24,[.sl Rp.byte [0] v2]⟩]⟩) (fun _ _ _ hs=>hs) ?_);unfold zdF at h;refine jb h fun rv pE h=>jr (rl 1 [1] 9 call137 (zsx pE) rf) (jp (jI h ?_ ?_))<;>intro pA h
 ·refine jb h fun y uB h=>ztr (E':=⟨[],[]⟩) (x:=(([]:(List UInt8)),2)) (b:=y.1) (s':=y.2) 1 (some 13) [.const (.slice none 0 0),.const (.int .u8 2)] [kN,k8 2] [.sl Rp.byte [0] ([]:(List UInt8)),k8 2] ⟨[(12,.lf (.val (.func (.yield l) #[] #[])))],[]⟩ hT rfl rfl rfl rfl rfl rgg rfl ⟨rfl,⟨rfl,trivial⟩⟩ rfl ⟨znd _ _,vb _,trivial⟩ rfl rfl uB rgg ?_;cases h;exact zBe lzz
 refine jp (zr (jb h fun q pL h=>zxT (fun s:((List UInt8)×σ)=>zaZ kf rv s.1 s.2) (fun s=>⟨⟨38,[]⟩,itX I hI F_ s.2,false,#[]⟩) (fun s=>⟨[(0,.lf (.val (.func (.yield l) #[] #[]))),(4,kI rv),(5,.sl Rp.byte [0] s.1)],[]⟩) (fun o e a w=>match o with| (.inl v_)=>e= .exit 0/\Sx ⟨⟨38,[]⟩,itX I hI F_ v_,false,#[]⟩ ⟨[],[]⟩ a w| (.inr v_)=>e= .ret/\Sx ⟨⟨38,[]⟩,itX I hI F_ v_,false,#[]⟩ ⟨[],[]⟩ a w) ?_ pL rfl lzz ?_))
 ·clear h;intro s o h;obtain ⟨vd,sg2⟩:=s;refine zcH ?_;replace h:zaZ kf rv vd sg2=some o:=h;unfold zaZ at h;refine jp (jI h ?_ ?_)<;>intro pB h
  ·refine zr (jb h fun vc pI h=>jr (rl 2 [0] 10 call138 (zsw pI) rf) (jb h fun v3 pW h=>jb h fun y2 uC h=>ztr (E':=⟨[(0,.lf (.val (.func (.yield l) #[] #[]))),(4,kI rv),(5,.sl Rp.byte [0] vd),(6,kI vc.1),(34,kB ((!y2.1)|| (vc.2 !=0)))],[]⟩) (x:=(v3,vc.2)) (b:=y2.1) (s':=y2.2) 5 (some 29) [.tmp 27,.tmp 28] [.sl Rp.byte [0] v3,k8 vc.2] [.sl Rp.byte [0] v3,k8 vc.2] ⟨[(0,.lf (.val (.func (.yield l) #[] #[]))),(4,kI rv),(5,.sl Rp.byte [0] vd),(6,kI vc.1),(7,k8 vc.2),(24,.lf (.val (.func (.yield l) #[] #[]))),(27,.sl Rp.byte [0] v3),(28,k8 vc.2)],[]⟩ hT rfl rfl rfl rfl rfl (ra 3 [.sl Rp.byte [0] vd,kI vc.1] rfl (zgX none (some (kI vc.1)) rfl zcq.el (zdb _ _ _) ⟨rfl,rfl⟩ ⟨rfl,rfl⟩ pW) rfl rgg) rfl ⟨rfl,⟨rfl,trivial⟩⟩ rfl ⟨vb _,vb _,trivial⟩ rfl rfl uC ?_ ?_))
   ·refine (rsl 2 [] 31 (!y2.1) ?_ ?_)<;>intro pD
    · exact (rbl [] 34 true rfl (by grind))
    exact (rbl [] 34 (vc.2 !=0) rfl (by grind))
   refine jI h ?_ ?_<;>intro pF h
   ·cases h;exact zkG lzz
   refine jb h fun v5 uU h=>jr (ra 2 [.sl Rp.byte [0] vd,kI vc.1] rfl (zgX (some (kI vc.1)) none rfl zcq.el (zdb _ _ _) ⟨rfl,rfl⟩ ⟨rfl,rfl⟩ uU) rfl rf) (zQ ?_);cases h;exact zS lzz
  cases h;exact zan rfl lzz
 rcases q with u| u2
 ·refine zaQ _ rfl ?_;cases h;exact zBd lzz
 cases h;exact zBg lzz
theorem zjC (h:zcG pU sv pO b d=some r):va 9 [.sl zf [0] sv,kI pO,.sl Rp.byte [0] b,kI d] [kI r.1,kI r.2]:=by
 refine fi 25 func9 fun Xt=>?_
 unfold zcG at h;refine jp (jb h fun rv pE h=>jr (rl 3 [0] 9 call26 (zgd pE) rf) (jp (jI h ?_ ?_)))<;>intro pA h
 ·cases h;exact jz
 refine jb h fun vc pI h=>jr (rl 4 [0] 9 call27 (zjD pI) rf) ?_;cases h;exact zy lzz
theorem zjW (h:zcY sv pO av b=some r):va 20 [.sl zf [0] sv,kI pO,.sl Rp.byte [0] av,.sl Rp.byte [0] b] [kI r]:=by
 refine fi 111 func20 fun Xt=>?_
 unfold zcY at h;refine jp (jb h fun x pN h=>jb h fun rv pE h=>jr (rx 2 [0] zdS.el pN rfl rfl (rc 0 rfl (lde zf [0] x zoC) (rl 1 [0] 9 call33 (zgy pE) rf))) (jb h fun x2 pR h=>jb h fun vc pI h=>jr (rx 2 [0] zdS.el pR rfl rfl (rc 0 rfl (lde zf [0] x2 zoC) (rl 1 [0] 10 call33 (zgy pI) rf))) (jp (jp (zr (jb h fun q2 p8 h=>jL p8 [0,1,9,12] [] (fun s=>[(15,kI s.1),(16,kI s.2)]) (fun o=> .x 0 ⟨[(15,kI o)],[]⟩) ?_ lzz ?_))))))
 ·clear h;intro s o h;obtain ⟨n,i⟩:=s;replace h:zaB pO rv vc sv n i=some o:=h;unfold zaB at h;refine jp (jI h ?_ ?_)<;>intro pA h
  ·refine zr (jp (jp (zr (jb h fun q pL h=>jL pL [0,1,9,12,15,16] [] (fun s=>[(17,kB s.1),(18,kI s.2)]) (fun o=> .X 2 [0,1,9,12,15,16] [] [(17,kB o)] []) ?_ lzz ?_))))
   ·clear h;intro s o h;obtain ⟨met,k⟩:=s;replace h:zaX i rv vc met k=some o:=h;unfold zaX at h;refine jp (jI h ?_ ?_)<;>intro pB h
    ·refine zr (jb h fun g pC h=>jn (.N [0,1,9,12,15,16,18] [] [(17,kB g)] []) ?_ (zdn ?_))
     ·rcases zfi pC with ⟨pD,pC⟩| ⟨pD,pC⟩
      ·cases pC;exact jd [0,1,9,12,15,16,17,18] [] zdw (by exact (lw_e (dg 51 pD l0))) (zS lzz)
      refine jb pC fun x3 p6 pC=>jb pC fun x4 up pC=>?_;cases pC;exact jd [0,1,9,12,15,16,17,18] [] zdw (by exact (lw_e (dg 51 pD (lwn 2 (ly [.own zP 85 12 [] vc.1,kI k] (zhA rfl zkC.el (zda _ _ _ _ _) p6) rfl (lwn 5 (ly [.own zP 85 11 [] rv.1,kI i] (zhA rfl zkC.el (zda _ _ _ _ _) up) rfl l0))))))) (zS lzz)
     refine zQ ?_;cases h;exact jy
    cases h;exact zan rfl lzz
   refine zaQ _ rfl (jb h fun g2 pG h=>jn (.N [0,1,9,12,15,16] [] [(107,kB g2)] []) ?_ (zdn ?_))
   ·refine jb pG fun x5 ui pG=>?_;rcases zfi pG with ⟨pF,pG⟩| ⟨pF,pG⟩
    ·rcases zfi pG with ⟨pJ,pG⟩| ⟨pJ,pG⟩
     ·refine jb pG fun x6 uv pG=>jb pG fun x7 uE pG=>jb pG fun x8 uF pG=>?_;rcases zfi pG with ⟨pM,pG⟩| ⟨pM,pG⟩
      ·refine jb pG fun x9 uV pG=>jb pG fun x10 uW pG=>jb pG fun x11 uX pG=>?_;cases pG;exact jd [0,1,9,12,15,16,107] [] zdw (by exact (lwn 2 (ly [.own zP 85 11 [] rv.1,kI i] (zhA rfl zkC.el (zda _ _ _ _ _) ui) rfl (lwn 3 (dg 72 pF (lwn 2 (dg 75 pJ (lwn 2 (di [0] zdS.el uv (lw_e (lx (ldl zf [0] x6 1 za x6.Fields) (lwn 2 (ly [.own zP 85 11 [] rv.1,kI i] (zhA rfl zkC.el (zda _ _ _ _ _) uE) rfl (lwn 2 (di [0] zgq.el uF (lwn 4 (dg 91 pM (lwn 2 (di [0] zdS.el uV (lw_e (lx (ldl zf [0] x9 1 za x9.Fields) (lwn 2 (ly [.own zP 85 11 [] rv.1,kI i] (zhA rfl zkC.el (zda _ _ _ _ _) uW) rfl (lwn 2 (di [0] zgq.el uX l0))))))))))))))))))))))))) (zS lzz)
      cases pG;exact jd [0,1,9,12,15,16,107] [] zdw (by exact (lwn 2 (ly [.own zP 85 11 [] rv.1,kI i] (zhA rfl zkC.el (zda _ _ _ _ _) ui) rfl (lwn 3 (dg 72 pF (lwn 2 (dg 75 pJ (lwn 2 (di [0] zdS.el uv (lw_e (lx (ldl zf [0] x6 1 za x6.Fields) (lwn 2 (ly [.own zP 85 11 [] rv.1,kI i] (zhA rfl zkC.el (zda _ _ _ _ _) uE) rfl (lwn 2 (di [0] zgq.el uF (lwn 4 (dg 91 pM l0))))))))))))))))) (zS lzz)
     cases pG;exact jd [0,1,9,12,15,16,107] [] zdw (by exact (lwn 2 (ly [.own zP 85 11 [] rv.1,kI i] (zhA rfl zkC.el (zda _ _ _ _ _) ui) rfl (lwn 3 (dg 72 pF (lwn 2 (dg 75 pJ l0))))))) (zS lzz)
    cases pG;exact jd [0,1,9,12,15,16,107] [] zdw (by exact (lwn 2 (ly [.own zP 85 11 [] rv.1,kI i] (zhA rfl zkC.el (zda _ _ _ _ _) ui) rfl (lwn 3 (dg 72 pF l0))))) (zS lzz)
   refine jI h ?_ ?_<;>intro pP h
   ·refine jp (zQ ?_);cases h;exact jy
   refine zQ ?_;cases h;exact jy
  cases h;exact zan rfl lzz
 refine zaQ _ rfl (jp ?_);obtain rfl:=(sj h);exact zy lzz
end Go.Proofs.YtnckiilakdkklaaGreat

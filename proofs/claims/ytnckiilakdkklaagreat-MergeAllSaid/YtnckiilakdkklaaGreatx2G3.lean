/-
  The Go functions do what the plain functions say. No condition.
-/
import Derived.Test.YtnckiilakdkklaaGreatx2G2
set_option autoImplicit true
set_option relaxedAutoImplicit true
namespace Go.Proofs.YtnckiilakdkklaaGreat
open Go.IntKind (i64)
open Tryz
open Go Go.RowKit
set_option linter.unusedVariables false
set_option maxRecDepth 100000
set_option maxHeartbeats 3200000
theorem ziD (h:zcd c m=some r):zff prog 90 [.ag [kI c.size,.sl u9 [0] c.kinds,.om zu Rp.bool 2 [0] c.names,.om zv Rp.bool 3 [0] c.numbers],.rc zf [0] m] [kI r.1] [.ag [.any,.any,.om zu Rp.bool 2 [0] r.2.1,.om zv Rp.bool 3 [0] r.2.2],.any]:=by
 refine zgH (E:=⟨[(0,.ag [.any,.any,.om zu Rp.bool 2 [0] r.2.1,.om zv Rp.bool 3 [0] r.2.2]),(4,kI r.1)],[]⟩) 27 [0] func90 rfl rfl rfl ⟨rfl,trivial⟩ ⟨.inr ⟨rfl,rfl⟩,.inl rfl,trivial⟩ rfl (fun Xt old=>?_);refine zcH ?_;unfold zcd at h;refine jr (ral 1 [11] [.rc zf [0] m] rfl (zfH 12 (zC [0] m) [0] rfl rfl rfl rfl rfl) rfl rf) (jr (rc 2 rfl (zD (r:=zu) [kI (-1),kS m.Name] [] (⟨(-1),m.Name⟩:zk) rfl zyQ rfl rfl) (rfl' [13])) (zr (jb h fun rv pE h=>jr (rl 2 [1] 12 call116 (ziE pE) rf) (jI h ?_ ?_))))<;>intro pA h
 ·refine jp ?_;cases h;exact zee lw
 refine jr (lb 2 zu [] (⟨(-1),m.Name⟩:zk) (ra 0 [.om zu Rp.bool 2 [0] c.names,.rc zu [] (⟨(-1),m.Name⟩:zk)] rfl (zmk (rk:=zu) (rv:=Rp.bool) (m:=c.names) (k:=(⟨(-1),m.Name⟩:zk)) (kB ((mget c.names (⟨(-1),m.Name⟩:zk)).getD false)) rfl zon (zbA rfl) (zog rfl rfl rfl)) rfl rf)) (jI h ?_ ?_)<;>intro pB h
 ·refine jp ?_;cases h;exact zee lw
 refine jp (jI h ?_ ?_)<;>intro pD h
 ·refine jp ?_;cases h;exact zee lw
 refine zQ (jr (lb 2 zu [] (⟨(-1),m.Name⟩:zk) (rms (C1:=[]) 0 [] 2 [0] c.names (⟨(-1),m.Name⟩:zk) true [0] zon (zbA rfl) (zcr rfl rfl) rf)) (jp ?_));cases h;exact zee lw
theorem zke (h:zeS k=some r):va 128 [kI k] [kB r]:=by
 refine fi 16 func128 fun Xt=>?_
 unfold zeS at h;refine jp (jb h fun rv pE h=>jr (rl 1 [1] 9 call129 (zmc pE) rf) (jg [] [] [(2,kB ((rv.2==0)&&(rv.1 !=2)))] ?_ ?_))
 ·refine (rsl 3 [] 12 (rv.2==0) ?_ ?_)<;>intro pA
  · exact (rbl [] 2 (rv.1 !=2) rfl (by grind))
  exact (rbl [] 2 false rfl (by grind))
 cases h;exact zy lzz
theorem ztZ (h:zku b=some r):va 96 [.sl Rp.byte [0] b] [.rc zde [] r.1,kI r.2.1,k8 r.2.2]:=by
 refine fj ⟨[(2,.ptr 2 0),(3,kI r.2.1),(4,k8 r.2.2)],[⟨2,188,[kI r.1.Number,kI r.1.Wire]⟩]⟩ 35 func96 ⟨⟨_,_,rfl,rfl,rfl,rfl,zAW⟩,rfl,rfl,trivial⟩ fun Xt=>?_
 unfold zku at h;refine jq [12] (jb h fun rv pE h=>jr (rl 1 [0] 11 call123 (zhh pE) rf) (jp (jI h ?_ ?_)))<;>intro pA h
 ·refine jr (rc 0 rfl (zD (r:=zde) [] [] (⟨0,0⟩:zal) rfl zvg rfl rfl) rf) ?_;cases h;exact zy (lks [12] [(12,2)] lzz)
 refine jr (ra 1 [kU rv.1,kU 3] rfl (zgt rfl rfl) rfl rf) (jr (rc 5 rfl (zD (r:=zde) [kI (i64.wrap (if (536870912:Int)<(shrI .u64 rv.1 3) then 536870912 else (shrI .u64 rv.1 3))),kI (i64.wrap (andI .u64 rv.1 7))] [] (⟨(i64.wrap (if (536870912:Int)<(shrI .u64 rv.1 3) then 536870912 else (shrI .u64 rv.1 3))),(i64.wrap (andI .u64 rv.1 7))⟩:zal) rfl zvg rfl rfl) (rfl' [13])) (jb h fun vc pI h=>jr (lb 0 zde [] (⟨(i64.wrap (if (536870912:Int)<(shrI .u64 rv.1 3) then 536870912 else (shrI .u64 rv.1 3))),(i64.wrap (andI .u64 rv.1 7))⟩:zal) (rl 0 [1] 12 call124 (zsE pI) rf)) (jI h ?_ ?_)))<;>intro pB h
 ·refine jr (rc 0 rfl (zD (r:=zde) [] [] (⟨0,0⟩:zal) rfl zvg rfl rfl) rf) ?_;cases h;exact zy (lks [12] [(12,2)] lzz)
 refine jr (lb 0 zde [] (⟨(i64.wrap (if (536870912:Int)<(shrI .u64 rv.1 3) then 536870912 else (shrI .u64 rv.1 3))),(i64.wrap (andI .u64 rv.1 7))⟩:zal) rf) ?_;cases h;exact zy (lks [12] [(12,2)] lzz)
theorem zpH (h:zgk wire b=some r):va 97 [kI wire,.sl Rp.byte [0] b] [kI r.1,kI r.2.1,k8 r.2.2]:=by
 refine fi 45 func97 fun Xt=>?_
 unfold zgk at h;refine jp (jp (jp (zr (jp (jI h ?_ ?_)))))<;>intro pA h
 ·refine jb h fun rv pE h=>jr (rl 1 [0] 9 call125 (zkz pE) rf) ?_;cases h;exact jz
 refine jp (jb h fun p pZ h=>jn (.N [1] [] [(4,kI p.1),(6,k8 p.2.1),(7,kU p.2.2)] []) ?_ ?_)
 ·replace h:=pZ;refine jI h ?_ ?_<;>intro pB h
  ·cases h;exact jy
  refine jp (jI h ?_ ?_)<;>intro pD h
  ·cases h;exact jy
  refine jp (jI h ?_ ?_)<;>intro pF h
  ·refine jb h fun vc pI h=>jr (rl 1 [0] 9 call123 (zhh pI) rf) ?_;cases h;exact zS lzz
  cases h;exact zS lzz
 refine zdn (zQ (jp (jI h ?_ ?_)))<;>intro pJ h
 ·cases h;exact jz
 refine jp (jI h ?_ ?_)<;>intro pM h
 ·cases h;exact jz
 cases h;exact jz
theorem zqD (h:zhi m p9=some r):va 98 [.rc zf [0] m,kI p9] [kI r]:=by
 refine fi 9 func98 fun Xt=>?_
 unfold zhi at h;refine jr (ra 0 [.rc zf [0] m] rfl (zfH 11 (zC [0] m) [0] rfl rfl rfl rfl rfl) rfl (rfl' [912700])) (jb h fun rv pE h=>jr (ra 2 [.ptr 912700 0] rfl (zzO (g:=127) [.tmp 3] [⟨912700,3,[kI p9]⟩] [.ep u9 [912700] p9 0] rfl ⟨⟨rfl,rfl,rfl⟩,trivial⟩ rfl) rfl (rl 0 [0,912700] 10 call126 (zce pE) rf)) ?_);obtain rfl:=(sj h);exact zy lzz
theorem zsK (h:ziN k wire=some r):va 100 [kI k,kI wire] [kB r]:=by
 refine fi 19 func100 fun Xt=>?_
 unfold ziN at h;refine jp (jb h fun rv pE h=>jr (rl 1 [1] 9 call129 (zmc pE) rf) (jg [] [] [(4,kB ((rv.2==0)&&(rv.1==wire)))] ?_ ?_))
 ·refine (rsl 3 [] 14 (rv.2==0) ?_ ?_)<;>intro pA
  · exact (rbl [] 4 (rv.1==wire) rfl (by grind))
  exact (rbl [] 4 false rfl (by grind))
 cases h;exact zy lzz
theorem zqu (h:zgU k wv=some r):va 140 [kI k,kU wv] [kU r.1,k8 r.2]:=by
 refine fi 34 func140 fun Xt=>?_
 unfold zgU at h;refine jp (jp (zr (jp (jb h fun p pZ h=>jn (.N [1,6] [] [(7,kB p)] []) ?_ ?_))))
 ·replace h:=pZ;refine jI h ?_ ?_<;>intro pA h
  ·cases h;exact zS lzz
  cases h;exact jy
 refine zdn (jI h ?_ ?_)<;>intro pB h
 ·refine jb h fun rv pE h=>jb h fun vc pI h=>jr (rl 1 [1] 9 call153 (zoG pE) (rl 0 [1] 9 call152 (zoH pI) rf)) ?_;cases h;exact zy lzz
 refine jp (jb h fun p2 uo h=>jn (.N [1,6] [] [(13,kB p2)] []) ?_ ?_)
 ·replace h:=uo;refine jI h ?_ ?_<;>intro pD h
  ·cases h;exact zS lzz
  refine jp (jI h ?_ ?_)<;>intro pF h
  ·cases h;exact zS lzz
  refine jp (jI h ?_ ?_)<;>intro pJ h
  ·cases h;exact zS lzz
  refine jp (jI h ?_ ?_)<;>intro pM h
  ·cases h;exact zS lzz
  cases h;exact jy
 refine zdn (jI h ?_ ?_)<;>intro pP h
 ·refine jb h fun vh pQ h=>jr (rl 1 [1] 9 call154 (zla pQ) rf) ?_;cases h;exact zy lzz
 refine jp (jI h ?_ ?_)<;>intro pS h
 ·refine jb h fun rv4 pY h=>jr (rl 1 [1] 9 call155 (zqv pY) rf) ?_;cases h;exact zy lzz
 refine jp (jb h fun p3 uD h=>jn (.n ⟨[(1,kU wv),(26,kB p3)],[]⟩) ?_ ?_)
 ·replace h:=uD;refine jI h ?_ ?_<;>intro pV h
  ·cases h;exact zS lzz
  refine jp (jI h ?_ ?_)<;>intro pT h
  ·cases h;exact zS lzz
  refine jp (jI h ?_ ?_)<;>intro ue h
  ·cases h;exact zS lzz
  refine jp (jI h ?_ ?_)<;>intro pX h
  ·cases h;exact zS lzz
  refine jp (jI h ?_ ?_)<;>intro uc h
  ·cases h;exact zS lzz
  cases h;exact jy
 refine zdn (jI h ?_ ?_)<;>intro uf h
 ·cases h;exact jz
 refine zQ ?_;cases h;exact jz
theorem zsw {wide:Int} (h:ziB wide b=some r):va 138 [kI wide,.sl Rp.byte [0] b] [kI r.1,k8 r.2]:=by
 refine fi 19 func138 fun Xt=>?_
 unfold ziB at h;refine jp (zr (jp (jI h ?_ ?_)))<;>intro pA h
 ·refine jb h fun rv pE h=>jr (rl 1 [0] 9 call125 (zkz pE) rf) ?_;cases h;exact zy lzz
 refine jp (jI h ?_ ?_)<;>intro pB h
 ·cases h;exact jz
 refine zQ ?_;cases h;exact jz
theorem zuh (h:zkw b=some r):va 156 [.sl Rp.byte [0] b] [kI r.1,kI r.2]:=by
 refine fi 20 func156 fun Xt=>?_
 unfold zkw at h;refine jp (jb h fun rv pE h=>jr (rl 1 [0] 9 call158 (znQ pE) rf) (zr (jb h fun q pL h=>jL pL [0] [] (fun s=>[(2,kI s.1),(3,kI s.2.1),(4,kI s.2.2)]) (fun o=> .x 0 ⟨[(2,kI o.1),(3,kI o.2)],[]⟩) ?_ lzz ?_)))
 ·clear h;intro s o h;obtain ⟨vf,points,size⟩:=s;replace h:zen b vf points size=some o:=h;unfold zen at h;refine jp (jI h ?_ ?_)<;>intro pA h
  ·refine zr (jp (jp (zQ (jb h fun v ud h=>jb h fun vc pI h=>jr (ra 2 [.sl Rp.byte [0] b,kI (i64.wrap (vf+size))] rfl (zgX (some (kI (i64.wrap (vf+size)))) none rfl zcq.el (zdb _ _ _) ⟨rfl,rfl⟩ ⟨rfl,rfl⟩ ud) rfl (rl 0 [0] 10 call158 (znQ pI) rf)) ?_))));cases h;exact zS lzz
  cases h;exact zan rfl lzz
 refine zaQ _ rfl ?_;cases h;exact jz
theorem zjy (h:zcC sv=some r):va 62 [.sl zf [0] sv] [kI r.1,kI r.2.1,kI r.2.2]:=by
 refine fi 80 func62 fun Xt=>?_
 unfold zcC at h;refine jp (jg [0] [] [(17,kB (((sv.length:Int)==0)|| (decide ((sv.length:Int)>100))))] ?_ ?_)
 ·refine (rsl 4 [] 13 ((sv.length:Int)==0) ?_ ?_)<;>intro pA
  · exact (rbl [] 17 true rfl (by grind))
  exact (rbl [] 17 (decide ((sv.length:Int)>100)) rfl (by grind))
 refine jI h ?_ ?_<;>intro pB h
 ·cases h;exact jz
 refine jp (zr (jb h fun q3 uS h=>jL uS [0] [] (fun s=>[(5,kI s)]) (fun| (.inl v_)=> .x 0 ⟨[],[]⟩| (.inr v_)=> .r ⟨[(2,kI v_.1),(3,kI v_.2.1),(4,kI v_.2.2)],[]⟩) ?_ lzz ?_))
 ·clear h;intro i o h;unfold zaI at h;refine jp (jI h ?_ ?_)<;>intro pD h
  ·refine zr (jp (jp (zr (jb h fun q pL h=>jL pL [0,5] [] (fun s=>[(6,kB s.1),(7,kI s.2)]) (fun o=> .X 2 [0,5] [] [(6,kB o)] []) ?_ lzz ?_))))
   ·clear h;intro s o h;obtain ⟨twice,k⟩:=s;replace h:zaJ i sv twice k=some o:=h;unfold zaJ at h;refine jp (jI h ?_ ?_)<;>intro pF h
    ·refine zr (jb h fun g pC h=>jn (.N [0,5,7] [] [(6,kB g)] []) ?_ (zdn ?_))
     ·rcases zfi pC with ⟨pJ,pC⟩| ⟨pJ,pC⟩
      ·cases pC;exact jd [0,5,6,7] [] zdw (by exact (lw_e (dg 29 pJ l0))) (zS lzz)
      refine jb pC fun x pN pC=>jb pC fun x2 pR pC=>?_;cases pC;exact jd [0,5,6,7] [] zdw (by exact (lw_e (dg 29 pJ (lwn 2 (di [0] zdS.el pN (lwn 4 (di [0] zdS.el pR l0))))))) (zS lzz)
     refine zQ ?_;cases h;exact jy
    cases h;exact zan rfl lzz
   refine zaQ _ rfl (jb h fun x3 p6 h=>jb h fun rv pE h=>jr (rx 2 [0] zdS.el p6 rfl rfl (rl 2 [1] 11 call77 (zgb pE) rf)) (jI h ?_ ?_))<;>intro pM h
   ·cases h;exact jz'
   refine jp (jI h ?_ ?_)<;>intro pP h
   ·cases h;exact jz'
   refine jb h fun x4 up h=>jr (rx 2 [0] zdS.el up rfl rfl (rc 1 rfl (ldl zf [0] x4 1 za x4.Fields) rf)) (jI h ?_ ?_)<;>intro pS h
   ·cases h;exact jz'
   refine jp (zr (jb h fun q2 p8 h=>jL p8 [0,5] [] (fun s=>[(8,kI s)]) (fun| (.inl v_)=> .X 4 [0,5] [] [] []| (.inr v_)=> .r ⟨[(2,kI i),(3,kI v_.1),(4,kI v_.2)],[]⟩) ?_ lzz ?_))
   ·clear h;intro k2 o h;unfold zaK at h;refine jb h fun x5 ui h=>jr (rx 3 [0] zdS.el ui rfl rfl (rc 1 rfl (ldl zf [0] x5 1 za x5.Fields) rf)) (jI h ?_ ?_)<;>intro pV h
    ·refine zr (jb h fun vc pI h=>jr (rl 3 [0] 12 call78 (zjz pI) rf) (jp (jI h ?_ ?_)))<;>intro pT h
     ·cases h;exact jz'
     refine zQ ?_;cases h;exact jy
    cases h;exact zan rfl lzz
   rcases q2 with u| u2
   ·refine zaQ _ rfl (zQ ?_);cases h;exact jy
   cases h;exact zsc lzz
  cases h;exact zan rfl lzz
 rcases q3 with u3| u4
 ·refine zaQ _ rfl ?_;cases h;exact jz
 cases h;exact zdo lzz
theorem zjT (h:zch b pK=some r):va 63 [.sl Rp.byte [0] b,kI pK] [.rc zq [] r.1,kI r.2]:=by
 refine fj ⟨[(4,.ptr 2 0),(5,kI r.2)],[⟨2,83,(zev r.1)⟩]⟩ 108 func63 ⟨⟨_,_,rfl,rfl,rfl,rfl,zBV⟩,rfl,trivial⟩ fun Xt=>?_
 unfold zch at h;refine jq [12] (jg [0,1,4] [12] [(26,kB ((decide (pK<0))|| (decide (pK>=(b.length:Int)))))] ?_ ?_)
 ·refine (rsl 3 [] 21 (decide (pK<0)) ?_ ?_)<;>intro pA
  · exact (rbl [] 26 true rfl (by grind))
  exact (rbl [] 26 (decide (pK>=(b.length:Int))) rfl (by grind))
 refine jI h ?_ ?_<;>intro pB h
 ·refine jr (rc 0 rfl (zD (r:=zq) [] [] (⟨0,0,0,0,0⟩:zg) rfl zpY rfl rfl) rf) ?_;cases h;exact zy (lks [12] [(12,2)] lzz)
 refine jb h fun rv pE h=>jr (rl 2 [0] 11 call79 (zjR pE) rf) (jp (jI h ?_ ?_))<;>intro pD h
 ·refine jr (rc 0 rfl (zD (r:=zq) [] [] (⟨0,0,0,0,0⟩:zg) rfl zpY rfl rfl) rf) ?_;cases h;exact zy (lks [12] [(12,2)] lzz)
 refine jr (rc 6 rfl (zD (r:=zq) [kI rv.1,kI rv.2.1,kI pK,kI (i64.wrap (pK+rv.2.2.1))] [] (⟨rv.1,rv.2.1,pK,(i64.wrap (pK+rv.2.2.1)),0⟩:zg) rfl zpY rfl rfl) (rfl' [13])) (jp (jp (jp (jb h fun p pZ h=>jn (.N [0,4,7,10,11] [12,13] [(12,kI p)] []) ?_ ?_))))
 ·replace h:=pZ;refine jI h ?_ ?_<;>intro pF h
  ·cases h;exact jy
  cases h;exact zS lzz
 refine zdn (jp (jb h fun p2 uo h=>jn (match p2 with| (.inl v_)=> .N [0,4,7,10,11] [12,13] [(12,kI v_)] []| (.inr v_)=> .r ⟨[(4,.ptr 12 0),(5,kI v_)],[⟨12,83,[kI 0,kI 0,kI 0,kI 0,kI 0]⟩]⟩) ?_ ?_))
 ·replace h:=uo;refine jI h ?_ ?_<;>intro pJ h
  ·refine jb h fun vc pI h=>jr (rl 3 [0] 12 call59 (zcT pI) rf) (jp (jI h ?_ ?_))<;>intro pM h
   ·refine jr (rc 0 rfl (zD (r:=zq) [] [] (⟨0,0,0,0,0⟩:zg) rfl zpY rfl rfl) rf) ?_;cases h;exact zy lzz
   cases h;exact jy
  cases h;exact zS lzz
 rcases p2 with u| u4
 ·refine zdn (jp (jb h fun p3 uD h=>jn (match p3 with| (.inl v_)=> .N [4,10] [12] [(11,kI v_.1),(12,kI v_.2.1)] [⟨13,83,[kI rv.1,kI rv.2.1,kI pK,kI v_.2.2,kI 0]⟩]| (.inr v_)=> .r ⟨[(4,.ptr 12 0),(5,kI v_)],[⟨12,83,[kI 0,kI 0,kI 0,kI 0,kI 0]⟩]⟩) ?_ ?_))
  ·replace h:=uD;refine jI h ?_ ?_<;>intro pP h
   ·refine jb h fun vh pQ h=>jr (rl 3 [0] 12 call59 (zcT pQ) rf) (jp (jI h ?_ ?_))<;>intro pS h
    ·refine jr (rc 0 rfl (zD (r:=zq) [] [] (⟨0,0,0,0,0⟩:zg) rfl zpY rfl rfl) rf) ?_;cases h;exact zy lzz
    refine jp (jp (jp (jI h ?_ ?_)))<;>intro pV h
    ·refine jr (rc 0 rfl (zD (r:=zq) [] [] (⟨0,0,0,0,0⟩:zg) rfl zpY rfl rfl) rf) ?_;cases h;exact zy lzz
    cases h;exact jy
   cases h;exact zS lzz
  rcases p3 with u2| u3
  ·refine zdn (jp (jI h ?_ ?_))<;>intro pT h
   ·refine jr (rc 0 rfl (zD (r:=zq) [] [] (⟨0,0,0,0,0⟩:zg) rfl zpY rfl rfl) rf) ?_;cases h;exact zy (lks [12] [(12,2)] lzz)
   refine jp (jr (lb 0 zq [] (⟨rv.1,rv.2.1,pK,u2.2.2,(i64.wrap (u2.2.2+u2.2.1))⟩:zg) rf) ?_);cases h;exact zy (lks [12] [(12,2)] lzz)
  cases h;exact zdo (lks [12] [(12,2)] lzz)
 cases h;exact zdo (lks [12] [(12,2)] lzz)
theorem zjw (h:zcB b most=some r):va 65 [.sl Rp.byte [0] b,kI most] [kI r.1,kI r.2]:=by
 refine fi 28 func65 fun Xt=>?_
 unfold zcB at h;refine jp (jp (zr (jb h fun q pL h=>jL pL [0,1] [] (fun s=>[(6,kI s.1),(7,kI s.2)]) (fun o=> .r ⟨[(4,kI o.1),(5,kI o.2)],[]⟩) ?_ lzz ?_)))
 ·clear h;intro s o h;obtain ⟨vf,count⟩:=s;replace h:zaG b most vf count=some o:=h;unfold zaG at h;refine zr (jb h fun rv pE h=>jr (rl 2 [0] 10 call80 (zjS pE) rf) (jg [0,1,6,7,8] [] [(20,kB ((rv==0)|| (decide ((i64.wrap (vf+rv))>most))))] ?_ ?_))
  ·refine (rsl 3 [] 14 (rv==0) ?_ ?_)<;>intro pA
   · exact (rbl [] 20 true rfl (by grind))
   exact (rbl [] 20 (decide ((i64.wrap (vf+rv))>most)) rfl (by grind))
  refine jI h ?_ ?_<;>intro pB h
  ·cases h;exact jz'
  refine jp (jp (zQ ?_));cases h;exact zS lzz
 cases h;exact zdo lzz
end Go.Proofs.YtnckiilakdkklaaGreat

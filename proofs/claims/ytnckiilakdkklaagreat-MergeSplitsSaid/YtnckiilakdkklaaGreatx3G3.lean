/-
  The Go functions do what the plain functions say. No condition.
-/
import Derived.Test.YtnckiilakdkklaaGreatx3G2
set_option autoImplicit true
set_option relaxedAutoImplicit true
namespace Go.Proofs.YtnckiilakdkklaaGreat
open Go.IntKind (i64)
open Tryz
open Go Go.RowKit
set_option linter.unusedVariables false
set_option maxRecDepth 100000
set_option maxHeartbeats 3200000
theorem zin (h:zbZ c m=some r):zeV prog 90 [.ag [kI c.size,.sl uU [0] c.kinds,.om zt Rp.bool 2 [0] c.names,.om zu Rp.bool 3 [0] c.numbers],.rc zf [0] m] [kI r.1] [.ag [.any,.any,.om zt Rp.bool 2 [0] r.2.1,.om zu Rp.bool 3 [0] r.2.2],.any]:=by
 refine zgy (E:=⟨[(0,.ag [.any,.any,.om zt Rp.bool 2 [0] r.2.1,.om zu Rp.bool 3 [0] r.2.2]),(4,kI r.1)],[]⟩) 27 [0] func90 rfl rfl rfl ⟨rfl,trivial⟩ ⟨.inr ⟨rfl,rfl⟩,.inl rfl,trivial⟩ rfl (fun Xt old=>?_);refine zcC ?_;unfold zbZ at h;refine jr (ral 1 [11] [.rc zf [0] m] rfl (zgR 12 (zD [0] m) [0] rfl rfl rfl rfl rfl) rfl rf) (jr (rc 2 rfl (zA (r:=zt) [kI (-1),kS m.Name] [] (⟨(-1),m.Name⟩:zk) rfl zyI rfl rfl) (rfl' [13])) (zr (jb h fun rv pB h=>jr (rl 2 [1] 12 call116 (zio pB) rf) (jI h ?_ ?_))))<;>intro py h
 ·refine jp ?_;cases h;exact zdS lw
 refine jr (lb 2 zt [] (⟨(-1),m.Name⟩:zk) (ra 0 [.om zt Rp.bool 2 [0] c.names,.rc zt [] (⟨(-1),m.Name⟩:zk)] rfl (zlZ (rk:=zt) (rv:=Rp.bool) (m:=c.names) (k:=(⟨(-1),m.Name⟩:zk)) (kB ((mget c.names (⟨(-1),m.Name⟩:zk)).getD false)) rfl zoc (zbx rfl) (znW rfl rfl rfl)) rfl rf)) (jI h ?_ ?_)<;>intro pz h
 ·refine jp ?_;cases h;exact zdS lw
 refine jp (jI h ?_ ?_)<;>intro pC h
 ·refine jp ?_;cases h;exact zdS lw
 refine zP (jr (lb 2 zt [] (⟨(-1),m.Name⟩:zk) (rms (C1:=[]) 0 [] 2 [0] c.names (⟨(-1),m.Name⟩:zk) true [0] zoc (zbx rfl) (zcp rfl rfl) rf)) (jp ?_));cases h;exact zdS lw
theorem zjP (h:zeI k=some r):uV 128 [kI k] [kB r]:=by
 refine fi 16 func128 fun Xt=>?_
 unfold zeI at h;refine jp (jb h fun rv pB h=>jr (rl 1 [1] 9 call129 (zlR pB) rf) (jg [] [] [(2,kB ((rv.2==0)&&(rv.1 !=2)))] ?_ ?_))
 ·refine (rsl 3 [] 12 (rv.2==0) ?_ ?_)<;>intro py
  · exact (rbl [] 2 (rv.1 !=2) rfl (by grind))
  exact (rbl [] 2 false rfl (by grind))
 cases h;exact zw lzz
theorem ztI (h:zkh b=some r):uV 96 [.sl Rp.byte [0] b] [.rc zdb [] r.1,kI r.2.1,k8 r.2.2]:=by
 refine fj ⟨[(2,.ptr 2 0),(3,kI r.2.1),(4,k8 r.2.2)],[⟨2,188,[kI r.1.Number,kI r.1.Wire]⟩]⟩ 35 func96 ⟨⟨_,_,rfl,rfl,rfl,rfl,zAI⟩,rfl,rfl,trivial⟩ fun Xt=>?_
 unfold zkh at h;refine jq [12] (jb h fun rv pB h=>jr (rl 1 [0] 11 call123 (zhc pB) rf) (jp (jI h ?_ ?_)))<;>intro py h
 ·refine jr (rc 0 rfl (zA (r:=zdb) [] [] (⟨0,0⟩:zak) rfl zuW rfl rfl) rf) ?_;cases h;exact zw (lks [12] [(12,2)] lzz)
 refine jr (ra 1 [kU rv.1,kU 3] rfl (zgm rfl rfl) rfl rf) (jr (rc 5 rfl (zA (r:=zdb) [kI (i64.wrap (if (536870912:Int)<(shrI .u64 rv.1 3) then 536870912 else (shrI .u64 rv.1 3))),kI (i64.wrap (andI .u64 rv.1 7))] [] (⟨(i64.wrap (if (536870912:Int)<(shrI .u64 rv.1 3) then 536870912 else (shrI .u64 rv.1 3))),(i64.wrap (andI .u64 rv.1 7))⟩:zak) rfl zuW rfl rfl) (rfl' [13])) (jb h fun uX pF h=>jr (lb 0 zdb [] (⟨(i64.wrap (if (536870912:Int)<(shrI .u64 rv.1 3) then 536870912 else (shrI .u64 rv.1 3))),(i64.wrap (andI .u64 rv.1 7))⟩:zak) (rl 0 [1] 12 call124 (zsn pF) rf)) (jI h ?_ ?_)))<;>intro pz h
 ·refine jr (rc 0 rfl (zA (r:=zdb) [] [] (⟨0,0⟩:zak) rfl zuW rfl rfl) rf) ?_;cases h;exact zw (lks [12] [(12,2)] lzz)
 refine jr (lb 0 zdb [] (⟨(i64.wrap (if (536870912:Int)<(shrI .u64 rv.1 3) then 536870912 else (shrI .u64 rv.1 3))),(i64.wrap (andI .u64 rv.1 7))⟩:zak) rf) ?_;cases h;exact zw (lks [12] [(12,2)] lzz)
theorem zpq (h:zgd wire b=some r):uV 97 [kI wire,.sl Rp.byte [0] b] [kI r.1,kI r.2.1,k8 r.2.2]:=by
 refine fi 45 func97 fun Xt=>?_
 unfold zgd at h;refine jp (jp (jp (zr (jp (jI h ?_ ?_)))))<;>intro py h
 ·refine jb h fun rv pB h=>jr (rl 1 [0] 9 call125 (zkn pB) rf) ?_;cases h;exact jz
 refine jp (jb h fun p pY h=>jn (.N [1] [] [(4,kI p.1),(6,k8 p.2.1),(7,kU p.2.2)] []) ?_ ?_)
 ·replace h:=pY;refine jI h ?_ ?_<;>intro pz h
  ·cases h;exact jy
  refine jp (jI h ?_ ?_)<;>intro pC h
  ·cases h;exact jy
  refine jp (jI h ?_ ?_)<;>intro pD h
  ·refine jb h fun uX pF h=>jr (rl 1 [0] 9 call123 (zhc pF) rf) ?_;cases h;exact zU lzz
  cases h;exact zU lzz
 refine zdW (zP (jp (jI h ?_ ?_)))<;>intro pG h
 ·cases h;exact jz
 refine jp (jI h ?_ ?_)<;>intro pJ h
 ·cases h;exact jz
 cases h;exact jz
theorem zqm (h:zhd m p5=some r):uV 98 [.rc zf [0] m,kI p5] [kI r]:=by
 refine fi 9 func98 fun Xt=>?_
 unfold zhd at h;refine jr (ra 0 [.rc zf [0] m] rfl (zgR 11 (zD [0] m) [0] rfl rfl rfl rfl rfl) rfl (rfl' [912700])) (jb h fun rv pB h=>jr (ra 2 [.ptr 912700 0] rfl (zzE (g:=127) [.tmp 3] [⟨912700,3,[kI p5]⟩] [.ep uU [912700] p5 0] rfl ⟨⟨rfl,rfl,rfl⟩,trivial⟩ rfl) rfl (rl 0 [0,912700] 10 call126 (zca pB) rf)) ?_);obtain rfl:=(sj h);exact zw lzz
theorem zsv (h:zix k wire=some r):uV 100 [kI k,kI wire] [kB r]:=by
 refine fi 19 func100 fun Xt=>?_
 unfold zix at h;refine jp (jb h fun rv pB h=>jr (rl 1 [1] 9 call129 (zlR pB) rf) (jg [] [] [(4,kB ((rv.2==0)&&(rv.1==wire)))] ?_ ?_))
 ·refine (rsl 3 [] 14 (rv.2==0) ?_ ?_)<;>intro py
  · exact (rbl [] 4 (rv.1==wire) rfl (by grind))
  exact (rbl [] 4 false rfl (by grind))
 cases h;exact zw lzz
theorem zqb (h:zgO k wv=some r):uV 140 [kI k,kU wv] [kU r.1,k8 r.2]:=by
 refine fi 34 func140 fun Xt=>?_
 unfold zgO at h;refine jp (jp (zr (jp (jb h fun p pY h=>jn (.N [1,6] [] [(7,kB p)] []) ?_ ?_))))
 ·replace h:=pY;refine jI h ?_ ?_<;>intro py h
  ·cases h;exact zU lzz
  cases h;exact jy
 refine zdW (jI h ?_ ?_)<;>intro pz h
 ·refine jb h fun rv pB h=>jb h fun uX pF h=>jr (rl 1 [1] 9 call153 (zor pB) (rl 0 [1] 9 call152 (zos pF) rf)) ?_;cases h;exact zw lzz
 refine jp (jb h fun p2 ug h=>jn (.N [1,6] [] [(13,kB p2)] []) ?_ ?_)
 ·replace h:=ug;refine jI h ?_ ?_<;>intro pC h
  ·cases h;exact zU lzz
  refine jp (jI h ?_ ?_)<;>intro pD h
  ·cases h;exact zU lzz
  refine jp (jI h ?_ ?_)<;>intro pG h
  ·cases h;exact zU lzz
  refine jp (jI h ?_ ?_)<;>intro pJ h
  ·cases h;exact zU lzz
  cases h;exact jy
 refine zdW (jI h ?_ ?_)<;>intro pN h
 ·refine jb h fun u9 pP h=>jr (rl 1 [1] 9 call154 (zkR pP) rf) ?_;cases h;exact zw lzz
 refine jp (jI h ?_ ?_)<;>intro pQ h
 ·refine jb h fun rv4 pX h=>jr (rl 1 [1] 9 call155 (zqc pX) rf) ?_;cases h;exact zw lzz
 refine jp (jb h fun p3 uy h=>jn (.n ⟨[(1,kU wv),(26,kB p3)],[]⟩) ?_ ?_)
 ·replace h:=uy;refine jI h ?_ ?_<;>intro pS h
  ·cases h;exact zU lzz
  refine jp (jI h ?_ ?_)<;>intro pT h
  ·cases h;exact zU lzz
  refine jp (jI h ?_ ?_)<;>intro p8 h
  ·cases h;exact zU lzz
  refine jp (jI h ?_ ?_)<;>intro pU h
  ·cases h;exact zU lzz
  refine jp (jI h ?_ ?_)<;>intro p6 h
  ·cases h;exact zU lzz
  cases h;exact jy
 refine zdW (jI h ?_ ?_)<;>intro p9 h
 ·cases h;exact jz
 refine zP ?_;cases h;exact jz
theorem zse {wide:Int} (h:zil wide b=some r):uV 138 [kI wide,.sl Rp.byte [0] b] [kI r.1,k8 r.2]:=by
 refine fi 19 func138 fun Xt=>?_
 unfold zil at h;refine jp (zr (jp (jI h ?_ ?_)))<;>intro py h
 ·refine jb h fun rv pB h=>jr (rl 1 [0] 9 call125 (zkn pB) rf) ?_;cases h;exact zw lzz
 refine jp (jI h ?_ ?_)<;>intro pz h
 ·cases h;exact jz
 refine zP ?_;cases h;exact jz
theorem ztQ (h:zkj b=some r):uV 156 [.sl Rp.byte [0] b] [kI r.1,kI r.2]:=by
 refine fi 20 func156 fun Xt=>?_
 unfold zkj at h;refine jp (jb h fun rv pB h=>jr (rl 1 [0] 9 call158 (znG pB) rf) (zr (jb h fun q pI h=>jL pI [0] [] (fun s=>[(2,kI s.1),(3,kI s.2.1),(4,kI s.2.2)]) (fun o=> .x 0 ⟨[(2,kI o.1),(3,kI o.2)],[]⟩) ?_ lzz ?_)))
 ·clear h;intro s o h;obtain ⟨u0,points,size⟩:=s;replace h:zec b u0 points size=some o:=h;unfold zec at h;refine jp (jI h ?_ ?_)<;>intro py h
  ·refine zr (jp (jp (zP (jb h fun v p7 h=>jb h fun uX pF h=>jr (ra 2 [.sl Rp.byte [0] b,kI (i64.wrap (u0+size))] rfl (zeZ (some (kI (i64.wrap (u0+size)))) none rfl zcd.el (zci _ _ _) ⟨rfl,rfl⟩ ⟨rfl,rfl⟩ p7) rfl (rl 0 [0] 10 call158 (znG pF) rf)) ?_))));cases h;exact zU lzz
  cases h;exact zap rfl lzz
 refine zaV _ rfl ?_;cases h;exact jz
theorem zjh (h:zcy sv=some r):uV 62 [.sl zf [0] sv] [kI r.1,kI r.2.1,kI r.2.2]:=by
 refine fi 80 func62 fun Xt=>?_
 unfold zcy at h;refine jp (jg [0] [] [(17,kB (((sv.length:Int)==0)|| (decide ((sv.length:Int)>100))))] ?_ ?_)
 ·refine (rsl 4 [] 13 ((sv.length:Int)==0) ?_ ?_)<;>intro py
  · exact (rbl [] 17 true rfl (by grind))
  exact (rbl [] 17 (decide ((sv.length:Int)>100)) rfl (by grind))
 refine jI h ?_ ?_<;>intro pz h
 ·cases h;exact jz
 refine jp (zr (jb h fun q3 uz h=>jL uz [0] [] (fun s=>[(5,kI s)]) (fun| (.inl v_)=> .x 0 ⟨[],[]⟩| (.inr v_)=> .r ⟨[(2,kI v_.1),(3,kI v_.2.1),(4,kI v_.2.2)],[]⟩) ?_ lzz ?_))
 ·clear h;intro i o h;unfold zaI at h;refine jp (jI h ?_ ?_)<;>intro pC h
  ·refine zr (jp (jp (zr (jb h fun q pI h=>jL pI [0,5] [] (fun s=>[(6,kB s.1),(7,kI s.2)]) (fun o=> .X 2 [0,5] [] [(6,kB o)] []) ?_ lzz ?_))))
   ·clear h;intro s o h;obtain ⟨twice,k⟩:=s;replace h:zaJ i sv twice k=some o:=h;unfold zaJ at h;refine jp (jI h ?_ ?_)<;>intro pD h
    ·refine zr (jb h fun g pA h=>jn (.N [0,5,7] [] [(6,kB g)] []) ?_ (zdW ?_))
     ·rcases zjK pA with ⟨pG,pA⟩| ⟨pG,pA⟩
      ·cases pA;exact jd [0,5,6,7] [] zeq (by exact (lw_e (dg 29 pG l0))) (zU lzz)
      refine jb pA fun x pL pA=>jb pA fun x2 pO pA=>?_;cases pA;exact jd [0,5,6,7] [] zeq (by exact (lw_e (dg 29 pG (lwn 2 (di [0] zeQ.el pL (lwn 4 (di [0] zeQ.el pO l0))))))) (zU lzz)
     refine zP ?_;cases h;exact jy
    cases h;exact zap rfl lzz
   refine zaV _ rfl (jb h fun x3 p4 h=>jb h fun rv pB h=>jr (rx 2 [0] zeQ.el p4 rfl rfl (rl 2 [1] 11 call77 (zfX pB) rf)) (jI h ?_ ?_))<;>intro pJ h
   ·cases h;exact jz'
   refine jp (jI h ?_ ?_)<;>intro pN h
   ·cases h;exact jz'
   refine jb h fun x4 uo h=>jr (rx 2 [0] zeQ.el uo rfl rfl (rc 1 rfl (ldl zf [0] x4 1 zb x4.Fields) rf)) (jI h ?_ ?_)<;>intro pQ h
   ·cases h;exact jz'
   refine jp (zr (jb h fun q2 pZ h=>jL pZ [0,5] [] (fun s=>[(8,kI s)]) (fun| (.inl v_)=> .X 4 [0,5] [] [] []| (.inr v_)=> .r ⟨[(2,kI i),(3,kI v_.1),(4,kI v_.2)],[]⟩) ?_ lzz ?_))
   ·clear h;intro k2 o h;unfold zaK at h;refine jb h fun x5 up h=>jr (rx 3 [0] zeQ.el up rfl rfl (rc 1 rfl (ldl zf [0] x5 1 zb x5.Fields) rf)) (jI h ?_ ?_)<;>intro pS h
    ·refine zr (jb h fun uX pF h=>jr (rl 3 [0] 12 call78 (zji pF) rf) (jp (jI h ?_ ?_)))<;>intro pT h
     ·cases h;exact jz'
     refine zP ?_;cases h;exact jy
    cases h;exact zap rfl lzz
   rcases q2 with u| u2
   ·refine zaV _ rfl (zP ?_);cases h;exact jy
   cases h;exact zrL lzz
  cases h;exact zap rfl lzz
 rcases q3 with u3| u4
 ·refine zaV _ rfl ?_;cases h;exact jz
 cases h;exact zdO lzz
theorem zjC (h:zce b pH=some r):uV 63 [.sl Rp.byte [0] b,kI pH] [.rc zq [] r.1,kI r.2]:=by
 refine fj ⟨[(4,.ptr 2 0),(5,kI r.2)],[⟨2,83,(zen r.1)⟩]⟩ 108 func63 ⟨⟨_,_,rfl,rfl,rfl,rfl,zBF⟩,rfl,trivial⟩ fun Xt=>?_
 unfold zce at h;refine jq [12] (jg [0,1,4] [12] [(26,kB ((decide (pH<0))|| (decide (pH>=(b.length:Int)))))] ?_ ?_)
 ·refine (rsl 3 [] 21 (decide (pH<0)) ?_ ?_)<;>intro py
  · exact (rbl [] 26 true rfl (by grind))
  exact (rbl [] 26 (decide (pH>=(b.length:Int))) rfl (by grind))
 refine jI h ?_ ?_<;>intro pz h
 ·refine jr (rc 0 rfl (zA (r:=zq) [] [] (⟨0,0,0,0,0⟩:zh) rfl zpH rfl rfl) rf) ?_;cases h;exact zw (lks [12] [(12,2)] lzz)
 refine jb h fun rv pB h=>jr (rl 2 [0] 11 call79 (zjA pB) rf) (jp (jI h ?_ ?_))<;>intro pC h
 ·refine jr (rc 0 rfl (zA (r:=zq) [] [] (⟨0,0,0,0,0⟩:zh) rfl zpH rfl rfl) rf) ?_;cases h;exact zw (lks [12] [(12,2)] lzz)
 refine jr (rc 6 rfl (zA (r:=zq) [kI rv.1,kI rv.2.1,kI pH,kI (i64.wrap (pH+rv.2.2.1))] [] (⟨rv.1,rv.2.1,pH,(i64.wrap (pH+rv.2.2.1)),0⟩:zh) rfl zpH rfl rfl) (rfl' [13])) (jp (jp (jp (jb h fun p pY h=>jn (.N [0,4,7,10,11] [12,13] [(12,kI p)] []) ?_ ?_))))
 ·replace h:=pY;refine jI h ?_ ?_<;>intro pD h
  ·cases h;exact jy
  cases h;exact zU lzz
 refine zdW (jp (jb h fun p2 ug h=>jn (match p2 with| (.inl v_)=> .N [0,4,7,10,11] [12,13] [(12,kI v_)] []| (.inr v_)=> .r ⟨[(4,.ptr 12 0),(5,kI v_)],[⟨12,83,[kI 0,kI 0,kI 0,kI 0,kI 0]⟩]⟩) ?_ ?_))
 ·replace h:=ug;refine jI h ?_ ?_<;>intro pG h
  ·refine jb h fun uX pF h=>jr (rl 3 [0] 12 call59 (zcQ pF) rf) (jp (jI h ?_ ?_))<;>intro pJ h
   ·refine jr (rc 0 rfl (zA (r:=zq) [] [] (⟨0,0,0,0,0⟩:zh) rfl zpH rfl rfl) rf) ?_;cases h;exact zw lzz
   cases h;exact jy
  cases h;exact zU lzz
 rcases p2 with u| u4
 ·refine zdW (jp (jb h fun p3 uy h=>jn (match p3 with| (.inl v_)=> .N [4,10] [12] [(11,kI v_.1),(12,kI v_.2.1)] [⟨13,83,[kI rv.1,kI rv.2.1,kI pH,kI v_.2.2,kI 0]⟩]| (.inr v_)=> .r ⟨[(4,.ptr 12 0),(5,kI v_)],[⟨12,83,[kI 0,kI 0,kI 0,kI 0,kI 0]⟩]⟩) ?_ ?_))
  ·replace h:=uy;refine jI h ?_ ?_<;>intro pN h
   ·refine jb h fun u9 pP h=>jr (rl 3 [0] 12 call59 (zcQ pP) rf) (jp (jI h ?_ ?_))<;>intro pQ h
    ·refine jr (rc 0 rfl (zA (r:=zq) [] [] (⟨0,0,0,0,0⟩:zh) rfl zpH rfl rfl) rf) ?_;cases h;exact zw lzz
    refine jp (jp (jp (jI h ?_ ?_)))<;>intro pS h
    ·refine jr (rc 0 rfl (zA (r:=zq) [] [] (⟨0,0,0,0,0⟩:zh) rfl zpH rfl rfl) rf) ?_;cases h;exact zw lzz
    cases h;exact jy
   cases h;exact zU lzz
  rcases p3 with u2| u3
  ·refine zdW (jp (jI h ?_ ?_))<;>intro pT h
   ·refine jr (rc 0 rfl (zA (r:=zq) [] [] (⟨0,0,0,0,0⟩:zh) rfl zpH rfl rfl) rf) ?_;cases h;exact zw (lks [12] [(12,2)] lzz)
   refine jp (jr (lb 0 zq [] (⟨rv.1,rv.2.1,pH,u2.2.2,(i64.wrap (u2.2.2+u2.2.1))⟩:zh) rf) ?_);cases h;exact zw (lks [12] [(12,2)] lzz)
  cases h;exact zdO (lks [12] [(12,2)] lzz)
 cases h;exact zdO (lks [12] [(12,2)] lzz)
theorem zjf (h:zcx b most=some r):uV 65 [.sl Rp.byte [0] b,kI most] [kI r.1,kI r.2]:=by
 refine fi 28 func65 fun Xt=>?_
 unfold zcx at h;refine jp (jp (zr (jb h fun q pI h=>jL pI [0,1] [] (fun s=>[(6,kI s.1),(7,kI s.2)]) (fun o=> .r ⟨[(4,kI o.1),(5,kI o.2)],[]⟩) ?_ lzz ?_)))
 ·clear h;intro s o h;obtain ⟨u0,count⟩:=s;replace h:zaG b most u0 count=some o:=h;unfold zaG at h;refine zr (jb h fun rv pB h=>jr (rl 2 [0] 10 call80 (zjB pB) rf) (jg [0,1,6,7,8] [] [(20,kB ((rv==0)|| (decide ((i64.wrap (u0+rv))>most))))] ?_ ?_))
  ·refine (rsl 3 [] 14 (rv==0) ?_ ?_)<;>intro py
   · exact (rbl [] 20 true rfl (by grind))
   exact (rbl [] 20 (decide ((i64.wrap (u0+rv))>most)) rfl (by grind))
  refine jI h ?_ ?_<;>intro pz h
  ·cases h;exact jz'
  refine jp (jp (zP ?_));cases h;exact zU lzz
 cases h;exact zdO lzz
end Go.Proofs.YtnckiilakdkklaaGreat

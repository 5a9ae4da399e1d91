/-
  The Go functions do what the plain functions say. No condition.
-/
import Derived.Test.YtnckiilakdkklaaGreatx3G1
import Derived.Test.YtnckiilakdkklaaGreatx3Y
set_option autoImplicit true
set_option relaxedAutoImplicit true
namespace Go.Proofs.YtnckiilakdkklaaGreat
open Go.IntKind (i64)
open Tryz
open Go Go.RowKit
set_option linter.unusedVariables false
set_option maxRecDepth 100000
set_option maxHeartbeats 3200000
theorem ztg (h:zjO=some r):uV 89 [] [.own uU 3 2 [] r]:=by
 refine fi 4 func89 fun Xt=>?_
 unfold zjO at h;refine jp (jb h fun rv pB h=>jb h fun v p7 h=>jr (rl 0 [1] 11 call115 (zkT pB) (rkl 0 [] ⟨[(1,.om uU zQ 13 [] rv)],[]⟩ (zyv (rv:=zQ) (m:=rv) 14 zyC rfl rfl rfl rfl rfl rfl call114 call52 rfl (zvv _ _ _ _ _) p7 rfl rf))) ?_);obtain rfl:=(sj h);exact zw (lks [] [(14,2)] lzz)
theorem zio (h:zdL uk=some r):uV 116 [kS uk] [kB r]:=by
 refine fi 34 func116 fun Xt=>?_
 unfold zdL at h;refine jp (jb h fun g pA h=>jg [0] [] [(15,kB g)] ?_ ?_)
 ·refine (rsI 3 6 pA ?_ ?_)<;>intro py pA
  ·cases pA;exact rgg
  refine (rsI 5 11 pA ?_ ?_)<;>intro pz pA
  ·cases pA;exact rgg
  refine jb pA fun c ur pA=>jb pA fun rv pB pA=>?_;cases pA;exact (ra 1 [kS uk,kI 0] rfl (zrR rfl underlying9 ur) rfl (rl 0 [1] 9 call142 (zhz pB) rgg))
 refine jI h ?_ ?_<;>intro pC h
 ·refine jp ?_;obtain rfl:=(sj h);exact zw lzz
 refine jp (zr (jb h fun q pI h=>jL pI [0,17] [] (fun s=>[(18,kI s)]) (fun| (.inl v_)=> .x 0 ⟨[],[]⟩| (.inr v_)=> .r ⟨[(2,kB false)],[]⟩) ?_ lzz ?_))
 ·clear h;intro v2 o h;unfold zbU at h;refine jp (jI h ?_ ?_)<;>intro pD h
  ·refine zr (jp (jb h fun g2 pK h=>jg [0,17,18] [] [(32,kB g2)] ?_ ?_))
   ·refine jb pK fun c2 uK pK=>jb pK fun uX pF pK=>(ra 2 [kS uk,kI v2] rfl (zrR rfl underlying9 uK) rfl (rl 0 [1] 10 call143 (zlw pF) (rsI 2 26 pK ?_ ?_)))<;>intro pG pK
    ·refine jb pK fun c3 uL pK=>jb pK fun u9 pP pK=>?_;cases pK;exact (ra 2 [kS uk,kI v2] rfl (zrR rfl underlying9 uL) rfl (rl 0 [1] 10 call142 (zhz pP) rgg))
    cases pK;exact rgg
   refine jI h ?_ ?_<;>intro pJ h
   ·cases h;exact jz'
   refine zP ?_;cases h;exact jy
  cases h;exact zap rfl lzz
 rcases q with u| u2
 ·refine zaV _ rfl (jp ?_);obtain rfl:=(sj h);exact zw lzz
 obtain rfl:=(sj h);exact zdO lzz
theorem zgh (h:zaX sv v=some r):uV 118 [.sl uU [0] sv,kI v] [kB r]:=by
 refine fi 9 func118 fun Xt=>?_
 unfold zaX at h;refine jp (jb h fun rv pB h=>jr (rl 2 [0] 9 call144 (zgY pB) rf) ?_);cases h;exact zw lzz
theorem zlR (h:zgA k=some r):uV 129 [kI k] [kI r.1,k8 r.2]:=by
 refine fi 16 func129 fun Xt=>?_
 unfold zgA at h;refine jp (jb h fun rv pB h=>jr (rl 0 [1] 9 call115 (zkT pB) (ra 1 [.om uU zQ 11 [] rv,kI k] rfl (zmU (rk:=uU) (rv:=zQ) (m:=rv) (k:=k) (.rc zQ [] ((mget rv k).getD (⟨[],0⟩:zj))) rfl zcH (zcp rfl rfl) (zrI rfl)) rfl (rfl' [12]))) (jp (jI h ?_ ?_)))<;>intro py h
 ·cases h;exact jz
 cases h;exact jz
theorem zsn (h:ziq t=some r):uV 124 [.rc zdb [0] t] [kB r]:=by
 refine fi 16 func124 fun Xt=>?_
 unfold ziq at h;refine jq [11] (jb h fun g pA h=>jg [] [] [(2,kB g)] ?_ ?_)
 ·refine (rsI 4 6 pA ?_ ?_)<;>intro py pA
  ·refine (rsI 5 11 pA ?_ ?_)<;>intro pz pA
   ·refine jb pA fun rv pB pA=>?_;cases pA;exact (rl 2 [1] 10 call146 (znm pB) rgg)
   cases pA;exact rgg
  cases pA;exact rgg
 obtain rfl:=(sj h);exact zw lzz
theorem zkn (h:zeO b=some r):uV 125 [.sl Rp.byte [0] b] [kI r.1,k8 r.2]:=by
 refine fi 15 func125 fun Xt=>?_
 unfold zeO at h;refine jp (jb h fun rv pB h=>jr (rl 1 [0] 9 call123 (zhc pB) rf) ?_);cases h;exact jz
theorem zca (h:zN sv v=some r):uV 126 [.sl zb [0] sv,.fv 127 [.ep uU [0] v 0]] [kI r]:=by
 refine fi 19 func126 fun Xt=>?_
 unfold zN at h;refine jp (jp (zr (jb h fun q pI h=>jL pI [0,1,7] [] (fun s=>[(8,kI s)]) (fun| (.inl v_)=> .x 0 ⟨[],[]⟩| (.inr v_)=> .r ⟨[(4,kI v_)],[]⟩) ?_ lzz ?_)))
 ·clear h;intro v2 o h;unfold zv at h;refine jp (jI h ?_ ?_)<;>intro py h
  ·refine zr (jp (jb h fun x pL h=>jb h fun rv pB h=>jr (rx 3 [0] zhD.el pL rfl rfl (rc 0 rfl (lde zb [0] x znq) (ra 0 [.fv 127 [.ep uU [0] v 0],.rc zb [0] x] rfl (zyc (args:=[.tmp 15]) [.rc zb [0] x] [0] 10 rfl (zzn _ _) call127 (znS pB) rfl rfl rfl rfl rfl) rfl rf))) (jI h ?_ ?_)))<;>intro pz h
   ·cases h;exact jz'
   refine zP ?_;cases h;exact jy
  cases h;exact zap rfl lzz
 rcases q with u| u2
 ·refine zaV _ rfl ?_;cases h;exact jz
 obtain rfl:=(sj h);exact zdO lzz
theorem zor (h:zfU wv=some r):uV 153 [kU wv] [.lf (.int .i32 r)]:=by
 refine fi 6 func153 fun Xt=>?_
 unfold zfU at h;refine jp (jb h fun rv pB h=>jr (rl 1 [1] 9 call154 (zkR pB) rf) ?_);cases h;exact zw lzz
theorem znG (h:ziu b=some r):uV 158 [.sl Rp.byte [0] b] [kI r]:=by
 refine fi 48 func158 fun Xt=>?_
 unfold ziu at h;refine jp (jp (jI h ?_ ?_))<;>intro py h
 ·cases h;exact jz
 refine jb h fun x pL h=>jb h fun rv pB h=>jr (rx 1 [0] zcd.el pL rfl rfl (rl 1 [1] 9 call159 (ztP pB) rf)) (jg [0,3,4] [] [(24,kB ((rv.1==0)|| (decide (rv.1>(b.length:Int)))))] ?_ ?_)
 ·refine (rsl 3 [] 19 (rv.1==0) ?_ ?_)<;>intro pz
  · exact (rbl [] 24 true rfl (by grind))
  exact (rbl [] 24 (decide (rv.1>(b.length:Int))) rfl (by grind))
 refine jI h ?_ ?_<;>intro pC h
 ·cases h;exact jz
 refine jb h fun v2 uh h=>jr (ra 2 [.sl Rp.byte [0] b,kI 1,kI rv.1] rfl (zeZ (some (kI 1)) (some (kI rv.1)) rfl zcd.el (zci _ _ _) ⟨rfl,rfl⟩ ⟨rfl,rfl⟩ uh) rfl rf) (zr (jb h fun q pI h=>jL pI [3,27,28] [] (fun s=>[(4,.lf (.int .u32 s.1)),(29,kI s.2)]) (fun| (.inl v_)=> .X 0 [3] [] [(4,.lf (.int .u32 v_))] []| (.inr v_)=> .r ⟨[(2,kI 0)],[]⟩) ?_ lzz ?_))
 ·clear h;intro s o h;obtain ⟨wv,v3⟩:=s;replace h:zdo v2 wv v3=some o:=h;unfold zdo at h;refine jp (jI h ?_ ?_)<;>intro pD h
  ·refine zr (jb h fun x2 pO h=>jr (rx 0 [0] zcd.el pO rfl rfl rf) (jr (ra 1 [k8 (x2.toNat:Int),kU 6] rfl (zgm rfl rfl) rfl rf) (jI h ?_ ?_)))<;>intro pG h
   ·cases h;exact jz'
   refine jr (ra 1 [.lf (.int .u32 wv),kU 6] rfl (zye rfl rfl) rfl rf) (zP ?_);cases h;exact jy
  cases h;exact zap rfl lzz
 rcases q with u| u2
 ·refine zaV _ rfl (jb h fun uX pF h=>jr (rl 2 [1] 10 call160 (ztO pF) rf) (jI h ?_ ?_))<;>intro pJ h
  ·cases h;exact jz
  cases h;exact jz
 cases h;exact zdO lzz
theorem zgg (h:zaW vj=some r):uV 25 [.sl (Rp.list Rp.byte) [0] vj] [.own Rp.byte 5 2 [] r]:=by
 refine fi 36 func25 fun Xt=>?_
 unfold zaW at h;refine jp (jp (jp (zr (jb h fun q pI h=>jL pI [0,9,10] [] (fun s=>[(3,kI s.1),(11,kI s.2)]) (fun o=> .X 0 [0] [] [(3,kI o)] []) ?_ lzz ?_))))
 ·clear h;intro s o h;obtain ⟨size,v⟩:=s;replace h:zV vj size v=some o:=h;unfold zV at h;refine jp (jI h ?_ ?_)<;>intro py h
  ·refine zr (jb h fun x pL h=>jr (rx 0 [0] zza.el pL rfl rfl (rc 0 rfl (ldl (Rp.list Rp.byte) [0] x 0 Rp.byte x) rf)) (jp (jp (jI h ?_ ?_))))<;>intro pz h
   · exact absurd h nofun
   refine zP ?_;cases h;exact jy
  cases h;exact zap rfl lzz
 refine zaV _ rfl (jb h fun rv pB h=>jr (rl 1 [1] 12 call45 (zgw pB) rf) (jp (zr (jb h fun q2 pZ h=>jL pZ [25,26] [] (fun s=>[(6,.own Rp.byte 5 14 [] s.1),(27,kI s.2)]) (fun o=> .x 2 ⟨[(6,.own Rp.byte 5 14 [] o)],[]⟩) ?_ lzz ?_))))
 ·clear h;intro s o h;obtain ⟨vl,v2⟩:=s;replace h:zW vj vl v2=some o:=h;unfold zW at h;refine jp (jI h ?_ ?_)<;>intro pC h
  ·refine zr (jb h fun x2 pO h=>jr (rx 0 [0] zza.el pO rfl rfl (rc 0 rfl (ldl (Rp.list Rp.byte) [0] x2 0 Rp.byte x2) rf)) (jb h fun v3 pV h=>jr (rc 2 rfl (las 14 [] [0] [] zcd.el pV (.inl zuJ)) rf) (zP ?_)));cases h;exact jy
  cases h;exact zap rfl lzz
 refine zaV _ rfl (jp ?_);obtain rfl:=(sj h);exact zw (lks [] [(14,2)] lzz)
theorem zji (h:zcz sv i k=some r):uV 78 [.sl zf [0] sv,kI i,kI k] [kI r]:=by
 refine fi 119 func78 fun Xt=>?_
 unfold zcz at h;refine jp (jb h fun x pL h=>jb h fun x2 pO h=>jr (rx 2 [0] zeQ.el pL rfl rfl (rc 1 rfl (ldl zf [0] x 1 zb x.Fields) (rx 1 [0] zhD.el pO rfl rfl (rc 0 rfl (lde zb [0] x2 znq) (rfl' [11]))))) (jp (jp (zr (jb h fun q pI h=>jL pI [0,1,2,7] [11] (fun s=>[(8,kB s.1),(9,kB s.2.1),(10,kI s.2.2)]) (fun o=> .X 0 [0,7] [11] [(8,kB o.1),(9,kB o.2)] []) ?_ lzz ?_)))))
 ·clear h;intro s o h;obtain ⟨uk,p5,j⟩:=s;replace h:zaL i k sv x2 uk p5 j=some o:=h;unfold zaL at h;refine jp (jI h ?_ ?_)<;>intro py h
  ·refine zr (jb h fun g pA h=>jn (.N [0,1,2,7,9,10] [11] [(8,kB g)] []) ?_ (zdW ?_))
   ·rcases zjK pA with ⟨pz,pA⟩| ⟨pz,pA⟩
    ·cases pA;exact jd [0,1,2,7,8,9,10] [11] zeq (by exact (lw_e (dg 24 pz l0))) (zU lzz)
    refine jb pA fun x3 p4 pA=>jb pA fun x4 uo pA=>?_;cases pA;exact jd [0,1,2,7,8,9,10] [11] zeq (by exact (lw_e (dg 24 pz (lwn 2 (di [0] zeQ.el p4 (lw_e (lx (ldl zf [0] x3 1 zb x3.Fields) (lw_e (di [0] zhD.el uo l0))))))))) (zU lzz)
   refine jb h fun g2 pK h=>jn (.N [0,1,2,7,8,10] [11] [(9,kB g2)] []) ?_ (zdW ?_)
   ·rcases zjK pK with ⟨pC,pK⟩| ⟨pC,pK⟩
    ·cases pK;exact jd [0,1,2,7,8,9,10] [11] zeq (by exact (lw_e (dg 39 pC l0))) (zU lzz)
    refine jb pK fun x5 up pK=>jb pK fun x6 uM pK=>?_;cases pK;exact jd [0,1,2,7,8,9,10] [11] zeq (by exact (lw_e (dg 39 pC (lwn 2 (di [0] zeQ.el up (lw_e (lx (ldl zf [0] x5 1 zb x5.Fields) (lw_e (di [0] zhD.el uM l0))))))))) (zU lzz)
   refine zP ?_;cases h;exact jy
  cases h;exact zap rfl lzz
 refine zaV _ rfl (jb h fun rv pB h=>jr (rl 2 [1] 11 call77 (zfX pB) rf) (jI h ?_ ?_))<;>intro pD h
 ·cases h;exact jz
 refine jp (jI h ?_ ?_)<;>intro pG h
 ·cases h;exact jz
 refine jg [0,7,9] [11] [(76,kB ((decide (x2.Number<1))|| ((decide (x2.Number>536870911))|| ((decide (x2.Number>=19000))&&(decide (x2.Number<20000))))))] ?_ ?_
 ·refine (rsl 4 [] 62 (decide (x2.Number<1)) ?_ ?_)<;>intro pJ
  · exact (rbl [] 76 true rfl (by grind))
  refine (rsl 5 [] 67 (decide (x2.Number>536870911)) ?_ ?_)<;>intro pN
  · exact (rbl [] 76 true rfl (by grind))
  refine (rsl 4 [] 71 (decide (x2.Number>=19000)) ?_ ?_)<;>intro pQ
  · exact (rbl [] 76 (decide (x2.Number<20000)) rfl (by grind))
  exact (rbl [] 76 false rfl (by grind))
 refine jI h ?_ ?_<;>intro pS h
 ·cases h;exact jz
 refine jp (jI h ?_ ?_)<;>intro pT h
 ·cases h;exact jz
 refine jb h fun uX pF h=>jr (rl 2 [1] 11 call64 (zdN pF) rf) (jI h ?_ ?_)<;>intro p8 h
 ·cases h;exact jz
 refine jb h fun g3 ud h=>jg [0,7] [11] [(93,kB g3)] ?_ ?_
 ·refine (rsI 3 84 ud ?_ ?_)<;>intro pU ud
  ·refine (rsI 3 87 ud ?_ ?_)<;>intro p6 ud
   ·refine jb ud fun u9 pP ud=>?_;cases ud;exact (rl 2 [1] 11 call36 (zdp pP) (rel [] lzz))
   cases ud;exact (rel [] lzz)
  cases ud;exact (rel [] lzz)
 refine jI h ?_ ?_<;>intro p9 h
 ·cases h;exact jz
 refine jg [] [] [(118,kB (if (x2.Kind==17) then ((decide (x2.Of<0))|| ((decide (x2.Of>=(sv.length:Int)))|| ((x2.Kind !=17)&&(x2.Of !=0)))) else ((x2.Kind !=17)&&(x2.Of !=0))))] ?_ ?_
 ·refine (rsl 4 [] 97 (x2.Kind==17) ?_ ?_)<;>intro pW
  ·refine (rsl 4 [] 101 (decide (x2.Of<0)) ?_ ?_)<;>intro uc
   · exact (rbl [] 118 true rfl (by grind))
   refine (rsl 8 [] 109 (decide (x2.Of>=(sv.length:Int))) ?_ ?_)<;>intro ue
   · exact (rbl [] 118 true rfl (by grind))
   refine (rsl 4 [] 113 (x2.Kind !=17) ?_ ?_)<;>intro uf
   · exact (rbl [] 118 (x2.Of !=0) rfl (by grind))
   exact (rbl [] 118 false rfl (by grind))
  refine (rsl 16 [] 113 (x2.Kind !=17) ?_ ?_)<;>intro ui
  · exact (rbl [] 118 (x2.Of !=0) rfl (by grind))
  exact (rbl [] 118 false rfl (by grind))
 refine jI h ?_ ?_<;>intro ut h
 ·cases h;exact jz
 cases h;exact jz
theorem zjA (h:zcR b u0=some r):uV 79 [.sl Rp.byte [0] b,kI u0] [kI r.1,kI r.2.1,kI r.2.2.1,kI r.2.2.2]:=by
 refine fi 40 func79 fun Xt=>?_
 unfold zcR at h;refine jp (jb h fun rv pB h=>jr (rl 2 [0] 9 call59 (zcQ pB) rf) (jp (jI h ?_ ?_)))<;>intro py h
 ·cases h;exact jz
 refine jb h fun g pA h=>jg [8,9] [] [(32,kB g)] ?_ ?_
 ·refine (rsI 3 23 pA ?_ ?_)<;>intro pz pA
  ·cases pA;exact rgg
  refine jb pA fun uX pF pA=>?_;cases pA;exact (rl 6 [1] 9 call92 (zje pF) rgg)
 refine jI h ?_ ?_<;>intro pC h
 ·cases h;exact jz
 cases h;exact jz
theorem zjE (h:zcU k b=some r):uV 48 [kI k,.sl Rp.byte [0] b] [.own uU 3 2 [] r.1,kI r.2]:=by
 refine fi 48 func48 fun Xt=>?_
 unfold zcU at h;refine jp (jb h fun rv pB h=>jr (rl 1 [1] 12 call36 (zdp pB) rf) (jI h ?_ ?_))<;>intro py h
 ·refine jp ?_;cases h;exact zw lw
 refine jp (jp (zr (jb h fun q pI h=>jL pI [0,1] [] (fun s=>[(6,.own uU 3 16 [] s.1),(7,kI s.2)]) (fun| (.inl v_)=> .x 0 ⟨[(6,.own uU 3 16 [] v_)],[]⟩| (.inr v_)=> .r ⟨[(4,kN),(5,kI v_)],[]⟩) ?_ lw ?_)))
 ·clear h;intro s o h;obtain ⟨out,u0⟩:=s;replace h:zao b k out u0=some o:=h;unfold zao at h;refine jp (jI h ?_ ?_)<;>intro pz h
  ·refine zr (jp (jp (jb h fun p pY h=>jn (.N [0,1,6,7] [] [(8,kI p)] []) ?_ ?_)))
   ·replace h:=pY;refine jI h ?_ ?_<;>intro pC h
    ·cases h;exact jy
    cases h;exact zU lzz
   refine zdW (jp (jb h fun p2 ug h=>jn (match p2 with| (.inl v_)=> .N [0,1,6,7] [] [(8,kI v_)] []| (.inr v_)=> .r ⟨[(4,kN),(5,kI v_)],[]⟩) ?_ ?_))
   ·replace h:=ug;refine jI h ?_ ?_<;>intro pD h
    ·refine jb h fun uX pF h=>jr (rl 2 [0] 15 call59 (zcQ pF) rf) (jp (jI h ?_ ?_))<;>intro pG h
     ·cases h;exact jz
     cases h;exact jy
    cases h;exact zU lzz
   rcases p2 with u| u2
   ·refine zdW (jp (jI h ?_ ?_))<;>intro pJ h
    ·cases h;exact jz'
    refine jp (jb h fun v3 pV h=>jr (rc 2 rfl (zdX [kI (i64.wrap (u0+u))] 17 [] ([(i64.wrap (u0+u))]:(List Int)) rfl zhf rfl rfl rfl rfl) (rc 0 rfl (lao 16 [] 3 17 [] [] zhf.el pV (.inl (znb _))) rf)) (zP ?_));cases h;exact zU lzz
   cases h;exact zrL lzz
  cases h;exact zap rfl lzz
 rcases q with u3| u4
 ·refine zaV _ rfl (jp ?_);cases h;exact zw (lks [] [(16,2)] lzz)
 cases h;exact zdO lw
theorem zjB (h:zcS b u0=some r):uV 80 [.sl Rp.byte [0] b,kI u0] [kI r]:=by
 refine fi 61 func80 fun Xt=>?_
 unfold zcS at h;refine jp (jp (zr (jb h fun q2 pZ h=>jL pZ [0,1] [] (fun s=>[(5,kI s)]) (fun| (.inl v_)=> .x 0 ⟨[],[]⟩| (.inr v_)=> .r ⟨[(4,kI v_)],[]⟩) ?_ lzz ?_)))
 ·clear h;intro n o h;unfold zbt at h;refine jg [0,1,5] [] [(17,kB ((decide (n<=4))&&(decide ((i64.wrap (u0+n))<=(b.length:Int)))))] ?_ ?_
  ·refine (rsl 3 [] 10 (decide (n<=4)) ?_ ?_)<;>intro py
   · exact (rbl [] 17 (decide ((i64.wrap (u0+n))<=(b.length:Int))) rfl (by grind))
   exact (rbl [] 17 false rfl (by grind))
  refine jI h ?_ ?_<;>intro pz h
  ·refine zr (jb h fun x pL h=>jr (rx 2 [0] zcd.el pL rfl rfl rf) (jp (jb h fun p pY h=>jn (.N [0,1,5] [] [(6,kI p)] []) ?_ ?_)))
   ·replace h:=pY;refine jI h ?_ ?_<;>intro pC h
    ·refine jb h fun x2 pO h=>jb h fun v3 pV h=>jr (rc 1 rfl (zdX [kI 0,kI 0,kI 32,kI 16,kI 8] 12 [] ([0,0,32,16,8]:(List Int)) rfl zhf rfl rfl rfl rfl) (ra 1 [.own uU 3 12 [] ([0,0,32,16,8]:(List Int)),kI n] rfl (znx rfl zhf.el (zgb _ _ _ _ _) pO) rfl (ra 1 [kI (i64.wrap (x.toNat:Int)),kI x2] rfl (zBe rfl pV) rfl rf))) ?_;cases h;exact zU lzz
    cases h;exact zU lzz
   refine zdW (jp (zr (jb h fun q pI h=>jL pI [0,1,5] [] (fun s=>[(6,kI s.1),(7,kI s.2)]) (fun o=> .X 2 [0,1,5] [] [(6,kI o)] []) ?_ lzz ?_)))
   ·clear h;intro s o h;obtain ⟨uX,i⟩:=s;replace h:zaR u0 b n uX i=some o:=h;unfold zaR at h;refine jp (jI h ?_ ?_)<;>intro pD h
    ·refine zr (jb h fun x3 p4 h=>jr (rx 6 [0] zcd.el p4 rfl rfl rf) (zP ?_));cases h;exact jy
    cases h;exact zap rfl lzz
   refine zaV _ rfl (jb h fun rv4 pX h=>jb h fun v4 ul h=>jd [0,1,5,59] [] zeq (by exact (lw_e (lx (lf1 93 (lcd [kI q] 12 call93 (zkI pX))) (ly [.own Rp.byte 5 14 [] rv4] (zrQ rfl underlying24 underlying5 underlying9 (zgb _ _ _ _ _)) rfl (lwn 5 (ly [.sl Rp.byte [0] b,kI u0,kI (i64.wrap (u0+n))] (zeZ (some (kI u0)) (some (kI (i64.wrap (u0+n)))) rfl zcd.el (zci _ _ _) ⟨rfl,rfl⟩ ⟨rfl,rfl⟩ ul) rfl (ly [.sl Rp.byte [0] v4] (zrQ rfl underlying24 underlying5 underlying9 (zci _ _ _)) rfl l0))))))) (jI h ?_ ?_))<;>intro pG h
   ·cases h;exact jz'
   refine zP ?_;cases h;exact jy
  cases h;exact zap rfl lzz
 rcases q2 with u| u2
 ·refine zaV _ rfl ?_;cases h;exact jz
 obtain rfl:=(sj h);exact zdO lzz
end Go.Proofs.YtnckiilakdkklaaGreat

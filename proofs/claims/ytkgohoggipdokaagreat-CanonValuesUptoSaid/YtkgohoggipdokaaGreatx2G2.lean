/-
  The Go functions do what the plain functions say. No condition.
-/
import Derived.Test.YtkgohoggipdokaaGreatx2G1
import Derived.Test.YtkgohoggipdokaaGreatx2Y
set_option autoImplicit true
set_option relaxedAutoImplicit true
namespace Go.Proofs.YtkgohoggipdokaaGreat
open Tryz
open Go Go.RowKit
set_option linter.unusedVariables false
set_option maxRecDepth 100000
set_option maxHeartbeats 3200000
theorem zxS (h:znL=some r):vT 118 [] [.own vR 3 2 [] r]:=by
 refine fi 4 func118 fun Xt=>?_
 unfold znL at h;refine jp (jb h fun rv pY h=>jb h fun v uy h=>jr (rl 0 [1] 11 call155 (zoZ pY) (rkl 0 [] ⟨[(1,.om vR zar 13 [] rv)],[]⟩ (zDm (rv:=zar) (m:=rv) 14 zDA rfl rfl rfl rfl rfl rfl call154 call90 rfl (zAf _ _ _ _ _) uy rfl rf))) ?_);obtain rfl:=(sj h);exact zz (lks [] [(14,2)] lzz)
theorem zmk (h:zgn uW=some r):vT 156 [kS uW] [kB r]:=by
 refine fi 34 func156 fun Xt=>?_
 unfold zgn at h;refine jp (jb h fun g pW h=>jg [0] [] [(15,kB g)] ?_ ?_)
 ·refine (rsI 3 6 pW ?_ ?_)<;>intro pV pW
  ·cases pW;exact rgg
  refine (rsI 5 11 pW ?_ ?_)<;>intro pX pW
  ·cases pW;exact rgg
  refine jb pW fun c u9 pW=>jb pW fun rv pY pW=>?_;cases pW;exact (ra 1 [kS uW,kI 0] rfl (zwz rfl underlying9 u9) rfl (rl 0 [1] 9 call187 (zle pY) rgg))
 refine jI h ?_ ?_<;>intro pZ h
 ·refine jp ?_;obtain rfl:=(sj h);exact zz lzz
 refine jp (zm (jb h fun q ue h=>jL ue [0,17] [] (fun s=>[(18,kI s)]) (fun| (.inl v_)=> .x 0 ⟨[],[]⟩| (.inr v_)=> .r ⟨[(2,kB false)],[]⟩) ?_ lzz ?_))
 ·clear h;intro v2 o h;unfold zci at h;refine jp (jI h ?_ ?_)<;>intro p9 h
  ·refine zm (jp (jb h fun g2 uc h=>jg [0,17,18] [] [(32,kB g2)] ?_ ?_))
   ·refine jb uc fun c2 vH uc=>jb uc fun vV ud uc=>(ra 2 [kS uW,kI v2] rfl (zwz rfl underlying9 vH) rfl (rl 0 [1] 10 call188 (zpI ud) (rsI 2 26 uc ?_ ?_)))<;>intro uh uc
    ·refine jb uc fun c3 vI uc=>jb uc fun v8 uj uc=>?_;cases uc;exact (ra 2 [kS uW,kI v2] rfl (zwz rfl underlying9 vI) rfl (rl 0 [1] 10 call187 (zle uj) rgg))
    cases uc;exact rgg
   refine jI h ?_ ?_<;>intro ui h
   ·cases h;exact jz'
   refine zS ?_;cases h;exact jy
  cases h;exact zX rfl lzz
 rcases q with u| u2
 ·refine zau _ rfl (jp ?_);obtain rfl:=(sj h);exact zz lzz
 obtain rfl:=(sj h);exact zeQ lzz
theorem zja (h:zcc sv v=some r):vT 158 [.sl vR [0] sv,kI v] [kB r]:=by
 refine fi 9 func158 fun Xt=>?_
 unfold zcc at h;refine jp (jb h fun rv pY h=>jr (rl 2 [0] 9 call189 (zkx pY) rf) ?_);cases h;exact zz lzz
theorem zws (h:zmb k=some r):vT 214 [kI k] [kI r.1,k8 r.2]:=by
 refine fi 16 func214 fun Xt=>?_
 unfold zmb at h;refine jp (jb h fun rv pY h=>jr (rl 0 [1] 9 call155 (zoZ pY) (ra 1 [.om vR zar 11 [] rv,kI k] rfl (zBo (rk:=vR) (rv:=zar) (m:=rv) (k:=k) (.rc zar [] ((mget rv k).getD (⟨[],0⟩:zo))) rfl zeV (zfw rfl rfl) (zEg rfl)) rfl (rfl' [12]))) (jp (jI h ?_ ?_)))<;>intro pV h
 ·cases h;exact jz
 cases h;exact jz
theorem zuJ (h:zix ug x=some r):vT 26 [.rc zi [0] x] [kI r]:=by
 refine fi 5 func26 fun Xt=>?_
 unfold zix at h;refine jr (rc 0 rfl (lbx 11 [0] (zaM [0] x)) rf) (jb h fun rv pY h=>jr (rc 1 rfl (lw0 10 call55 (zuL pY) (.c (zbh [0] x) (.k .n))) rf) ?_);obtain rfl:=(sj h);exact zz lzz
theorem zdC (h:zW sv v=some r):vT 143 [.sl zd [0] sv,.fv 108 [.ep vR [0] v 0]] [kI r]:=by
 refine fi 19 func143 fun Xt=>?_
 unfold zW at h;refine jp (jp (zm (jb h fun q ue h=>jL ue [0,1,7] [] (fun s=>[(8,kI s)]) (fun| (.inl v_)=> .x 0 ⟨[],[]⟩| (.inr v_)=> .r ⟨[(4,kI v_)],[]⟩) ?_ lzz ?_)))
 ·clear h;intro v2 o h;unfold zw at h;refine jp (jI h ?_ ?_)<;>intro pV h
  ·refine zm (jp (jb h fun x ul h=>jb h fun rv pY h=>jr (rx 3 [0] zmr.el ul rfl rfl (rc 0 rfl (lde zd [0] x zrB) (ra 0 [.fv 108 [.ep vR [0] v 0],.rc zd [0] x] rfl (zCT (args:=[.tmp 15]) [.rc zd [0] x] [0] 10 rfl (zEm _ _) call108 (zoh pY) rfl rfl rfl rfl rfl) rfl rf))) (jI h ?_ ?_)))<;>intro pX h
   ·cases h;exact jz'
   refine zS ?_;cases h;exact jy
  cases h;exact zX rfl lzz
 rcases q with u| u2
 ·refine zau _ rfl ?_;cases h;exact jz
 obtain rfl:=(sj h);exact zeQ lzz
theorem zrV (h:zmo b=some r):vT 226 [.sl Rp.byte [0] b] [kI r]:=by
 refine fi 48 func226 fun Xt=>?_
 unfold zmo at h;refine jp (jp (jI h ?_ ?_))<;>intro pV h
 ·cases h;exact jz
 refine jb h fun x ul h=>jb h fun rv pY h=>jr (rx 1 [0] zcd.el ul rfl rfl (rl 1 [1] 9 call230 (zyK pY) rf)) (jg [0,3,4] [] [(24,kB ((rv.1==0)|| (decide (rv.1>(b.length:Int)))))] ?_ ?_)
 ·refine (rsl 3 [] 19 (rv.1==0) ?_ ?_)<;>intro pX
  · exact (rbl [] 24 true rfl (by grind))
  exact (rbl [] 24 (decide (rv.1>(b.length:Int))) rfl (by grind))
 refine jI h ?_ ?_<;>intro pZ h
 ·cases h;exact jz
 refine jb h fun v2 uB h=>jr (ra 2 [.sl Rp.byte [0] b,kI 1,kI rv.1] rfl (zre (some (kI 1)) (some (kI rv.1)) rfl zcd.el (zhh _ _ _) ⟨rfl,rfl⟩ ⟨rfl,rfl⟩ uB) rfl rf) (zm (jb h fun q ue h=>jL ue [3,27,28] [] (fun s=>[(4,.lf (.int .u32 s.1)),(29,kI s.2)]) (fun| (.inl v_)=> .X 0 [3] [] [(4,.lf (.int .u32 v_))] []| (.inr v_)=> .r ⟨[(2,kI 0)],[]⟩) ?_ lzz ?_))
 ·clear h;intro s o h;obtain ⟨wv,v3⟩:=s;replace h:zey v2 wv v3=some o:=h;unfold zey at h;refine jp (jI h ?_ ?_)<;>intro p9 h
  ·refine zm (jb h fun x2 up h=>jr (rx 0 [0] zcd.el up rfl rfl rf) (jr (ra 1 [k8 (x2.toNat:Int),kU 6] rfl (zhQ rfl rfl) rfl rf) (jI h ?_ ?_)))<;>intro uh h
   ·cases h;exact jz'
   refine jr (ra 1 [.lf (.int .u32 wv),kU 6] rfl (zzs rfl rfl) rfl rf) (zS ?_);cases h;exact jy
  cases h;exact zX rfl lzz
 rcases q with u| u2
 ·refine zau _ rfl (jb h fun vV ud h=>jr (rl 2 [1] 10 call231 (zyJ ud) rf) (jI h ?_ ?_))<;>intro ui h
  ·cases h;exact jz
  cases h;exact jz
 cases h;exact zeQ lzz
theorem zsL (h:ziH wv=some r):vT 177 [kU wv] [.lf (.int .i32 r)]:=by
 refine fi 6 func177 fun Xt=>?_
 unfold ziH at h;refine jp (jb h fun rv pY h=>jr (rl 1 [1] 9 call178 (zoY pY) rf) ?_);cases h;exact zz lzz
theorem zqC (h:zjN t=some r):vT 183 [.rc zbP [0] t] [kB r]:=by
 refine fi 16 func183 fun Xt=>?_
 unfold zjN at h;refine jq [11] (jb h fun g pW h=>jg [] [] [(2,kB g)] ?_ ?_)
 ·refine (rsI 4 6 pW ?_ ?_)<;>intro pV pW
  ·refine (rsI 5 11 pW ?_ ?_)<;>intro pX pW
   ·refine jb pW fun rv pY pW=>?_;cases pW;exact (rl 2 [1] 10 call211 (zrs pY) rgg)
   cases pW;exact rgg
  cases pW;exact rgg
 obtain rfl:=(sj h);exact zz lzz
theorem zui (h:zjf b=some r):vT 212 [.sl Rp.byte [0] b] [kI r.1,k8 r.2]:=by
 refine fi 15 func212 fun Xt=>?_
 unfold zjf at h;refine jp (jb h fun rv pY h=>jr (rl 1 [0] 9 call213 (zkA pY) rf) ?_);cases h;exact jz
theorem zlK (h:zhp b wv=some r):vT 152 [.sl Rp.byte [0] b,kU wv] [.own Rp.byte 5 2 [] r]:=by
 refine fi 30 func152 fun Xt=>?_
 unfold zhp at h;refine jp (jb h fun rv pY h=>jb h fun v uy h=>jr (rl 3 [1] 10 call182 (zrC pY) (ra 1 [kI 0,kI (IntKind.i64.wrap ((b.length:Int)+rv))] rfl (zAu 12 rfl zcd rfl uy) rfl rf)) (jb h fun v2 uB h=>jr (rc 2 rfl (las 12 [] [0] [] zcd.el uB (.inl zcm)) rf) (zm (jb h fun q ue h=>jL ue [] [] (fun s=>[(1,kU s.1),(5,.own Rp.byte 5 12 [] s.2)]) (fun o=> .x 0 ⟨[(1,kU o.1),(5,.own Rp.byte 5 12 [] o.2)],[]⟩) ?_ lzz ?_))))
 ·clear h;intro s o h;obtain ⟨wv2,l⟩:=s;replace h:zdX wv2 l=some o:=h;unfold zdX at h;refine jp (jI h ?_ ?_)<;>intro pV h
  ·refine zm (jb h fun y uV h=>jb h fun v3 uD h=>jr (rc 4 rfl (zv.lw (zgv [.lf (.int .u8 (y.toNat:Int))] 14 [] [y] rfl zcd rfl rfl rfl rfl) (.l (zgc uV))) (rc 0 rfl (lao 12 [] 5 14 [] [] zcd.el uD (.inl zcm)) rf)) (zS (jr (ra 1 [kU wv2,kU 7] rfl (zhQ rfl rfl) rfl rf) ?_)));cases h;exact zY lzz
  cases h;exact zX rfl lzz
 refine zau _ rfl (jb h fun y2 uT h=>jb h fun v4 uR h=>jr (rc 3 rfl (zv.lw (zgv [.lf (.int .u8 (y2.toNat:Int))] 15 [] [y2] rfl zcd rfl rfl rfl rfl) (.l (zgc uT))) (rc 0 rfl (lao 12 [] 5 15 [] [] zcd.el uR (.inl zcm)) rf)) ?_);obtain rfl:=(sj h);exact zz (lks [] [(12,2)] lzz)
theorem zcr (h:zao wl=some r):vT 66 [.sl (Rp.list Rp.byte) [0] wl] [.own Rp.byte 5 2 [] r]:=by
 refine fi 36 func66 fun Xt=>?_
 unfold zao at h;refine jp (jp (jp (zm (jb h fun q ue h=>jL ue [0,9,10] [] (fun s=>[(3,kI s.1),(11,kI s.2)]) (fun o=> .X 0 [0] [] [(3,kI o)] []) ?_ lzz ?_))))
 ·clear h;intro s o h;obtain ⟨size,v⟩:=s;replace h:zaa wl size v=some o:=h;unfold zaa at h;refine jp (jI h ?_ ?_)<;>intro pV h
  ·refine zm (jb h fun x ul h=>jr (rx 0 [0] zqQ.el ul rfl rfl (rc 0 rfl (ldl (Rp.list Rp.byte) [0] x 0 Rp.byte x) rf)) (jp (jp (jI h ?_ ?_))))<;>intro pX h
   · exact absurd h nofun
   refine zS ?_;cases h;exact jy
  cases h;exact zX rfl lzz
 refine zau _ rfl (jb h fun rv pY h=>jr (rl 1 [1] 12 call109 (zjD pY) rf) (jp (zm (jb h fun q2 ur h=>jL ur [25,26] [] (fun s=>[(6,.own Rp.byte 5 14 [] s.1),(27,kI s.2)]) (fun o=> .x 2 ⟨[(6,.own Rp.byte 5 14 [] o)],[]⟩) ?_ lzz ?_))))
 ·clear h;intro s o h;obtain ⟨wr,v2⟩:=s;replace h:zab wl wr v2=some o:=h;unfold zab at h;refine jp (jI h ?_ ?_)<;>intro pZ h
  ·refine zm (jb h fun x2 up h=>jr (rx 0 [0] zqQ.el up rfl rfl (rc 0 rfl (ldl (Rp.list Rp.byte) [0] x2 0 Rp.byte x2) rf)) (jb h fun v3 uD h=>jr (rc 2 rfl (las 14 [] [0] [] zcd.el uD (.inl zcm)) rf) (zS ?_)));cases h;exact jy
  cases h;exact zX rfl lzz
 refine zau _ rfl (jp ?_);obtain rfl:=(sj h);exact zz (lks [] [(14,2)] lzz)
theorem znh (h:zeN sv i k=some r):vT 74 [.sl zh [0] sv,kI i,kI k] [kI r]:=by
 refine fi 119 func74 fun Xt=>?_
 unfold zeN at h;refine jp (jb h fun x ul h=>jb h fun x2 up h=>jr (rx 2 [0] zgU.el ul rfl rfl (rc 1 rfl (ldl zh [0] x 1 zd x.Fields) (rx 1 [0] zmr.el up rfl rfl (rc 0 rfl (lde zd [0] x2 zrB) (rfl' [11]))))) (jp (jp (zm (jb h fun q ue h=>jL ue [0,1,2,7] [11] (fun s=>[(8,kB s.1),(9,kB s.2.1),(10,kI s.2.2)]) (fun o=> .X 0 [0,7] [11] [(8,kB o.1),(9,kB o.2)] []) ?_ lzz ?_)))))
 ·clear h;intro s o h;obtain ⟨uW,uu,j⟩:=s;replace h:zaV i k sv x2 uW uu j=some o:=h;unfold zaV at h;refine jp (jI h ?_ ?_)<;>intro pV h
  ·refine zm (jb h fun g pW h=>jn (.N [0,1,2,7,9,10] [11] [(8,kB g)] []) ?_ (zfz ?_))
   ·rcases zeP pW with ⟨pX,pW⟩| ⟨pX,pW⟩
    ·cases pW;exact jd [0,1,2,7,8,9,10] [11] zcM (by exact (lw_e (dg 24 pX l0))) (zY lzz)
    refine jb pW fun x3 uw pW=>jb pW fun x4 uG pW=>?_;cases pW;exact jd [0,1,2,7,8,9,10] [11] zcM (by exact (lw_e (dg 24 pX (lwn 2 (di [0] zgU.el uw (lw_e (lx (ldl zh [0] x3 1 zd x3.Fields) (lw_e (di [0] zmr.el uG l0))))))))) (zY lzz)
   refine jb h fun g2 uc h=>jn (.N [0,1,2,7,8,10] [11] [(9,kB g2)] []) ?_ (zfz ?_)
   ·rcases zeP uc with ⟨pZ,uc⟩| ⟨pZ,uc⟩
    ·cases uc;exact jd [0,1,2,7,8,9,10] [11] zcM (by exact (lw_e (dg 39 pZ l0))) (zY lzz)
    refine jb uc fun x5 uJ uc=>jb uc fun x6 uX uc=>?_;cases uc;exact jd [0,1,2,7,8,9,10] [11] zcM (by exact (lw_e (dg 39 pZ (lwn 2 (di [0] zgU.el uJ (lw_e (lx (ldl zh [0] x5 1 zd x5.Fields) (lw_e (di [0] zmr.el uX l0))))))))) (zY lzz)
   refine zS ?_;cases h;exact jy
  cases h;exact zX rfl lzz
 refine zau _ rfl (jb h fun rv pY h=>jr (rl 2 [1] 11 call73 (ziP pY) rf) (jI h ?_ ?_))<;>intro p9 h
 ·cases h;exact jz
 refine jp (jI h ?_ ?_)<;>intro uh h
 ·cases h;exact jz
 refine jg [0,7,9] [11] [(76,kB ((decide (x2.Number<1))|| ((decide (x2.Number>536870911))|| ((decide (x2.Number>=19000))&&(decide (x2.Number<20000))))))] ?_ ?_
 ·refine (rsl 4 [] 62 (decide (x2.Number<1)) ?_ ?_)<;>intro ui
  · exact (rbl [] 76 true rfl (by grind))
  refine (rsl 5 [] 67 (decide (x2.Number>536870911)) ?_ ?_)<;>intro uq
  · exact (rbl [] 76 true rfl (by grind))
  refine (rsl 4 [] 71 (decide (x2.Number>=19000)) ?_ ?_)<;>intro uv
  · exact (rbl [] 76 (decide (x2.Number<20000)) rfl (by grind))
  exact (rbl [] 76 false rfl (by grind))
 refine jI h ?_ ?_<;>intro ut h
 ·cases h;exact jz
 refine jp (jI h ?_ ?_)<;>intro uC h
 ·cases h;exact jz
 refine jb h fun vV ud h=>jr (rl 2 [1] 11 call41 (zgt ud) rf) (jI h ?_ ?_)<;>intro uM h
 ·cases h;exact jz
 refine jb h fun g3 uk h=>jg [0,7] [11] [(93,kB g3)] ?_ ?_
 ·refine (rsI 3 84 uk ?_ ?_)<;>intro uE uk
  ·refine (rsI 3 87 uk ?_ ?_)<;>intro uF uk
   ·refine jb uk fun v8 uj uk=>?_;cases uk;exact (rl 2 [1] 11 call42 (zdo uj) (rel [] lzz))
   cases uk;exact (rel [] lzz)
  cases uk;exact (rel [] lzz)
 refine jI h ?_ ?_<;>intro uH h
 ·cases h;exact jz
 refine jg [] [] [(118,kB (if (x2.Kind==17) then ((decide (x2.Of<0))|| ((decide (x2.Of>=(sv.length:Int)))|| ((x2.Kind !=17)&&(x2.Of !=0)))) else ((x2.Kind !=17)&&(x2.Of !=0))))] ?_ ?_
 ·refine (rsl 4 [] 97 (x2.Kind==17) ?_ ?_)<;>intro uI
  ·refine (rsl 4 [] 101 (decide (x2.Of<0)) ?_ ?_)<;>intro uO
   · exact (rbl [] 118 true rfl (by grind))
   refine (rsl 8 [] 109 (decide (x2.Of>=(sv.length:Int))) ?_ ?_)<;>intro uP
   · exact (rbl [] 118 true rfl (by grind))
   refine (rsl 4 [] 113 (x2.Kind !=17) ?_ ?_)<;>intro uQ
   · exact (rbl [] 118 (x2.Of !=0) rfl (by grind))
   exact (rbl [] 118 false rfl (by grind))
  refine (rsl 16 [] 113 (x2.Kind !=17) ?_ ?_)<;>intro uU
  · exact (rbl [] 118 (x2.Of !=0) rfl (by grind))
  exact (rbl [] 118 false rfl (by grind))
 refine jI h ?_ ?_<;>intro va h
 ·cases h;exact jz
 cases h;exact jz
theorem zic (h:zdS k wv=some r):vT 43 [kI k,kU wv] [kU r]:=by
 refine fi 25 func43 fun Xt=>?_
 unfold zdS at h;refine jp (jp (zm (jp (jb h fun p uL h=>jn (.N [1,5] [] [(6,kB p)] []) ?_ ?_))))
 ·replace h:=uL;refine jI h ?_ ?_<;>intro pV h
  ·cases h;exact zY lzz
  cases h;exact jy
 refine zfz (jI h ?_ ?_)<;>intro pX h
 ·refine jb h fun rv pY h=>jb h fun vV ud h=>jr (rl 1 [1] 9 call76 (zmx pY) (rl 0 [1] 9 call75 (zny ud) rf)) ?_;obtain rfl:=(sj h);exact zz lzz
 refine jp (jb h fun p2 uS h=>jn (.N [1,5] [] [(12,kB p2)] []) ?_ ?_)
 ·replace h:=uS;refine jI h ?_ ?_<;>intro pZ h
  ·cases h;exact zY lzz
  refine jp (jI h ?_ ?_)<;>intro p9 h
  ·cases h;exact zY lzz
  refine jp (jI h ?_ ?_)<;>intro uh h
  ·cases h;exact zY lzz
  refine jp (jI h ?_ ?_)<;>intro ui h
  ·cases h;exact zY lzz
  cases h;exact jy
 refine zfz (jI h ?_ ?_)<;>intro uq h
 ·cases h;exact jz
 refine jp (jI h ?_ ?_)<;>intro uv h
 ·refine jp (jI h ?_ ?_)<;>intro ut h
  ·cases h;exact jz
  cases h;exact jz
 refine zS (jp ?_);obtain rfl:=(sj h);exact zz lzz
theorem znB (h:zfl b wc=some r):vT 121 [.sl Rp.byte [0] b,kI wc] [kI r]:=by
 refine fi 61 func121 fun Xt=>?_
 unfold zfl at h;refine jp (jp (zm (jb h fun q2 ur h=>jL ur [0,1] [] (fun s=>[(5,kI s)]) (fun| (.inl v_)=> .x 0 ⟨[],[]⟩| (.inr v_)=> .r ⟨[(4,kI v_)],[]⟩) ?_ lzz ?_)))
 ·clear h;intro n o h;unfold zbF at h;refine jg [0,1,5] [] [(17,kB ((decide (n<=4))&&(decide ((IntKind.i64.wrap (wc+n))<=(b.length:Int)))))] ?_ ?_
  ·refine (rsl 3 [] 10 (decide (n<=4)) ?_ ?_)<;>intro pV
   · exact (rbl [] 17 (decide ((IntKind.i64.wrap (wc+n))<=(b.length:Int))) rfl (by grind))
   exact (rbl [] 17 false rfl (by grind))
  refine jI h ?_ ?_<;>intro pX h
  ·refine zm (jb h fun x ul h=>jr (rx 2 [0] zcd.el ul rfl rfl rf) (jp (jb h fun p uL h=>jn (.N [0,1,5] [] [(6,kI p)] []) ?_ ?_)))
   ·replace h:=uL;refine jI h ?_ ?_<;>intro pZ h
    ·refine jb h fun x2 up h=>jb h fun v3 uD h=>jr (rc 1 rfl (zgv [kI 0,kI 0,kI 32,kI 16,kI 8] 12 [] ([0,0,32,16,8]:(List Int)) rfl zDY rfl rfl rfl rfl) (ra 1 [.own vR 3 12 [] ([0,0,32,16,8]:(List Int)),kI n] rfl (zAs rfl zDY.el (zlY _ _ _ _ _) up) rfl (ra 1 [kI (IntKind.i64.wrap (x.toNat:Int)),kI x2] rfl (zGk rfl uD) rfl rf))) ?_;cases h;exact zY lzz
    cases h;exact zY lzz
   refine zfz (jp (zm (jb h fun q ue h=>jL ue [0,1,5] [] (fun s=>[(6,kI s.1),(7,kI s.2)]) (fun o=> .X 2 [0,1,5] [] [(6,kI o)] []) ?_ lzz ?_)))
   ·clear h;intro s o h;obtain ⟨vV,i⟩:=s;replace h:zbl wc b n vV i=some o:=h;unfold zbl at h;refine jp (jI h ?_ ?_)<;>intro p9 h
    ·refine zm (jb h fun x3 uw h=>jr (rx 6 [0] zcd.el uw rfl rfl rf) (zS ?_));cases h;exact jy
    cases h;exact zX rfl lzz
   refine zau _ rfl (jb h fun rv4 uA h=>jb h fun v4 uR h=>jd [0,1,5,59] [] zcM (by exact (lw_e (lx (lf1 161 (lcd [kI q] 12 call161 (zoU uA))) (ly [.own Rp.byte 5 14 [] rv4] (zwy rfl underlying35 underlying5 underlying9 (zlY _ _ _ _ _)) rfl (lwn 5 (ly [.sl Rp.byte [0] b,kI wc,kI (IntKind.i64.wrap (wc+n))] (zre (some (kI wc)) (some (kI (IntKind.i64.wrap (wc+n)))) rfl zcd.el (zhh _ _ _) ⟨rfl,rfl⟩ ⟨rfl,rfl⟩ uR) rfl (ly [.sl Rp.byte [0] v4] (zwy rfl underlying35 underlying5 underlying9 (zhh _ _ _)) rfl l0))))))) (jI h ?_ ?_))<;>intro uh h
   ·cases h;exact jz'
   refine zS ?_;cases h;exact jy
  cases h;exact zX rfl lzz
 rcases q2 with u| u2
 ·refine zau _ rfl ?_;cases h;exact jz
 obtain rfl:=(sj h);exact zeQ lzz
theorem znA (h:zfk b wc=some r):vT 110 [.sl Rp.byte [0] b,kI wc] [kI r.1,kI r.2.1,kI r.2.2.1,kI r.2.2.2]:=by
 refine fi 40 func110 fun Xt=>?_
 unfold zfk at h;refine jp (jb h fun rv pY h=>jr (rl 2 [0] 9 call87 (zgB pY) rf) (jp (jI h ?_ ?_)))<;>intro pV h
 ·cases h;exact jz
 refine jb h fun g pW h=>jg [8,9] [] [(32,kB g)] ?_ ?_
 ·refine (rsI 3 23 pW ?_ ?_)<;>intro pX pW
  ·cases pW;exact rgg
  refine jb pW fun vV ud pW=>?_;cases pW;exact (rl 6 [1] 9 call144 (znd ud) rgg)
 refine jI h ?_ ?_<;>intro pZ h
 ·cases h;exact jz
 cases h;exact jz
theorem zoT (h:zfL ug uu wire=some r):vT 78 [kI uu,kI wire] [.own Rp.byte 5 2 [] r]:=by
 refine fi 11 func78 fun Xt=>?_
 unfold zfL at h;refine jp (jb h fun rv pY h=>jr (rl 5 [1] 10 call79 (zgX pY) rf) ?_);obtain rfl:=(sj h);exact zz (lks [] [(12,2)] lzz)
end Go.Proofs.YtkgohoggipdokaaGreat

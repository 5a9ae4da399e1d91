/-
  The Go functions do what the plain functions say. No condition.
-/
import Derived.Test.YtnckiilakdkklaaGreatx1G1
import Derived.Test.YtnckiilakdkklaaGreatx1Y
set_option autoImplicit true
set_option relaxedAutoImplicit true
namespace Go.Proofs.YtnckiilakdkklaaGreat
open Go.IntKind (i64)
open Tryz
open Go Go.RowKit
set_option linter.unusedVariables false
set_option maxRecDepth 100000
set_option maxHeartbeats 3200000
theorem zzy (h:zod=some r):wj 89 [] [.own wh 3 2 [] r]:=by
 refine fi 4 func89 fun Xt=>?_
 unfold zod at h;refine jp (jb h fun rv ui h=>jb h fun v uG h=>jr (rl 0 [1] 11 call115 (zpF ui) (rkl 0 [] ⟨[(1,.om wh zam 13 [] rv)],[]⟩ (zAc (rv:=zam) (m:=rv) 14 zFR rfl rfl rfl rfl rfl rfl call114 call52 rfl (zCj _ _ _ _ _) uG rfl rf))) ?_);obtain rfl:=(sj h);exact zz (lks [] [(14,2)] lzz)
theorem zmf (h:zgf ve=some r):wj 116 [kS ve] [kB r]:=by
 refine fi 34 func116 fun Xt=>?_
 unfold zgf at h;refine jp (jb h fun g uh h=>jg [0] [] [(15,kB g)] ?_ ?_)
 ·refine (rsI 3 6 uh ?_ ?_)<;>intro uf uh
  ·cases uh;exact rgg
  refine (rsI 5 11 uh ?_ ?_)<;>intro ug uh
  ·cases uh;exact rgg
  refine jb uh fun c vk uh=>jb uh fun rv ui uh=>?_;cases uh;exact (ra 1 [kS ve,kI 0] rfl (zxZ rfl underlying9 vk) rfl (rl 0 [1] 9 call142 (zlc ui) rgg))
 refine jI h ?_ ?_<;>intro uj h
 ·refine jp ?_;obtain rfl:=(sj h);exact zz lzz
 refine jp (zp (jb h fun q ul h=>jL ul [0,17] [] (fun s=>[(18,kI s)]) (fun| (.inl v_)=> .x 0 ⟨[],[]⟩| (.inr v_)=> .r ⟨[(2,kB false)],[]⟩) ?_ lzz ?_))
 ·clear h;intro v2 o h;unfold zdF at h;refine jp (jI h ?_ ?_)<;>intro uk h
  ·refine zp (jp (jb h fun g2 uA h=>jg [0,17,18] [] [(32,kB g2)] ?_ ?_))
   ·refine jb uA fun c2 vP uA=>jb uA fun wo uo uA=>(ra 2 [kS ve,kI v2] rfl (zxZ rfl underlying9 vP) rfl (rl 0 [1] 10 call143 (zql uo) (rsI 2 26 uA ?_ ?_)))<;>intro uq uA
    ·refine jb uA fun c3 vQ uA=>jb uA fun wy uB uA=>?_;cases uA;exact (ra 2 [kS ve,kI v2] rfl (zxZ rfl underlying9 vQ) rfl (rl 0 [1] 10 call142 (zlc uB) rgg))
    cases uA;exact rgg
   refine jI h ?_ ?_<;>intro ur h
   ·cases h;exact jz'
   refine zJ ?_;cases h;exact jy
  cases h;exact zad rfl lzz
 rcases q with u| u2
 ·refine zao _ rfl (jp ?_);obtain rfl:=(sj h);exact zz lzz
 obtain rfl:=(sj h);exact zer lzz
theorem zjj (h:zbR sv v=some r):wj 118 [.sl wh [0] sv,kI v] [kB r]:=by
 refine fi 9 func118 fun Xt=>?_
 unfold zbR at h;refine jp (jb h fun rv ui h=>jr (rl 2 [0] 9 call144 (zks ui) rf) ?_);cases h;exact zz lzz
theorem zqJ (h:zjM k=some r):wj 129 [kI k] [kI r.1,k8 r.2]:=by
 refine fi 16 func129 fun Xt=>?_
 unfold zjM at h;refine jp (jb h fun rv ui h=>jr (rl 0 [1] 9 call115 (zpF ui) (ra 1 [.om wh zam 11 [] rv,kI k] rfl (zrT (rk:=wh) (rv:=zam) (m:=rv) (k:=k) (.rc zam [] ((mget rv k).getD (⟨[],0⟩:zq))) rfl zex (zdw rfl rfl) (zxM rfl)) rfl (rfl' [12]))) (jp (jI h ?_ ?_)))<;>intro uf h
 ·cases h;exact jz
 cases h;exact jz
theorem zyE (h:zmg t=some r):wj 124 [.rc zeY [0] t] [kB r]:=by
 refine fi 16 func124 fun Xt=>?_
 unfold zmg at h;refine jq [11] (jb h fun g uh h=>jg [] [] [(2,kB g)] ?_ ?_)
 ·refine (rsI 4 6 uh ?_ ?_)<;>intro uf uh
  ·refine (rsI 5 11 uh ?_ ?_)<;>intro ug uh
   ·refine jb uh fun rv ui uh=>?_;cases uh;exact (rl 2 [1] 10 call146 (zsp ui) rgg)
   cases uh;exact rgg
  cases uh;exact rgg
 obtain rfl:=(sj h);exact zz lzz
theorem zoI (h:zhG b=some r):wj 125 [.sl Rp.byte [0] b] [kI r.1,k8 r.2]:=by
 refine fi 15 func125 fun Xt=>?_
 unfold zhG at h;refine jp (jb h fun rv ui h=>jr (rl 1 [0] 9 call123 (zic ui) rf) ?_);cases h;exact jz
theorem zdL (h:zah sv v=some r):wj 126 [.sl zf [0] sv,.fv 127 [.ep wh [0] v 0]] [kI r]:=by
 refine fi 19 func126 fun Xt=>?_
 unfold zah at h;refine jp (jp (zp (jb h fun q ul h=>jL ul [0,1,7] [] (fun s=>[(8,kI s)]) (fun| (.inl v_)=> .x 0 ⟨[],[]⟩| (.inr v_)=> .r ⟨[(4,kI v_)],[]⟩) ?_ lzz ?_)))
 ·clear h;intro v2 o h;unfold zH at h;refine jp (jI h ?_ ?_)<;>intro uf h
  ·refine zp (jp (jb h fun x ut h=>jb h fun rv ui h=>jr (rx 3 [0] zif.el ut rfl rfl (rc 0 rfl (lde zf [0] x znI) (ra 0 [.fv 127 [.ep wh [0] v 0],.rc zf [0] x] rfl (zFo (args:=[.tmp 15]) [.rc zf [0] x] [0] 10 rfl (zGR _ _) call127 (ztr ui) rfl rfl rfl rfl rfl) rfl rf))) (jI h ?_ ?_)))<;>intro ug h
   ·cases h;exact jz'
   refine zJ ?_;cases h;exact jy
  cases h;exact zad rfl lzz
 rcases q with u| u2
 ·refine zao _ rfl ?_;cases h;exact jz
 obtain rfl:=(sj h);exact zer lzz
theorem ztS (h:ziQ wv=some r):wj 153 [kU wv] [.lf (.int .i32 r)]:=by
 refine fi 6 func153 fun Xt=>?_
 unfold ziQ at h;refine jp (jb h fun rv ui h=>jr (rl 1 [1] 9 call154 (zpA ui) rf) ?_);cases h;exact zz lzz
theorem zsZ (h:zmk b=some r):wj 158 [.sl Rp.byte [0] b] [kI r]:=by
 refine fi 48 func158 fun Xt=>?_
 unfold zmk at h;refine jp (jp (jI h ?_ ?_))<;>intro uf h
 ·cases h;exact jz
 refine jb h fun x ut h=>jb h fun rv ui h=>jr (rx 1 [0] zcr.el ut rfl rfl (rl 1 [1] 9 call159 (zAq ui) rf)) (jg [0,3,4] [] [(24,kB ((rv.1==0)|| (decide (rv.1>(b.length:Int)))))] ?_ ?_)
 ·refine (rsl 3 [] 19 (rv.1==0) ?_ ?_)<;>intro ug
  · exact (rbl [] 24 true rfl (by grind))
  exact (rbl [] 24 (decide (rv.1>(b.length:Int))) rfl (by grind))
 refine jI h ?_ ?_<;>intro uj h
 ·cases h;exact jz
 refine jb h fun v2 uJ h=>jr (ra 2 [.sl Rp.byte [0] b,kI 1,kI rv.1] rfl (zeD (some (kI 1)) (some (kI rv.1)) rfl zcr.el (zbq _ _ _) ⟨rfl,rfl⟩ ⟨rfl,rfl⟩ uJ) rfl rf) (zp (jb h fun q ul h=>jL ul [3,27,28] [] (fun s=>[(4,.lf (.int .u32 s.1)),(29,kI s.2)]) (fun| (.inl v_)=> .X 0 [3] [] [(4,.lf (.int .u32 v_))] []| (.inr v_)=> .r ⟨[(2,kI 0)],[]⟩) ?_ lzz ?_))
 ·clear h;intro s o h;obtain ⟨wv,v3⟩:=s;replace h:zfE v2 wv v3=some o:=h;unfold zfE at h;refine jp (jI h ?_ ?_)<;>intro uk h
  ·refine zp (jb h fun x2 uw h=>jr (rx 0 [0] zcr.el uw rfl rfl rf) (jr (ra 1 [k8 (x2.toNat:Int),kU 6] rfl (zjo rfl rfl) rfl rf) (jI h ?_ ?_)))<;>intro uq h
   ·cases h;exact jz'
   refine jr (ra 1 [.lf (.int .u32 wv),kU 6] rfl (zBk rfl rfl) rfl rf) (zJ ?_);cases h;exact jy
  cases h;exact zad rfl lzz
 rcases q with u| u2
 ·refine zao _ rfl (jb h fun wo uo h=>jr (rl 2 [1] 10 call160 (zAp uo) rf) (jI h ?_ ?_))<;>intro ur h
  ·cases h;exact jz
  cases h;exact jz
 cases h;exact zer lzz
theorem zfD (h:zbe wK=some r):wj 25 [.sl (Rp.list Rp.byte) [0] wK] [.own Rp.byte 5 2 [] r]:=by
 refine fi 36 func25 fun Xt=>?_
 unfold zbe at h;refine jp (jp (jp (zp (jb h fun q ul h=>jL ul [0,9,10] [] (fun s=>[(3,kI s.1),(11,kI s.2)]) (fun o=> .X 0 [0] [] [(3,kI o)] []) ?_ lzz ?_))))
 ·clear h;intro s o h;obtain ⟨size,v⟩:=s;replace h:zat wK size v=some o:=h;unfold zat at h;refine jp (jI h ?_ ?_)<;>intro uf h
  ·refine zp (jb h fun x ut h=>jr (rx 0 [0] zvK.el ut rfl rfl (rc 0 rfl (ldl (Rp.list Rp.byte) [0] x 0 Rp.byte x) rf)) (jp (jp (jI h ?_ ?_))))<;>intro ug h
   · exact absurd h nofun
   refine zJ ?_;cases h;exact jy
  cases h;exact zad rfl lzz
 refine zao _ rfl (jb h fun rv ui h=>jr (rl 1 [1] 12 call45 (zjH ui) rf) (jp (zp (jb h fun q2 uK h=>jL uK [25,26] [] (fun s=>[(6,.own Rp.byte 5 14 [] s.1),(27,kI s.2)]) (fun o=> .x 2 ⟨[(6,.own Rp.byte 5 14 [] o)],[]⟩) ?_ lzz ?_))))
 ·clear h;intro s o h;obtain ⟨wO,v2⟩:=s;replace h:zau wK wO v2=some o:=h;unfold zau at h;refine jp (jI h ?_ ?_)<;>intro uj h
  ·refine zp (jb h fun x2 uw h=>jr (rx 0 [0] zvK.el uw rfl rfl (rc 0 rfl (ldl (Rp.list Rp.byte) [0] x2 0 Rp.byte x2) rf)) (jb h fun v3 uD h=>jr (rc 2 rfl (las 14 [] [0] [] zcr.el uD (.inl zuT)) rf) (zJ ?_)));cases h;exact jy
  cases h;exact zad rfl lzz
 refine zao _ rfl (jp ?_);obtain rfl:=(sj h);exact zz (lks [] [(14,2)] lzz)
theorem znr (h:zeo sv i k=some r):wj 78 [.sl zi [0] sv,kI i,kI k] [kI r]:=by
 refine fi 119 func78 fun Xt=>?_
 unfold zeo at h;refine jp (jb h fun x ut h=>jb h fun x2 uw h=>jr (rx 2 [0] zfZ.el ut rfl rfl (rc 1 rfl (ldl zi [0] x 1 zf x.Fields) (rx 1 [0] zif.el uw rfl rfl (rc 0 rfl (lde zf [0] x2 znI) (rfl' [11]))))) (jp (jp (zp (jb h fun q ul h=>jL ul [0,1,2,7] [11] (fun s=>[(8,kB s.1),(9,kB s.2.1),(10,kI s.2.2)]) (fun o=> .X 0 [0,7] [11] [(8,kB o.1),(9,kB o.2)] []) ?_ lzz ?_)))))
 ·clear h;intro s o h;obtain ⟨ve,uP,j⟩:=s;replace h:zbx i k sv x2 ve uP j=some o:=h;unfold zbx at h;refine jp (jI h ?_ ?_)<;>intro uf h
  ·refine zp (jb h fun g uh h=>jn (.N [0,1,2,7,9,10] [11] [(8,kB g)] []) ?_ (zcQ ?_))
   ·rcases zgx uh with ⟨ug,uh⟩| ⟨ug,uh⟩
    ·cases uh;exact jd [0,1,2,7,8,9,10] [11] zbo (by exact (lw_e (dg 24 ug l0))) (zL lzz)
    refine jb uh fun x3 uE uh=>jb uh fun x4 uL uh=>?_;cases uh;exact jd [0,1,2,7,8,9,10] [11] zbo (by exact (lw_e (dg 24 ug (lwn 2 (di [0] zfZ.el uE (lw_e (lx (ldl zi [0] x3 1 zf x3.Fields) (lw_e (di [0] zif.el uL l0))))))))) (zL lzz)
   refine jb h fun g2 uA h=>jn (.N [0,1,2,7,8,10] [11] [(9,kB g2)] []) ?_ (zcQ ?_)
   ·rcases zgx uA with ⟨uj,uA⟩| ⟨uj,uA⟩
    ·cases uA;exact jd [0,1,2,7,8,9,10] [11] zbo (by exact (lw_e (dg 39 uj l0))) (zL lzz)
    refine jb uA fun x5 uU uA=>jb uA fun x6 vb uA=>?_;cases uA;exact jd [0,1,2,7,8,9,10] [11] zbo (by exact (lw_e (dg 39 uj (lwn 2 (di [0] zfZ.el uU (lw_e (lx (ldl zi [0] x5 1 zf x5.Fields) (lw_e (di [0] zif.el vb l0))))))))) (zL lzz)
   refine zJ ?_;cases h;exact jy
  cases h;exact zad rfl lzz
 refine zao _ rfl (jb h fun rv ui h=>jr (rl 2 [1] 11 call77 (ziT ui) rf) (jI h ?_ ?_))<;>intro uk h
 ·cases h;exact jz
 refine jp (jI h ?_ ?_)<;>intro uq h
 ·cases h;exact jz
 refine jg [0,7,9] [11] [(76,kB ((decide (x2.Number<1))|| ((decide (x2.Number>536870911))|| ((decide (x2.Number>=19000))&&(decide (x2.Number<20000))))))] ?_ ?_
 ·refine (rsl 4 [] 62 (decide (x2.Number<1)) ?_ ?_)<;>intro ur
  · exact (rbl [] 76 true rfl (by grind))
  refine (rsl 5 [] 67 (decide (x2.Number>536870911)) ?_ ?_)<;>intro uy
  · exact (rbl [] 76 true rfl (by grind))
  refine (rsl 4 [] 71 (decide (x2.Number>=19000)) ?_ ?_)<;>intro uC
  · exact (rbl [] 76 (decide (x2.Number<20000)) rfl (by grind))
  exact (rbl [] 76 false rfl (by grind))
 refine jI h ?_ ?_<;>intro uF h
 ·cases h;exact jz
 refine jp (jI h ?_ ?_)<;>intro uI h
 ·cases h;exact jz
 refine jb h fun wo uo h=>jr (rl 2 [1] 11 call64 (zgk uo) rf) (jI h ?_ ?_)<;>intro uS h
 ·cases h;exact jz
 refine jb h fun g3 uZ h=>jg [0,7] [11] [(93,kB g3)] ?_ ?_
 ·refine (rsI 3 84 uZ ?_ ?_)<;>intro uN uZ
  ·refine (rsI 3 87 uZ ?_ ?_)<;>intro uQ uZ
   ·refine jb uZ fun wy uB uZ=>?_;cases uZ;exact (rl 2 [1] 11 call36 (zcX uB) (rel [] lzz))
   cases uZ;exact (rel [] lzz)
  cases uZ;exact (rel [] lzz)
 refine jI h ?_ ?_<;>intro uT h
 ·cases h;exact jz
 refine jg [] [] [(118,kB (if (x2.Kind==17) then ((decide (x2.Of<0))|| ((decide (x2.Of>=(sv.length:Int)))|| ((x2.Kind !=17)&&(x2.Of !=0)))) else ((x2.Kind !=17)&&(x2.Of !=0))))] ?_ ?_
 ·refine (rsl 4 [] 97 (x2.Kind==17) ?_ ?_)<;>intro uO
  ·refine (rsl 4 [] 101 (decide (x2.Of<0)) ?_ ?_)<;>intro uY
   · exact (rbl [] 118 true rfl (by grind))
   refine (rsl 8 [] 109 (decide (x2.Of>=(sv.length:Int))) ?_ ?_)<;>intro u0
   · exact (rbl [] 118 true rfl (by grind))
   refine (rsl 4 [] 113 (x2.Kind !=17) ?_ ?_)<;>intro u9
   · exact (rbl [] 118 (x2.Of !=0) rfl (by grind))
   exact (rbl [] 118 false rfl (by grind))
  refine (rsl 16 [] 113 (x2.Kind !=17) ?_ ?_)<;>intro va
  · exact (rbl [] 118 (x2.Of !=0) rfl (by grind))
  exact (rbl [] 118 false rfl (by grind))
 refine jI h ?_ ?_<;>intro vl h
 ·cases h;exact jz
 cases h;exact jz
theorem znQ (h:zeO b wu=some r):wj 79 [.sl Rp.byte [0] b,kI wu] [kI r.1,kI r.2.1,kI r.2.2.1,kI r.2.2.2]:=by
 refine fi 40 func79 fun Xt=>?_
 unfold zeO at h;refine jp (jb h fun rv ui h=>jr (rl 2 [0] 9 call59 (zcF ui) rf) (jp (jI h ?_ ?_)))<;>intro uf h
 ·cases h;exact jz
 refine jb h fun g uh h=>jg [8,9] [] [(32,kB g)] ?_ ?_
 ·refine (rsI 3 23 uh ?_ ?_)<;>intro ug uh
  ·cases uh;exact rgg
  refine jb uh fun wo uo uh=>?_;cases uh;exact (rl 6 [1] 9 call92 (znn uo) rgg)
 refine jI h ?_ ?_<;>intro uj h
 ·cases h;exact jz
 cases h;exact jz
theorem ziV (h:zdR k b=some r):wj 48 [kI k,.sl Rp.byte [0] b] [.own wh 3 2 [] r.1,kI r.2]:=by
 refine fi 48 func48 fun Xt=>?_
 unfold zdR at h;refine jp (jb h fun rv ui h=>jr (rl 1 [1] 12 call36 (zcX ui) rf) (jI h ?_ ?_))<;>intro uf h
 ·refine jp ?_;cases h;exact zz lw
 refine jp (jp (zp (jb h fun q ul h=>jL ul [0,1] [] (fun s=>[(6,.own wh 3 16 [] s.1),(7,kI s.2)]) (fun| (.inl v_)=> .x 0 ⟨[(6,.own wh 3 16 [] v_)],[]⟩| (.inr v_)=> .r ⟨[(4,kN),(5,kI v_)],[]⟩) ?_ lw ?_)))
 ·clear h;intro s o h;obtain ⟨out,wu⟩:=s;replace h:zaQ b k out wu=some o:=h;unfold zaQ at h;refine jp (jI h ?_ ?_)<;>intro ug h
  ·refine zp (jp (jp (jb h fun p uH h=>jn (.N [0,1,6,7] [] [(8,kI p)] []) ?_ ?_)))
   ·replace h:=uH;refine jI h ?_ ?_<;>intro uj h
    ·cases h;exact jy
    cases h;exact zL lzz
   refine zcQ (jp (jb h fun p2 uR h=>jn (match p2 with| (.inl v_)=> .N [0,1,6,7] [] [(8,kI v_)] []| (.inr v_)=> .r ⟨[(4,kN),(5,kI v_)],[]⟩) ?_ ?_))
   ·replace h:=uR;refine jI h ?_ ?_<;>intro uk h
    ·refine jb h fun wo uo h=>jr (rl 2 [0] 15 call59 (zcF uo) rf) (jp (jI h ?_ ?_))<;>intro uq h
     ·cases h;exact jz
     cases h;exact jy
    cases h;exact zL lzz
   rcases p2 with u| u2
   ·refine zcQ (jp (jI h ?_ ?_))<;>intro ur h
    ·cases h;exact jz'
    refine jp (jb h fun v3 uD h=>jr (rc 2 rfl (zdE [kI (i64.wrap (wu+u))] 17 [] ([(i64.wrap (wu+u))]:(List Int)) rfl zin rfl rfl rfl rfl) (rc 0 rfl (lao 16 [] 3 17 [] [] zin.el uD (.inl (zfu _))) rf)) (zJ ?_));cases h;exact zL lzz
   cases h;exact zxU lzz
  cases h;exact zad rfl lzz
 rcases q with u3| u4
 ·refine zao _ rfl (jp ?_);cases h;exact zz (lks [] [(16,2)] lzz)
 cases h;exact zer lw
theorem znR (h:zeP b wu=some r):wj 80 [.sl Rp.byte [0] b,kI wu] [kI r]:=by
 refine fi 61 func80 fun Xt=>?_
 unfold zeP at h;refine jp (jp (zp (jb h fun q2 uK h=>jL uK [0,1] [] (fun s=>[(5,kI s)]) (fun| (.inl v_)=> .x 0 ⟨[],[]⟩| (.inr v_)=> .r ⟨[(4,kI v_)],[]⟩) ?_ lzz ?_)))
 ·clear h;intro n o h;unfold zcG at h;refine jg [0,1,5] [] [(17,kB ((decide (n<=4))&&(decide ((i64.wrap (wu+n))<=(b.length:Int)))))] ?_ ?_
  ·refine (rsl 3 [] 10 (decide (n<=4)) ?_ ?_)<;>intro uf
   · exact (rbl [] 17 (decide ((i64.wrap (wu+n))<=(b.length:Int))) rfl (by grind))
   exact (rbl [] 17 false rfl (by grind))
  refine jI h ?_ ?_<;>intro ug h
  ·refine zp (jb h fun x ut h=>jr (rx 2 [0] zcr.el ut rfl rfl rf) (jp (jb h fun p uH h=>jn (.N [0,1,5] [] [(6,kI p)] []) ?_ ?_)))
   ·replace h:=uH;refine jI h ?_ ?_<;>intro uj h
    ·refine jb h fun x2 uw h=>jb h fun v3 uD h=>jr (rc 1 rfl (zdE [kI 0,kI 0,kI 32,kI 16,kI 8] 12 [] ([0,0,32,16,8]:(List Int)) rfl zin rfl rfl rfl rfl) (ra 1 [.own wh 3 12 [] ([0,0,32,16,8]:(List Int)),kI n] rfl (zhw rfl zin.el (zaS _ _ _ _ _) uw) rfl (ra 1 [kI (i64.wrap (x.toNat:Int)),kI x2] rfl (zIO rfl uD) rfl rf))) ?_;cases h;exact zL lzz
    cases h;exact zL lzz
   refine zcQ (jp (zp (jb h fun q ul h=>jL ul [0,1,5] [] (fun s=>[(6,kI s.1),(7,kI s.2)]) (fun o=> .X 2 [0,1,5] [] [(6,kI o)] []) ?_ lzz ?_)))
   ·clear h;intro s o h;obtain ⟨wo,i⟩:=s;replace h:zbH wu b n wo i=some o:=h;unfold zbH at h;refine jp (jI h ?_ ?_)<;>intro uk h
    ·refine zp (jb h fun x3 uE h=>jr (rx 6 [0] zcr.el uE rfl rfl rf) (zJ ?_));cases h;exact jy
    cases h;exact zad rfl lzz
   refine zao _ rfl (jb h fun rv4 uM h=>jb h fun v4 uX h=>jd [0,1,5,59] [] zbo (by exact (lw_e (lx (lf1 93 (lcd [kI q] 12 call93 (zpo uM))) (ly [.own Rp.byte 5 14 [] rv4] (zog rfl underlying24 underlying5 underlying9 (zaS _ _ _ _ _)) rfl (lwn 5 (ly [.sl Rp.byte [0] b,kI wu,kI (i64.wrap (wu+n))] (zeD (some (kI wu)) (some (kI (i64.wrap (wu+n)))) rfl zcr.el (zbq _ _ _) ⟨rfl,rfl⟩ ⟨rfl,rfl⟩ uX) rfl (ly [.sl Rp.byte [0] v4] (zog rfl underlying24 underlying5 underlying9 (zbq _ _ _)) rfl l0))))))) (jI h ?_ ?_))<;>intro uq h
   ·cases h;exact jz'
   refine zJ ?_;cases h;exact jy
  cases h;exact zad rfl lzz
 rcases q2 with u| u2
 ·refine zao _ rfl ?_;cases h;exact jz
 obtain rfl:=(sj h);exact zer lzz
theorem ztk (h:zhY b=some r):wj 150 [.sl Rp.byte [0] b] [kU r.1,k8 r.2]:=by
 refine fi 22 func150 fun Xt=>?_
 unfold zhY at h;refine jp (jb h fun rv ui h=>jr (rl 1 [0] 9 call123 (zic ui) rf) (jg [4] [] [(20,kB ((rv.2.2 !=0)|| (rv.2.1 !=(b.length:Int))))] ?_ ?_))
 ·refine (rsl 3 [] 15 (rv.2.2 !=0) ?_ ?_)<;>intro uf
  · exact (rbl [] 20 true rfl (by grind))
  exact (rbl [] 20 (rv.2.1 !=(b.length:Int)) rfl (by grind))
 refine jI h ?_ ?_<;>intro ug h
 ·cases h;exact jz
 cases h;exact jz
theorem znS (h:zeQ wire value=some r):wj 56 [kI wire,.sl Rp.byte [0] value] [kB r]:=by
 refine fi 44 func56 fun Xt=>?_
 unfold zeQ at h;refine jp (jp (jI h ?_ ?_))<;>intro uf h
 ·refine jb h fun rv ui h=>jr (rl 1 [0] 9 call59 (zcF ui) rf) (jg [] [] [(4,kB ((rv.2.2==0)&&(rv.2.1==(value.length:Int))))] ?_ ?_)
  ·refine (rsl 3 [] 18 (rv.2.2==0) ?_ ?_)<;>intro ug
   · exact (rbl [] 4 (rv.2.1==(value.length:Int)) rfl (by grind))
   exact (rbl [] 4 false rfl (by grind))
  cases h;exact zz lzz
 refine jg [] [] [(4,kB ((wire==2)|| (if (wire==1) then (((value.length:Int)==8)|| ((wire==5)&&((value.length:Int)==4))) else ((wire==5)&&((value.length:Int)==4)))))] ?_ ?_
 ·refine (rsl 3 [] 26 (wire==2) ?_ ?_)<;>intro uj
  · exact (rbl [] 4 true rfl (by grind))
  refine (rsl 3 [] 29 (wire==1) ?_ ?_)<;>intro uk
  ·refine (rsl 6 [] 35 ((value.length:Int)==8) ?_ ?_)<;>intro uq
   · exact (rbl [] 4 true rfl (by grind))
   refine (rsl 3 [] 38 (wire==5) ?_ ?_)<;>intro ur
   · exact (rbl [] 4 ((value.length:Int)==4) rfl (by grind))
   exact (rbl [] 4 false rfl (by grind))
  refine (rsl 9 [] 38 (wire==5) ?_ ?_)<;>intro uy
  · exact (rbl [] 4 ((value.length:Int)==4) rfl (by grind))
  exact (rbl [] 4 false rfl (by grind))
 cases h;exact zz lzz
theorem zig (h:zdy k wv=some r):wj 60 [kI k,kU wv] [kU r]:=by
 refine fi 25 func60 fun Xt=>?_
 unfold zdy at h;refine jp (jp (zp (jp (jb h fun p uH h=>jn (.N [1,5] [] [(6,kB p)] []) ?_ ?_))))
 ·replace h:=uH;refine jI h ?_ ?_<;>intro uf h
  ·cases h;exact zL lzz
  cases h;exact jy
 refine zcQ (jI h ?_ ?_)<;>intro ug h
 ·refine jb h fun rv ui h=>jb h fun wo uo h=>jr (rl 1 [1] 9 call75 (zmz ui) (rl 0 [1] 9 call74 (znO uo) rf)) ?_;obtain rfl:=(sj h);exact zz lzz
 refine jp (jb h fun p2 uR h=>jn (.N [1,5] [] [(12,kB p2)] []) ?_ ?_)
 ·replace h:=uR;refine jI h ?_ ?_<;>intro uj h
  ·cases h;exact zL lzz
  refine jp (jI h ?_ ?_)<;>intro uk h
  ·cases h;exact zL lzz
  refine jp (jI h ?_ ?_)<;>intro uq h
  ·cases h;exact zL lzz
  refine jp (jI h ?_ ?_)<;>intro ur h
  ·cases h;exact zL lzz
  cases h;exact jy
 refine zcQ (jI h ?_ ?_)<;>intro uy h
 ·cases h;exact jz
 refine jp (jI h ?_ ?_)<;>intro uC h
 ·refine jp (jI h ?_ ?_)<;>intro uF h
  ·cases h;exact jz
  cases h;exact jz
 refine zJ (jp ?_);obtain rfl:=(sj h);exact zz lzz
theorem zfk (h:zbX x v=some r):wj 32 [.rc zn [0] x,.rc zh [0] v] [.ag (zbC 3 [4,0,5] [0] r)]:=by
 refine fj ⟨[(4,.ptr 2 0)],[⟨2,40,(zbC 3 [4,0,5] [0] r)⟩]⟩ 68 func32 ⟨⟨_,_,rfl,rfl,rfl,znH⟩,trivial⟩ fun Xt=>?_
 unfold zbX at h;refine jr (rc 0 rfl (lbx 28 [0] (zcU [0] x)) (rc 0 rfl (lbx 29 [0] (zbc [0] v)) (rfl' [30]))) (jr (ra 2 [.sl Rp.str [0] x.Unknown] rfl (zhv [.sl Rp.str [0] x.Unknown] [kN,.sl Rp.str [0] x.Unknown] rfl zIl rfl) rfl (rfl' [31])) (jb h fun rv ui h=>jr (rc 1 rfl (lw0 30 call38 (ziX ui) (.l (zej [0] v))) rf) (jp (zp (jb h fun q ul h=>jl ul [2,3,4,5] [28,29,30] (fun s=>[(6,kB s.1),(7,kI s.2.1)]) (fun s=>[⟨31,40,[.own zh 74 34 [32,0] s.2.2,.sl Rp.str [0] x.Unknown]⟩]) (fun o=> .X 0 [3,4,5] [29,30] [(6,kB o.1)] [⟨31,40,[.own zh 74 34 [32,0] o.2,.sl Rp.str [0] x.Unknown]⟩]) ?_ lw ?_)))))
 ·clear h;intro s o h;obtain ⟨done,i,f⟩:=s;replace h:zcg v x done i f=some o:=h;unfold zcg at h;refine jp (jI h ?_ ?_)<;>intro uf h
  ·refine zp (jb h fun g uh h=>jn (.N [2,3,4,5,6,7] [28,29,30,31] [(33,kB g)] []) ?_ (zcQ ?_))
   ·rcases zgx uh with ⟨ug,uh⟩| ⟨ug,uh⟩
    ·refine jb uh fun x2 uw uh=>?_;cases uh;exact jd [2,3,4,5,6,7,33] [28,29,30,31] zbo (by exact (lwn 2 (dg 22 ug (lwn 3 (di [0] zim.el uw (lw_e (ly [.ep zh [0] x2 0] (zBj (.int .i64 x2.Number) rfl rfl (by rw [zI]<;>rfl) rfl) rfl l0))))))) (zL lzz)
    cases uh;exact jd [2,3,4,5,6,7,33] [28,29,30,31] zbo (by exact (lwn 2 (dg 22 ug l0))) (zL lzz)
   refine jb h fun p uH h=>jn (.N [2,3,4,5,7] [28,29,30] [(6,kB p.1)] [⟨31,40,[.own zh 74 34 [32,0,41] p.2,.sl Rp.str [0] x.Unknown]⟩]) ?_ ?_
   ·replace h:=uH;refine jI h ?_ ?_<;>intro uj h
    ·refine jb h fun v3 uD h=>jr (rc 3 rfl (zx.lw (lbs1 42 [0] v zim) (.l (zej [0] v))) (rc 0 rfl (lao 34 [32,0] 74 42 [0] [32,0,42] zim.el uD (.inr rfl)) rf)) (jp ?_);cases h;exact zL (lks [28,29,30,31] [(42,41)] lzz)
    cases h;exact zL lw
   refine zcQ (jb h fun x3 uE h=>jd [2,3,4,5,6,7,48] [28,29,30,31] zbo (by exact (lwn 3 (di [0] zim.el uE (lw_e (ly [.ep zh [0] x3 0] (zBj (.int .i64 x3.Number) rfl rfl (by rw [zI]<;>rfl) rfl) rfl l0))))) (jI h ?_ ?_))<;>intro uk h
   ·refine jb h fun x4 uL h=>jb h fun v4 uX h=>jd [2,3,4,5,6,7] [28,29,30,31] zbo (by exact (lwn 5 (di [0] zim.el uL (lx (lde zh [0] x4 zwm) (lx (lbs1 43 [0] x4 zim) (ly [.own zh 74 34 [32,0,41] p.2,.own zh 74 43 [0] ([x4]:(List za))] (zx.withBx (zof 34 [32,0,41,43] rfl zim.el rfl (zhs _ _ _ _ _) (zaS _ _ _ _ _) uX (.inr rfl) rfl) ⟨31,40,[.own zh 74 34 [32,0,41] p.2,.sl Rp.str [0] x.Unknown]⟩ rfl rfl) rfl (lw_e (ly [.ptr 31 0,.own zh 74 34 [32,0,41,43] v4] (zoh (b:=⟨31,40,[.any,.sl Rp.str [0] x.Unknown]⟩) (off:=0) rfl sizeOf38 rfl rfl rfl) rfl l0)))))))) (zJ (jp ?_));cases h;exact zL (lks [28,29,30,31] [(41,32),(43,32)] lw)
   refine zJ (jp ?_);cases h;exact zL (lks [28,29,30,31] [(41,32)] lw)
  cases h;exact zad rfl lzz
 refine zao _ rfl (jp (jI h ?_ ?_))<;>intro uq h
 ·refine jb h fun v5 uV h=>jr (rc 3 rfl (zx.lw (lbs1 44 [0] v zim) (.l (zej [0] v))) (rc 0 rfl (lao 34 [32,0] 74 44 [0] [32,0,44] zim.el uV (.inr rfl)) rf)) (jp ?_);cases h;exact zz (lks [30] [(30,2),(34,3),(32,5),(44,5)] lw)
 refine jp ?_;cases h;exact zz (lks [30] [(30,2),(34,3),(32,5)] lw)
end Go.Proofs.YtnckiilakdkklaaGreat

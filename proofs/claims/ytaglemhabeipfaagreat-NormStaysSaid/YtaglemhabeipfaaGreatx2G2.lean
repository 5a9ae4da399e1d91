/-
  The Go functions do what the plain functions say. No condition.
-/
import Derived.Test.YtaglemhabeipfaaGreatx2G1
import Derived.Test.YtaglemhabeipfaaGreatx2Y
set_option autoImplicit true
set_option relaxedAutoImplicit true
namespace Go.Proofs.YtaglemhabeipfaaGreat
open Tryz
open Go Go.RowKit
set_option linter.unusedVariables false
set_option maxRecDepth 100000
set_option maxHeartbeats 3200000
theorem zCr (h:zoW=some r):wL 131 [] [.own wI 3 2 [] r]:=by
 refine fi 4 func131 fun Xt=>?_
 unfold zoW at h;refine jp (jb h fun rv uR h=>jb h fun v vc h=>jr (rl 0 [1] 11 call168 (zqN uR) (rkl 0 [] ⟨[(1,.om wI zaH 13 [] rv)],[]⟩ (zxl (rv:=zaH) (m:=rv) 14 zKm rfl rfl rfl rfl rfl rfl call167 call62 rfl (zFL _ _ _ _ _) vc rfl rf))) ?_);obtain rfl:=(sj h);exact zG (lks [] [(14,2)] lzz)
theorem znd (h:zgt vH=some r):wL 169 [kS vH] [kB r]:=by
 refine fi 34 func169 fun Xt=>?_
 unfold zgt at h;refine jp (jb h fun g uQ h=>jg [0] [] [(15,kB g)] ?_ ?_)
 ·refine (rsI 3 6 uQ ?_ ?_)<;>intro uP uQ
  ·cases uQ;exact rgg
  refine (rsI 5 11 uQ ?_ ?_)<;>intro uT uQ
  ·cases uQ;exact rgg
  refine jb uQ fun c wj uQ=>jb uQ fun rv uR uQ=>?_;cases uQ;exact (ra 1 [kS vH,kI 0] rfl (zEx rfl underlying9 wj) rfl (rl 0 [1] 9 call203 (zmb uR) rgg))
 refine jI h ?_ ?_<;>intro uV h
 ·refine jp ?_;obtain rfl:=(sj h);exact zG lzz
 refine jp (zx (jb h fun q uW h=>jL uW [0,17] [] (fun s=>[(18,kI s)]) (fun| (.inl v_)=> .x 0 ⟨[],[]⟩| (.inr v_)=> .r ⟨[(2,kB false)],[]⟩) ?_ lzz ?_))
 ·clear h;intro v2 o h;unfold zdI at h;refine jp (jI h ?_ ?_)<;>intro uY h
  ·refine zx (jp (jb h fun g2 va h=>jg [0,17,18] [] [(32,kB g2)] ?_ ?_))
   ·refine jb va fun c2 wo va=>jb va fun wN uU va=>(ra 2 [kS vH,kI v2] rfl (zEx rfl underlying9 wo) rfl (rl 0 [1] 10 call204 (zrt uU) (rsI 2 26 va ?_ ?_)))<;>intro ve va
    ·refine jb va fun c3 wr va=>jb va fun wQ u0 va=>?_;cases va;exact (ra 2 [kS vH,kI v2] rfl (zEx rfl underlying9 wr) rfl (rl 0 [1] 10 call203 (zmb u0) rgg))
    cases va;exact rgg
   refine jI h ?_ ?_<;>intro vh h
   ·cases h;exact jz'
   refine zam ?_;cases h;exact jy
  cases h;exact zaI rfl lzz
 rcases q with u| u2
 ·refine zbo _ rfl (jp ?_);obtain rfl:=(sj h);exact zG lzz
 obtain rfl:=(sj h);exact zgz lzz
theorem zjU (h:zcb sv v=some r):wL 171 [.sl wI [0] sv,kI v] [kB r]:=by
 refine fi 9 func171 fun Xt=>?_
 unfold zcb at h;refine jp (jb h fun rv uR h=>jr (rl 2 [0] 9 call205 (zlB uR) rf) ?_);cases h;exact zG lzz
theorem zrY (h:zkM k=some r):wL 192 [kI k] [kI r.1,k8 r.2]:=by
 refine fi 16 func192 fun Xt=>?_
 unfold zkM at h;refine jp (jb h fun rv uR h=>jr (rl 0 [1] 9 call168 (zqN uR) (ra 1 [.om wI zaH 11 [] rv,kI k] rfl (zqb (rk:=wI) (rv:=zaH) (m:=rv) (k:=k) (.rc zaH [] ((mget rv k).getD (⟨[],0⟩:zw))) rfl zeS (zdx rfl rfl) (zAs rfl)) rfl (rfl' [12]))) (jp (jI h ?_ ?_)))<;>intro uP h
 ·cases h;exact jz
 cases h;exact jz
theorem zsK (h:zkT t=some r):wL 183 [.rc zbN [0] t] [kB r]:=by
 refine fi 16 func183 fun Xt=>?_
 unfold zkT at h;refine jq [11] (jb h fun g uQ h=>jg [] [] [(2,kB g)] ?_ ?_)
 ·refine (rsI 4 6 uQ ?_ ?_)<;>intro uP uQ
  ·refine (rsI 5 11 uQ ?_ ?_)<;>intro uT uQ
   ·refine jb uQ fun rv uR uQ=>?_;cases uQ;exact (rl 2 [1] 10 call209 (ztW uR) rgg)
   cases uQ;exact rgg
  cases uQ;exact rgg
 obtain rfl:=(sj h);exact zG lzz
theorem zpL (h:zie b=some r):wL 184 [.sl Rp.byte [0] b] [kI r.1,k8 r.2]:=by
 refine fi 15 func184 fun Xt=>?_
 unfold zie at h;refine jp (jb h fun rv uR h=>jr (rl 1 [0] 9 call182 (ziK uR) rf) ?_);cases h;exact jz
theorem zdX (h:zaA sv v=some r):wL 134 [.sl zc [0] sv,.fv 190 [.ep wI [0] v 0]] [kI r]:=by
 refine fi 19 func134 fun Xt=>?_
 unfold zaA at h;refine jp (jp (zx (jb h fun q uW h=>jL uW [0,1,7] [] (fun s=>[(8,kI s)]) (fun| (.inl v_)=> .x 0 ⟨[],[]⟩| (.inr v_)=> .r ⟨[(4,kI v_)],[]⟩) ?_ lzz ?_)))
 ·clear h;intro v2 o h;unfold zP at h;refine jp (jI h ?_ ?_)<;>intro uP h
  ·refine zx (jp (jb h fun x uZ h=>jb h fun rv uR h=>jr (rx 3 [0] zoq.el uZ rfl rfl (rc 0 rfl (lde zc [0] x zoe) (ra 0 [.fv 190 [.ep wI [0] v 0],.rc zc [0] x] rfl (zsg (args:=[.tmp 15]) [.rc zc [0] x] [0] 10 rfl (zFK _ _) call190 (zvb uR) rfl rfl rfl rfl rfl) rfl rf))) (jI h ?_ ?_)))<;>intro uT h
   ·cases h;exact jz'
   refine zam ?_;cases h;exact jy
  cases h;exact zaI rfl lzz
 rcases q with u| u2
 ·refine zbo _ rfl ?_;cases h;exact jz
 obtain rfl:=(sj h);exact zgz lzz
theorem zvV (h:zjF wv=some r):wL 211 [kU wv] [.lf (.int .i32 r)]:=by
 refine fi 6 func211 fun Xt=>?_
 unfold zjF at h;refine jp (jb h fun rv uR h=>jr (rl 1 [1] 9 call212 (zqI uR) rf) ?_);cases h;exact zG lzz
theorem zuK (h:znl b=some r):wL 220 [.sl Rp.byte [0] b] [kI r]:=by
 refine fi 48 func220 fun Xt=>?_
 unfold znl at h;refine jp (jp (jI h ?_ ?_))<;>intro uP h
 ·cases h;exact jz
 refine jb h fun x uZ h=>jb h fun rv uR h=>jr (rx 1 [0] zcd.el uZ rfl rfl (rl 1 [1] 9 call221 (zDt uR) rf)) (jg [0,3,4] [] [(24,kB ((rv.1==0)|| (decide (rv.1>(b.length:Int)))))] ?_ ?_)
 ·refine (rsl 3 [] 19 (rv.1==0) ?_ ?_)<;>intro uT
  · exact (rbl [] 24 true rfl (by grind))
  exact (rbl [] 24 (decide (rv.1>(b.length:Int))) rfl (by grind))
 refine jI h ?_ ?_<;>intro uV h
 ·cases h;exact jz
 refine jb h fun v2 vi h=>jr (ra 2 [.sl Rp.byte [0] b,kI 1,kI rv.1] rfl (zgA (some (kI 1)) (some (kI rv.1)) rfl zcd.el (zbI _ _ _) ⟨rfl,rfl⟩ ⟨rfl,rfl⟩ vi) rfl rf) (zx (jb h fun q uW h=>jL uW [3,27,28] [] (fun s=>[(4,.lf (.int .u32 s.1)),(29,kI s.2)]) (fun| (.inl v_)=> .X 0 [3] [] [(4,.lf (.int .u32 v_))] []| (.inr v_)=> .r ⟨[(2,kI 0)],[]⟩) ?_ lzz ?_))
 ·clear h;intro s o h;obtain ⟨wv,v3⟩:=s;replace h:zfO v2 wv v3=some o:=h;unfold zfO at h;refine jp (jI h ?_ ?_)<;>intro uY h
  ·refine zx (jb h fun x2 vd h=>jr (rx 0 [0] zcd.el vd rfl rfl rf) (jr (ra 1 [k8 (x2.toNat:Int),kU 6] rfl (zit rfl rfl) rfl rf) (jI h ?_ ?_)))<;>intro ve h
   ·cases h;exact jz'
   refine jr (ra 1 [.lf (.int .u32 wv),kU 6] rfl (zAE rfl rfl) rfl rf) (zam ?_);cases h;exact jy
  cases h;exact zaI rfl lzz
 rcases q with u| u2
 ·refine zbo _ rfl (jb h fun wN uU h=>jr (rl 2 [1] 10 call222 (zDs uU) rf) (jI h ?_ ?_))<;>intro vh h
  ·cases h;exact jz
  cases h;exact jz
 cases h;exact zgz lzz
theorem zuV (h:ziG b=some r):wL 216 [.sl Rp.byte [0] b] [kU r.1,k8 r.2]:=by
 refine fi 22 func216 fun Xt=>?_
 unfold ziG at h;refine jp (jb h fun rv uR h=>jr (rl 1 [0] 9 call182 (ziK uR) rf) (jg [4] [] [(20,kB ((rv.2.2 !=0)|| (rv.2.1 !=(b.length:Int))))] ?_ ?_))
 ·refine (rsl 3 [] 15 (rv.2.2 !=0) ?_ ?_)<;>intro uP
  · exact (rbl [] 20 true rfl (by grind))
  exact (rbl [] 20 (rv.2.1 !=(b.length:Int)) rfl (by grind))
 refine jI h ?_ ?_<;>intro uT h
 ·cases h;exact jz
 cases h;exact jz
theorem zmw (h:zhN b wv=some r):wL 178 [.sl Rp.byte [0] b,kU wv] [.own Rp.byte 5 2 [] r]:=by
 refine fi 30 func178 fun Xt=>?_
 unfold zhN at h;refine jp (jb h fun rv uR h=>jb h fun v vc h=>jr (rl 3 [1] 10 call187 (zun uR) (ra 1 [kI 0,kI (IntKind.i64.wrap ((b.length:Int)+rv))] rfl (zsi 12 rfl zcd rfl vc) rfl rf)) (jb h fun v2 vi h=>jr (rc 2 rfl (las 12 [] [0] [] zcd.el vi (.inl zeK)) rf) (zx (jb h fun q uW h=>jL uW [] [] (fun s=>[(1,kU s.1),(5,.own Rp.byte 5 12 [] s.2)]) (fun o=> .x 0 ⟨[(1,kU o.1),(5,.own Rp.byte 5 12 [] o.2)],[]⟩) ?_ lzz ?_))))
 ·clear h;intro s o h;obtain ⟨wY,l⟩:=s;replace h:zfu wY l=some o:=h;unfold zfu at h;refine jp (jI h ?_ ?_)<;>intro uP h
  ·refine zx (jb h fun y vN h=>jb h fun v3 vf h=>jr (rc 4 rfl (zB.lw (zkg [.lf (.int .u8 (y.toNat:Int))] 14 [] [y] rfl zcd rfl rfl rfl rfl) (.l (zFV vN))) (rc 0 rfl (lao 12 [] 5 14 [] [] zcd.el vf (.inl zeK)) rf)) (zam (jr (ra 1 [kU wY,kU 7] rfl (zit rfl rfl) rfl rf) ?_)));cases h;exact zaJ lzz
  cases h;exact zaI rfl lzz
 refine zbo _ rfl (jb h fun y2 vF h=>jb h fun v4 vt h=>jr (rc 3 rfl (zB.lw (zkg [.lf (.int .u8 (y2.toNat:Int))] 15 [] [y2] rfl zcd rfl rfl rfl rfl) (.l (zFV vF))) (rc 0 rfl (lao 12 [] 5 15 [] [] zcd.el vt (.inl zeK)) rf)) ?_);obtain rfl:=(sj h);exact zG (lks [] [(12,2)] lzz)
theorem zbC (h:zaw ku=some r):wL 71 [.sl (Rp.list Rp.byte) [0] ku] [.own Rp.byte 5 2 [] r]:=by
 refine fi 36 func71 fun Xt=>?_
 unfold zaw at h;refine jp (jp (jp (zx (jb h fun q uW h=>jL uW [0,9,10] [] (fun s=>[(3,kI s.1),(11,kI s.2)]) (fun o=> .X 0 [0] [] [(3,kI o)] []) ?_ lzz ?_))))
 ·clear h;intro s o h;obtain ⟨size,v⟩:=s;replace h:zaR ku size v=some o:=h;unfold zaR at h;refine jp (jI h ?_ ?_)<;>intro uP h
  ·refine zx (jb h fun x uZ h=>jr (rx 0 [0] znq.el uZ rfl rfl (rc 0 rfl (ldl (Rp.list Rp.byte) [0] x 0 Rp.byte x) rf)) (jp (jp (jI h ?_ ?_))))<;>intro uT h
   · exact absurd h nofun
   refine zam ?_;cases h;exact jy
  cases h;exact zaI rfl lzz
 refine zbo _ rfl (jb h fun rv uR h=>jr (rl 1 [1] 12 call105 (zkE uR) rf) (jp (zx (jb h fun q2 vl h=>jL vl [25,26] [] (fun s=>[(6,.own Rp.byte 5 14 [] s.1),(27,kI s.2)]) (fun o=> .x 2 ⟨[(6,.own Rp.byte 5 14 [] o)],[]⟩) ?_ lzz ?_))))
 ·clear h;intro s o h;obtain ⟨kx,v2⟩:=s;replace h:zaS ku kx v2=some o:=h;unfold zaS at h;refine jp (jI h ?_ ?_)<;>intro uV h
  ·refine zx (jb h fun x2 vd h=>jr (rx 0 [0] znq.el vd rfl rfl (rc 0 rfl (ldl (Rp.list Rp.byte) [0] x2 0 Rp.byte x2) rf)) (jb h fun v3 vf h=>jr (rc 2 rfl (las 14 [] [0] [] zcd.el vf (.inl zeK)) rf) (zam ?_)));cases h;exact jy
  cases h;exact zaI rfl lzz
 refine zbo _ rfl (jp ?_);obtain rfl:=(sj h);exact zG (lks [] [(14,2)] lzz)
theorem zyj (h:zlC uX x=some r):wL 72 [.rc zm [0] x] [kI r]:=by
 refine fi 5 func72 fun Xt=>?_
 unfold zlC at h;refine jr (rc 0 rfl (lbx 11 [0] (zbd [0] x)) rf) (jb h fun rv uR h=>jr (rc 1 rfl (lw0 10 call106 (zyl uR) (.c (zaz [0] x) (.k .n))) rf) ?_);obtain rfl:=(sj h);exact zG lzz
theorem zdp (h:zat sv v=some r):wL 134 [.sl zc [0] sv,.fv 101 [.ep wI [0] v 0]] [kI r]:=by
 refine fi 19 func134 fun Xt=>?_
 unfold zat at h;refine jp (jp (zx (jb h fun q uW h=>jL uW [0,1,7] [] (fun s=>[(8,kI s)]) (fun| (.inl v_)=> .x 0 ⟨[],[]⟩| (.inr v_)=> .r ⟨[(4,kI v_)],[]⟩) ?_ lzz ?_)))
 ·clear h;intro v2 o h;unfold zM at h;refine jp (jI h ?_ ?_)<;>intro uP h
  ·refine zx (jp (jb h fun x uZ h=>jb h fun rv uR h=>jr (rx 3 [0] zoq.el uZ rfl rfl (rc 0 rfl (lde zc [0] x zoe) (ra 0 [.fv 101 [.ep wI [0] v 0],.rc zc [0] x] rfl (zsg (args:=[.tmp 15]) [.rc zc [0] x] [0] 10 rfl (zFK _ _) call101 (zpw uR) rfl rfl rfl rfl rfl) rfl rf))) (jI h ?_ ?_)))<;>intro uT h
   ·cases h;exact jz'
   refine zam ?_;cases h;exact jy
  cases h;exact zaI rfl lzz
 rcases q with u| u2
 ·refine zbo _ rfl ?_;cases h;exact jz
 obtain rfl:=(sj h);exact zgz lzz
theorem zyn (vI:∀{av:zd} {b:zd} {r:Bool},xb av b=some r->wL 46 [.rc zm [0] av,.rc zm [0] b] [kB r]) (vJ:∀{v:zb} {wv:zb} {r:Bool},xc v wv=some r->wL 74 [.rc zk [0] v,.rc zk [0] wv] [kB r]) (vK:∀{s1:(List zb)} {s2:(List zb)} {r:Bool},xm s1 s2=some r->wL 73 [.sl zk [0] s1,.sl zk [0] s2,.lf (.val (.func (.func 74) #[] #[]))] [kB r]) (vL:∀{s1:(List zd)} {s2:(List zd)} {r:Bool},xn s1 s2=some r->wL 108 [.sl zm [0] s1,.sl zm [0] s2,.lf (.val (.func (.func 46) #[] #[]))] [kB r]) (h:zjZ xb xc xm xn av b=some r):wL 46 [.rc zm [0] av,.rc zm [0] b] [kB r]:=by
 refine fi 17 func46 fun Xt=>?_
 unfold zjZ at h;refine jr (rc 0 rfl (lbx 11 [0] (zbd [0] av)) (rc 0 rfl (lbx 12 [0] (zbd [0] b)) rf)) (jb h fun g uQ h=>jg [] [] [(4,kB g)] ?_ ?_)
 ·refine jb uQ fun rv uR uQ=>(rl 4 [0] 11 call73 (vK uR) (rsI 1 10 uQ ?_ ?_))<;>intro uP uQ
  ·refine jb uQ fun wN uU uQ=>?_;cases uQ;exact (rl 4 [0] 11 call75 (zfi uU) rgg)
  cases uQ;exact rgg
 obtain rfl:=(sj h);exact zG lzz
theorem zrz (vI:∀{av:zd} {b:zd} {r:Bool},xb av b=some r->wL 46 [.rc zm [0] av,.rc zm [0] b] [kB r]) (vJ:∀{v:zb} {wv:zb} {r:Bool},xc v wv=some r->wL 74 [.rc zk [0] v,.rc zk [0] wv] [kB r]) (vK:∀{s1:(List zb)} {s2:(List zb)} {r:Bool},xm s1 s2=some r->wL 73 [.sl zk [0] s1,.sl zk [0] s2,.lf (.val (.func (.func 74) #[] #[]))] [kB r]) (vL:∀{s1:(List zd)} {s2:(List zd)} {r:Bool},xn s1 s2=some r->wL 108 [.sl zm [0] s1,.sl zm [0] s2,.lf (.val (.func (.func 46) #[] #[]))] [kB r]) (h:zfJ xb xc xm xn v wv=some r):wL 74 [.rc zk [0] v,.rc zk [0] wv] [kB r]:=by
 refine fi 31 func74 fun Xt=>?_
 unfold zfJ at h;refine jr (rc 0 rfl (lbx 11 [0] (zeH [0] v)) (rc 0 rfl (lbx 12 [0] (zeH [0] wv)) rf)) (jb h fun g uQ h=>jg [] [] [(4,kB g)] ?_ ?_)
 ·refine (rsI 6 10 uQ ?_ ?_)<;>intro uP uQ
  ·refine jb uQ fun rv uR uQ=>(rl 4 [0] 11 call107 (ziI uR) (rsI 2 17 uQ ?_ ?_))<;>intro uT uQ
   ·refine jb uQ fun wN uU uQ=>(rl 4 [0] 11 call75 (zfi uU) (rsI 2 24 uQ ?_ ?_))<;>intro uV uQ
    ·refine jb uQ fun wQ u0 uQ=>?_;cases uQ;exact (rl 4 [0] 11 call108 (vL u0) rgg)
    cases uQ;exact rgg
   cases uQ;exact rgg
  cases uQ;exact rgg
 obtain rfl:=(sj h);exact zG lzz
theorem zbA (vI:∀{av:zd} {b:zd} {r:Bool},xb av b=some r->wL 46 [.rc zm [0] av,.rc zm [0] b] [kB r]) (vJ:∀{v:zb} {wv:zb} {r:Bool},xc v wv=some r->wL 74 [.rc zk [0] v,.rc zk [0] wv] [kB r]) (vK:∀{s1:(List zb)} {s2:(List zb)} {r:Bool},xm s1 s2=some r->wL 73 [.sl zk [0] s1,.sl zk [0] s2,.lf (.val (.func (.func 74) #[] #[]))] [kB r]) (vL:∀{s1:(List zd)} {s2:(List zd)} {r:Bool},xn s1 s2=some r->wL 108 [.sl zm [0] s1,.sl zm [0] s2,.lf (.val (.func (.func 46) #[] #[]))] [kB r]) (h:zJ xb xc xm xn s1 s2=some r):wL 73 [.sl zk [0] s1,.sl zk [0] s2,.lf (.val (.func (.func 74) #[] #[]))] [kB r]:=by
 refine fi 32 func73 fun Xt=>?_
 unfold zJ at h;refine jp (jp (jI h ?_ ?_))<;>intro uP h
 ·refine jp ?_;obtain rfl:=(sj h);exact zG lzz
 refine jp (zx (jb h fun q uW h=>jL uW [1,2,15,16] [] (fun s=>[(17,kI s)]) (fun| (.inl v_)=> .x 0 ⟨[],[]⟩| (.inr v_)=> .r ⟨[(6,kB false)],[]⟩) ?_ lzz ?_))
 ·clear h;intro v o h;unfold zz at h;refine jp (jI h ?_ ?_)<;>intro uT h
  ·refine zx (jb h fun x uZ h=>jr (rx 1 [0] zxT.el uZ rfl rfl (rc 0 rfl (lde zk [0] x zoE) (ral 2 [12] [.ptr 12 0,.rc zk [0] x] rfl (zgB (r:=zk) (b:=⟨12,133,[kI 0,kN,kN,kN]⟩) (off:=0) (zX [0] x) rfl sizeOf133 rfl rfl (by rw [zan]<;>rfl) rfl) rfl rf))) (jb h fun x2 vd h=>jr (rx 2 [0] zxT.el vd rfl rfl (rc 0 rfl (lde zk [0] x2 zoE) (ral 1 [13] [.ptr 13 0,.rc zk [0] x2] rfl (zgB (r:=zk) (b:=⟨13,133,[kI 0,kN,kN,kN]⟩) (off:=0) (zX [0] x2) rfl sizeOf133 rfl rfl (by rw [zan]<;>rfl) rfl) rfl rf))) (jb h fun rv uR h=>jr (rc 3 rfl (zB.le (km:=[(.tmp 26,.lf (.val (.func (.func 74) #[] #[]))),(.tmp 27,.ag (zX [0] x)),(.tmp 28,.ag (zX [0] x2))]) (zsg (args:=[.tmp 27,.tmp 28]) [.rc zk [0] x,.rc zk [0] x2] [0] 12 rfl (zCe _) call74 (vJ uR) rfl rfl rfl rfl rfl) ⟨⟨rfl,wM _⟩,⟨rfl,zbY [0] x⟩,⟨rfl,zbY [0] x2⟩,trivial⟩) rf) (jI h ?_ ?_))))<;>intro uV h
   ·cases h;exact jz'
   refine zam ?_;cases h;exact jy
  cases h;exact zaI rfl lzz
 rcases q with u| u2
 ·refine zbo _ rfl (jp ?_);obtain rfl:=(sj h);exact zG lzz
 obtain rfl:=(sj h);exact zgz lzz
theorem zcg (vI:∀{av:zd} {b:zd} {r:Bool},xb av b=some r->wL 46 [.rc zm [0] av,.rc zm [0] b] [kB r]) (vJ:∀{v:zb} {wv:zb} {r:Bool},xc v wv=some r->wL 74 [.rc zk [0] v,.rc zk [0] wv] [kB r]) (vK:∀{s1:(List zb)} {s2:(List zb)} {r:Bool},xm s1 s2=some r->wL 73 [.sl zk [0] s1,.sl zk [0] s2,.lf (.val (.func (.func 74) #[] #[]))] [kB r]) (vL:∀{s1:(List zd)} {s2:(List zd)} {r:Bool},xn s1 s2=some r->wL 108 [.sl zm [0] s1,.sl zm [0] s2,.lf (.val (.func (.func 46) #[] #[]))] [kB r]) (h:zT xb xc xm xn s1 s2=some r):wL 108 [.sl zm [0] s1,.sl zm [0] s2,.lf (.val (.func (.func 46) #[] #[]))] [kB r]:=by
 refine fi 32 func108 fun Xt=>?_
 unfold zT at h;refine jp (jp (jI h ?_ ?_))<;>intro uP h
 ·refine jp ?_;obtain rfl:=(sj h);exact zG lzz
 refine jp (zx (jb h fun q uW h=>jL uW [1,2,15,16] [] (fun s=>[(17,kI s)]) (fun| (.inl v_)=> .x 0 ⟨[],[]⟩| (.inr v_)=> .r ⟨[(6,kB false)],[]⟩) ?_ lzz ?_))
 ·clear h;intro v o h;unfold zF at h;refine jp (jI h ?_ ?_)<;>intro uT h
  ·refine zx (jb h fun x uZ h=>jr (rx 1 [0] zrF.el uZ rfl rfl (rc 0 rfl (lde zm [0] x zoF) (ral 2 [12] [.ptr 12 0,.rc zm [0] x] rfl (zgB (r:=zm) (b:=⟨12,52,[kN,kN]⟩) (off:=0) (zaK [0] x) rfl sizeOf52 rfl rfl (by rw [zaq]<;>rfl) rfl) rfl rf))) (jb h fun x2 vd h=>jr (rx 2 [0] zrF.el vd rfl rfl (rc 0 rfl (lde zm [0] x2 zoF) (ral 1 [13] [.ptr 13 0,.rc zm [0] x2] rfl (zgB (r:=zm) (b:=⟨13,52,[kN,kN]⟩) (off:=0) (zaK [0] x2) rfl sizeOf52 rfl rfl (by rw [zaq]<;>rfl) rfl) rfl rf))) (jb h fun rv uR h=>jr (rc 3 rfl (zB.le (km:=[(.tmp 26,.lf (.val (.func (.func 46) #[] #[]))),(.tmp 27,.ag (zaK [0] x)),(.tmp 28,.ag (zaK [0] x2))]) (zsg (args:=[.tmp 27,.tmp 28]) [.rc zm [0] x,.rc zm [0] x2] [0] 12 rfl (zCe _) call46 (vI uR) rfl rfl rfl rfl rfl) ⟨⟨rfl,wM _⟩,⟨rfl,zaz [0] x⟩,⟨rfl,zaz [0] x2⟩,trivial⟩) rf) (jI h ?_ ?_))))<;>intro uV h
   ·cases h;exact jz'
   refine zam ?_;cases h;exact jy
  cases h;exact zaI rfl lzz
 rcases q with u| u2
 ·refine zbo _ rfl (jp ?_);obtain rfl:=(sj h);exact zG lzz
 obtain rfl:=(sj h);exact zgz lzz
theorem ziP (uX:Nat):(∀{av:zd} {b:zd} {r:Bool},zfI uX av b=some r->wL 46 [.rc zm [0] av,.rc zm [0] b] [kB r])/\(∀{v:zb} {wv:zb} {r:Bool},zdi uX v wv=some r->wL 74 [.rc zk [0] v,.rc zk [0] wv] [kB r])/\(∀{s1:(List zb)} {s2:(List zb)} {r:Bool},zE uX s1 s2=some r->wL 73 [.sl zk [0] s1,.sl zk [0] s2,.lf (.val (.func (.func 74) #[] #[]))] [kB r])/\(∀{s1:(List zd)} {s2:(List zd)} {r:Bool},zN uX s1 s2=some r->wL 108 [.sl zm [0] s1,.sl zm [0] s2,.lf (.val (.func (.func 46) #[] #[]))] [kB r]):=by
  induction uX with
  | zero=>exact ⟨fun h=>absurd h nofun,fun h=>absurd h nofun,fun h=>absurd h nofun,fun h=>absurd h nofun⟩
  | succ uX ih=>exact ⟨fun h=>zyn (fun hh=>ih.1 hh) (fun hh=>ih.2.1 hh) (fun hh=>ih.2.2.1 hh) (fun hh=>ih.2.2.2 hh) h,fun h=>zrz (fun hh=>ih.1 hh) (fun hh=>ih.2.1 hh) (fun hh=>ih.2.2.1 hh) (fun hh=>ih.2.2.2 hh) h,fun h=>zbA (fun hh=>ih.1 hh) (fun hh=>ih.2.1 hh) (fun hh=>ih.2.2.1 hh) (fun hh=>ih.2.2.2 hh) h,fun h=>zcg (fun hh=>ih.1 hh) (fun hh=>ih.2.1 hh) (fun hh=>ih.2.2.1 hh) (fun hh=>ih.2.2.2 hh) h⟩
theorem zBm (h:zfI uX av b=some r):wL 46 [.rc zm [0] av,.rc zm [0] b] [kB r]:=(ziP uX).1 h
end Go.Proofs.YtaglemhabeipfaaGreat

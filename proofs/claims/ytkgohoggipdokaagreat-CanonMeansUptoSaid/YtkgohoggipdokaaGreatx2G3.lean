/-
  The Go functions do what the plain functions say. No condition.
-/
import Derived.Test.YtkgohoggipdokaaGreatx2G2
set_option autoImplicit true
set_option relaxedAutoImplicit true
namespace Go.Proofs.YtkgohoggipdokaaGreat
open Go.IntKind (i64)
open Tryz
open Go Go.RowKit
set_option linter.unusedVariables false
set_option maxRecDepth 100000
set_option maxHeartbeats 3200000
theorem zlW (h:zdy c m=some r):zhu prog 119 [.ag [kI c.size,.sl vU [0] c.kinds,.om zM Rp.bool 2 [0] c.names,.om zN Rp.bool 3 [0] c.numbers],.rc zi [0] m] [kI r.1] [.ag [.any,.any,.om zM Rp.bool 2 [0] r.2.1,.om zN Rp.bool 3 [0] r.2.2],.any]:=by
 refine zjP (E:=⟨[(0,.ag [.any,.any,.om zM Rp.bool 2 [0] r.2.1,.om zN Rp.bool 3 [0] r.2.2]),(4,kI r.1)],[]⟩) 27 [0] func119 rfl rfl rfl ⟨rfl,trivial⟩ ⟨.inr ⟨rfl,rfl⟩,.inl rfl,trivial⟩ rfl (fun Xt old=>?_);refine zbR ?_;unfold zdy at h;refine jr (ral 1 [11] [.rc zi [0] m] rfl (zhC 12 (zV [0] m) [0] rfl rfl rfl rfl rfl) rfl rf) (jr (rc 2 rfl (zam (r:=zM) [kI (-1),kS m.Name] [] (⟨(-1),m.Name⟩:zt) rfl zGD rfl rfl) (rfl' [13])) (zw (jb h fun rv uu h=>jr (rl 2 [1] 12 call156 (zlX uu) rf) (jI h ?_ ?_))))<;>intro ur h
 ·refine jp ?_;cases h;exact zfG lw
 refine jr (lb 2 zM [] (⟨(-1),m.Name⟩:zt) (ra 0 [.om zM Rp.bool 2 [0] c.names,.rc zM [] (⟨(-1),m.Name⟩:zt)] rfl (zut (rk:=zM) (rv:=Rp.bool) (m:=c.names) (k:=(⟨(-1),m.Name⟩:zt)) (kB ((mget c.names (⟨(-1),m.Name⟩:zt)).getD false)) rfl zto (zcL rfl) (zxQ rfl rfl rfl)) rfl rf)) (jI h ?_ ?_)<;>intro uv h
 ·refine jp ?_;cases h;exact zfG lw
 refine jp (jI h ?_ ?_)<;>intro uy h
 ·refine jp ?_;cases h;exact zfG lw
 refine zal (jr (lb 2 zM [] (⟨(-1),m.Name⟩:zt) (rms (C1:=[]) 0 [] 2 [0] c.names (⟨(-1),m.Name⟩:zt) true [0] zto (zcL rfl) (zdT rfl rfl) rf)) (jp ?_));cases h;exact zfG lw
theorem znw (h:zhc k=some r):vW 190 [kI k] [kB r]:=by
 refine fi 16 func190 fun Xt=>?_
 unfold zhc at h;refine jp (jb h fun rv uu h=>jr (rl 1 [1] 9 call214 (zqn uu) rf) (jg [] [] [(2,kB ((rv.2==0)&&(rv.1 !=2)))] ?_ ?_))
 ·refine (rsl 3 [] 12 (rv.2==0) ?_ ?_)<;>intro ur
  · exact (rbl [] 2 (rv.1 !=2) rfl (by grind))
  exact (rbl [] 2 false rfl (by grind))
 cases h;exact zH lzz
theorem zqU (h:zjY uB x=some r):vW 58 [.rc zj [0] x] [kB r]:=by
 refine fi 6 func58 fun Xt=>?_
 unfold zjY at h;refine jr (rc 0 rfl (lbx 11 [0] (zaH [0] x)) rf) (jb h fun rv uu h=>jr (rc 1 rfl (lw0 10 call26 (zlq uu) (.l (zaa [0] x))) rf) ?_);cases h;exact zH lzz
theorem zgT (h:zbX m v=some r):vW 107 [.rc zi [0] m,.fv 108 [.ep vU [0] v 0]] [kI r.1,kB r.2]:=by
 refine fi 15 func107 fun Xt=>?_
 unfold zbX at h;refine jr (ra 0 [.rc zi [0] m] rfl (zhC 11 (zV [0] m) [0] rfl rfl rfl rfl rfl) rfl rf) (jb h fun rv uu h=>jr (rl 3 [0] 10 call143 (zda uu) rf) ?_);cases h;exact jz
theorem zAz (h:zoc b=some r):vW 210 [.sl Rp.byte [0] b] [kI r.1,kI r.2]:=by
 refine fi 20 func210 fun Xt=>?_
 unfold zoc at h;refine jp (jb h fun rv uu h=>jr (rl 1 [0] 9 call226 (zsF uu) rf) (zw (jb h fun q uA h=>jL uA [0] [] (fun s=>[(2,kI s.1),(3,kI s.2.1),(4,kI s.2.2)]) (fun o=> .x 0 ⟨[(2,kI o.1),(3,kI o.2)],[]⟩) ?_ lzz ?_)))
 ·clear h;intro s o h;obtain ⟨atv,points,size⟩:=s;replace h:zeR b atv points size=some o:=h;unfold zeR at h;refine jp (jI h ?_ ?_)<;>intro ur h
  ·refine zw (jp (jp (zal (jb h fun v uK h=>jb h fun vY uz h=>jr (ra 2 [.sl Rp.byte [0] b,kI (i64.wrap (atv+size))] rfl (zgQ (some (kI (i64.wrap (atv+size)))) none rfl zdK.el (zcH _ _ _) ⟨rfl,rfl⟩ ⟨rfl,rfl⟩ uK) rfl (rl 0 [0] 10 call226 (zsF uz) rf)) ?_))));cases h;exact zaT lzz
  cases h;exact zaJ rfl lzz
 refine zbo _ rfl ?_;cases h;exact jz
theorem ziD (h:zgc k wv=some r):vW 146 [kI k,kU wv] [kU r.1,k8 r.2]:=by
 refine fi 34 func146 fun Xt=>?_
 unfold zgc at h;refine jp (jp (zw (jp (jb h fun p uS h=>jn (.N [1,6] [] [(7,kB p)] []) ?_ ?_))))
 ·replace h:=uS;refine jI h ?_ ?_<;>intro ur h
  ·cases h;exact zaT lzz
  cases h;exact jy
 refine zim (jI h ?_ ?_)<;>intro uv h
 ·refine jb h fun rv uu h=>jb h fun vY uz h=>jr (rl 1 [1] 9 call177 (ztK uu) (rl 0 [1] 9 call176 (ztL uz) rf)) ?_;cases h;exact zH lzz
 refine jp (jb h fun p2 va h=>jn (.N [1,6] [] [(13,kB p2)] []) ?_ ?_)
 ·replace h:=va;refine jI h ?_ ?_<;>intro uy h
  ·cases h;exact zaT lzz
  refine jp (jI h ?_ ?_)<;>intro uC h
  ·cases h;exact zaT lzz
  refine jp (jI h ?_ ?_)<;>intro uJ h
  ·cases h;exact zaT lzz
  refine jp (jI h ?_ ?_)<;>intro uL h
  ·cases h;exact zaT lzz
  cases h;exact jy
 refine zim (jI h ?_ ?_)<;>intro uU h
 ·refine jb h fun wd uE h=>jr (rl 1 [1] 9 call178 (zoX uE) rf) ?_;cases h;exact zH lzz
 refine jp (jI h ?_ ?_)<;>intro uT h
 ·refine jb h fun rv4 uQ h=>jr (rl 1 [1] 9 call179 (zvO uQ) rf) ?_;cases h;exact zH lzz
 refine jp (jb h fun p3 vM h=>jn (.n ⟨[(1,kU wv),(26,kB p3)],[]⟩) ?_ ?_)
 ·replace h:=vM;refine jI h ?_ ?_<;>intro uV h
  ·cases h;exact zaT lzz
  refine jp (jI h ?_ ?_)<;>intro uX h
  ·cases h;exact zaT lzz
  refine jp (jI h ?_ ?_)<;>intro vj h
  ·cases h;exact zaT lzz
  refine jp (jI h ?_ ?_)<;>intro vk h
  ·cases h;exact zaT lzz
  refine jp (jI h ?_ ?_)<;>intro vl h
  ·cases h;exact zaT lzz
  cases h;exact jy
 refine zim (jI h ?_ ?_)<;>intro vm h
 ·cases h;exact jz
 refine zal ?_;cases h;exact jz
theorem zAo (h:znU b=some r):vW 193 [.sl Rp.byte [0] b] [.rc zbO [] r.1,kI r.2.1,k8 r.2.2]:=by
 refine fj ⟨[(2,.ptr 2 0),(3,kI r.2.1),(4,k8 r.2.2)],[⟨2,224,[kI r.1.Number,kI r.1.Wire]⟩]⟩ 35 func193 ⟨⟨_,_,rfl,rfl,rfl,rfl,zJe⟩,rfl,rfl,trivial⟩ fun Xt=>?_
 unfold znU at h;refine jq [12] (jb h fun rv uu h=>jr (rl 1 [0] 11 call213 (zhP uu) rf) (jp (jI h ?_ ?_)))<;>intro ur h
 ·refine jr (rc 0 rfl (zam (r:=zbO) [] [] (⟨0,0⟩:zaq) rfl zyx rfl rfl) rf) ?_;cases h;exact zH (lks [12] [(12,2)] lzz)
 refine jr (ra 1 [kU rv.1,kU 3] rfl (zhD rfl rfl) rfl rf) (jr (rc 5 rfl (zam (r:=zbO) [kI (i64.wrap (if (536870912:Int)<(shrI .u64 rv.1 3) then 536870912 else (shrI .u64 rv.1 3))),kI (i64.wrap (andI .u64 rv.1 7))] [] (⟨(i64.wrap (if (536870912:Int)<(shrI .u64 rv.1 3) then 536870912 else (shrI .u64 rv.1 3))),(i64.wrap (andI .u64 rv.1 7))⟩:zaq) rfl zyx rfl rfl) (rfl' [13])) (jb h fun vY uz h=>jr (lb 0 zbO [] (⟨(i64.wrap (if (536870912:Int)<(shrI .u64 rv.1 3) then 536870912 else (shrI .u64 rv.1 3))),(i64.wrap (andI .u64 rv.1 7))⟩:zaq) (rl 0 [1] 12 call183 (zqP uz) rf)) (jI h ?_ ?_)))<;>intro uv h
 ·refine jr (rc 0 rfl (zam (r:=zbO) [] [] (⟨0,0⟩:zaq) rfl zyx rfl rfl) rf) ?_;cases h;exact zH (lks [12] [(12,2)] lzz)
 refine jr (lb 0 zbO [] (⟨(i64.wrap (if (536870912:Int)<(shrI .u64 rv.1 3) then 536870912 else (shrI .u64 rv.1 3))),(i64.wrap (andI .u64 rv.1 7))⟩:zaq) rf) ?_;cases h;exact zH (lks [12] [(12,2)] lzz)
theorem znL (h:zhg wire b=some r):vW 185 [kI wire,.sl Rp.byte [0] b] [kI r.1,kI r.2.1,k8 r.2.2]:=by
 refine fi 45 func185 fun Xt=>?_
 unfold zhg at h;refine jp (jp (jp (zw (jp (jI h ?_ ?_)))))<;>intro ur h
 ·refine jb h fun rv uu h=>jr (rl 1 [0] 9 call212 (zoe uu) rf) ?_;cases h;exact jz
 refine jp (jb h fun p uS h=>jn (.N [1] [] [(4,kI p.1),(6,k8 p.2.1),(7,kU p.2.2)] []) ?_ ?_)
 ·replace h:=uS;refine jI h ?_ ?_<;>intro uv h
  ·cases h;exact jy
  refine jp (jI h ?_ ?_)<;>intro uy h
  ·cases h;exact jy
  refine jp (jI h ?_ ?_)<;>intro uC h
  ·refine jb h fun vY uz h=>jr (rl 1 [0] 9 call213 (zhP uz) rf) ?_;cases h;exact zaT lzz
  cases h;exact zaT lzz
 refine zim (zal (jp (jI h ?_ ?_)))<;>intro uJ h
 ·cases h;exact jz
 refine jp (jI h ?_ ?_)<;>intro uL h
 ·cases h;exact jz
 cases h;exact jz
theorem zBO (h:zmC b t=some r):vW 150 [.sl Rp.byte [0] b,.rc zbO [0] t] [.own Rp.byte 5 2 [] r.1,k8 r.2]:=by
 refine fi 13 func150 fun Xt=>?_
 unfold zmC at h;refine jq [13] (jb h fun rv uu h=>jr (lb 0 zbO [] t (rl 0 [1] 12 call183 (zqP uu) rf)) (jI h ?_ ?_))<;>intro ur h
 ·refine jp ?_;cases h;exact zH lw
 refine jb h fun vY uz h=>jb h fun wd uE h=>jr (lb 1 zbO [] t (rl 0 [1] 12 call184 (zAp uz) (rl 0 [0] 12 call152 (zlt uE) rf))) ?_;cases h;exact zH (lks [] [(14,2)] lzz)
theorem zhT (h:zdk wv=some r):vW 32 [.qp zeS [0] wv] [.own Rp.byte 5 2 [] r]:=by
 refine fi 8 func32 fun Xt=>?_
 unfold zdk at h;refine jp (jb h fun x uD h=>jb h fun rv uu h=>jr (ra 1 [.qp zeS [0] wv] rfl (zHJ (x0:=x) rfl uD) rfl (rc 1 rfl (ldl zeS [0] x 0 (Rp.list Rp.byte) x.pieces) (rl 0 [0] 10 call66 (zbG uu) rf))) ?_);obtain rfl:=(sj h);exact zH (lks [] [(12,2)] lzz)
theorem zvZ (h:zkI m uO=some r):vW 194 [.rc zi [0] m,kI uO] [kI r]:=by
 refine fi 9 func194 fun Xt=>?_
 unfold zkI at h;refine jr (ra 0 [.rc zi [0] m] rfl (zhC 11 (zV [0] m) [0] rfl rfl rfl rfl rfl) rfl (rfl' [921600])) (jb h fun rv uu h=>jr (ra 2 [.ptr 921600 0] rfl (zCN (g:=216) [.tmp 3] [⟨921600,3,[kI uO]⟩] [.ep vU [921600] uO 0] rfl ⟨⟨rfl,rfl,rfl⟩,trivial⟩ rfl) rfl (rl 0 [0,921600] 10 call143 (zdz uu) rf)) ?_);obtain rfl:=(sj h);exact zH lzz
theorem zyF (h:zme k wire=some r):vW 196 [kI k,kI wire] [kB r]:=by
 refine fi 19 func196 fun Xt=>?_
 unfold zme at h;refine jp (jb h fun rv uu h=>jr (rl 1 [1] 9 call214 (zqn uu) rf) (jg [] [] [(4,kB ((rv.2==0)&&(rv.1==wire)))] ?_ ?_))
 ·refine (rsl 3 [] 14 (rv.2==0) ?_ ?_)<;>intro ur
  · exact (rbl [] 4 (rv.1==wire) rfl (by grind))
  exact (rbl [] 4 false rfl (by grind))
 cases h;exact zH lzz
theorem zyt {wide:Int} (h:zlU wide b=some r):vW 224 [kI wide,.sl Rp.byte [0] b] [kI r.1,k8 r.2]:=by
 refine fi 19 func224 fun Xt=>?_
 unfold zlU at h;refine jp (zw (jp (jI h ?_ ?_)))<;>intro ur h
 ·refine jb h fun rv uu h=>jr (rl 1 [0] 9 call212 (zoe uu) rf) ?_;cases h;exact zH lzz
 refine jp (jI h ?_ ?_)<;>intro uv h
 ·cases h;exact jz
 refine zal ?_;cases h;exact jz
theorem zsS (h:zhH k b=some r):vW 225 [kI k,.sl Rp.byte [0] b] [kU r.1,k8 r.2]:=by
 refine fi 31 func225 fun Xt=>?_
 unfold zhH at h;refine jp (jb h fun rv uu h=>jr (rl 1 [1] 9 call180 (zjo uu) rf) (zw (jp (jI h ?_ ?_))))<;>intro ur h
 ·cases h;exact jz
 refine jp (jI h ?_ ?_)<;>intro uv h
 ·refine jb h fun vY uz h=>jr (rl 1 [0] 9 call228 (zsT uz) rf) ?_;cases h;exact zH lzz
 refine jp (jI h ?_ ?_)<;>intro uy h
 ·cases h;exact jz
 refine zal (jb h fun wd uE h=>jr (rl 1 [0] 9 call229 (zxG uE) rf) ?_);cases h;exact zH lzz
theorem zqK (h:zgh f=some r):vW 159 [.rc zf [0] f] [kB r]:=by
 refine fi 10 func159 fun Xt=>?_
 unfold zgh at h;refine jq [11] (jb h fun g ut h=>jg [] [] [(2,kB g)] ?_ ?_)
 ·refine (rsI 3 5 ut ?_ ?_)<;>intro ur ut
  ·refine jb ut fun rv uu ut=>?_;cases ut;exact (rl 2 [1] 10 call190 (znw uu) rgg)
  cases ut;exact rgg
 obtain rfl:=(sj h);exact zH lzz
theorem zgS (h:zdc m uO=some r):vW 64 [.rc zi [0] m,kI uO] [kI r.1,kB r.2]:=by
 refine fi 11 func64 fun Xt=>?_
 unfold zdc at h;refine jr (ra 0 [.rc zi [0] m] rfl (zhC 11 (zV [0] m) [0] rfl rfl rfl rfl rfl) rfl (rfl' [910800])) (jb h fun rv uu h=>jr (ra 1 [.ptr 910800 0] rfl (zCN (g:=108) [.tmp 3] [⟨910800,3,[kI uO]⟩] [.ep vU [910800] uO 0] rfl ⟨⟨rfl,rfl,rfl⟩,trivial⟩ rfl) rfl (rl 0 [0,910800] 10 call107 (zgT uu) rf)) ?_);cases h;exact zH lzz
theorem zyD (h:zma b=some r):vW 175 [.sl Rp.byte [0] b] [kI r]:=by
 refine fi 11 func175 fun Xt=>?_
 unfold zma at h;refine jp (jb h fun rv uu h=>jr (rl 1 [0] 9 call210 (zAz uu) rf) ?_);cases h;exact jz
theorem znY (h:zeP k l=some r):vW 113 [kI k,.sl vV [0] l] [kB r]:=by
 refine fi 29 func113 fun Xt=>?_
 unfold zeP at h;refine jp (jp (zw (jb h fun q uA h=>jL uA [0,9,10] [] (fun s=>[(11,kI s)]) (fun| (.inl v_)=> .x 0 ⟨[],[]⟩| (.inr v_)=> .r ⟨[(4,kB false)],[]⟩) ?_ lzz ?_)))
 ·clear h;intro v o h;unfold zbd at h;refine jp (jI h ?_ ?_)<;>intro ur h
  ·refine zw (jb h fun x uD h=>jr (rx 0 [0] zsK.el uD rfl rfl rf) (jb h fun rv uu h=>jr (rl 2 [1] 10 call146 (ziD uu) rf) (jg [0,9,10,11] [] [(27,kB ((rv.2 !=0)|| (rv.1 !=x)))] ?_ ?_)))
   ·refine (rsl 3 [] 23 (rv.2 !=0) ?_ ?_)<;>intro uv
    · exact (rbl [] 27 true rfl (by grind))
    exact (rbl [] 27 (rv.1 !=x) rfl (by grind))
   refine jI h ?_ ?_<;>intro uy h
   ·cases h;exact jz'
   refine zal ?_;cases h;exact jy
  cases h;exact zaJ rfl lzz
 rcases q with u| u2
 ·refine zbo _ rfl (jp ?_);obtain rfl:=(sj h);exact zH lzz
 obtain rfl:=(sj h);exact zfe lzz
theorem zku (h:zgg b uF=some r):vW 164 [.sl Rp.byte [0] b,kI uF] [.rc zaM [] r.1,k8 r.2]:=by
 refine fj ⟨[(4,.ptr 2 0),(5,k8 r.2)],[⟨2,152,(zkO r.1)⟩]⟩ 62 func164 ⟨⟨_,_,rfl,rfl,rfl,rfl,zJd⟩,rfl,trivial⟩ fun Xt=>?_
 unfold zgg at h;refine jq [12] (jg [0,1,4] [12] [(19,kB ((decide (uF<0))|| (decide (uF>=(b.length:Int)))))] ?_ ?_)
 ·refine (rsl 3 [] 14 (decide (uF<0)) ?_ ?_)<;>intro ur
  · exact (rbl [] 19 true rfl (by grind))
  exact (rbl [] 19 (decide (uF>=(b.length:Int))) rfl (by grind))
 refine jI h ?_ ?_<;>intro uv h
 ·refine jr (rc 0 rfl (zam (r:=zaM) [] [] (⟨0,0,0,0,0⟩:zq) rfl zyw rfl rfl) rf) ?_;cases h;exact zH (lks [12] [(12,2)] lzz)
 refine jb h fun v2 uP h=>jb h fun rv uu h=>jr (ra 2 [.sl Rp.byte [0] b,kI uF] rfl (zgQ (some (kI uF)) none rfl zdK.el (zcH _ _ _) ⟨rfl,rfl⟩ ⟨rfl,rfl⟩ uP) rfl (rl 0 [0] 11 call193 (zAo uu) (rfl' [13]))) (jp (jI h ?_ ?_))<;>intro uy h
 ·refine jr (rc 0 rfl (zam (r:=zaM) [] [] (⟨0,0,0,0,0⟩:zq) rfl zyw rfl rfl) rf) ?_;cases h;exact zH (lks [12] [(12,2)] lzz)
 refine jp (jb h fun v3 uM h=>jb h fun vY uz h=>jd [1,4,6,8,9,10,11] [12,13] zeY (by exact (lwn 4 (ly [.sl Rp.byte [0] b,kI (i64.wrap (uF+rv.2.1))] (zgQ (some (kI (i64.wrap (uF+rv.2.1)))) none rfl zdK.el (zcH _ _ _) ⟨rfl,rfl⟩ ⟨rfl,rfl⟩ uM) rfl (lx (lf1 185 (lc0 12 call185 (znL uz))) l0)))) (jp (jI h ?_ ?_)))<;>intro uC h
 ·refine jr (rc 0 rfl (zam (r:=zaM) [] [] (⟨0,0,0,0,0⟩:zq) rfl zyw rfl rfl) rf) ?_;cases h;exact zH (lks [12] [(12,2)] lzz)
 refine jr (rc 11 rfl (zam (r:=zaM) [kI rv.1.Number,kI rv.1.Wire,kI uF,kI (i64.wrap ((i64.wrap (uF+rv.2.1))+vY.1)),kI (i64.wrap ((i64.wrap (uF+rv.2.1))+vY.2.1))] [] (⟨rv.1.Number,rv.1.Wire,uF,(i64.wrap ((i64.wrap (uF+rv.2.1))+vY.1)),(i64.wrap ((i64.wrap (uF+rv.2.1))+vY.2.1))⟩:zq) rfl zyw rfl rfl) rf) ?_;cases h;exact zH (lks [12] [(12,2)] lzz)
theorem znR (h:zhj k wv=some r):vW 149 [kI k,kU wv] [kI r]:=by
 refine fi 29 func149 fun Xt=>?_
 unfold zhj at h;refine jp (jb h fun rv uu h=>jr (rl 1 [1] 9 call180 (zjo uu) rf) (jg [0,1,5] [] [(19,kB ((rv.2 !=0)|| (rv.1 !=0)))] ?_ ?_))
 ·refine (rsl 3 [] 16 (rv.2 !=0) ?_ ?_)<;>intro ur
  · exact (rbl [] 19 true rfl (by grind))
  exact (rbl [] 19 (rv.1 !=0) rfl (by grind))
 refine jI h ?_ ?_<;>intro uv h
 ·cases h;exact jz
 refine jb h fun vY uz h=>jr (rl 2 [1] 9 call146 (ziD uz) rf) (jb h fun wd uE h=>jr (rl 1 [1] 9 call182 (zsj uE) rf) ?_);obtain rfl:=(sj h);exact zH lzz
theorem zph (h:ziv k wv=some r):vW 148 [kI k,kU wv] [.own Rp.byte 5 2 [] r.1,k8 r.2]:=by
 refine fi 32 func148 fun Xt=>?_
 unfold ziv at h;refine jp (jb h fun rv uu h=>jr (rl 1 [1] 10 call180 (zjo uu) rf) (jp (jI h ?_ ?_)))<;>intro ur h
 ·refine jp ?_;cases h;exact zH lw
 refine jb h fun vY uz h=>jr (rl 2 [1] 10 call146 (ziD uz) rf) (jp (jI h ?_ ?_))<;>intro uv h
 ·refine jb h fun wd uE h=>jr (rl 1 [1] 10 call152 (FnOk.le (ins':=[kN,kU vY.1]) (zlt uE) ⟨zff _ _,vX _,trivial⟩) rf) ?_;cases h;exact zH (lks [] [(12,2)] lzz)
 refine jb h fun rv4 uQ h=>jr (rl 2 [1] 11 call181 (ztJ uQ) rf) ?_;cases h;exact zH (lks [] [(13,2)] lzz)
theorem zuS (h:ziV wire value=some r):vW 151 [kI wire,.sl Rp.byte [0] value] [kB r]:=by
 refine fi 25 func151 fun Xt=>?_
 unfold ziV at h;refine jp (jp (jI h ?_ ?_))<;>intro ur h
 ·refine jp ?_;obtain rfl:=(sj h);exact zH lzz
 refine jb h fun rv uu h=>jr (rl 2 [0] 9 call185 (znL uu) rf) (jg [] [] [(4,kB ((rv.2.2==0)&&(rv.2.1==(value.length:Int))))] ?_ ?_)
 ·refine (rsl 3 [] 19 (rv.2.2==0) ?_ ?_)<;>intro uv
  · exact (rbl [] 4 (rv.2.1==(value.length:Int)) rfl (by grind))
  exact (rbl [] 4 false rfl (by grind))
 cases h;exact zH lzz
theorem zwa (h:zkJ f wire=some r):vW 195 [.rc zf [0] f,kI wire] [kB r]:=by
 refine fi 16 func195 fun Xt=>?_
 unfold zkJ at h;refine jq [11] (jb h fun g ut h=>jg [] [] [(4,kB g)] ?_ ?_)
 ·refine (rsI 3 7 ut ?_ ?_)<;>intro ur ut
  ·refine (rsI 4 11 ut ?_ ?_)<;>intro uv ut
   ·refine jb ut fun rv uu ut=>?_;cases ut;exact (rl 2 [1] 10 call190 (znw uu) rgg)
   cases ut;exact rgg
  cases ut;exact rgg
 obtain rfl:=(sj h);exact zH lzz
theorem zuZ (h:ziY k b=some r):vW 209 [kI k,.sl Rp.byte [0] b] [kU r.1,k8 r.2]:=by
 refine fi 22 func209 fun Xt=>?_
 unfold ziY at h;refine jp (jb h fun rv uu h=>jr (rl 2 [0] 9 call225 (zsS uu) rf) (jp (jI h ?_ ?_)))<;>intro ur h
 ·cases h;exact jz
 refine jb h fun vY uz h=>jr (rl 2 [1] 9 call146 (ziD uz) rf) ?_;cases h;exact zH lzz
theorem zjL (h:ziy uB av b=some r):vW 28 [.rc zj [0] av,.rc zj [0] b] [kB r]:=by
 refine fi 12 func28 fun Xt=>?_
 unfold ziy at h;refine jr (rc 0 rfl (lbx 11 [0] (zaH [0] av)) (rc 0 rfl (lbx 12 [0] (zaH [0] b)) rf)) (jb h fun g ut h=>jg [] [] [(4,kB g)] ?_ ?_)
 ·refine jb ut fun rv uu ut=>(rc 1 rfl (lw0 11 call58 (zqU uu) (.l (zaa [0] av))) (rsI 1 7 ut ?_ ?_))<;>intro ur ut
  ·refine jb ut fun vY uz ut=>?_;cases ut;exact (rc 2 rfl (lw0 11 call59 (zyB uz) (.c (zaa [0] av) (.l (zaa [0] b)))) rgg)
  cases ut;exact rgg
 obtain rfl:=(sj h);exact zH lzz
end Go.Proofs.YtkgohoggipdokaaGreat

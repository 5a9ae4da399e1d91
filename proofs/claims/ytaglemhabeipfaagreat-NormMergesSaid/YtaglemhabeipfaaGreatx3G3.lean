/-
  The Go functions do what the plain functions say. No condition.
-/
import Derived.Test.YtaglemhabeipfaaGreatx3G2
set_option autoImplicit true
set_option relaxedAutoImplicit true
namespace Go.Proofs.YtaglemhabeipfaaGreat
open Go.IntKind (i64)
open Tryz
open Go Go.RowKit
set_option linter.unusedVariables false
set_option maxRecDepth 100000
set_option maxHeartbeats 3200000
theorem zjR (h:zcv c m=some r):zfx prog 132 [.ag [kI c.size,.sl vv [0] c.kinds,.om zv Rp.bool 2 [0] c.names,.om zc Rp.bool 3 [0] c.numbers],.rc ze [0] m] [kI r.1] [.ag [.any,.any,.om zv Rp.bool 2 [0] r.2.1,.om zc Rp.bool 3 [0] r.2.2],.any]:=by
 refine zgB (E:=⟨[(0,.ag [.any,.any,.om zv Rp.bool 2 [0] r.2.1,.om zc Rp.bool 3 [0] r.2.2]),(4,kI r.1)],[]⟩) 27 [0] func132 rfl rfl rfl ⟨rfl,trivial⟩ ⟨.inr ⟨rfl,rfl⟩,.inl rfl,trivial⟩ rfl (fun Xt old=>?_);refine zaN ?_;unfold zcv at h;refine jr (ral 1 [11] [.rc ze [0] m] rfl (zps 12 (zan [0] m) [0] rfl rfl rfl rfl rfl) rfl rf) (jr (rc 2 rfl (zJ (r:=zv) [kI (-1),kS m.Name] [] (⟨(-1),m.Name⟩:zt) rfl zER rfl rfl) (rfl' [13])) (zD (jb h fun rv uo h=>jr (rl 2 [1] 12 call169 (zjS uo) rf) (jI h ?_ ?_))))<;>intro ul h
 ·refine jp ?_;cases h;exact zbW lw
 refine jr (lb 2 zv [] (⟨(-1),m.Name⟩:zt) (ra 0 [.om zv Rp.bool 2 [0] c.names,.rc zv [] (⟨(-1),m.Name⟩:zt)] rfl (zoj (rk:=zv) (rv:=Rp.bool) (m:=c.names) (k:=(⟨(-1),m.Name⟩:zt)) (kB ((mget c.names (⟨(-1),m.Name⟩:zt)).getD false)) rfl zqY (zbn rfl) (znO rfl rfl rfl)) rfl rf)) (jI h ?_ ?_)<;>intro up h
 ·refine jp ?_;cases h;exact zbW lw
 refine jp (jI h ?_ ?_)<;>intro ut h
 ·refine jp ?_;cases h;exact zbW lw
 refine zaA (jr (lb 2 zv [] (⟨(-1),m.Name⟩:zt) (rms (C1:=[]) 0 [] 2 [0] c.names (⟨(-1),m.Name⟩:zt) true [0] zqY (zbn rfl) (zcJ rfl rfl) rf)) (jp ?_));cases h;exact zbW lw
theorem zll (h:zfB k=some r):vy 191 [kI k] [kB r]:=by
 refine fi 16 func191 fun Xt=>?_
 unfold zfB at h;refine jp (jb h fun rv uo h=>jr (rl 1 [1] 9 call192 (zoa uo) rf) (jg [] [] [(2,kB ((rv.2==0)&&(rv.1 !=2)))] ?_ ?_))
 ·refine (rsl 3 [] 12 (rv.2==0) ?_ ?_)<;>intro ul
  · exact (rbl [] 2 (rv.1 !=2) rfl (by grind))
  exact (rbl [] 2 false rfl (by grind))
 cases h;exact zI lzz
theorem zya (h:zlO b=some r):vy 140 [.sl Rp.byte [0] b] [.rc zaP [] r.1,kI r.2.1,k8 r.2.2]:=by
 refine fj ⟨[(2,.ptr 2 0),(3,kI r.2.1),(4,k8 r.2.2)],[⟨2,229,[kI r.1.Number,kI r.1.Wire]⟩]⟩ 35 func140 ⟨⟨_,_,rfl,rfl,rfl,rfl,zHs⟩,rfl,rfl,trivial⟩ fun Xt=>?_
 unfold zlO at h;refine jq [12] (jb h fun rv uo h=>jr (rl 1 [0] 11 call182 (zgm uo) rf) (jp (jI h ?_ ?_)))<;>intro ul h
 ·refine jr (rc 0 rfl (zJ (r:=zaP) [] [] (⟨0,0⟩:zM) rfl zwd rfl rfl) rf) ?_;cases h;exact zI (lks [12] [(12,2)] lzz)
 refine jr (ra 1 [kU rv.1,kU 3] rfl (zfX rfl rfl) rfl rf) (jr (rc 5 rfl (zJ (r:=zaP) [kI (i64.wrap (if (536870912:Int)<(shrI .u64 rv.1 3) then 536870912 else (shrI .u64 rv.1 3))),kI (i64.wrap (andI .u64 rv.1 7))] [] (⟨(i64.wrap (if (536870912:Int)<(shrI .u64 rv.1 3) then 536870912 else (shrI .u64 rv.1 3))),(i64.wrap (andI .u64 rv.1 7))⟩:zM) rfl zwd rfl rfl) (rfl' [13])) (jb h fun vA uu h=>jr (lb 0 zaP [] (⟨(i64.wrap (if (536870912:Int)<(shrI .u64 rv.1 3) then 536870912 else (shrI .u64 rv.1 3))),(i64.wrap (andI .u64 rv.1 7))⟩:zM) (rl 0 [1] 12 call183 (zoJ uu) rf)) (jI h ?_ ?_)))<;>intro up h
 ·refine jr (rc 0 rfl (zJ (r:=zaP) [] [] (⟨0,0⟩:zM) rfl zwd rfl rfl) rf) ?_;cases h;exact zI (lks [12] [(12,2)] lzz)
 refine jr (lb 0 zaP [] (⟨(i64.wrap (if (536870912:Int)<(shrI .u64 rv.1 3) then 536870912 else (shrI .u64 rv.1 3))),(i64.wrap (andI .u64 rv.1 7))⟩:zM) rf) ?_;cases h;exact zI (lks [12] [(12,2)] lzz)
theorem zlG (h:zfF wire b=some r):vy 141 [kI wire,.sl Rp.byte [0] b] [kI r.1,kI r.2.1,k8 r.2.2]:=by
 refine fi 45 func141 fun Xt=>?_
 unfold zfF at h;refine jp (jp (jp (zD (jp (jI h ?_ ?_)))))<;>intro ul h
 ·refine jb h fun rv uo h=>jr (rl 1 [0] 9 call184 (zlX uo) rf) ?_;cases h;exact jz
 refine jp (jb h fun p uP h=>jn (.N [1] [] [(4,kI p.1),(6,k8 p.2.1),(7,kU p.2.2)] []) ?_ ?_)
 ·replace h:=uP;refine jI h ?_ ?_<;>intro up h
  ·cases h;exact jy
  refine jp (jI h ?_ ?_)<;>intro ut h
  ·cases h;exact jy
  refine jp (jI h ?_ ?_)<;>intro uw h
  ·refine jb h fun vA uu h=>jr (rl 1 [0] 9 call182 (zgm uu) rf) ?_;cases h;exact zaT lzz
  cases h;exact zaT lzz
 refine zlh (zaA (jp (jI h ?_ ?_)))<;>intro uB h
 ·cases h;exact jz
 refine jp (jI h ?_ ?_)<;>intro uE h
 ·cases h;exact jz
 cases h;exact jz
theorem ztG (h:ziF m uI=some r):vy 147 [.rc ze [0] m,kI uI] [kI r]:=by
 refine fi 9 func147 fun Xt=>?_
 unfold ziF at h;refine jr (ra 0 [.rc ze [0] m] rfl (zps 11 (zan [0] m) [0] rfl rfl rfl rfl rfl) rfl (rfl' [919000])) (jb h fun rv uo h=>jr (ra 2 [.ptr 919000 0] rfl (zFZ (g:=190) [.tmp 3] [⟨919000,3,[kI uI]⟩] [.ep vv [919000] uI 0] rfl ⟨⟨rfl,rfl,rfl⟩,trivial⟩ rfl) rfl (rl 0 [0,919000] 10 call134 (zcy uo) rf)) ?_);obtain rfl:=(sj h);exact zI lzz
theorem zwl (h:zkc k wire=some r):vy 149 [kI k,kI wire] [kB r]:=by
 refine fi 19 func149 fun Xt=>?_
 unfold zkc at h;refine jp (jb h fun rv uo h=>jr (rl 1 [1] 9 call192 (zoa uo) rf) (jg [] [] [(4,kB ((rv.2==0)&&(rv.1==wire)))] ?_ ?_))
 ·refine (rsl 3 [] 14 (rv.2==0) ?_ ?_)<;>intro ul
  · exact (rbl [] 4 (rv.1==wire) rfl (by grind))
  exact (rbl [] 4 false rfl (by grind))
 cases h;exact zI lzz
theorem zje (h:zeG k wv=some r):vy 186 [kI k,kU wv] [kU r.1,k8 r.2]:=by
 refine fi 34 func186 fun Xt=>?_
 unfold zeG at h;refine jp (jp (zD (jp (jb h fun p uP h=>jn (.N [1,6] [] [(7,kB p)] []) ?_ ?_))))
 ·replace h:=uP;refine jI h ?_ ?_<;>intro ul h
  ·cases h;exact zaT lzz
  cases h;exact jy
 refine zlh (jI h ?_ ?_)<;>intro up h
 ·refine jb h fun rv uo h=>jb h fun vA uu h=>jr (rl 1 [1] 9 call211 (zru uo) (rl 0 [1] 9 call210 (zrv uu) rf)) ?_;cases h;exact zI lzz
 refine jp (jb h fun p2 uX h=>jn (.N [1,6] [] [(13,kB p2)] []) ?_ ?_)
 ·replace h:=uX;refine jI h ?_ ?_<;>intro ut h
  ·cases h;exact zaT lzz
  refine jp (jI h ?_ ?_)<;>intro uw h
  ·cases h;exact zaT lzz
  refine jp (jI h ?_ ?_)<;>intro uB h
  ·cases h;exact zaT lzz
  refine jp (jI h ?_ ?_)<;>intro uE h
  ·cases h;exact zaT lzz
  cases h;exact jy
 refine zlh (jI h ?_ ?_)<;>intro uO h
 ·refine jb h fun vG uz h=>jr (rl 1 [1] 9 call212 (zmL uz) rf) ?_;cases h;exact zI lzz
 refine jp (jI h ?_ ?_)<;>intro uR h
 ·refine jb h fun rv4 uH h=>jr (rl 1 [1] 9 call213 (ztz uH) rf) ?_;cases h;exact zI lzz
 refine jp (jb h fun p3 vt h=>jn (.n ⟨[(1,kU wv),(26,kB p3)],[]⟩) ?_ ?_)
 ·replace h:=vt;refine jI h ?_ ?_<;>intro uY h
  ·cases h;exact zaT lzz
  refine jp (jI h ?_ ?_)<;>intro uZ h
  ·cases h;exact zaT lzz
  refine jp (jI h ?_ ?_)<;>intro u0 h
  ·cases h;exact zaT lzz
  refine jp (jI h ?_ ?_)<;>intro u9 h
  ·cases h;exact zaT lzz
  refine jp (jI h ?_ ?_)<;>intro va h
  ·cases h;exact zaT lzz
  cases h;exact jy
 refine zlh (jI h ?_ ?_)<;>intro vb h
 ·cases h;exact jz
 refine zaA ?_;cases h;exact jz
theorem zvZ {wide:Int} (h:zjP wide b=some r):vy 200 [kI wide,.sl Rp.byte [0] b] [kI r.1,k8 r.2]:=by
 refine fi 19 func200 fun Xt=>?_
 unfold zjP at h;refine jp (zD (jp (jI h ?_ ?_)))<;>intro ul h
 ·refine jb h fun rv uo h=>jr (rl 1 [0] 9 call184 (zlX uo) rf) ?_;cases h;exact zI lzz
 refine jp (jI h ?_ ?_)<;>intro up h
 ·cases h;exact jz
 refine zaA ?_;cases h;exact jz
theorem zym (h:zlV b=some r):vy 218 [.sl Rp.byte [0] b] [kI r.1,kI r.2]:=by
 refine fi 20 func218 fun Xt=>?_
 unfold zlV at h;refine jp (jb h fun rv uo h=>jr (rl 1 [0] 9 call220 (zqt uo) rf) (zD (jb h fun q uy h=>jL uy [0] [] (fun s=>[(2,kI s.1),(3,kI s.2.1),(4,kI s.2.2)]) (fun o=> .x 0 ⟨[(2,kI o.1),(3,kI o.2)],[]⟩) ?_ lzz ?_)))
 ·clear h;intro s o h;obtain ⟨atv,points,size⟩:=s;replace h:zeO b atv points size=some o:=h;unfold zeO at h;refine jp (jI h ?_ ?_)<;>intro ul h
  ·refine zD (jp (jp (zaA (jb h fun v uC h=>jb h fun vA uu h=>jr (ra 2 [.sl Rp.byte [0] b,kI (i64.wrap (atv+size))] rfl (zgE (some (kI (i64.wrap (atv+size)))) none rfl zbd.el (zcb _ _ _) ⟨rfl,rfl⟩ ⟨rfl,rfl⟩ uC) rfl (rl 0 [0] 10 call220 (zqt uu) rf)) ?_))));cases h;exact zaT lzz
  cases h;exact zcc rfl lzz
 refine zdp _ rfl ?_;cases h;exact jz
theorem zqF (h:zgf k b=some r):vy 201 [kI k,.sl Rp.byte [0] b] [kU r.1,k8 r.2]:=by
 refine fi 31 func201 fun Xt=>?_
 unfold zgf at h;refine jp (jb h fun rv uo h=>jr (rl 1 [1] 9 call185 (zhE uo) rf) (zD (jp (jI h ?_ ?_))))<;>intro ul h
 ·cases h;exact jz
 refine jp (jI h ?_ ?_)<;>intro up h
 ·refine jb h fun vA uu h=>jr (rl 1 [0] 9 call216 (zqG uu) rf) ?_;cases h;exact zI lzz
 refine jp (jI h ?_ ?_)<;>intro ut h
 ·cases h;exact jz
 refine zaA (jb h fun vG uz h=>jr (rl 1 [0] 9 call217 (zvk uz) rf) ?_);cases h;exact zI lzz
theorem zzJ (h:zkC b t=some r):vy 176 [.sl Rp.byte [0] b,.rc zaP [0] t] [.own Rp.byte 5 2 [] r.1,k8 r.2]:=by
 refine fi 13 func176 fun Xt=>?_
 unfold zkC at h;refine jq [13] (jb h fun rv uo h=>jr (lb 0 zaP [] t (rl 0 [1] 12 call183 (zoJ uo) rf)) (jI h ?_ ?_))<;>intro ul h
 ·refine jp ?_;cases h;exact zI lw
 refine jb h fun vA uu h=>jb h fun vG uz h=>jr (lb 1 zaP [] t (rl 0 [1] 12 call207 (zyb uu) (rl 0 [0] 12 call178 (zjp uz) rf))) ?_;cases h;exact zI (lks [] [(14,2)] lzz)
theorem zoD (h:zeL f=some r):vy 172 [.rc zb [0] f] [kB r]:=by
 refine fi 10 func172 fun Xt=>?_
 unfold zeL at h;refine jq [11] (jb h fun g ur h=>jg [] [] [(2,kB g)] ?_ ?_)
 ·refine (rsI 3 5 ur ?_ ?_)<;>intro ul ur
  ·refine jb ur fun rv uo ur=>?_;cases ur;exact (rl 2 [1] 10 call191 (zll uo) rgg)
  cases ur;exact rgg
 obtain rfl:=(sj h);exact zI lzz
theorem zgd (h:zdA b uv=some r):vy 111 [.sl Rp.byte [0] b,kI uv] [.rc zB [] r.1,k8 r.2]:=by
 refine fj ⟨[(4,.ptr 2 0),(5,k8 r.2)],[⟨2,66,(zaL r.1)⟩]⟩ 62 func111 ⟨⟨_,_,rfl,rfl,rfl,rfl,zCO⟩,rfl,trivial⟩ fun Xt=>?_
 unfold zdA at h;refine jq [12] (jg [0,1,4] [12] [(19,kB ((decide (uv<0))|| (decide (uv>=(b.length:Int)))))] ?_ ?_)
 ·refine (rsl 3 [] 14 (decide (uv<0)) ?_ ?_)<;>intro ul
  · exact (rbl [] 19 true rfl (by grind))
  exact (rbl [] 19 (decide (uv>=(b.length:Int))) rfl (by grind))
 refine jI h ?_ ?_<;>intro up h
 ·refine jr (rc 0 rfl (zJ (r:=zB) [] [] (⟨0,0,0,0,0⟩:zo) rfl zBk rfl rfl) rf) ?_;cases h;exact zI (lks [12] [(12,2)] lzz)
 refine jb h fun v2 uJ h=>jb h fun rv uo h=>jr (ra 2 [.sl Rp.byte [0] b,kI uv] rfl (zgE (some (kI uv)) none rfl zbd.el (zcb _ _ _) ⟨rfl,rfl⟩ ⟨rfl,rfl⟩ uJ) rfl (rl 0 [0] 11 call140 (zya uo) (rfl' [13]))) (jp (jI h ?_ ?_))<;>intro ut h
 ·refine jr (rc 0 rfl (zJ (r:=zB) [] [] (⟨0,0,0,0,0⟩:zo) rfl zBk rfl rfl) rf) ?_;cases h;exact zI (lks [12] [(12,2)] lzz)
 refine jp (jb h fun v3 uG h=>jb h fun vA uu h=>jd [1,4,6,8,9,10,11] [12,13] zhj (by exact (lwn 4 (ly [.sl Rp.byte [0] b,kI (i64.wrap (uv+rv.2.1))] (zgE (some (kI (i64.wrap (uv+rv.2.1)))) none rfl zbd.el (zcb _ _ _) ⟨rfl,rfl⟩ ⟨rfl,rfl⟩ uG) rfl (lx (lf1 141 (lc0 12 call141 (zlG uu))) l0)))) (jp (jI h ?_ ?_)))<;>intro uw h
 ·refine jr (rc 0 rfl (zJ (r:=zB) [] [] (⟨0,0,0,0,0⟩:zo) rfl zBk rfl rfl) rf) ?_;cases h;exact zI (lks [12] [(12,2)] lzz)
 refine jr (rc 11 rfl (zJ (r:=zB) [kI rv.1.Number,kI rv.1.Wire,kI uv,kI (i64.wrap ((i64.wrap (uv+rv.2.1))+vA.1)),kI (i64.wrap ((i64.wrap (uv+rv.2.1))+vA.2.1))] [] (⟨rv.1.Number,rv.1.Wire,uv,(i64.wrap ((i64.wrap (uv+rv.2.1))+vA.1)),(i64.wrap ((i64.wrap (uv+rv.2.1))+vA.2.1))⟩:zo) rfl zBk rfl rfl) rf) ?_;cases h;exact zI (lks [12] [(12,2)] lzz)
theorem ztH (h:ziG f wire=some r):vy 148 [.rc zb [0] f,kI wire] [kB r]:=by
 refine fi 16 func148 fun Xt=>?_
 unfold ziG at h;refine jq [11] (jb h fun g ur h=>jg [] [] [(4,kB g)] ?_ ?_)
 ·refine (rsI 3 7 ur ?_ ?_)<;>intro ul ur
  ·refine (rsI 4 11 ur ?_ ?_)<;>intro up ur
   ·refine jb ur fun rv uo ur=>?_;cases ur;exact (rl 2 [1] 10 call191 (zll uo) rgg)
   cases ur;exact rgg
  cases ur;exact rgg
 obtain rfl:=(sj h);exact zI lzz
theorem ziA (h:zeK k wv=some r):vy 142 [kI k,kU wv] [kI r]:=by
 refine fi 29 func142 fun Xt=>?_
 unfold zeK at h;refine jp (jb h fun rv uo h=>jr (rl 1 [1] 9 call185 (zhE uo) rf) (jg [0,1,5] [] [(19,kB ((rv.2 !=0)|| (rv.1 !=0)))] ?_ ?_))
 ·refine (rsl 3 [] 16 (rv.2 !=0) ?_ ?_)<;>intro ul
  · exact (rbl [] 19 true rfl (by grind))
  exact (rbl [] 19 (rv.1 !=0) rfl (by grind))
 refine jI h ?_ ?_<;>intro up h
 ·cases h;exact jz
 refine jb h fun vA uu h=>jr (rl 2 [1] 9 call186 (zje uu) rf) (jb h fun vG uz h=>jr (rl 1 [1] 9 call187 (zpS uz) rf) ?_);obtain rfl:=(sj h);exact zI lzz
theorem zwj (h:zjZ b=some r):vy 208 [.sl Rp.byte [0] b] [kI r]:=by
 refine fi 11 func208 fun Xt=>?_
 unfold zjZ at h;refine jp (jb h fun rv uo h=>jr (rl 1 [0] 9 call218 (zym uo) rf) ?_);cases h;exact jz
theorem zsS (h:zhr k b=some r):vy 163 [kI k,.sl Rp.byte [0] b] [kU r.1,k8 r.2]:=by
 refine fi 22 func163 fun Xt=>?_
 unfold zhr at h;refine jp (jb h fun rv uo h=>jr (rl 2 [0] 9 call201 (zqF uo) rf) (jp (jI h ?_ ?_)))<;>intro ul h
 ·cases h;exact jz
 refine jb h fun vA uu h=>jr (rl 2 [1] 9 call186 (zje uu) rf) ?_;cases h;exact zI lzz
theorem zmX (h:zgN k wv=some r):vy 175 [kI k,kU wv] [.own Rp.byte 5 2 [] r.1,k8 r.2]:=by
 refine fi 32 func175 fun Xt=>?_
 unfold zgN at h;refine jp (jb h fun rv uo h=>jr (rl 1 [1] 10 call185 (zhE uo) rf) (jp (jI h ?_ ?_)))<;>intro ul h
 ·refine jp ?_;cases h;exact zI lw
 refine jb h fun vA uu h=>jr (rl 2 [1] 10 call186 (zje uu) rf) (jp (jI h ?_ ?_))<;>intro up h
 ·refine jb h fun vG uz h=>jr (rl 1 [1] 10 call178 (FnOk.le (ins':=[kN,kU vA.1]) (zjp uz) ⟨zfC _ _,vz _,trivial⟩) rf) ?_;cases h;exact zI (lks [] [(12,2)] lzz)
 refine jb h fun rv4 uH h=>jr (rl 2 [1] 11 call206 (zrt uH) rf) ?_;cases h;exact zI (lks [] [(13,2)] lzz)
theorem zsM (h:zhm wire value=some r):vy 177 [kI wire,.sl Rp.byte [0] value] [kB r]:=by
 refine fi 25 func177 fun Xt=>?_
 unfold zhm at h;refine jp (jp (jI h ?_ ?_))<;>intro ul h
 ·refine jp ?_;obtain rfl:=(sj h);exact zI lzz
 refine jb h fun rv uo h=>jr (rl 2 [0] 9 call141 (zlG uo) rf) (jg [] [] [(4,kB ((rv.2.2==0)&&(rv.2.1==(value.length:Int))))] ?_ ?_)
 ·refine (rsl 3 [] 19 (rv.2.2==0) ?_ ?_)<;>intro up
  · exact (rbl [] 4 (rv.2.1==(value.length:Int)) rfl (by grind))
  exact (rbl [] 4 false rfl (by grind))
 cases h;exact zI lzz
end Go.Proofs.YtaglemhabeipfaaGreat

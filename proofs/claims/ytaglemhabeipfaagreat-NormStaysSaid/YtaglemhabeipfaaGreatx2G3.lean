/-
  The Go functions do what the plain functions say. No condition.
-/
import Derived.Test.YtaglemhabeipfaaGreatx2G2
set_option autoImplicit true
set_option relaxedAutoImplicit true
namespace Go.Proofs.YtaglemhabeipfaaGreat
open Go.IntKind (i64)
open Tryz
open Go Go.RowKit
set_option linter.unusedVariables false
set_option maxRecDepth 100000
set_option maxHeartbeats 3200000
theorem znc (h:zdV c m=some r):zhP prog 132 [.ag [kI c.size,.sl wI [0] c.kinds,.om zL Rp.bool 2 [0] c.names,.om zh Rp.bool 3 [0] c.numbers],.rc zf [0] m] [kI r.1] [.ag [.any,.any,.om zL Rp.bool 2 [0] r.2.1,.om zh Rp.bool 3 [0] r.2.2],.any]:=by
 refine zjg (E:=⟨[(0,.ag [.any,.any,.om zL Rp.bool 2 [0] r.2.1,.om zh Rp.bool 3 [0] r.2.2]),(4,kI r.1)],[]⟩) 27 [0] func132 rfl rfl rfl ⟨rfl,trivial⟩ ⟨.inr ⟨rfl,rfl⟩,.inl rfl,trivial⟩ rfl (fun Xt old=>?_);refine zbe ?_;unfold zdV at h;refine jr (ral 1 [11] [.rc zf [0] m] rfl (zis 12 (zW [0] m) [0] rfl rfl rfl rfl rfl) rfl rf) (jr (rc 2 rfl (zaj (r:=zL) [kI (-1),kS m.Name] [] (⟨(-1),m.Name⟩:zy) rfl zKu rfl rfl) (rfl' [13])) (zx (jb h fun rv uR h=>jr (rl 2 [1] 12 call169 (znd uR) rf) (jI h ?_ ?_))))<;>intro uP h
 ·refine jp ?_;cases h;exact zdc lw
 refine jr (lb 2 zL [] (⟨(-1),m.Name⟩:zy) (ra 0 [.om zL Rp.bool 2 [0] c.names,.rc zL [] (⟨(-1),m.Name⟩:zy)] rfl (zsj (rk:=zL) (rv:=Rp.bool) (m:=c.names) (k:=(⟨(-1),m.Name⟩:zy)) (kB ((mget c.names (⟨(-1),m.Name⟩:zy)).getD false)) rfl zvs (zcv rfl) (zrM rfl rfl rfl)) rfl rf)) (jI h ?_ ?_)<;>intro uT h
 ·refine jp ?_;cases h;exact zdc lw
 refine jp (jI h ?_ ?_)<;>intro uV h
 ·refine jp ?_;cases h;exact zdc lw
 refine zam (jr (lb 2 zL [] (⟨(-1),m.Name⟩:zy) (rms (C1:=[]) 0 [] 2 [0] c.names (⟨(-1),m.Name⟩:zy) true [0] zvs (zcv rfl) (zdx rfl rfl) rf)) (jp ?_));cases h;exact zdc lw
theorem zoX (h:zhU k=some r):wL 191 [kI k] [kB r]:=by
 refine fi 16 func191 fun Xt=>?_
 unfold zhU at h;refine jp (jb h fun rv uR h=>jr (rl 1 [1] 9 call192 (zrY uR) rf) (jg [] [] [(2,kB ((rv.2==0)&&(rv.1 !=2)))] ?_ ?_))
 ·refine (rsl 3 [] 12 (rv.2==0) ?_ ?_)<;>intro uP
  · exact (rbl [] 2 (rv.1 !=2) rfl (by grind))
  exact (rbl [] 2 false rfl (by grind))
 cases h;exact zG lzz
theorem zDj (h:zpz b=some r):wL 140 [.sl Rp.byte [0] b] [.rc zbN [] r.1,kI r.2.1,k8 r.2.2]:=by
 refine fj ⟨[(2,.ptr 2 0),(3,kI r.2.1),(4,k8 r.2.2)],[⟨2,229,[kI r.1.Number,kI r.1.Wire]⟩]⟩ 35 func140 ⟨⟨_,_,rfl,rfl,rfl,rfl,zMT⟩,rfl,rfl,trivial⟩ fun Xt=>?_
 unfold zpz at h;refine jq [12] (jb h fun rv uR h=>jr (rl 1 [0] 11 call182 (ziK uR) rf) (jp (jI h ?_ ?_)))<;>intro uP h
 ·refine jr (rc 0 rfl (zaj (r:=zbN) [] [] (⟨0,0⟩:zap) rfl zBh rfl rfl) rf) ?_;cases h;exact zG (lks [12] [(12,2)] lzz)
 refine jr (ra 1 [kU rv.1,kU 3] rfl (zit rfl rfl) rfl rf) (jr (rc 5 rfl (zaj (r:=zbN) [kI (i64.wrap (if (536870912:Int)<(shrI .u64 rv.1 3) then 536870912 else (shrI .u64 rv.1 3))),kI (i64.wrap (andI .u64 rv.1 7))] [] (⟨(i64.wrap (if (536870912:Int)<(shrI .u64 rv.1 3) then 536870912 else (shrI .u64 rv.1 3))),(i64.wrap (andI .u64 rv.1 7))⟩:zap) rfl zBh rfl rfl) (rfl' [13])) (jb h fun wN uU h=>jr (lb 0 zbN [] (⟨(i64.wrap (if (536870912:Int)<(shrI .u64 rv.1 3) then 536870912 else (shrI .u64 rv.1 3))),(i64.wrap (andI .u64 rv.1 7))⟩:zap) (rl 0 [1] 12 call183 (zsK uU) rf)) (jI h ?_ ?_)))<;>intro uT h
 ·refine jr (rc 0 rfl (zaj (r:=zbN) [] [] (⟨0,0⟩:zap) rfl zBh rfl rfl) rf) ?_;cases h;exact zG (lks [12] [(12,2)] lzz)
 refine jr (lb 0 zbN [] (⟨(i64.wrap (if (536870912:Int)<(shrI .u64 rv.1 3) then 536870912 else (shrI .u64 rv.1 3))),(i64.wrap (andI .u64 rv.1 7))⟩:zap) rf) ?_;cases h;exact zG (lks [12] [(12,2)] lzz)
theorem zpr (h:zhY wire b=some r):wL 141 [kI wire,.sl Rp.byte [0] b] [kI r.1,kI r.2.1,k8 r.2.2]:=by
 refine fi 45 func141 fun Xt=>?_
 unfold zhY at h;refine jp (jp (jp (zx (jp (jI h ?_ ?_)))))<;>intro uP h
 ·refine jb h fun rv uR h=>jr (rl 1 [0] 9 call184 (zpL uR) rf) ?_;cases h;exact jz
 refine jp (jb h fun p vm h=>jn (.N [1] [] [(4,kI p.1),(6,k8 p.2.1),(7,kU p.2.2)] []) ?_ ?_)
 ·replace h:=vm;refine jI h ?_ ?_<;>intro uT h
  ·cases h;exact jy
  refine jp (jI h ?_ ?_)<;>intro uV h
  ·cases h;exact jy
  refine jp (jI h ?_ ?_)<;>intro uY h
  ·refine jb h fun wN uU h=>jr (rl 1 [0] 9 call182 (ziK uU) rf) ?_;cases h;exact zaJ lzz
  cases h;exact zaJ lzz
 refine ziq (zam (jp (jI h ?_ ?_)))<;>intro ve h
 ·cases h;exact jz
 refine jp (jI h ?_ ?_)<;>intro vh h
 ·cases h;exact jz
 cases h;exact jz
theorem zys (h:zlH m vg=some r):wL 147 [.rc zf [0] m,kI vg] [kI r]:=by
 refine fi 9 func147 fun Xt=>?_
 unfold zlH at h;refine jr (ra 0 [.rc zf [0] m] rfl (zis 11 (zW [0] m) [0] rfl rfl rfl rfl rfl) rfl (rfl' [919000])) (jb h fun rv uR h=>jr (ra 2 [.ptr 919000 0] rfl (zGc (g:=190) [.tmp 3] [⟨919000,3,[kI vg]⟩] [.ep wI [919000] vg 0] rfl ⟨⟨rfl,rfl,rfl⟩,trivial⟩ rfl) rfl (rl 0 [0,919000] 10 call134 (zdX uR) rf)) ?_);obtain rfl:=(sj h);exact zG lzz
theorem zBr (h:znn k wire=some r):wL 149 [kI k,kI wire] [kB r]:=by
 refine fi 19 func149 fun Xt=>?_
 unfold znn at h;refine jp (jb h fun rv uR h=>jr (rl 1 [1] 9 call192 (zrY uR) rf) (jg [] [] [(4,kB ((rv.2==0)&&(rv.1==wire)))] ?_ ?_))
 ·refine (rsl 3 [] 14 (rv.2==0) ?_ ?_)<;>intro uP
  · exact (rbl [] 4 (rv.1==wire) rfl (by grind))
  exact (rbl [] 4 false rfl (by grind))
 cases h;exact zG lzz
theorem zjy (h:zgH k wv=some r):wL 186 [kI k,kU wv] [kU r.1,k8 r.2]:=by
 refine fi 34 func186 fun Xt=>?_
 unfold zgH at h;refine jp (jp (zx (jp (jb h fun p vm h=>jn (.N [1,6] [] [(7,kB p)] []) ?_ ?_))))
 ·replace h:=vm;refine jI h ?_ ?_<;>intro uP h
  ·cases h;exact zaJ lzz
  cases h;exact jy
 refine ziq (jI h ?_ ?_)<;>intro uT h
 ·refine jb h fun rv uR h=>jb h fun wN uU h=>jr (rl 1 [1] 9 call211 (zvV uR) (rl 0 [1] 9 call210 (zvW uU) rf)) ?_;cases h;exact zG lzz
 refine jp (jb h fun p2 vB h=>jn (.N [1,6] [] [(13,kB p2)] []) ?_ ?_)
 ·replace h:=vB;refine jI h ?_ ?_<;>intro uV h
  ·cases h;exact zaJ lzz
  refine jp (jI h ?_ ?_)<;>intro uY h
  ·cases h;exact zaJ lzz
  refine jp (jI h ?_ ?_)<;>intro ve h
  ·cases h;exact zaJ lzz
  refine jp (jI h ?_ ?_)<;>intro vh h
  ·cases h;exact zaJ lzz
  cases h;exact jy
 refine ziq (jI h ?_ ?_)<;>intro vq h
 ·refine jb h fun wQ u0 h=>jr (rl 1 [1] 9 call212 (zqI u0) rf) ?_;cases h;exact zG lzz
 refine jp (jI h ?_ ?_)<;>intro vu h
 ·refine jb h fun ke vj h=>jr (rl 1 [1] 9 call213 (zyf vj) rf) ?_;cases h;exact zG lzz
 refine jp (jb h fun p3 wu h=>jn (.n ⟨[(1,kU wv),(26,kB p3)],[]⟩) ?_ ?_)
 ·replace h:=wu;refine jI h ?_ ?_<;>intro vx h
  ·cases h;exact zaJ lzz
  refine jp (jI h ?_ ?_)<;>intro vC h
  ·cases h;exact zaJ lzz
  refine jp (jI h ?_ ?_)<;>intro vD h
  ·cases h;exact zaJ lzz
  refine jp (jI h ?_ ?_)<;>intro vE h
  ·cases h;exact zaJ lzz
  refine jp (jI h ?_ ?_)<;>intro vv h
  ·cases h;exact zaJ lzz
  cases h;exact jy
 refine ziq (jI h ?_ ?_)<;>intro vy h
 ·cases h;exact jz
 refine zam ?_;cases h;exact jz
theorem zBa {wide:Int} (h:zmZ wide b=some r):wL 200 [kI wide,.sl Rp.byte [0] b] [kI r.1,k8 r.2]:=by
 refine fi 19 func200 fun Xt=>?_
 unfold zmZ at h;refine jp (zx (jp (jI h ?_ ?_)))<;>intro uP h
 ·refine jb h fun rv uR h=>jr (rl 1 [0] 9 call184 (zpL uR) rf) ?_;cases h;exact zG lzz
 refine jp (jI h ?_ ?_)<;>intro uT h
 ·cases h;exact jz
 refine zam ?_;cases h;exact jz
theorem zDu (h:zpH b=some r):wL 218 [.sl Rp.byte [0] b] [kI r.1,kI r.2]:=by
 refine fi 20 func218 fun Xt=>?_
 unfold zpH at h;refine jp (jb h fun rv uR h=>jr (rl 1 [0] 9 call220 (zuK uR) rf) (zx (jb h fun q uW h=>jL uW [0] [] (fun s=>[(2,kI s.1),(3,kI s.2.1),(4,kI s.2.2)]) (fun o=> .x 0 ⟨[(2,kI o.1),(3,kI o.2)],[]⟩) ?_ lzz ?_)))
 ·clear h;intro s o h;obtain ⟨atv,points,size⟩:=s;replace h:zgT b atv points size=some o:=h;unfold zgT at h;refine jp (jI h ?_ ?_)<;>intro uP h
  ·refine zx (jp (jp (zam (jb h fun v vc h=>jb h fun wN uU h=>jr (ra 2 [.sl Rp.byte [0] b,kI (i64.wrap (atv+size))] rfl (zgA (some (kI (i64.wrap (atv+size)))) none rfl zcd.el (zbI _ _ _) ⟨rfl,rfl⟩ ⟨rfl,rfl⟩ vc) rfl (rl 0 [0] 10 call220 (zuK uU) rf)) ?_))));cases h;exact zaJ lzz
  cases h;exact zaI rfl lzz
 refine zbo _ rfl ?_;cases h;exact jz
theorem zuU (h:ziF k b=some r):wL 201 [kI k,.sl Rp.byte [0] b] [kU r.1,k8 r.2]:=by
 refine fi 31 func201 fun Xt=>?_
 unfold ziF at h;refine jp (jb h fun rv uR h=>jr (rl 1 [1] 9 call185 (zki uR) rf) (zx (jp (jI h ?_ ?_))))<;>intro uP h
 ·cases h;exact jz
 refine jp (jI h ?_ ?_)<;>intro uT h
 ·refine jb h fun wN uU h=>jr (rl 1 [0] 9 call216 (zuV uU) rf) ?_;cases h;exact zG lzz
 refine jp (jI h ?_ ?_)<;>intro uV h
 ·cases h;exact jz
 refine zam (jb h fun wQ u0 h=>jr (rl 1 [0] 9 call217 (zAg u0) rf) ?_);cases h;exact zG lzz
theorem zFb (h:znX b t=some r):wL 176 [.sl Rp.byte [0] b,.rc zbN [0] t] [.own Rp.byte 5 2 [] r.1,k8 r.2]:=by
 refine fi 13 func176 fun Xt=>?_
 unfold znX at h;refine jq [13] (jb h fun rv uR h=>jr (lb 0 zbN [] t (rl 0 [1] 12 call183 (zsK uR) rf)) (jI h ?_ ?_))<;>intro uP h
 ·refine jp ?_;cases h;exact zG lw
 refine jb h fun wN uU h=>jb h fun wQ u0 h=>jr (lb 1 zbN [] t (rl 0 [1] 12 call207 (zDk uU) (rl 0 [0] 12 call178 (zmw u0) rf))) ?_;cases h;exact zG (lks [] [(14,2)] lzz)
theorem zsP (h:zjs uX x=some r):wL 45 [.rc zm [0] x] [kB r]:=by
 refine fi 6 func45 fun Xt=>?_
 unfold zjs at h;refine jr (rc 0 rfl (lbx 11 [0] (zbd [0] x)) rf) (jb h fun rv uR h=>jr (rc 1 rfl (lw0 10 call72 (zyj uR) (.l (zaz [0] x))) rf) ?_);cases h;exact zG lzz
theorem zhL (h:zbW m v=some r):wL 100 [.rc zf [0] m,.fv 101 [.ep wI [0] v 0]] [kI r.1,kB r.2]:=by
 refine fi 15 func100 fun Xt=>?_
 unfold zbW at h;refine jr (ra 0 [.rc zf [0] m] rfl (zis 11 (zW [0] m) [0] rfl rfl rfl rfl rfl) rfl rf) (jb h fun rv uR h=>jr (rl 3 [0] 10 call134 (zdp uR) rf) ?_);cases h;exact jz
theorem ziR (h:zdC wv=some r):wL 44 [.qp zfl [0] wv] [.own Rp.byte 5 2 [] r]:=by
 refine fi 8 func44 fun Xt=>?_
 unfold zdC at h;refine jp (jb h fun x uZ h=>jb h fun rv uR h=>jr (ra 1 [.qp zfl [0] wv] rfl (zLB (x0:=x) rfl uZ) rfl (rc 1 rfl (ldl zfl [0] x 0 (Rp.list Rp.byte) x.pieces) (rl 0 [0] 10 call71 (zbC uR) rf))) ?_);obtain rfl:=(sj h);exact zG (lks [] [(12,2)] lzz)
theorem zsE (h:zgO f=some r):wL 172 [.rc zc [0] f] [kB r]:=by
 refine fi 10 func172 fun Xt=>?_
 unfold zgO at h;refine jq [11] (jb h fun g uQ h=>jg [] [] [(2,kB g)] ?_ ?_)
 ·refine (rsI 3 5 uQ ?_ ?_)<;>intro uP uQ
  ·refine jb uQ fun rv uR uQ=>?_;cases uQ;exact (rl 2 [1] 10 call191 (zoX uR) rgg)
  cases uQ;exact rgg
 obtain rfl:=(sj h);exact zG lzz
theorem zgM (h:zfe b u9=some r):wL 111 [.sl Rp.byte [0] b,kI u9] [.rc zU [] r.1,k8 r.2]:=by
 refine fj ⟨[(4,.ptr 2 0),(5,k8 r.2)],[⟨2,66,(zbF r.1)⟩]⟩ 62 func111 ⟨⟨_,_,rfl,rfl,rfl,rfl,zIt⟩,rfl,trivial⟩ fun Xt=>?_
 unfold zfe at h;refine jq [12] (jg [0,1,4] [12] [(19,kB ((decide (u9<0))|| (decide (u9>=(b.length:Int)))))] ?_ ?_)
 ·refine (rsl 3 [] 14 (decide (u9<0)) ?_ ?_)<;>intro uP
  · exact (rbl [] 19 true rfl (by grind))
  exact (rbl [] 19 (decide (u9>=(b.length:Int))) rfl (by grind))
 refine jI h ?_ ?_<;>intro uT h
 ·refine jr (rc 0 rfl (zaj (r:=zU) [] [] (⟨0,0,0,0,0⟩:zt) rfl zGG rfl rfl) rf) ?_;cases h;exact zG (lks [12] [(12,2)] lzz)
 refine jb h fun v2 vi h=>jb h fun rv uR h=>jr (ra 2 [.sl Rp.byte [0] b,kI u9] rfl (zgA (some (kI u9)) none rfl zcd.el (zbI _ _ _) ⟨rfl,rfl⟩ ⟨rfl,rfl⟩ vi) rfl (rl 0 [0] 11 call140 (zDj uR) (rfl' [13]))) (jp (jI h ?_ ?_))<;>intro uV h
 ·refine jr (rc 0 rfl (zaj (r:=zU) [] [] (⟨0,0,0,0,0⟩:zt) rfl zGG rfl rfl) rf) ?_;cases h;exact zG (lks [12] [(12,2)] lzz)
 refine jp (jb h fun v3 vf h=>jb h fun wN uU h=>jd [1,4,6,8,9,10,11] [12,13] zee (by exact (lwn 4 (ly [.sl Rp.byte [0] b,kI (i64.wrap (u9+rv.2.1))] (zgA (some (kI (i64.wrap (u9+rv.2.1)))) none rfl zcd.el (zbI _ _ _) ⟨rfl,rfl⟩ ⟨rfl,rfl⟩ vf) rfl (lx (lf1 141 (lc0 12 call141 (zpr uU))) l0)))) (jp (jI h ?_ ?_)))<;>intro uY h
 ·refine jr (rc 0 rfl (zaj (r:=zU) [] [] (⟨0,0,0,0,0⟩:zt) rfl zGG rfl rfl) rf) ?_;cases h;exact zG (lks [12] [(12,2)] lzz)
 refine jr (rc 11 rfl (zaj (r:=zU) [kI rv.1.Number,kI rv.1.Wire,kI u9,kI (i64.wrap ((i64.wrap (u9+rv.2.1))+wN.1)),kI (i64.wrap ((i64.wrap (u9+rv.2.1))+wN.2.1))] [] (⟨rv.1.Number,rv.1.Wire,u9,(i64.wrap ((i64.wrap (u9+rv.2.1))+wN.1)),(i64.wrap ((i64.wrap (u9+rv.2.1))+wN.2.1))⟩:zt) rfl zGG rfl rfl) rf) ?_;cases h;exact zG (lks [12] [(12,2)] lzz)
theorem zyt (h:zlI f wire=some r):wL 148 [.rc zc [0] f,kI wire] [kB r]:=by
 refine fi 16 func148 fun Xt=>?_
 unfold zlI at h;refine jq [11] (jb h fun g uQ h=>jg [] [] [(4,kB g)] ?_ ?_)
 ·refine (rsI 3 7 uQ ?_ ?_)<;>intro uP uQ
  ·refine (rsI 4 11 uQ ?_ ?_)<;>intro uT uQ
   ·refine jb uQ fun rv uR uQ=>?_;cases uQ;exact (rl 2 [1] 10 call191 (zoX uR) rgg)
   cases uQ;exact rgg
  cases uQ;exact rgg
 obtain rfl:=(sj h);exact zG lzz
theorem ziE (h:zfN k wv=some r):wL 142 [kI k,kU wv] [kI r]:=by
 refine fi 29 func142 fun Xt=>?_
 unfold zfN at h;refine jp (jb h fun rv uR h=>jr (rl 1 [1] 9 call185 (zki uR) rf) (jg [0,1,5] [] [(19,kB ((rv.2 !=0)|| (rv.1 !=0)))] ?_ ?_))
 ·refine (rsl 3 [] 16 (rv.2 !=0) ?_ ?_)<;>intro uP
  · exact (rbl [] 19 true rfl (by grind))
  exact (rbl [] 19 (rv.1 !=0) rfl (by grind))
 refine jI h ?_ ?_<;>intro uT h
 ·cases h;exact jz
 refine jb h fun wN uU h=>jr (rl 2 [1] 9 call186 (zjy uU) rf) (jb h fun wQ u0 h=>jr (rl 1 [1] 9 call187 (zun u0) rf) ?_);obtain rfl:=(sj h);exact zG lzz
theorem zBp (h:znk b=some r):wL 208 [.sl Rp.byte [0] b] [kI r]:=by
 refine fi 11 func208 fun Xt=>?_
 unfold znk at h;refine jp (jb h fun rv uR h=>jr (rl 1 [0] 9 call218 (zDu uR) rf) ?_);cases h;exact jz
theorem zxp (h:zjS k b=some r):wL 163 [kI k,.sl Rp.byte [0] b] [kU r.1,k8 r.2]:=by
 refine fi 22 func163 fun Xt=>?_
 unfold zjS at h;refine jp (jb h fun rv uR h=>jr (rl 2 [0] 9 call201 (zuU uR) rf) (jp (jI h ?_ ?_)))<;>intro uP h
 ·cases h;exact jz
 refine jb h fun wN uU h=>jr (rl 2 [1] 9 call186 (zjy uU) rf) ?_;cases h;exact zG lzz
theorem zmq (h:zhJ k wv=some r):wL 175 [kI k,kU wv] [.own Rp.byte 5 2 [] r.1,k8 r.2]:=by
 refine fi 32 func175 fun Xt=>?_
 unfold zhJ at h;refine jp (jb h fun rv uR h=>jr (rl 1 [1] 10 call185 (zki uR) rf) (jp (jI h ?_ ?_)))<;>intro uP h
 ·refine jp ?_;cases h;exact zG lw
 refine jb h fun wN uU h=>jr (rl 2 [1] 10 call186 (zjy uU) rf) (jp (jI h ?_ ?_))<;>intro uT h
 ·refine jb h fun wQ u0 h=>jr (rl 1 [1] 10 call178 (FnOk.le (km:=[kN,kU wN.1]) (zmw u0) ⟨zeW _ _,wM _,trivial⟩) rf) ?_;cases h;exact zG (lks [] [(12,2)] lzz)
 refine jb h fun ke vj h=>jr (rl 2 [1] 11 call206 (zvU vj) rf) ?_;cases h;exact zG (lks [] [(13,2)] lzz)
theorem zxg (h:zjP wire value=some r):wL 177 [kI wire,.sl Rp.byte [0] value] [kB r]:=by
 refine fi 25 func177 fun Xt=>?_
 unfold zjP at h;refine jp (jp (jI h ?_ ?_))<;>intro uP h
 ·refine jp ?_;obtain rfl:=(sj h);exact zG lzz
 refine jb h fun rv uR h=>jr (rl 2 [0] 9 call141 (zpr uR) rf) (jg [] [] [(4,kB ((rv.2.2==0)&&(rv.2.1==(value.length:Int))))] ?_ ?_)
 ·refine (rsl 3 [] 19 (rv.2.2==0) ?_ ?_)<;>intro uT
  · exact (rbl [] 4 (rv.2.1==(value.length:Int)) rfl (by grind))
  exact (rbl [] 4 false rfl (by grind))
 cases h;exact zG lzz
theorem zhK (h:zdt m vg=some r):wL 68 [.rc zf [0] m,kI vg] [kI r.1,kB r.2]:=by
 refine fi 11 func68 fun Xt=>?_
 unfold zdt at h;refine jr (ra 0 [.rc zf [0] m] rfl (zis 11 (zW [0] m) [0] rfl rfl rfl rfl rfl) rfl (rfl' [910100])) (jb h fun rv uR h=>jr (ra 1 [.ptr 910100 0] rfl (zGc (g:=101) [.tmp 3] [⟨910100,3,[kI vg]⟩] [.ep wI [910100] vg 0] rfl ⟨⟨rfl,rfl,rfl⟩,trivial⟩ rfl) rfl (rl 0 [0,910100] 10 call100 (zhL uR) rf)) ?_);cases h;exact zG lzz
theorem zpD (h:zfk k l=some r):wL 166 [kI k,.sl wK [0] l] [kB r]:=by
 refine fi 29 func166 fun Xt=>?_
 unfold zfk at h;refine jp (jp (zx (jb h fun q uW h=>jL uW [0,9,10] [] (fun s=>[(11,kI s)]) (fun| (.inl v_)=> .x 0 ⟨[],[]⟩| (.inr v_)=> .r ⟨[(4,kB false)],[]⟩) ?_ lzz ?_)))
 ·clear h;intro v o h;unfold zbE at h;refine jp (jI h ?_ ?_)<;>intro uP h
  ·refine zx (jb h fun x uZ h=>jr (rx 0 [0] zxU.el uZ rfl rfl rf) (jb h fun rv uR h=>jr (rl 2 [1] 10 call186 (zjy uR) rf) (jg [0,9,10,11] [] [(27,kB ((rv.2 !=0)|| (rv.1 !=x)))] ?_ ?_)))
   ·refine (rsl 3 [] 23 (rv.2 !=0) ?_ ?_)<;>intro uT
    · exact (rbl [] 27 true rfl (by grind))
    exact (rbl [] 27 (rv.1 !=x) rfl (by grind))
   refine jI h ?_ ?_<;>intro uV h
   ·cases h;exact jz'
   refine zam ?_;cases h;exact jy
  cases h;exact zaI rfl lzz
 rcases q with u| u2
 ·refine zbo _ rfl (jp ?_);obtain rfl:=(sj h);exact zG lzz
 obtain rfl:=(sj h);exact zgz lzz
theorem zoa (h:zkU uX av b=some r):wL 24 [.rc zm [0] av,.rc zm [0] b] [kB r]:=by
 refine fi 12 func24 fun Xt=>?_
 unfold zkU at h;refine jr (rc 0 rfl (lbx 11 [0] (zbd [0] av)) (rc 0 rfl (lbx 12 [0] (zbd [0] b)) rf)) (jb h fun g uQ h=>jg [] [] [(4,kB g)] ?_ ?_)
 ·refine jb uQ fun rv uR uQ=>(rc 1 rfl (lw0 11 call45 (zsP uR) (.l (zaz [0] av))) (rsI 1 7 uQ ?_ ?_))<;>intro uP uQ
  ·refine jb uQ fun wN uU uQ=>?_;cases uQ;exact (rc 2 rfl (lw0 11 call46 (zBm uU) (.c (zaz [0] av) (.l (zaz [0] b)))) rgg)
  cases uQ;exact rgg
 obtain rfl:=(sj h);exact zG lzz
end Go.Proofs.YtaglemhabeipfaaGreat

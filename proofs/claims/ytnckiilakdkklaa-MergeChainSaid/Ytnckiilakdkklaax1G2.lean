/-
  The Go functions do what the plain functions say. No condition.
-/
import Derived.Test.Ytnckiilakdkklaax1G1
set_option autoImplicit true
set_option relaxedAutoImplicit true
namespace Go.Proofs.Ytnckiilakdkklaa
open Go.IntKind (i64)
open Try
open Go Go.RowKit
set_option linter.unusedVariables false
set_option maxRecDepth 100000
set_option maxHeartbeats 3200000
theorem zgf (h:zbg c m=some r):zdr prog 27 [.ag [kI c.size,.sl uq [0] c.kinds,.om zp Rp.bool 2 [0] c.names,.om zq Rp.bool 3 [0] c.numbers],.rc zg [0] m] [kI r.1] [.ag [.any,.any,.om zp Rp.bool 2 [0] r.2.1,.om zq Rp.bool 3 [0] r.2.2],.any]:=by
 refine zeG (E:=⟨[(0,.ag [.any,.any,.om zp Rp.bool 2 [0] r.2.1,.om zq Rp.bool 3 [0] r.2.2]),(4,kI r.1)],[]⟩) 27 [0] func27 rfl rfl rfl ⟨rfl,trivial⟩ ⟨.inr ⟨rfl,rfl⟩,.inl rfl,trivial⟩ rfl (fun Xt old=>?_);refine zbx ?_;unfold zbg at h;refine jr (ral 1 [11] [.rc zg [0] m] rfl (zfE 12 (zx [0] m) [0] rfl rfl rfl rfl rfl) rfl rf) (jr (rc 2 rfl (zD (r:=zp) [kI (-1),kS m.Name] [] (⟨(-1),m.Name⟩:zk) rfl zvc rfl rfl) (rfl' [13])) (zz (jb h fun rv pk h=>jr (rl 2 [1] 12 call36 (zgg pk) rf) (jI h ?_ ?_))))<;>intro ph h
 ·refine jp ?_;cases h;exact zcy lw
 refine jr (lb 2 zp [] (⟨(-1),m.Name⟩:zk) (ra 0 [.om zp Rp.bool 2 [0] c.names,.rc zp [] (⟨(-1),m.Name⟩:zk)] rfl (zju (rk:=zp) (rv:=Rp.bool) (m:=c.names) (k:=(⟨(-1),m.Name⟩:zk)) (kB ((mget c.names (⟨(-1),m.Name⟩:zk)).getD false)) rfl zoO (zaG rfl) (zlj rfl rfl rfl)) rfl rf)) (jI h ?_ ?_)<;>intro pj h
 ·refine jp ?_;cases h;exact zcy lw
 refine jp (jI h ?_ ?_)<;>intro pm h
 ·refine jp ?_;cases h;exact zcy lw
 refine zaj (jr (lb 2 zp [] (⟨(-1),m.Name⟩:zk) (rms (C1:=[]) 0 [] 2 [0] c.names (⟨(-1),m.Name⟩:zk) true [0] zoO (zaG rfl) (zbp rfl rfl) rf)) (jp ?_));cases h;exact zcy lw
theorem zhr (h:zde k=some r):ur 54 [kI k] [kB r]:=by
 refine fi 16 func54 fun Xt=>?_
 unfold zde at h;refine jp (jb h fun rv pk h=>jr (rl 1 [1] 9 call60 (zjn pk) rf) (jg [] [] [(2,kB ((rv.2==0)&&(rv.1 !=2)))] ?_ ?_))
 ·refine (rsl 3 [] 12 (rv.2==0) ?_ ?_)<;>intro ph
  · exact (rbl [] 2 (rv.1 !=2) rfl (by grind))
  exact (rbl [] 2 false rfl (by grind))
 cases h;exact zG lzz
theorem zqn (h:zhK b=some r):ur 41 [.sl Rp.byte [0] b] [.rc zbK [] r.1,kI r.2.1,k8 r.2.2]:=by
 refine fj ⟨[(2,.ptr 2 0),(3,kI r.2.1),(4,k8 r.2.2)],[⟨2,112,[kI r.1.Number,kI r.1.Wire]⟩]⟩ 35 func41 ⟨⟨_,_,rfl,rfl,rfl,rfl,zxj⟩,rfl,rfl,trivial⟩ fun Xt=>?_
 unfold zhK at h;refine jq [12] (jb h fun rv pk h=>jr (rl 1 [0] 11 call55 (zfh pk) rf) (jp (jI h ?_ ?_)))<;>intro ph h
 ·refine jr (rc 0 rfl (zD (r:=zbK) [] [] (⟨0,0⟩:zad) rfl zru rfl rfl) rf) ?_;cases h;exact zG (lks [12] [(12,2)] lzz)
 refine jr (ra 1 [kU rv.1,kU 3] rfl (zet rfl rfl) rfl rf) (jr (rc 5 rfl (zD (r:=zbK) [kI (i64.wrap (if (536870912:Int)<(shrI .u64 rv.1 3) then 536870912 else (shrI .u64 rv.1 3))),kI (i64.wrap (andI .u64 rv.1 7))] [] (⟨(i64.wrap (if (536870912:Int)<(shrI .u64 rv.1 3) then 536870912 else (shrI .u64 rv.1 3))),(i64.wrap (andI .u64 rv.1 7))⟩:zad) rfl zru rfl rfl) (rfl' [13])) (jb h fun uv pn h=>jr (lb 0 zbK [] (⟨(i64.wrap (if (536870912:Int)<(shrI .u64 rv.1 3) then 536870912 else (shrI .u64 rv.1 3))),(i64.wrap (andI .u64 rv.1 7))⟩:zad) (rl 0 [1] 12 call56 (zpd pn) rf)) (jI h ?_ ?_)))<;>intro pj h
 ·refine jr (rc 0 rfl (zD (r:=zbK) [] [] (⟨0,0⟩:zad) rfl zru rfl rfl) rf) ?_;cases h;exact zG (lks [12] [(12,2)] lzz)
 refine jr (lb 0 zbK [] (⟨(i64.wrap (if (536870912:Int)<(shrI .u64 rv.1 3) then 536870912 else (shrI .u64 rv.1 3))),(i64.wrap (andI .u64 rv.1 7))⟩:zad) rf) ?_;cases h;exact zG (lks [12] [(12,2)] lzz)
theorem zmB (h:zen wire b=some r):ur 42 [kI wire,.sl Rp.byte [0] b] [kI r.1,kI r.2.1,k8 r.2.2]:=by
 refine fi 45 func42 fun Xt=>?_
 unfold zen at h;refine jp (jp (jp (zz (jp (jI h ?_ ?_)))))<;>intro ph h
 ·refine jb h fun rv pk h=>jr (rl 1 [0] 9 call57 (zhQ pk) rf) ?_;cases h;exact jz
 refine jp (jb h fun p pC h=>jn (.N [1] [] [(4,kI p.1),(6,k8 p.2.1),(7,kU p.2.2)] []) ?_ ?_)
 ·replace h:=pC;refine jI h ?_ ?_<;>intro pj h
  ·cases h;exact jy
  refine jp (jI h ?_ ?_)<;>intro pm h
  ·cases h;exact jy
  refine jp (jI h ?_ ?_)<;>intro pp h
  ·refine jb h fun uv pn h=>jr (rl 1 [0] 9 call55 (zfh pn) rf) ?_;cases h;exact zaA lzz
  cases h;exact zaA lzz
 refine zho (zaj (jp (jI h ?_ ?_)))<;>intro pt h
 ·cases h;exact jz
 refine jp (jI h ?_ ?_)<;>intro pw h
 ·cases h;exact jz
 cases h;exact jz
theorem znj (h:zfi m pT=some r):ur 43 [.rc zg [0] m,kI pT] [kI r]:=by
 refine fi 9 func43 fun Xt=>?_
 unfold zfi at h;refine jr (ra 0 [.rc zg [0] m] rfl (zfE 11 (zx [0] m) [0] rfl rfl rfl rfl rfl) rfl (rfl' [905900])) (jb h fun rv pk h=>jr (ra 2 [.ptr 905900 0] rfl (zwd (g:=59) [.tmp 3] [⟨905900,3,[kI pT]⟩] [.ep uq [905900] pT 0] rfl ⟨⟨rfl,rfl,rfl⟩,trivial⟩ rfl) rfl (rl 0 [0,905900] 10 call58 (zbh pk) rf)) ?_);obtain rfl:=(sj h);exact zG lzz
theorem zpi (h:zgp k wire=some r):ur 45 [kI k,kI wire] [kB r]:=by
 refine fi 19 func45 fun Xt=>?_
 unfold zgp at h;refine jp (jb h fun rv pk h=>jr (rl 1 [1] 9 call60 (zjn pk) rf) (jg [] [] [(4,kB ((rv.2==0)&&(rv.1==wire)))] ?_ ?_))
 ·refine (rsl 3 [] 14 (rv.2==0) ?_ ?_)<;>intro ph
  · exact (rbl [] 4 (rv.1==wire) rfl (by grind))
  exact (rbl [] 4 false rfl (by grind))
 cases h;exact zG lzz
theorem znd (h:zeU k wv=some r):ur 91 [kI k,kU wv] [kU r.1,k8 r.2]:=by
 refine fi 34 func91 fun Xt=>?_
 unfold zeU at h;refine jp (jp (zz (jp (jb h fun p pC h=>jn (.N [1,6] [] [(7,kB p)] []) ?_ ?_))))
 ·replace h:=pC;refine jI h ?_ ?_<;>intro ph h
  ·cases h;exact zaA lzz
  cases h;exact jy
 refine zho (jI h ?_ ?_)<;>intro pj h
 ·refine jb h fun rv pk h=>jb h fun uv pn h=>jr (rl 1 [1] 9 call97 (zlD pk) (rl 0 [1] 9 call96 (zlE pn) rf)) ?_;cases h;exact zG lzz
 refine jp (jb h fun p2 pL h=>jn (.N [1,6] [] [(13,kB p2)] []) ?_ ?_)
 ·replace h:=pL;refine jI h ?_ ?_<;>intro pm h
  ·cases h;exact zaA lzz
  refine jp (jI h ?_ ?_)<;>intro pp h
  ·cases h;exact zaA lzz
  refine jp (jI h ?_ ?_)<;>intro pt h
  ·cases h;exact zaA lzz
  refine jp (jI h ?_ ?_)<;>intro pw h
  ·cases h;exact zaA lzz
  cases h;exact jy
 refine zho (jI h ?_ ?_)<;>intro pB h
 ·refine jb h fun uC pv h=>jr (rl 1 [1] 9 call98 (zio pv) rf) ?_;cases h;exact zG lzz
 refine jp (jI h ?_ ?_)<;>intro pE h
 ·refine jb h fun rv4 pD h=>jr (rl 1 [1] 9 call99 (zne pD) rf) ?_;cases h;exact zG lzz
 refine jp (jb h fun p3 uc h=>jn (.n ⟨[(1,kU wv),(26,kB p3)],[]⟩) ?_ ?_)
 ·replace h:=uc;refine jI h ?_ ?_<;>intro pM h
  ·cases h;exact zaA lzz
  refine jp (jI h ?_ ?_)<;>intro pN h
  ·cases h;exact zaA lzz
  refine jp (jI h ?_ ?_)<;>intro pO h
  ·cases h;exact zaA lzz
  refine jp (jI h ?_ ?_)<;>intro pP h
  ·cases h;exact zaA lzz
  refine jp (jI h ?_ ?_)<;>intro pQ h
  ·cases h;exact zaA lzz
  cases h;exact jy
 refine zho (jI h ?_ ?_)<;>intro pR h
 ·cases h;exact jz
 refine zaj ?_;cases h;exact jz
theorem zoX {wide:Int} (h:zgd wide b=some r):ur 69 [kI wide,.sl Rp.byte [0] b] [kI r.1,k8 r.2]:=by
 refine fi 19 func69 fun Xt=>?_
 unfold zgd at h;refine jp (zz (jp (jI h ?_ ?_)))<;>intro ph h
 ·refine jb h fun rv pk h=>jr (rl 1 [0] 9 call57 (zhQ pk) rf) ?_;cases h;exact zG lzz
 refine jp (jI h ?_ ?_)<;>intro pj h
 ·cases h;exact jz
 refine zaj ?_;cases h;exact jz
theorem zqw (h:zhN b=some r):ur 70 [.sl Rp.byte [0] b] [kI r.1,kI r.2]:=by
 refine fi 20 func70 fun Xt=>?_
 unfold zhN at h;refine jp (jb h fun rv pk h=>jr (rl 1 [0] 9 call83 (zkQ pk) rf) (zz (jb h fun q pq h=>jL pq [0] [] (fun s=>[(2,kI s.1),(3,kI s.2.1),(4,kI s.2.2)]) (fun o=> .x 0 ⟨[(2,kI o.1),(3,kI o.2)],[]⟩) ?_ lzz ?_)))
 ·clear h;intro s o h;obtain ⟨atv,points,size⟩:=s;replace h:zcF b atv points size=some o:=h;unfold zcF at h;refine jp (jI h ?_ ?_)<;>intro ph h
  ·refine zz (jp (jp (zaj (jb h fun v pA h=>jb h fun uv pn h=>jr (ra 2 [.sl Rp.byte [0] b,kI (i64.wrap (atv+size))] rfl (zgz (some (kI (i64.wrap (atv+size)))) none rfl zcW.el (zcx _ _ _) ⟨rfl,rfl⟩ ⟨rfl,rfl⟩ pA) rfl (rl 0 [0] 10 call83 (zkQ pn) rf)) ?_))));cases h;exact zaA lzz
  cases h;exact zbq rfl lzz
 refine zca _ rfl ?_;cases h;exact jz
theorem zjN (h:zcD f=some r):ur 39 [.rc zb [0] f] [kB r]:=by
 refine fi 10 func39 fun Xt=>?_
 unfold zcD at h;refine jq [11] (jb h fun g pi h=>jg [] [] [(2,kB g)] ?_ ?_)
 ·refine (rsI 3 5 pi ?_ ?_)<;>intro ph pi
  ·refine jb pi fun rv pk pi=>?_;cases pi;exact (rl 2 [1] 10 call54 (zhr pk) rgg)
  cases pi;exact rgg
 obtain rfl:=(sj h);exact zG lzz
theorem zhF (h:zdj b po=some r):ur 29 [.sl Rp.byte [0] b,kI po] [.rc zO [] r.1,k8 r.2]:=by
 refine fj ⟨[(4,.ptr 2 0),(5,k8 r.2)],[⟨2,52,(zfk r.1)⟩]⟩ 62 func29 ⟨⟨_,_,rfl,rfl,rfl,rfl,zyc⟩,rfl,trivial⟩ fun Xt=>?_
 unfold zdj at h;refine jq [12] (jg [0,1,4] [12] [(19,kB ((decide (po<0))|| (decide (po>=(b.length:Int)))))] ?_ ?_)
 ·refine (rsl 3 [] 14 (decide (po<0)) ?_ ?_)<;>intro ph
  · exact (rbl [] 19 true rfl (by grind))
  exact (rbl [] 19 (decide (po>=(b.length:Int))) rfl (by grind))
 refine jI h ?_ ?_<;>intro pj h
 ·refine jr (rc 0 rfl (zD (r:=zO) [] [] (⟨0,0,0,0,0⟩:zi) rfl zsx rfl rfl) rf) ?_;cases h;exact zG (lks [12] [(12,2)] lzz)
 refine jb h fun v2 pH h=>jb h fun rv pk h=>jr (ra 2 [.sl Rp.byte [0] b,kI po] rfl (zgz (some (kI po)) none rfl zcW.el (zcx _ _ _) ⟨rfl,rfl⟩ ⟨rfl,rfl⟩ pH) rfl (rl 0 [0] 11 call41 (zqn pk) (rfl' [13]))) (jp (jI h ?_ ?_))<;>intro pm h
 ·refine jr (rc 0 rfl (zD (r:=zO) [] [] (⟨0,0,0,0,0⟩:zi) rfl zsx rfl rfl) rf) ?_;cases h;exact zG (lks [12] [(12,2)] lzz)
 refine jp (jb h fun v3 pF h=>jb h fun uv pn h=>jd [1,4,6,8,9,10,11] [12,13] zit (by exact (lwn 4 (ly [.sl Rp.byte [0] b,kI (i64.wrap (po+rv.2.1))] (zgz (some (kI (i64.wrap (po+rv.2.1)))) none rfl zcW.el (zcx _ _ _) ⟨rfl,rfl⟩ ⟨rfl,rfl⟩ pF) rfl (lx (lf1 42 (lc0 12 call42 (zmB pn))) l0)))) (jp (jI h ?_ ?_)))<;>intro pp h
 ·refine jr (rc 0 rfl (zD (r:=zO) [] [] (⟨0,0,0,0,0⟩:zi) rfl zsx rfl rfl) rf) ?_;cases h;exact zG (lks [12] [(12,2)] lzz)
 refine jr (rc 11 rfl (zD (r:=zO) [kI rv.1.Number,kI rv.1.Wire,kI po,kI (i64.wrap ((i64.wrap (po+rv.2.1))+uv.1)),kI (i64.wrap ((i64.wrap (po+rv.2.1))+uv.2.1))] [] (⟨rv.1.Number,rv.1.Wire,po,(i64.wrap ((i64.wrap (po+rv.2.1))+uv.1)),(i64.wrap ((i64.wrap (po+rv.2.1))+uv.2.1))⟩:zi) rfl zsx rfl rfl) rf) ?_;cases h;exact zG (lks [12] [(12,2)] lzz)
theorem znk (h:zfj f wire=some r):ur 44 [.rc zb [0] f,kI wire] [kB r]:=by
 refine fi 16 func44 fun Xt=>?_
 unfold zfj at h;refine jq [11] (jb h fun g pi h=>jg [] [] [(4,kB g)] ?_ ?_)
 ·refine (rsI 3 7 pi ?_ ?_)<;>intro ph pi
  ·refine (rsI 4 11 pi ?_ ?_)<;>intro pj pi
   ·refine jb pi fun rv pk pi=>?_;cases pi;exact (rl 2 [1] 10 call54 (zhr pk) rgg)
   cases pi;exact rgg
  cases pi;exact rgg
 obtain rfl:=(sj h);exact zG lzz
theorem zmI (h:zeo k wv=some r):ur 82 [kI k,kU wv] [kI r]:=by
 refine fi 29 func82 fun Xt=>?_
 unfold zeo at h;refine jp (jb h fun rv pk h=>jr (rl 1 [1] 9 call90 (zkZ pk) rf) (jg [0,1,5] [] [(19,kB ((rv.2 !=0)|| (rv.1 !=0)))] ?_ ?_))
 ·refine (rsl 3 [] 16 (rv.2 !=0) ?_ ?_)<;>intro ph
  · exact (rbl [] 19 true rfl (by grind))
  exact (rbl [] 19 (rv.1 !=0) rfl (by grind))
 refine jI h ?_ ?_<;>intro pj h
 ·cases h;exact jz
 refine jb h fun uv pn h=>jr (rl 2 [1] 9 call91 (znd pn) rf) (jb h fun uC pv h=>jr (rl 1 [1] 9 call92 (zpp pv) rf) ?_);obtain rfl:=(sj h);exact zG lzz
theorem zpf (h:zgj b=some r):ur 62 [.sl Rp.byte [0] b] [kI r]:=by
 refine fi 11 func62 fun Xt=>?_
 unfold zgj at h;refine jp (jb h fun rv pk h=>jr (rl 1 [0] 9 call70 (zqw pk) rf) ?_);cases h;exact jz
theorem zgW (h:zbz c pl f=some r):zdr prog 28 [.ag [kI c.size,.sl uq [0] c.kinds,.om zp Rp.bool 2 [0] c.names,.om zq Rp.bool 3 [0] c.numbers],kI pl,.rc zb [0] f] [kI r.1] [.ag [.any,.any,.om zp Rp.bool 2 [0] r.2.1,.om zq Rp.bool 3 [0] r.2.2],.any,.any]:=by
 refine zeG (E:=⟨[(0,.ag [.any,.any,.om zp Rp.bool 2 [0] r.2.1,.om zq Rp.bool 3 [0] r.2.2]),(6,kI r.1)],[]⟩) 63 [0] func28 rfl rfl rfl ⟨rfl,trivial⟩ ⟨.inr ⟨rfl,rfl⟩,.inl rfl,.inl rfl,trivial⟩ rfl (fun Xt old=>?_);refine zbx ?_;unfold zbz at h;refine jq [11,12] (jd [0,3,5,7,8] [11,12,13,14] zit (by exact (lwn 3 (lx (zD (r:=zp) [kI pl,kS f.Name] [] (⟨pl,f.Name⟩:zk) rfl zvc rfl rfl) (lwn 3 (lx (zD (r:=zq) [kI pl,kI f.Number] [] (⟨pl,f.Number⟩:zm) rfl zxR rfl rfl) (lx (zmf 13 [kI 0,kS []] rfl zeroValue104 rfl) (lx (zmf 14 [kI 0,kI 0] rfl zeroValue107 rfl) (ly [.ptr 13 0,.rc zp [] (⟨pl,f.Name⟩:zk)] (zki (r:=zp) (b:=⟨13,104,[kI 0,kS []]⟩) (off:=0) [kI pl,kS f.Name] rfl sizeOf104 rfl rfl rfl rfl) rfl (ly [.ptr 14 0,.rc zq [] (⟨pl,f.Number⟩:zm)] (zki (r:=zq) (b:=⟨14,107,[kI 0,kI 0]⟩) (off:=0) [kI pl,kI f.Number] rfl sizeOf107 rfl rfl rfl rfl) rfl l0))))))))) (zz (jb h fun rv pk h=>jr (rl 2 [1] 13 call36 (zgg pk) rf) (jI h ?_ ?_))))<;>intro ph h
 ·refine jp ?_;cases h;exact zcy lw
 refine jr (lb 2 zp [] (⟨pl,f.Name⟩:zk) (ra 0 [.om zp Rp.bool 2 [0] c.names,.rc zp [] (⟨pl,f.Name⟩:zk)] rfl (zju (rk:=zp) (rv:=Rp.bool) (m:=c.names) (k:=(⟨pl,f.Name⟩:zk)) (kB ((mget c.names (⟨pl,f.Name⟩:zk)).getD false)) rfl zoO (zaG rfl) (zlj rfl rfl rfl)) rfl rf)) (jI h ?_ ?_)<;>intro pj h
 ·refine jp ?_;cases h;exact zcy lw
 refine jb h fun uv pn h=>jr (rl 2 [1] 13 call37 (ziV pn) rf) (jI h ?_ ?_)<;>intro pm h
 ·refine jp ?_;cases h;exact zcy lw
 refine jr (lb 2 zq [] (⟨pl,f.Number⟩:zm) (ra 0 [.om zq Rp.bool 3 [0] c.numbers,.rc zq [] (⟨pl,f.Number⟩:zm)] rfl (zju (rk:=zq) (rv:=Rp.bool) (m:=c.numbers) (k:=(⟨pl,f.Number⟩:zm)) (kB ((mget c.numbers (⟨pl,f.Number⟩:zm)).getD false)) rfl zuC (zaG rfl) (zlj rfl rfl rfl)) rfl rf)) (jI h ?_ ?_)<;>intro pp h
 ·refine jp ?_;cases h;exact zcy lw
 refine jb h fun uC pv h=>jr (rl 4 [0] 13 call38 (zeq pv) rf) (jI h ?_ ?_)<;>intro pt h
 ·refine jp ?_;cases h;exact zcy lw
 refine jb h fun g pi h=>jg [0,3,5,7,8] [11,12,13,14] [(44,kB g)] ?_ ?_
 ·refine (rsI 3 47 pi ?_ ?_)<;>intro pw pi
  ·refine jb pi fun rv4 pD pi=>?_;cases pi;exact (lb 0 zb [] f (rl 0 [1] 13 call39 (zjN pD) (rel [] lzz)))
  cases pi;exact (rel [] lzz)
 refine jI h ?_ ?_<;>intro pB h
 ·refine jp ?_;cases h;exact zcy lw
 refine jb h fun rv5 pG h=>jr (lb 1 zb [] f (rl 0 [0,2,3] 13 call40 (zgX pG) rf)) (jI h ?_ ?_)<;>intro pE h
 ·refine jp ?_;cases h;exact zcy lw
 refine zaj (jr (lb 2 zp [] (⟨pl,f.Name⟩:zk) (rms (C1:=[]) 0 [] 2 [0] c.names (⟨pl,f.Name⟩:zk) true [0] zoO (zaG rfl) (zbp rfl rfl) rf)) (jr (lb 2 zq [] (⟨pl,f.Number⟩:zm) (rms (C1:=[]) 0 [] 3 [0] c.numbers (⟨pl,f.Number⟩:zm) true [0] zuC (zaG rfl) (zbp rfl rfl) rf)) (jp ?_)));cases h;exact zcy lw
theorem zmQ (h:zdm m hv=some r):ur 30 [.rc zg [0] m,.rc zA [0] hv] [.rc zC [] r]:=by
 refine fj ⟨[(4,.ptr 2 0)],[⟨2,87,(zlJ r)⟩]⟩ 38 func30 ⟨⟨_,_,rfl,rfl,rfl,rfl,zye⟩,trivial⟩ fun Xt=>?_
 unfold zdm at h;refine jr (ra 0 [.rc zg [0] m] rfl (zfE 14 (zx [0] m) [0] rfl rfl rfl rfl rfl) rfl (rfl' [15,16])) (jb h fun rv pk h=>jr (rl 3 [0] 15 call43 (znj pk) rf) (jp (jI h ?_ ?_)))<;>intro ph h
 ·refine jr (rc 0 rfl (zD (r:=zC) [kI (-1)] [] (⟨(-1),false,0⟩:zv) rfl zvd rfl rfl) rf) ?_;cases h;exact zG (lks [16] [(16,2)] lzz)
 refine jb h fun x pr h=>jr (rx 3 [0] zkS.el pr rfl rfl (rc 0 rfl (lde zb [0] x zpk) (rfl' [17]))) (jb h fun uv pn h=>jr (lb 0 zb [] x (rl 2 [1] 16 call44 (znk pn) rf)) (jb h fun g pi h=>jg [4,5,7] [16] [(33,kB g)] ?_ ?_))
 ·refine (rsI 3 26 pi ?_ ?_)<;>intro pj pi
  ·refine jb pi fun uC pv pi=>?_;cases pi;exact (rl 4 [1] 16 call45 (zpi pv) (rel [] lzz))
  cases pi;exact (rel [] lzz)
 refine jI h ?_ ?_<;>intro pm h
 ·refine jr (rc 0 rfl (zD (r:=zC) [k8 6] [] (⟨0,false,6⟩:zv) rfl zvd rfl rfl) rf) ?_;cases h;exact zG (lks [16] [(16,2)] lzz)
 refine jr (rc 2 rfl (zD (r:=zC) [kI rv,kB uv] [] (⟨rv,uv,0⟩:zv) rfl zvd rfl rfl) rf) ?_;cases h;exact zG (lks [16] [(16,2)] lzz)
theorem zoY (h:zge k=some r):ur 68 [kI k] [kI r]:=by
 refine fi 5 func68 fun Xt=>?_
 unfold zge at h;refine jp (jb h fun rv pk h=>jr (rl 1 [1] 9 call82 (zmI pk) rf) ?_);obtain rfl:=(sj h);exact zG lzz
theorem zpg (h:zgk b=some r):ur 47 [.sl Rp.byte [0] b] [kB r]:=by
 refine fi 8 func47 fun Xt=>?_
 unfold zgk at h;refine jp (jb h fun rv pk h=>jr (rl 1 [0] 9 call62 (zpf pk) rf) ?_);cases h;exact zG lzz
theorem zla (h:zdx sv=some r):ur 22 [.sl zg [0] sv] [.rc zba [] r.1,k8 r.2]:=by
 refine fj ⟨[(2,.ptr 2 0),(3,k8 r.2)],[⟨2,66,(zgT r.1)⟩]⟩ 62 func22 ⟨⟨_,_,rfl,rfl,rfl,rfl,zyd⟩,rfl,trivial⟩ fun Xt=>?_
 unfold zdx at h;refine jq [12] (jg [0,2] [12] [(18,kB ((decide ((sv.length:Int)<1))|| (decide ((sv.length:Int)>100))))] ?_ ?_)
 ·refine (rsl 4 [] 14 (decide ((sv.length:Int)<1)) ?_ ?_)<;>intro ph
  · exact (rbl [] 18 true rfl (by grind))
  exact (rbl [] 18 (decide ((sv.length:Int)>100)) rfl (by grind))
 refine jI h ?_ ?_<;>intro pj h
 ·refine jr (rc 0 rfl (zD (r:=zba) [kI (-1),kI (-1),kI 1] [] (⟨(-1),(-1),1⟩:zP) rfl zsy rfl rfl) rf) ?_;cases h;exact zG (lks [12] [(12,2)] lzz)
 refine jb h fun rv pk h=>jr (rl 2 [1] 11 call26 (zpS pk) (rc 0 rfl (zeX (rk:=zp) (rv:=Rp.bool) 14 rfl) (rc 0 rfl (zeX (rk:=zq) (rv:=Rp.bool) 15 rfl) (rc 0 rfl (lbd [kI (sv.length:Int),.own uq 3 13 [] rv,.om zp Rp.bool 14 [] ([]:(List (zk×Bool))),.om zq Rp.bool 15 [] ([]:(List (zm×Bool)))] zyx) (rfl' [16]))))) (jp (zz (jb h fun q2 pI h=>jl pI [2,4,26,27] [12] (fun s=>[(28,kI s.1)]) (fun s=>[⟨16,79,[kI (sv.length:Int),.own uq 3 13 [] rv,.om zp Rp.bool 14 [13,0] s.2.1,.om zq Rp.bool 15 [13,0] s.2.2]⟩]) (fun| (.inl v_)=> .X 0 [2] [12] [] []| (.inr v_)=> .r ⟨[(2,.ptr 12 0),(3,k8 9)],[⟨12,66,[kI v_.1,kI v_.2.1,kI v_.2.2]⟩]⟩) ?_ lw ?_)))
 ·clear h;intro s o h;obtain ⟨v2,f,f2⟩:=s;replace h:zag rv sv v2 f f2=some o:=h;unfold zag at h;refine jp (jI h ?_ ?_)<;>intro pm h
  ·refine zz (jb h fun x pr h=>jr (rx 1 [0] ziC.el pr rfl rfl (rc 0 rfl (lde zg [0] x zrG) (ral 2 [18] [.ptr 18 0,.rc zg [0] x] rfl (zki (r:=zg) (b:=⟨18,39,[kS [],kN]⟩) (off:=0) (zx [0] x) rfl sizeOf39 rfl rfl rfl rfl) rfl rf))) (jb h fun uC pv h=>jr (rkl 2 [] ⟨[(2,.ptr 12 0),(4,.ptr 16 0),(5,kI v2),(6,.ptr 18 0),(26,.sl zg [0] sv),(27,kI (sv.length:Int)),(28,kI v2),(33,.ag [kI (sv.length:Int),.own uq 3 13 [] rv,.om zp Rp.bool 14 [13,0] f,.om zq Rp.bool 15 [13,0] f2]),(34,.ag (zx [0] x))],[⟨12,66,[kI 0,kI 0,kI 0]⟩,⟨16,79,[kI (sv.length:Int),.own uq 3 13 [] rv,.om zp Rp.bool 14 [13,0] f,.om zq Rp.bool 15 [13,0] f2]⟩,⟨18,39,(zx [0] x)⟩]⟩ (zft ⟨[(2,.ptr 12 0),(4,.ptr 16 0),(5,kI v2),(6,.ptr 18 0),(26,.sl zg [0] sv),(27,kI (sv.length:Int)),(28,kI v2),(33,.ag [kI (sv.length:Int),.own uq 3 13 [] rv,.om zp Rp.bool 14 [13,0] uC.2.1,.om zq Rp.bool 15 [13,0] uC.2.2]),(34,.ag (zx [0] x))],[⟨12,66,[kI 0,kI 0,kI 0]⟩,⟨16,79,[kI (sv.length:Int),.own uq 3 13 [] rv,.om zp Rp.bool 14 [13,0] uC.2.1,.om zq Rp.bool 15 [13,0] uC.2.2]⟩,⟨18,39,(zx [0] x)⟩]⟩ (zhd.le (ins':=[(.tmp 33,.ag [kI (sv.length:Int),.own uq 3 13 [] rv,.om zp Rp.bool 14 [13,0] f,.om zq Rp.bool 15 [13,0] f2]),(.tmp 34,.ag (zx [0] x))]) (zfw (args:=[.tmp 33,.tmp 34]) [.ag [kI (sv.length:Int),.own uq 3 13 [] rv,.om zp Rp.bool 14 [13,0] f,.om zq Rp.bool 15 [13,0] f2],.rc zg [0] x] [(14,2),(15,3)] [13,0] 19 [] rfl call27 (zgf pv) rfl rfl (by kernel_rfl) rfl rfl rfl) ⟨⟨rfl,ut _⟩,⟨rfl,zhY zg [0] x (zx [0] x) rfl rfl⟩,trivial⟩) rfl (by kernel_rfl) (by kernel_rfl) ⟨⟨_,rfl,zo rfl⟩,⟨_,rfl,zo rfl⟩,⟨_,rfl,zo rfl⟩,⟨_,rfl,zo rfl⟩,⟨_,rfl,zo rfl⟩,⟨_,rfl,zo rfl⟩,⟨_,rfl,zo rfl⟩,⟨_,rfl,ziy ⟨zo rfl,zo rfl,zcU 0 rfl,zcU 1 rfl,trivial⟩⟩,⟨_,rfl,zo rfl⟩,trivial⟩ ⟨⟨_,rfl,rfl,rfl,⟨zo rfl,zo rfl,zo rfl,trivial⟩⟩,⟨_,rfl,rfl,rfl,⟨zo rfl,zo rfl,zcU 0 rfl,zcU 1 rfl,trivial⟩⟩,⟨_,rfl,rfl,rfl,⟨zo rfl,zo rfl,trivial⟩⟩,trivial⟩ rf)) (jp (jI h ?_ ?_))))<;>intro pp h
   ·refine jr (rc 2 rfl (zD (r:=zba) [kI v2,kI (-1),kI uC.1] [] (⟨v2,(-1),uC.1⟩:zP) rfl zsy rfl rfl) rf) ?_;cases h;exact zhW lzz
   refine jp (zz (jb h fun q pq h=>jl pq [2,4,5,26,27,28,42,43] [12] (fun s=>[(44,kI s.1)]) (fun s=>[⟨16,79,[kI (sv.length:Int),.own uq 3 13 [] rv,.om zp Rp.bool 14 [13,0] s.2.1,.om zq Rp.bool 15 [13,0] s.2.2]⟩]) (fun| (.inl v_)=> .X 2 [2,4,26,27,28] [12] [] [⟨16,79,[kI (sv.length:Int),.own uq 3 13 [] rv,.om zp Rp.bool 14 [13,0] v_.1,.om zq Rp.bool 15 [13,0] v_.2]⟩]| (.inr v_)=> .r ⟨[(2,.ptr 12 0),(3,k8 9)],[⟨12,66,[kI v2,kI v_.1,kI v_.2]⟩]⟩) ?_ lzz ?_))
   ·clear h;intro s o h;obtain ⟨v3,f6,f7⟩:=s;replace h:zaz rv sv v2 x v3 f6 f7=some o:=h;unfold zaz at h;refine jp (jI h ?_ ?_)<;>intro pt h
    ·refine zz (jb h fun x2 px h=>jr (rx 1 [0] zkS.el px rfl rfl (rc 0 rfl (lde zb [0] x2 zpk) (rfl' [24]))) (jb h fun rv5 pG h=>jr (lb 2 zb [] x2 (rkl 0 [] ⟨[(2,.ptr 12 0),(4,.ptr 16 0),(5,kI v2),(8,kI v3),(26,.sl zg [0] sv),(27,kI (sv.length:Int)),(28,kI v2),(42,.sl zb [0] x.Fields),(43,kI (x.Fields.length:Int)),(44,kI v3),(49,.ag [kI (sv.length:Int),.own uq 3 13 [] rv,.om zp Rp.bool 14 [13,0] f6,.om zq Rp.bool 15 [13,0] f7]),(50,kI v2),(51,.rc zb [] x2)],[⟨12,66,[kI 0,kI 0,kI 0]⟩,⟨16,79,[kI (sv.length:Int),.own uq 3 13 [] rv,.om zp Rp.bool 14 [13,0] f6,.om zq Rp.bool 15 [13,0] f7]⟩]⟩ (zft ⟨[(2,.ptr 12 0),(4,.ptr 16 0),(5,kI v2),(8,kI v3),(26,.sl zg [0] sv),(27,kI (sv.length:Int)),(28,kI v2),(42,.sl zb [0] x.Fields),(43,kI (x.Fields.length:Int)),(44,kI v3),(49,.ag [kI (sv.length:Int),.own uq 3 13 [] rv,.om zp Rp.bool 14 [13,0] rv5.2.1,.om zq Rp.bool 15 [13,0] rv5.2.2]),(50,kI v2),(51,.rc zb [] x2)],[⟨12,66,[kI 0,kI 0,kI 0]⟩,⟨16,79,[kI (sv.length:Int),.own uq 3 13 [] rv,.om zp Rp.bool 14 [13,0] rv5.2.1,.om zq Rp.bool 15 [13,0] rv5.2.2]⟩]⟩ (zfw [.ag [kI (sv.length:Int),.own uq 3 13 [] rv,.om zp Rp.bool 14 [13,0] f6,.om zq Rp.bool 15 [13,0] f7],kI v2,.rc zb [] x2] [(14,2),(15,3)] [13,0] 25 [] rfl call28 (zgW pG) rfl rfl (by kernel_rfl) rfl rfl rfl) rfl (by kernel_rfl) (by kernel_rfl) ⟨⟨_,rfl,zo rfl⟩,⟨_,rfl,zo rfl⟩,⟨_,rfl,zo rfl⟩,⟨_,rfl,zo rfl⟩,⟨_,rfl,zo rfl⟩,⟨_,rfl,zo rfl⟩,⟨_,rfl,zo rfl⟩,⟨_,rfl,zo rfl⟩,⟨_,rfl,zo rfl⟩,⟨_,rfl,zo rfl⟩,⟨_,rfl,ziy ⟨zo rfl,zo rfl,zcU 0 rfl,zcU 1 rfl,trivial⟩⟩,⟨_,rfl,zo rfl⟩,⟨_,rfl,zo rfl⟩,trivial⟩ ⟨⟨_,rfl,rfl,rfl,⟨zo rfl,zo rfl,zo rfl,trivial⟩⟩,⟨_,rfl,rfl,rfl,⟨zo rfl,zo rfl,zcU 0 rfl,zcU 1 rfl,trivial⟩⟩,trivial⟩ rf))) (jp (jI h ?_ ?_))))<;>intro pw h
     ·refine jr (rc 3 rfl (zD (r:=zba) [kI v2,kI v3,kI rv5.1] [] (⟨v2,v3,rv5.1⟩:zP) rfl zsy rfl rfl) rf) ?_;cases h;exact zhW lzz
     refine zaj ?_;cases h;exact jy
    cases h;exact zbq rfl lzz
   rcases q with u| u2
   ·refine zca _ rfl (zaj ?_);cases h;exact jy
   cases h;exact zvU lzz
  cases h;exact zbq rfl lzz
 rcases q2 with u3| u4
 ·refine zca _ rfl (jr (rc 0 rfl (zD (r:=zba) [] [] (⟨0,0,0⟩:zP) rfl zsy rfl rfl) rf) ?_);cases h;exact zG (lks [12] [(12,2)] lzz)
 cases h;exact zgw (lks [12] [(12,2)] lzz)
theorem zjT (h:zeM m b po met=some r):zdr prog 23 [.rc zg [0] m,.sl Rp.byte [0] b,kI po,.om zA zC 2 [0] met] [.rc zc [] r.1,k8 r.2.1] [.any,.any,.any,.om zA zC 2 [0] r.2.2]:=by
 refine zeG (E:=⟨[(3,.om zA zC 2 [0] r.2.2),(8,.ptr 3 0),(9,k8 r.2.1)],[⟨3,54,(zbm r.1)⟩]⟩) 56 [3] func23 rfl rfl rfl ⟨⟨_,_,rfl,rfl,rfl,rfl,zpl⟩,rfl,trivial⟩ ⟨.inl rfl,.inl rfl,.inl rfl,.inr ⟨rfl,rfl⟩,trivial⟩ rfl (fun Xt old=>?_);refine zbx ?_;unfold zeM at h;refine jr (ra 0 [.rc zg [0] m] rfl (zfE 13 (zx [0] m) [0] rfl rfl rfl rfl rfl) rfl (rfl' [14])) (jb h fun rv pk h=>jr (rl 2 [0] 13 call29 (zhF pk) (rfl' [15])) (jp (jI h ?_ ?_)))<;>intro ph h
 ·refine jr (rc 0 rfl (zD (r:=zc) [] [] (⟨(⟨0,0,0,0,0⟩:zi),0,false⟩:za) rfl zqm rfl rfl) rf) ?_;cases h;exact zcy (lks [14] [(14,3)] lzz)
 refine jr (rc 4 rfl (zD (r:=zA) [kI rv.1.Number,kI rv.1.Wire] [] (⟨rv.1.Number,rv.1.Wire⟩:zt) rfl zyz rfl rfl) (rfl' [16])) (jr (lb 1 zA [] (⟨rv.1.Number,rv.1.Wire⟩:zt) (ra 0 [.om zA zC 2 [0] met,.rc zA [] (⟨rv.1.Number,rv.1.Wire⟩:zt)] rfl (zkh (rk:=zA) (rv:=zC) (m:=met) (k:=(⟨rv.1.Number,rv.1.Wire⟩:zt)) (.rc zC [0] ((mget met (⟨rv.1.Number,rv.1.Wire⟩:zt)).getD (⟨0,false,0⟩:zv))) rfl zuB (zaG rfl) (zoE rfl)) rfl (rfl' [17]))) (jp (jb h fun p pC h=>jn (.N [8,10,13] [14,15] [(3,.om zA zC 2 [0] p.1)] [⟨17,87,[kI p.2.1,kB p.2.2.1,k8 p.2.2.2]⟩]) ?_ ?_)))
 ·replace h:=pC;refine jI h ?_ ?_<;>intro pj h
  ·refine jb h fun uv pn h=>jr (lb 1 zA [] (⟨rv.1.Number,rv.1.Wire⟩:zt) (rl 0 [0] 16 call30 (zmQ pn) rf)) (jr (lb 1 zA [] (⟨rv.1.Number,rv.1.Wire⟩:zt) (lb 0 zC [] uv (rms (C1:=[]) (D:=[]) 0 [] 2 [0] met (⟨rv.1.Number,rv.1.Wire⟩:zt) uv [0] zuB (zaG rfl) (zaG rfl) rf))) ?_);cases h;exact zaA lzz
  cases h;exact zaA lzz
 refine zho (jp (jI h ?_ ?_))<;>intro pm h
 ·refine jd [3,8,9] [14] zit (by exact (lx (zD (r:=zc) [] [] (⟨(⟨0,0,0,0,0⟩:zi),0,false⟩:za) rfl zqm rfl rfl) (lwn 2 (ly [.ptr 14 0,.rc zc [] (⟨(⟨0,0,0,0,0⟩:zi),0,false⟩:za)] (zki (r:=zc) (b:=⟨14,54,[kI 0,kI 0,kI 0,kI 0,kI 0,kI 0,kB false]⟩) (off:=0) [kI 0,kI 0,kI 0,kI 0,kI 0,kI 0,kB false] rfl sizeOf54 rfl rfl rfl rfl) rfl l0)))) ?_;cases h;exact zcy (lks [14] [(14,3)] lzz)
 refine jr (lb 0 zO [] rv.1 (rc 4 rfl (zD (r:=zc) [.rc zO [] rv.1,kI p.2.1,kB p.2.2.1] [] (⟨rv.1,p.2.1,p.2.2.1⟩:za) rfl zqm rfl rfl) rf)) ?_;cases h;exact zcy (lks [14] [(14,3)] lzz)
theorem zkY (v:Int) (v2:(List UInt8)):ItOk prog 67 [.bp uq 3 906700 [] v,.bp (Rp.list Rp.byte) 24 906701 [0] v2] (fun x:((List UInt8)×Int)=>[.sl Rp.byte [0] x.1,k8 x.2]) (fun {σ:Type} (kf:Rnd σ ((List UInt8)×Int)) (sg:σ)=>zcf v v2 kf sg):=by
 refine ztY 38 [(1,.ptr 906700 0),(2,.ptr 906701 0)] [⟨906700,3,[kI v]⟩,⟨906701,24,[.sl Rp.byte [0] v2]⟩] func67 rfl rfl rfl rfl (.cons uq 3 906700 [] v [kI v] rfl rfl (.cons (Rp.list Rp.byte) 24 906701 [0] v2 [.sl Rp.byte [0] v2] rfl rfl (.nil _))) ?_;intro σ kf sg s1 h l I hI F_ hT;replace h:zcf v v2 kf sg=some s1:=h;refine zbx (znG (E':=⟨[(0,.lf (.val (.func (.yield l) #[] #[]))),(1,.ptr 906700 0),(2,.ptr 906701 0)],[⟨906700,3,[kI v]⟩,⟨906701,24,[.sl Rp.byte [0] v2]⟩]⟩) (fun _ _ _ hs=>hs) ?_);unfold zcf at h;refine jb h fun rv pk h=>jr (rl 1 [1] 9 call68 (zoY pk) rf) (jp (jI h ?_ ?_))<;>intro ph h
 ·refine jb h fun y ud h=>zpO (E':=⟨[],[]⟩) (x:=(([]:(List UInt8)),2)) (b:=y.1) (s':=y.2) 1 (some 13) [.const (.slice none 0 0),.const (.int .u8 2)] [kN,k8 2] [.sl Rp.byte [0] ([]:(List UInt8)),k8 2] ⟨[(12,.lf (.val (.func (.yield l) #[] #[])))],[]⟩ hT rfl rfl rfl rfl rfl rgg rfl ⟨rfl,⟨rfl,trivial⟩⟩ rfl ⟨zfU _ _,ut _,trivial⟩ rfl rfl ud rgg ?_;cases h;exact zxs lzz
 refine jp (zz (jb h fun q pq h=>zua (fun s:((List UInt8)×σ)=>zaq kf rv s.1 s.2) (fun s=>⟨⟨38,[]⟩,itX I hI F_ s.2,false,#[]⟩) (fun s=>⟨[(0,.lf (.val (.func (.yield l) #[] #[]))),(4,kI rv),(5,.sl Rp.byte [0] s.1)],[]⟩) (fun o e a w=>match o with| (.inl v_)=>e= .exit 0/\Sx ⟨⟨38,[]⟩,itX I hI F_ v_,false,#[]⟩ ⟨[],[]⟩ a w| (.inr v_)=>e= .ret/\Sx ⟨⟨38,[]⟩,itX I hI F_ v_,false,#[]⟩ ⟨[],[]⟩ a w) ?_ pq rfl lzz ?_))
 ·clear h;intro s o h;obtain ⟨uu,sg2⟩:=s;refine zbx ?_;replace h:zaq kf rv uu sg2=some o:=h;unfold zaq at h;refine jp (jI h ?_ ?_)<;>intro pj h
  ·refine zz (jb h fun uv pn h=>jr (rl 2 [0] 10 call69 (zoX pn) rf) (jb h fun v3 pF h=>jb h fun y2 ue h=>zpO (E':=⟨[(0,.lf (.val (.func (.yield l) #[] #[]))),(4,kI rv),(5,.sl Rp.byte [0] uu),(6,kI uv.1),(34,kB ((!y2.1)|| (uv.2 !=0)))],[]⟩) (x:=(v3,uv.2)) (b:=y2.1) (s':=y2.2) 5 (some 29) [.tmp 27,.tmp 28] [.sl Rp.byte [0] v3,k8 uv.2] [.sl Rp.byte [0] v3,k8 uv.2] ⟨[(0,.lf (.val (.func (.yield l) #[] #[]))),(4,kI rv),(5,.sl Rp.byte [0] uu),(6,kI uv.1),(7,k8 uv.2),(24,.lf (.val (.func (.yield l) #[] #[]))),(27,.sl Rp.byte [0] v3),(28,k8 uv.2)],[]⟩ hT rfl rfl rfl rfl rfl (ra 3 [.sl Rp.byte [0] uu,kI uv.1] rfl (zgz none (some (kI uv.1)) rfl zcW.el (zcx _ _ _) ⟨rfl,rfl⟩ ⟨rfl,rfl⟩ pF) rfl rgg) rfl ⟨rfl,⟨rfl,trivial⟩⟩ rfl ⟨ut _,ut _,trivial⟩ rfl rfl ue ?_ ?_))
   ·refine (rsl 2 [] 31 (!y2.1) ?_ ?_)<;>intro pm
    · exact (rbl [] 34 true rfl (by grind))
    exact (rbl [] 34 (uv.2 !=0) rfl (by grind))
   refine jI h ?_ ?_<;>intro pp h
   ·cases h;exact zhW lzz
   refine jb h fun v5 uf h=>jr (ra 2 [.sl Rp.byte [0] uu,kI uv.1] rfl (zgz (some (kI uv.1)) none rfl zcW.el (zcx _ _ _) ⟨rfl,rfl⟩ ⟨rfl,rfl⟩ uf) rfl rf) (zaj ?_);cases h;exact zaA lzz
  cases h;exact zbq rfl lzz
 rcases q with u| u2
 ·refine zca _ rfl ?_;cases h;exact zxr lzz
 cases h;exact zxu lzz
end Go.Proofs.Ytnckiilakdkklaa

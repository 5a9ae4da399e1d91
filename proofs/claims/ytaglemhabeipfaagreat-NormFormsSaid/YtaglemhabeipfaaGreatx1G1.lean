/-
  The Go functions do what the plain functions say. No condition.
-/
import Derived.Test.YtaglemhabeipfaaGreatx1T
set_option autoImplicit true
set_option relaxedAutoImplicit true
namespace Go.Proofs.YtaglemhabeipfaaGreat
open Go.IntKind (i64 u64 u8)
open Tryz
open Go Go.RowKit
set_option linter.unusedVariables false
set_option maxRecDepth 100000
set_option maxHeartbeats 3200000
abbrev zOD:=(mput ([]:(List (Int×zu))) 1 (⟨[105,110,116,51,50],0⟩:zu))
abbrev zOE:=(mput zOD 2 (⟨[105,110,116,54,52],0⟩:zu))
abbrev zOF:=(mput zOE 3 (⟨[117,105,110,116,51,50],0⟩:zu))
abbrev zOG:=(mput zOF 4 (⟨[117,105,110,116,54,52],0⟩:zu))
abbrev zOH:=(mput zOG 5 (⟨[115,105,110,116,51,50],0⟩:zu))
abbrev zOI:=(mput zOH 6 (⟨[115,105,110,116,54,52],0⟩:zu))
abbrev zOJ:=(mput zOI 7 (⟨[98,111,111,108],0⟩:zu))
abbrev zOK:=(mput zOJ 8 (⟨[101,110,117,109],0⟩:zu))
abbrev zOL:=(mput zOK 9 (⟨[102,105,120,101,100,51,50],5⟩:zu))
abbrev zLj:=(mput zOL 10 (⟨[115,102,105,120,101,100,51,50],5⟩:zu))
abbrev zLk:=(mput zLj 11 (⟨[102,108,111,97,116],5⟩:zu))
abbrev zLl:=(mput zLk 12 (⟨[102,105,120,101,100,54,52],1⟩:zu))
abbrev zLm:=(mput zLl 13 (⟨[115,102,105,120,101,100,54,52],1⟩:zu))
abbrev zGH:=(mput zLm 14 (⟨[100,111,117,98,108,101],1⟩:zu))
theorem zsP (h:zmq=some r):kg 168 [] [.om kd zan 2 [] r]:=by
 refine fi 20 func168 fun Xt=>?_
 unfold zmq at h;refine jp (jr (rc 0 rfl (zms (rk:=kd) (rv:=zan) 12 rfl) (rc 0 rfl (zM (r:=zan) [kS [105,110,116,51,50],kI 0] [] (⟨[105,110,116,51,50],0⟩:zu) rfl zhV rfl rfl) (rms (D:=[]) 0 [] 12 [] ([]:(List (Int×zu))) 1 (⟨[105,110,116,51,50],0⟩:zu) [] zfI (zeT rfl rfl) (zcN rfl) (rc 0 rfl (zM (r:=zan) [kS [105,110,116,54,52],kI 0] [] (⟨[105,110,116,54,52],0⟩:zu) rfl zhV rfl rfl) (rms (D:=[]) 0 [] 12 [] zOD 2 (⟨[105,110,116,54,52],0⟩:zu) [] zfI (zeT rfl rfl) (zcN rfl) (rc 0 rfl (zM (r:=zan) [kS [117,105,110,116,51,50],kI 0] [] (⟨[117,105,110,116,51,50],0⟩:zu) rfl zhV rfl rfl) (rms (D:=[]) 0 [] 12 [] zOE 3 (⟨[117,105,110,116,51,50],0⟩:zu) [] zfI (zeT rfl rfl) (zcN rfl) (rc 0 rfl (zM (r:=zan) [kS [117,105,110,116,54,52],kI 0] [] (⟨[117,105,110,116,54,52],0⟩:zu) rfl zhV rfl rfl) (rms (D:=[]) 0 [] 12 [] zOF 4 (⟨[117,105,110,116,54,52],0⟩:zu) [] zfI (zeT rfl rfl) (zcN rfl) (rc 0 rfl (zM (r:=zan) [kS [115,105,110,116,51,50],kI 0] [] (⟨[115,105,110,116,51,50],0⟩:zu) rfl zhV rfl rfl) (rms (D:=[]) 0 [] 12 [] zOG 5 (⟨[115,105,110,116,51,50],0⟩:zu) [] zfI (zeT rfl rfl) (zcN rfl) (rc 0 rfl (zM (r:=zan) [kS [115,105,110,116,54,52],kI 0] [] (⟨[115,105,110,116,54,52],0⟩:zu) rfl zhV rfl rfl) (rms (D:=[]) 0 [] 12 [] zOH 6 (⟨[115,105,110,116,54,52],0⟩:zu) [] zfI (zeT rfl rfl) (zcN rfl) (rc 0 rfl (zM (r:=zan) [kS [98,111,111,108],kI 0] [] (⟨[98,111,111,108],0⟩:zu) rfl zhV rfl rfl) (rms (D:=[]) 0 [] 12 [] zOI 7 (⟨[98,111,111,108],0⟩:zu) [] zfI (zeT rfl rfl) (zcN rfl) (rc 0 rfl (zM (r:=zan) [kS [101,110,117,109],kI 0] [] (⟨[101,110,117,109],0⟩:zu) rfl zhV rfl rfl) (rms (D:=[]) 0 [] 12 [] zOJ 8 (⟨[101,110,117,109],0⟩:zu) [] zfI (zeT rfl rfl) (zcN rfl) (rc 0 rfl (zM (r:=zan) [kS [102,105,120,101,100,51,50],kI 5] [] (⟨[102,105,120,101,100,51,50],5⟩:zu) rfl zhV rfl rfl) (rms (D:=[]) 0 [] 12 [] zOK 9 (⟨[102,105,120,101,100,51,50],5⟩:zu) [] zfI (zeT rfl rfl) (zcN rfl) (rc 0 rfl (zM (r:=zan) [kS [115,102,105,120,101,100,51,50],kI 5] [] (⟨[115,102,105,120,101,100,51,50],5⟩:zu) rfl zhV rfl rfl) (rms (D:=[]) 0 [] 12 [] zOL 10 (⟨[115,102,105,120,101,100,51,50],5⟩:zu) [] zfI (zeT rfl rfl) (zcN rfl) (rc 0 rfl (zM (r:=zan) [kS [102,108,111,97,116],kI 5] [] (⟨[102,108,111,97,116],5⟩:zu) rfl zhV rfl rfl) (rms (D:=[]) 0 [] 12 [] zLj 11 (⟨[102,108,111,97,116],5⟩:zu) [] zfI (zeT rfl rfl) (zcN rfl) (rc 0 rfl (zM (r:=zan) [kS [102,105,120,101,100,54,52],kI 1] [] (⟨[102,105,120,101,100,54,52],1⟩:zu) rfl zhV rfl rfl) (rms (D:=[]) 0 [] 12 [] zLk 12 (⟨[102,105,120,101,100,54,52],1⟩:zu) [] zfI (zeT rfl rfl) (zcN rfl) (rc 0 rfl (zM (r:=zan) [kS [115,102,105,120,101,100,54,52],kI 1] [] (⟨[115,102,105,120,101,100,54,52],1⟩:zu) rfl zhV rfl rfl) (rms (D:=[]) 0 [] 12 [] zLl 13 (⟨[115,102,105,120,101,100,54,52],1⟩:zu) [] zfI (zeT rfl rfl) (zcN rfl) (rc 0 rfl (zM (r:=zan) [kS [100,111,117,98,108,101],kI 1] [] (⟨[100,111,117,98,108,101],1⟩:zu) rfl zhV rfl rfl) (rms (D:=[]) 0 [] 12 [] zLm 14 (⟨[100,111,117,98,108,101],1⟩:zu) [] zfI (zeT rfl rfl) (zcN rfl) (rc 0 rfl (zM (r:=zan) [kS [115,116,114,105,110,103],kI 2] [] (⟨[115,116,114,105,110,103],2⟩:zu) rfl zhV rfl rfl) (rms (D:=[]) 0 [] 12 [] zGH 15 (⟨[115,116,114,105,110,103],2⟩:zu) [] zfI (zeT rfl rfl) (zcN rfl) (rc 0 rfl (zM (r:=zan) [kS [98,121,116,101,115],kI 2] [] (⟨[98,121,116,101,115],2⟩:zu) rfl zhV rfl rfl) (rms (D:=[]) 0 [] 12 [] (mput zGH 15 (⟨[115,116,114,105,110,103],2⟩:zu)) 16 (⟨[98,121,116,101,115],2⟩:zu) [] zfI (zeT rfl rfl) (zcN rfl) (rc 0 rfl (zM (r:=zan) [kS [109,101,115,115,97,103,101],kI 2] [] (⟨[109,101,115,115,97,103,101],2⟩:zu) rfl zhV rfl rfl) (rms (D:=[]) 0 [] 12 [] (mput (mput zGH 15 (⟨[115,116,114,105,110,103],2⟩:zu)) 16 (⟨[98,121,116,101,115],2⟩:zu)) 17 (⟨[109,101,115,115,97,103,101],2⟩:zu) [] zfI (zeT rfl rfl) (zcN rfl) rf))))))))))))))))))))))))))))))))))) ?_);cases h;exact zx (lks [] [(12,2)] lzz)
theorem znA (h:zgK c=some r):kg 203 [k8 c] [kB r]:=by
 refine fi 9 func203 fun Xt=>?_
 unfold zgK at h;refine jp (jg [] [] [(2,kB ((decide (c>=48))&&(decide (c<=57))))] ?_ ?_)
 ·refine (rsl 3 [] 5 (decide (c>=48)) ?_ ?_)<;>intro uY
  · exact (rbl [] 2 (decide (c<=57)) rfl (by grind))
  exact (rbl [] 2 false rfl (by grind))
 cases h;exact zx lzz
theorem ztz (h:zho c=some r):kg 204 [k8 c] [kB r]:=by
 refine fi 21 func204 fun Xt=>?_
 unfold zho at h;refine jp (jg [] [] [(2,kB (if (decide (c>=97)) then ((decide (c<=122))|| (if (decide (c>=65)) then ((decide (c<=90))|| (c==95)) else (c==95))) else (if (decide (c>=65)) then ((decide (c<=90))|| (c==95)) else (c==95))))] ?_ ?_)
 ·refine (rsl 3 [] 5 (decide (c>=97)) ?_ ?_)<;>intro uY
  ·refine (rsl 4 [] 9 (decide (c<=122)) ?_ ?_)<;>intro uZ
   · exact (rbl [] 2 true rfl (by grind))
   refine (rsl 3 [] 12 (decide (c>=65)) ?_ ?_)<;>intro va
   ·refine (rsl 5 [] 17 (decide (c<=90)) ?_ ?_)<;>intro vd
    · exact (rbl [] 2 true rfl (by grind))
    exact (rbl [] 2 (c==95) rfl (by grind))
   exact (rbl [] 2 (c==95) rfl (by grind))
  refine (rsl 7 [] 12 (decide (c>=65)) ?_ ?_)<;>intro vf
  ·refine (rsl 5 [] 17 (decide (c<=90)) ?_ ?_)<;>intro vk
   · exact (rbl [] 2 true rfl (by grind))
   exact (rbl [] 2 (c==95) rfl (by grind))
  exact (rbl [] 2 (c==95) rfl (by grind))
 cases h;exact zx lzz
theorem ztA (h:zhp n=some r):kg 170 [kI n] [kB r]:=by
 refine fi 17 func170 fun Xt=>?_
 unfold zhp at h;refine jp (jg [] [] [(2,kB ((decide (n>=1))&&((decide (n<=536870911))&&((decide (n<19000))|| (decide (n>19999))))))] ?_ ?_)
 ·refine (rsl 3 [] 5 (decide (n>=1)) ?_ ?_)<;>intro uY
  ·refine (rsl 4 [] 9 (decide (n<=536870911)) ?_ ?_)<;>intro uZ
   ·refine (rsl 3 [] 12 (decide (n<19000)) ?_ ?_)<;>intro va
    · exact (rbl [] 2 true rfl (by grind))
    exact (rbl [] 2 (decide (n>19999)) rfl (by grind))
   exact (rbl [] 2 false rfl (by grind))
  exact (rbl [] 2 false rfl (by grind))
 cases h;exact zx lzz
theorem zmH (h:zdo sv v=some r):kg 205 [.sl kd [0] sv,kI v] [kI r]:=by
 refine fi 19 func205 fun Xt=>?_
 unfold zdo at h;refine jp (jp (zr (jb h fun q ve h=>jL ve [0,1,7] [] (fun s=>[(8,kI s)]) (fun| (.inl v_)=> .x 0 ⟨[],[]⟩| (.inr v_)=> .r ⟨[(4,kI v_)],[]⟩) ?_ lzz ?_)))
 ·clear h;intro v2 o h;unfold zaK at h;refine jp (jI h ?_ ?_)<;>intro uY h
  ·refine zr (jp (jb h fun x vi h=>jr (rx 3 [0] zkd.el vi rfl rfl rf) (jI h ?_ ?_)))<;>intro uZ h
   ·cases h;exact jz'
   refine zK ?_;cases h;exact jy
  cases h;exact zae rfl lzz
 rcases q with u| u2
 ·refine zar _ rfl ?_;cases h;exact jz
 obtain rfl:=(sj h);exact zgY lzz
theorem zqm (h:zfE c f=some r):kg 173 [.ag [kI c.size,.sl kd [0] c.kinds,.mp zC Rp.bool [0] c.names,.mp zf Rp.bool [0] c.numbers],.rc zb [0] f] [kB r]:=by
 refine fi 21 func173 fun Xt=>?_
 unfold zfE at h;refine jq [11,12] (jp (jI h ?_ ?_))<;>intro uY h
 ·refine jg [] [] [(4,kB ((decide (f.Of>=0))&&(decide (f.Of<c.size))))] ?_ ?_
  ·refine (rsl 4 [] 11 (decide (f.Of>=0)) ?_ ?_)<;>intro uZ
   · exact (rbl [] 4 (decide (f.Of<c.size)) rfl (by grind))
   exact (rbl [] 4 false rfl (by grind))
  cases h;exact zx lzz
 cases h;exact jz
theorem zjQ (h:zgR b=some r):kg 182 [.sl Rp.byte [0] b] [kU r.1,kI r.2.1,k8 r.2.2]:=by
 refine fi 38 func182 fun Xt=>?_
 unfold zgR at h;refine jp (jb h fun v vn h=>jr (ra 4 [.sl Rp.byte [0] b,kI (if (10:Int)<(b.length:Int) then 10 else (b.length:Int))] rfl (zfO none (some (kI (if (10:Int)<(b.length:Int) then 10 else (b.length:Int)))) rfl zap.el (zbd _ _ _) ⟨rfl,rfl⟩ ⟨rfl,rfl⟩ vn) rfl rf) (zr (jb h fun q ve h=>jL ve [11,12] [] (fun s=>[(2,kU s.1),(13,kI s.2)]) (fun| (.inl v_)=> .x 0 ⟨[],[]⟩| (.inr v_)=> .r ⟨[(2,kU v_.1),(3,kI v_.2.1),(4,k8 v_.2.2)],[]⟩) ?_ lzz ?_)))
 ·clear h;intro s o h;obtain ⟨wv,v2⟩:=s;replace h:zeH v wv v2=some o:=h;unfold zeH at h;refine jp (jI h ?_ ?_)<;>intro uY h
  ·refine zr (jb h fun x vi h=>jr (rx 1 [0] zap.el vi rfl rfl rf) (jg [2,5,6,11,12,13] [] [(23,kB ((v2==9)&&(decide ((x.toNat:Int)>1))))] ?_ ?_))
   ·refine (rsl 3 [] 20 (v2==9) ?_ ?_)<;>intro uZ
    · exact (rbl [] 23 (decide ((x.toNat:Int)>1)) rfl (by grind))
    exact (rbl [] 23 false rfl (by grind))
   refine jI h ?_ ?_<;>intro va h
   ·cases h;exact jz'
   refine jb h fun v4 vK h=>jr (ra 6 [kU (u64.wrap (andI .u8 (x.toNat:Int) 127)),kI (i64.wrap (7*v2))] rfl (zCN rfl vK) rfl rf) (jp (jI h ?_ ?_))<;>intro vd h
   ·cases h;exact jz'
   refine zK ?_;cases h;exact jy
  cases h;exact zae rfl lzz
 rcases q with u| u2
 ·refine zar _ rfl ?_;cases h;exact jz
 cases h;exact zgY lzz
theorem zvY (h:ziA wire=some r):kg 209 [kI wire] [kB r]:=by
 refine fi 9 func209 fun Xt=>?_
 unfold ziA at h;refine jp (jp (zr (jp (jI h ?_ ?_))))<;>intro uY h
 ·refine jI h ?_ ?_<;>intro uZ h
  ·refine jp ?_;obtain rfl:=(sj h);exact zx lzz
  refine zK (jp ?_);obtain rfl:=(sj h);exact zx lzz
 refine jp (jI h ?_ ?_)<;>intro va h
 ·refine jI h ?_ ?_<;>intro vd h
  ·refine jp ?_;obtain rfl:=(sj h);exact zx lzz
  refine zK (jp ?_);obtain rfl:=(sj h);exact zx lzz
 refine jp (jI h ?_ ?_)<;>intro vf h
 ·refine jI h ?_ ?_<;>intro vk h
  ·refine jp ?_;obtain rfl:=(sj h);exact zx lzz
  refine zK (jp ?_);obtain rfl:=(sj h);exact zx lzz
 refine jp (jI h ?_ ?_)<;>intro vp h
 ·refine jp ?_;obtain rfl:=(sj h);exact zx lzz
 refine zK (jp ?_);obtain rfl:=(sj h);exact zx lzz
theorem zwZ (h:zjR f v=some r):kg 190 [.rc zb [0] f,.ep kd [0] v 0] [kB r]:=by
 refine fi 8 func190 fun Xt=>?_
 unfold zjR at h;refine jq [11] ?_;cases h;exact jz
theorem zlr (h:zhh k=some r):kg 185 [kI k] [kI r.1,k8 r.2]:=by
 refine fi 22 func185 fun Xt=>?_
 unfold zhh at h;refine jp (jp (zr (jp (jb h fun p vD h=>jn (.n ⟨[(4,kI k),(5,kB p)],[]⟩) ?_ ?_))))
 ·replace h:=vD;refine jI h ?_ ?_<;>intro uY h
  ·cases h;exact zV lzz
  refine jp (jI h ?_ ?_)<;>intro uZ h
  ·cases h;exact zV lzz
  refine jp (jI h ?_ ?_)<;>intro va h
  ·cases h;exact zV lzz
  refine jp (jI h ?_ ?_)<;>intro vd h
  ·cases h;exact zV lzz
  refine jp (jI h ?_ ?_)<;>intro vf h
  ·cases h;exact zV lzz
  refine jp (jI h ?_ ?_)<;>intro vk h
  ·cases h;exact zV lzz
  refine jp (jI h ?_ ?_)<;>intro vp h
  ·cases h;exact zV lzz
  cases h;exact jy
 refine zez (jI h ?_ ?_)<;>intro vy h
 ·cases h;exact jz
 refine jp (jb h fun p2 vM h=>jn (.n ⟨[(4,kI k),(14,kB p2)],[]⟩) ?_ ?_)
 ·replace h:=vM;refine jI h ?_ ?_<;>intro vA h
  ·cases h;exact zV lzz
  refine jp (jI h ?_ ?_)<;>intro vB h
  ·cases h;exact zV lzz
  cases h;exact jy
 refine zez (jI h ?_ ?_)<;>intro vI h
 ·cases h;exact jz
 refine jp (jI h ?_ ?_)<;>intro vF h
 ·refine jI h ?_ ?_<;>intro vJ h
  ·cases h;exact jz
  refine zK ?_;cases h;exact jz
 refine jp (jI h ?_ ?_)<;>intro vL h
 ·refine jI h ?_ ?_<;>intro vH h
  ·cases h;exact jz
  refine zK ?_;cases h;exact jz
 refine jp (jI h ?_ ?_)<;>intro vN h
 ·cases h;exact jz
 refine zK ?_;cases h;exact jz
theorem zsN (h:zkg wv=some r):kg 212 [kU wv] [.lf (.int .u32 r)]:=by
 refine fi 5 func212 fun Xt=>?_
 unfold zkg at h;refine jp ?_;cases h;exact jz
theorem zxP (h:zkO n=some r):kg 210 [.lf (.int .i32 n)] [kU r]:=by
 refine fi 6 func210 fun Xt=>?_
 unfold zkO at h;refine jp ?_;cases h;exact jz
theorem zAm (h:zps wv=some r):kg 213 [kU wv] [kU r]:=by
 refine fi 5 func213 fun Xt=>?_
 unfold zps at h;refine jp ?_;cases h;exact jz
theorem zwh (h:zom wv=some r):kg 187 [kU wv] [kI r]:=by
 refine fi 13 func187 fun Xt=>?_
 unfold zom at h;refine jp (jp (jr (ra 1 [kU wv,kU 7] rfl (zjz rfl rfl) rfl rf) (zr (jb h fun q ve h=>jL ve [] [] (fun s=>[(0,kU s.1),(3,kI s.2)]) (fun o=> .x 0 ⟨[(3,kI o)],[]⟩) ?_ lzz ?_))))
 ·clear h;intro s o h;obtain ⟨kA,n⟩:=s;replace h:ziT kA n=some o:=h;unfold ziT at h;refine jp (jI h ?_ ?_)<;>intro uY h
  ·refine zr (jp (zK (jr (ra 1 [kU kA,kU 7] rfl (zjz rfl rfl) rfl rf) ?_)));cases h;exact zV lzz
  cases h;exact zae rfl lzz
 refine zar _ rfl (jp ?_);obtain rfl:=(sj h);exact zx lzz
theorem zFN (h:zuX c=some r):kg 221 [k8 c] [kI r.1,.lf (.int .u32 r.2)]:=by
 refine fi 31 func221 fun Xt=>?_
 unfold zuX at h;refine jp (zr (jr (ra 1 [k8 c,kU 7] rfl (zjz rfl rfl) rfl rf) (jI h ?_ ?_)))<;>intro uY h
 ·cases h;exact jz
 refine jr (ra 1 [k8 c,kU 5] rfl (zjz rfl rfl) rfl rf) (jI h ?_ ?_)<;>intro uZ h
 ·cases h;exact jz
 refine jr (ra 1 [k8 c,kU 4] rfl (zjz rfl rfl) rfl rf) (jI h ?_ ?_)<;>intro va h
 ·cases h;exact jz
 refine jr (ra 1 [k8 c,kU 3] rfl (zjz rfl rfl) rfl rf) (jI h ?_ ?_)<;>intro vd h
 ·cases h;exact jz
 refine zK ?_;cases h;exact jz
theorem zFM (h:zoX wv=some r):kg 222 [.lf (.int .u32 wv)] [kI r]:=by
 refine fi 22 func222 fun Xt=>?_
 unfold zoX at h;refine jp (zr (jr (ra 1 [.lf (.int .u32 wv),kU 7] rfl (zjz rfl rfl) rfl rf) (jI h ?_ ?_)))<;>intro uY h
 ·cases h;exact jz
 refine jr (ra 1 [.lf (.int .u32 wv),kU 11] rfl (zjz rfl rfl) rfl rf) (jI h ?_ ?_)<;>intro uZ h
 ·cases h;exact jz
 refine jr (ra 1 [.lf (.int .u32 wv),kU 11] rfl (zjz rfl rfl) rfl rf) (jI h ?_ ?_)<;>intro va h
 ·cases h;exact jz
 refine jr (ra 1 [.lf (.int .u32 wv),kU 16] rfl (zjz rfl rfl) rfl rf) (jI h ?_ ?_)<;>intro vd h
 ·cases h;exact jz
 refine jp (jI h ?_ ?_)<;>intro vf h
 ·cases h;exact jz
 refine zK ?_;cases h;exact jz
theorem zCl (h:zon b=some r):kg 217 [.sl Rp.byte [0] b] [kU r]:=by
 refine fi 26 func217 fun Xt=>?_
 unfold zon at h;refine jp (jp (jb h fun v vn h=>jr (ra 4 [.sl Rp.byte [0] b,kI (if (8:Int)<(b.length:Int) then 8 else (b.length:Int))] rfl (zfO none (some (kI (if (8:Int)<(b.length:Int) then 8 else (b.length:Int)))) rfl zap.el (zbd _ _ _) ⟨rfl,rfl⟩ ⟨rfl,rfl⟩ vn) rfl rf) (zr (jb h fun q ve h=>jL ve [10,11] [] (fun s=>[(3,kU s.1),(12,kI s.2)]) (fun o=> .x 0 ⟨[(3,kU o)],[]⟩) ?_ lzz ?_))))
 ·clear h;intro s o h;obtain ⟨wv,v2⟩:=s;replace h:zgU v wv v2=some o:=h;unfold zgU at h;refine jp (jI h ?_ ?_)<;>intro uY h
  ·refine zr (jb h fun x vi h=>jr (rx 1 [0] zap.el vi rfl rfl rf) (jb h fun v3 vu h=>jr (ra 5 [kU (u64.wrap (x.toNat:Int)),kI (i64.wrap (8*v2))] rfl (zCN rfl vu) rfl rf) (zK ?_)));cases h;exact jy
  cases h;exact zae rfl lzz
 refine zar _ rfl (jp ?_);obtain rfl:=(sj h);exact zx lzz
theorem zxN (h:zkM wv n=some r):kg 206 [kU wv,kI n] [.own Rp.byte 5 2 [] r]:=by
 refine fi 26 func206 fun Xt=>?_
 unfold zkM at h;refine jp (jb h fun v vn h=>jr (ra 3 [kI (if (8:Int)<(if n<0 then 0 else n) then 8 else (if n<0 then 0 else n)),kI (if (8:Int)<(if n<0 then 0 else n) then 8 else (if n<0 then 0 else n))] rfl (zIn 12 rfl zap rfl vn) rfl rf) (jp (zr (jb h fun q ve h=>jL ve [0,12] [] (fun s=>[(5,.own Rp.byte 5 12 [] s.1),(13,kI s.2)]) (fun o=> .x 0 ⟨[(5,.own Rp.byte 5 12 [] o)],[]⟩) ?_ lzz ?_))))
 ·clear h;intro s o h;obtain ⟨b,v2⟩:=s;replace h:zeu v wv b v2=some o:=h;unfold zeu at h;refine jp (jI h ?_ ?_)<;>intro uY h
  ·refine zr (jp (jb h fun v3 vu h=>jb h fun x vi h=>jb h fun y2 vR h=>jr (ra 5 [kU wv,kI (i64.wrap (8*v2))] rfl (zjz rfl vu) rfl (ra 1 [.own Rp.byte 5 12 [] b,kI v2] rfl (zPw rfl zap.el vi) rfl (rkl 0 [] ⟨[(0,kU wv),(5,.own Rp.byte 5 12 [] b),(12,kI (v.length:Int)),(13,kI v2),(22,k8 (u8.wrap v3)),(23,.ptr 12 (Int.toNat v2*Rp.byte.size))],[]⟩ (zPN (r:=Rp.byte) (e:=5) (C:=[]) (xs:=b) [5] (Int.toNat v2) 0 x y2 [] rfl rfl rfl rfl rfl rfl sizeOf5 rfl (by kernel_rfl) rfl (zNk vi) rfl (zMk vR _) rfl rf)))) (zK ?_)));cases h;exact jy
  cases h;exact zae rfl lzz
 refine zar _ rfl (jp ?_);obtain rfl:=(sj h);exact zx (lks [] [(12,2)] lzz)
theorem zFE (h:zrF t=some r):kg 207 [.rc zbG [0] t] [kU r]:=by
 refine fi 11 func207 fun Xt=>?_
 unfold zrF at h;refine jq [11] (jr (ra 3 [kU (u64.wrap t.Number),kU 3] rfl (zCN rfl rfl) rfl rf) ?_);cases h;exact zx lzz
theorem zlG (h:zcP n=some r):kg 105 [kN,kI n] [.own Rp.byte 5 2 [] r]:=by
 refine fi 27 func105 fun Xt=>?_
 unfold zcP at h;refine jp (jp (jI h ?_ ?_))<;>intro uY h
 · exact absurd h nofun
 refine jr (ra 2 [kN] rfl (zBl rfl underlying24) rfl rf) (jp (jI h ?_ ?_))<;>intro uZ h
 ·refine jb h fun v vn h=>jb h fun v2 vx h=>jr (ra 2 [kN] rfl (zBl rfl underlying24) rfl (ra 0 [kN,kI 0] rfl (zJB rfl zap.el) rfl (ra 1 [kN,kI (i64.wrap (n - (i64.wrap (0 - 0))))] rfl (zNA 12 rfl underlying3 zap rfl vn) rfl (ra 2 [.own Rp.byte 5 12 [] v,kI 0] rfl (zIl rfl zap.el vx) rfl rf)))) (jp ?_);obtain rfl:=(sj h);exact zx (lks [] [(12,2)] lzz)
 refine jp ?_;cases h;exact zx lw
theorem zPh:zOv prog 145 5:=by
  intro w s u n m i cs ds hs hu hap h1s h1u hin hlim;have hT:ElT prog 24 5 1 1:=zap.el;have hcl:cs.length=n:=by have:=hs.1;omega
  have hdl:ds.length=m:=by have:=hu.1;omega
  obtain ⟨A,c,hsf,hnc,hcm⟩:=zCY hs;obtain ⟨B,c2,huf,hmc,hcm2⟩:=zCY hu;have hml:(maxLen:Nat)=9223372036854775807:=rfl;refine zGp 6 func145 rfl rfl ?_;have e0:Ev ⟨#[s,.int .i64 (i:Int),u]++Array.replicate (f145.ntmps - 3) undef,[]⟩ 95 [(0,s),(1,.int .i64 (i:Int)),(2,u)]:=Ev.three _ _ _ (95 - 3);refine zfH (zaD ?_);refine wk e0 rfl rfl rfl (zic rfl rfl) fun a e=>?_
  refine zit (zfH (zaD ?_));refine wk e rfl rfl rfl (zaq rfl (e.at rfl)) fun a e=>?_
  refine wk e rfl rfl rfl (zaq rfl (e.at rfl)) fun a e=>?_
  refine wk e rfl rfl rfl (zHR rfl hT ((e.at rfl).trans hsf) (e.at rfl) hin hnc) fun a e=>?_
  refine zit (zfH (zaD ?_));refine wk e rfl rfl rfl (zaq rfl (e.at rfl)) fun a e=>?_
  refine wk e rfl rfl rfl (zKM rfl ((e.at rfl).trans huf) hT.u) fun a e=>?_
  refine wk e rfl rfl rfl (zic rfl (e.at rfl)) fun a e=>?_
  refine zit (zfH (zfH (zaD ?_)));refine wk e rfl rfl rfl (zaq rfl (e.at rfl)) fun a e=>?_
  refine wk e rfl rfl rfl (zHS (j:=0) rfl (e.at rfl) rfl) fun a e=>?_
  refine zit ?_;have e:=e.pick [(0,s),(1,.int .i64 (i:Int)),(2,u),(7,.int .i64 (m:Int)),(16,.bool (decide (m=0)))] ⟨rfl,rfl,rfl,rfl,rfl,trivial⟩;rcases ph m with hm0| hm
  · refine zjU ((e.at rfl).trans (congrArg Value.bool (xO hm0))) (zfH (zaD ?_));refine wk e rfl rfl rfl (zaq rfl (e.at rfl)) fun a e=>?_
    refine wk e rfl rfl rfl (zic rfl (e.at rfl)) fun a e=>?_
    refine zit (zAc ?_);have hd0:ds=[]:=yE (by omega);refine ⟨rfl,e.defers,?_⟩;rw [show a.tmps.getD 6 undef=s from e.at rfl];refine ⟨by rw [hsf];rfl,?_,⟨rfl,rfl,rfl,xx _,fun _ _ _=>rfl⟩,.inl rfl⟩;rw [hm0,hd0,yz,xQ,qn];exact hs
  refine zkK ((e.at rfl).trans (congrArg Value.bool (xU (by omega)))) (zxA ?_);refine zfH (zaD ?_);refine wk e rfl rfl rfl (zaq rfl (e.at rfl)) fun a e=>?_
  refine wk e rfl rfl rfl (zKM rfl ((e.at rfl).trans hsf) hT.u) fun a e=>?_
  refine wk e rfl rfl rfl (zic rfl (e.at rfl)) fun a e=>?_
  refine zit (zfH (zfH (zaD ?_)));refine wk e rfl rfl rfl (zaq rfl (e.at rfl)) fun a e=>?_
  refine wk e rfl rfl rfl (zaq rfl (e.at rfl)) fun a e=>?_
  refine wk e rfl rfl rfl (zHS rfl (e.at rfl) (e.at rfl)) fun a e=>?_
  refine zit ?_;have e:=e.pick [(0,s),(1,.int .i64 (i:Int)),(2,u),(7,.int .i64 (m:Int)),(8,.int .i64 (n:Int)),(22,.bool (decide (i=n)))] ⟨rfl,rfl,rfl,rfl,rfl,rfl,trivial⟩;by_cases hi0:i=n
  · refine zjU ((e.at rfl).trans (congrArg Value.bool (xO hi0))) (zfH (zaD ?_));refine wk e rfl rfl rfl (zaq rfl (e.at rfl)) fun a e=>?_
    refine wk e rfl rfl rfl (zaq rfl (e.at rfl)) fun a e=>?_
    refine zOT e rfl rfl rfl (zPc rfl hT (e.at rfl) (e.at rfl) hs hu h1u hlim) fun z a hz e=>?_
    refine wk e rfl rfl rfl (zic rfl (e.at rfl)) fun a e=>?_
    refine zit (zAc ?_);obtain ⟨hz1,hz2,hz3⟩:=hz;refine ⟨rfl,e.defers,?_⟩;rw [show a.tmps.getD 6 undef=z.1 from e.at rfl];refine ⟨by obtain ⟨A',c',h',_⟩:=zCY hz1;rw [h'];rfl,?_,hz2,hz3⟩;rw [hi0,<-hcl,uf,pD,xQ,hcl];exact hz1
  refine zkK ((e.at rfl).trans (congrArg Value.bool (xU hi0))) (zxA ?_);have km:i<n:=by omega
  refine zfH (zfH (zaD ?_));refine wk e rfl rfl rfl (zaq rfl (e.at rfl)) fun a e=>?_
  refine wk e rfl rfl rfl (zaq rfl (e.at rfl)) fun a e=>?_
  refine wk e rfl rfl rfl (zrV rfl (e.at rfl) (e.at rfl) (by omega)) fun a e=>?_
  refine wk e rfl rfl rfl (zaq rfl (e.at rfl)) fun a e=>?_
  refine wk e rfl rfl rfl (zPd rfl ((e.at rfl).trans hsf) hT.u) fun a e=>?_
  refine wk e rfl rfl rfl (zNe rfl (e.at rfl) (e.at rfl)) fun a e=>?_
  refine zit ?_;have e:=e.pick [(0,s),(1,.int .i64 (i:Int)),(2,u),(7,.int .i64 (m:Int)),(8,.int .i64 (n:Int)),(31,.bool (decide (c<n+m)))] ⟨rfl,rfl,rfl,rfl,rfl,rfl,trivial⟩;obtain ⟨g,kC,kM,hg,_,hh,_,_,hcs,htake⟩:∃g kC kM,s= .slice (some ⟨g,0,none⟩) n kC/\0<=g/\w.heap[g]? =some (.cells kM 5 (0,0))/\n<=kC/\kC<=maxLen/\kM.size=kC*1/\kM.toList.take (n*1)=cs:=by
    rcases hs.2 with ⟨_,h0⟩| h
    · omega
    · exact h
  obtain ⟨gu,cap2,cur2,hgu,_,hhu,_,_,hcs2,htake2⟩:∃g kC kM,u= .slice (some ⟨g,0,none⟩) m kC/\0<=g/\w.heap[g]? =some (.cells kM 5 (0,0))/\m<=kC/\kC<=maxLen/\kM.size=kC*1/\kM.toList.take (m*1)=ds:=by
    rcases hu.2 with ⟨_,h0⟩| h
    · omega
    · exact h
  obtain rfl:kC=c:=by rw [hsf] at hg;cases hg;rfl
  rw [yT] at hcs hcs2 htake htake2;have hglt:g<w.heap.size:=(yh.1 hh).1;have hgult:gu<w.heap.size:=(yh.1 hhu).1;have hgg:gu≠g:=fun e=>hap g (by rw [hg];rfl) (by rw [hgu,e];rfl)
  have hdr:(cs.drop i).length=n - i:=by rw [xR,hcl]
  have h1d:∀v∈cs.drop i,v.oneCell'=true:=fun v hv=>h1s v (pi hv)
  by_cases hroom:kC<n+m
  · refine zjU ((e.at rfl).trans (congrArg Value.bool (xO hroom))) (zfH (zaD ?_));refine wk e rfl rfl rfl (zaq rfl (e.at rfl)) fun a e=>?_
    refine wk e rfl rfl rfl (zaq rfl (e.at rfl)) fun a e=>?_
    refine wk e rfl rfl rfl (zHQ rfl hT ((e.at rfl).trans hg) (e.at rfl) (by omega) hnc) fun a e=>?_
    refine wk e rfl rfl rfl (zaq rfl (e.at rfl)) fun a e=>?_
    refine wk e rfl rfl rfl (zaq rfl (e.at rfl)) fun a e=>?_
    refine wk e rfl rfl rfl (zrV rfl (e.at rfl) (e.at rfl) (by omega)) fun a e=>?_
    refine wk e rfl rfl rfl (zaq rfl (e.at rfl)) fun a e=>?_
    refine wk e rfl rfl rfl (zNf rfl (e.at rfl) (e.at rfl) (by omega) (by omega)) fun a e=>?_
    refine zOT e rfl rfl rfl (zNd (olds:=cs.take i) rfl hT underlying3 (e.at rfl) (e.at rfl) (zuL hh (by rw [<-htake,qo,yU hin])) (by rw [xS];omega) (by omega) (by omega) (by omega)) fun z a hz e=>?_
    refine wk e rfl rfl rfl (zic rfl (e.at rfl)) fun a e=>?_
    refine zit ?_;obtain ⟨z1,z2,z3,z4⟩:=hz;have hnm:i+(n+m - i)=n+m:=by omega
    rw [hnm] at z1;have e:=e.pick [(0,s),(1,.int .i64 (i:Int)),(2,u),(7,.int .i64 (m:Int)),(9,.slice (some ⟨w.heap.size,0,none⟩) (n+m) z.1)] ⟨rfl,rfl,rfl,rfl,congrArg (fun k=>some (Value.slice (some ⟨w.heap.size,0,none⟩) k z.1)) hnm,trivial⟩;have hG:=yV w.drew (.cells z.2 5);have hO:∀k,k<w.heap.size->(w.drew.alloc (.cells z.2 5)).heap[k]? =w.heap[k]? :=fun k hk=>heap_alloc_old w.drew _ hk
    refine zfH (zaD ?_);refine wk e rfl rfl rfl (zaq rfl (e.at rfl)) fun a e=>?_
    refine wk e rfl rfl rfl (zaq rfl (e.at rfl)) fun a e=>?_
    refine wk e rfl rfl rfl (zpn rfl hT (e.at rfl) (e.at rfl) (by omega) z1 (by omega)) fun a e=>?_
    refine wk e rfl rfl rfl (zaq rfl (e.at rfl)) fun a e=>?_
    refine wk e rfl rfl rfl (zxg (cs:=ds) rfl hT (e.at rfl) ((e.at rfl).trans hgu) hG (by rw [hdl];simp only [Nat.min_def];split<;>omega) (fun j v hj=>by rw [xK];exact zuL ((hO gu hgult).trans hhu) htake2 j v hj) (by omega) h1u) fun a e=>?_
    refine zit ?_;have e:=e.pick [(0,s),(1,.int .i64 (i:Int)),(2,u),(7,.int .i64 (m:Int)),(9,.slice (some ⟨w.heap.size,0,none⟩) (n+m) z.1)] ⟨rfl,rfl,rfl,rfl,rfl,trivial⟩;rw [hdl]
    generalize hW2:(w.drew.alloc (.cells z.2 5)).setRow w.heap.size (z.2.toList.take i++ds++z.2.toList.drop (i+m)).toArray=W2
    have hG2:W2.heap[w.heap.size]? =some (.cells (z.2.toList.take i++ds++z.2.toList.drop (i+m)).toArray 5 (0,0)):=by rw [<-hW2];exact qq _ _ _ _ _ _ hG
    have hO2:∀k,k<w.heap.size->W2.heap[k]? =w.heap[k]? :=fun k hk=>by rw [<-hW2,qR _ _ _ _ (by omega)];exact hO k hk
    refine zfH (zvh [⟨[],46,.slice (some ⟨w.heap.size,0,none⟩) (n+m) z.1⟩,⟨[],47,.int .i64 (i:Int)⟩,⟨[],48,.int .i64 (m:Int)⟩,⟨[1,2],49,.int .i64 ((i+m:Nat):Int)⟩,⟨[0,3],50,.slice (some ⟨w.heap.size,i+m,none⟩) (n+m - (i+m)) (z.1 - (i+m))⟩,⟨[],51,s⟩,⟨[],52,.int .i64 (i:Int)⟩,⟨[5,6],53,.slice (some ⟨g,i,none⟩) (n - i) (kC - i)⟩] e zcw rfl rfl rfl (by kernel_rfl) (by kernel_rfl) (by kernel_rfl) (fun k p hp=>?_) ⟨_,rfl,rfl,fun a e=>?_⟩)
    · rcases k with _| _| _| _| _| _| _| _| k
      · cases hp;exact ⟨_,rfl,rfl,rfl,fun a e=>zaq rfl (e.at rfl)⟩
      · cases hp;exact ⟨_,rfl,rfl,rfl,fun a e=>zaq rfl (e.at rfl)⟩
      · cases hp;exact ⟨_,rfl,rfl,rfl,fun a e=>zaq rfl (e.at rfl)⟩
      · cases hp;exact ⟨_,rfl,rfl,rfl,fun a e=>zrV rfl (e.at rfl) (e.at rfl) (by omega)⟩
      · cases hp;exact ⟨_,rfl,rfl,rfl,fun a e=>zpn rfl hT (e.at rfl) (e.at rfl) (by omega) z1 (by omega)⟩
      · cases hp;exact ⟨_,rfl,rfl,rfl,fun a e=>zaq rfl (e.at rfl)⟩
      · cases hp;exact ⟨_,rfl,rfl,rfl,fun a e=>zaq rfl (e.at rfl)⟩
      · cases hp;exact ⟨_,rfl,rfl,rfl,fun a e=>zpn rfl hT ((e.at rfl).trans hg) (e.at rfl) (by omega) hnc (by omega)⟩
      · cases hp
    have hl2:(z.2.toList.take i++ds++z.2.toList.drop (i+m)).toArray.size=z.1:=by simp only [qf,xz,xS,xR,yJ];omega
    refine zBs e rfl rfl (zxg (cs:=cs.drop i) rfl hT (e.at rfl) (e.at rfl) hG2 (by rw [hdr];simp only [Nat.min_def];split<;>omega) (fun j v hj=>by rw [qD] at hj;exact zuL ((hO2 g hglt).trans hh) htake _ v hj) (by omega) h1d) fun a e=>?_
    have e:=e.pick [(9,.slice (some ⟨w.heap.size,0,none⟩) (n+m) z.1)] ⟨rfl,trivial⟩;rw [hdr];refine zfH (zaD ?_);refine wk e rfl rfl rfl (zaq rfl (e.at rfl)) fun a e=>?_
    refine wk e rfl rfl rfl (zic rfl (e.at rfl)) fun a e=>?_
    refine zit (zAc ?_);have hR:n+m<=z.2.toList.length:=by rw [yJ];omega
    obtain ⟨k1,k2⟩:=zKZ hR z4 hcl hdl hin;refine ⟨rfl,e.defers,?_⟩;rw [show a.tmps.getD 6 undef= .slice (some ⟨w.heap.size,0,none⟩) (n+m) z.1 from e.at rfl];refine ⟨rfl,⟨by simp only [xz,xS,xR];omega,.inr ⟨w.heap.size,z.1,_,rfl,xC _,qq {W2 with drawn:=W2.drawn+1} _ _ _ _ _ hG2,z1,z2,?_,?_⟩⟩,?_,.inr rfl⟩
    · simp only [qf];rw [k2,yJ,yT];exact z3
    · rw [yT];exact k1
    · refine ⟨by rw [<-hW2];rfl,by rw [<-hW2];rfl,by rw [<-hW2];rfl,?_,fun k hk _=>?_⟩
      · have:W2.heap.size=w.heap.size+1:=by rw [<-hW2,zwH];exact Array.size_push ..
        rw [zwH];show w.heap.size<=W2.heap.size;omega
      · rw [qR _ _ _ _ (by omega)];exact hO2 k hk
  refine zkK ((e.at rfl).trans (congrArg Value.bool (xU hroom))) (zxA ?_);refine zfH (zaD ?_);refine wk e rfl rfl rfl (zaq rfl (e.at rfl)) fun a e=>?_
  refine wk e rfl rfl rfl (zaq rfl (e.at rfl)) fun a e=>?_
  refine wk e rfl rfl rfl (zaq rfl (e.at rfl)) fun a e=>?_
  refine wk e rfl rfl rfl (zrV rfl (e.at rfl) (e.at rfl) (by omega)) fun a e=>?_
  refine wk e rfl rfl rfl (zHQ rfl hT ((e.at rfl).trans hg) (e.at rfl) (by omega) hnc) fun a e=>?_
  refine wk e rfl rfl rfl (zic rfl (e.at rfl)) fun a e=>?_
  refine zit ?_;have e:=e.pick [(0,.slice (some ⟨g,0,none⟩) (n+m) kC),(1,.int .i64 (i:Int)),(2,u),(7,.int .i64 (m:Int))] ⟨rfl,rfl,rfl,rfl,trivial⟩;have hfro:∀j,w.frozen? ⟨gu,j,none⟩=false:=fun j=>frozen_of_row w gu j cur2 5 hhu
  have hov:(callFunc 188 #[u,.slice (some ⟨g,i+m,none⟩) (n+m - (i+m)) (kC - (i+m))]).run prog w= .ok (.value (.bool false)) w:=by
    rw [run_callFunc_extern func188 (by kernel_rfl) (by kernel_rfl) (by kernel_rfl) (e:=Extern.SlicesOverlaps.overlaps #[24,24] #[4]) (by kernel_rfl),hgu,
      Lib.run_overlaps_apart w 24 4 5 hT.u 1 hT.size ⟨gu,0,none⟩ ⟨g,i+m,none⟩ m cap2 _ _ hgg 5 5 cur2.size kM.size (zBK hhu) (zBK hh) (by omega) (hfro 0) (hfro _)]
    rfl
  refine zfH (zfH (zaD ?_));refine wk e rfl rfl rfl (zaq rfl (e.at rfl)) fun a e=>?_
  refine wk e rfl rfl rfl (zaq rfl (e.at rfl)) fun a e=>?_
  refine wk e rfl rfl rfl (zaq rfl (e.at rfl)) fun a e=>?_
  refine wk e rfl rfl rfl (zaq rfl (e.at rfl)) fun a e=>?_
  refine wk e rfl rfl rfl (zrV rfl (e.at rfl) (e.at rfl) (by omega)) fun a e=>?_
  refine wk e rfl rfl rfl (zpn rfl hT (e.at rfl) (e.at rfl) (by omega) (by omega) (by omega)) fun a e=>?_
  refine wk e rfl rfl rfl (zPe rfl (e.at rfl) (e.at rfl) hov) fun a e=>?_
  refine wk e rfl rfl rfl (zPf rfl (e.at rfl)) fun a e=>?_
  refine zit ?_;have e:=e.pick [(0,.slice (some ⟨g,0,none⟩) (n+m) kC),(1,.int .i64 (i:Int)),(2,u),(7,.int .i64 (m:Int)),(68,.bool true)] ⟨rfl,rfl,rfl,rfl,rfl,trivial⟩;refine zjU (e.at rfl) (zfH (zvh [⟨[],69,.slice (some ⟨g,0,none⟩) (n+m) kC⟩,⟨[],70,.int .i64 (i:Int)⟩,⟨[],71,.int .i64 (m:Int)⟩,⟨[1,2],72,.int .i64 ((i+m:Nat):Int)⟩,⟨[0,3],73,.slice (some ⟨g,i+m,none⟩) (n+m - (i+m)) (kC - (i+m))⟩,⟨[],74,.slice (some ⟨g,0,none⟩) (n+m) kC⟩,⟨[],75,.int .i64 (i:Int)⟩,⟨[5,6],76,.slice (some ⟨g,i,none⟩) (n+m - i) (kC - i)⟩] e zcw rfl rfl rfl (by kernel_rfl) (by kernel_rfl) (by kernel_rfl) (fun k p hp=>?_) ⟨_,rfl,rfl,fun a e=>?_⟩))
  · rcases k with _| _| _| _| _| _| _| _| k
    · cases hp;exact ⟨_,rfl,rfl,rfl,fun a e=>zaq rfl (e.at rfl)⟩
    · cases hp;exact ⟨_,rfl,rfl,rfl,fun a e=>zaq rfl (e.at rfl)⟩
    · cases hp;exact ⟨_,rfl,rfl,rfl,fun a e=>zaq rfl (e.at rfl)⟩
    · cases hp;exact ⟨_,rfl,rfl,rfl,fun a e=>zrV rfl (e.at rfl) (e.at rfl) (by omega)⟩
    · cases hp;exact ⟨_,rfl,rfl,rfl,fun a e=>zpn rfl hT (e.at rfl) (e.at rfl) (by omega) (by omega) (by omega)⟩
    · cases hp;exact ⟨_,rfl,rfl,rfl,fun a e=>zaq rfl (e.at rfl)⟩
    · cases hp;exact ⟨_,rfl,rfl,rfl,fun a e=>zaq rfl (e.at rfl)⟩
    · cases hp;exact ⟨_,rfl,rfl,rfl,fun a e=>zpn rfl hT (e.at rfl) (e.at rfl) (by omega) (by omega) (by omega)⟩
    · cases hp
  have hR:n+m<=kM.toList.length:=by rw [yJ];omega
  obtain ⟨k1,k2,k3⟩:=zJr hR htake hcl hdl hin;have hh1:({w with drawn:=w.drawn+1}:World).heap[g]? =some (.cells kM 5 (0,0)):=hh;refine zBs e rfl rfl (zxg (cs:=cs.drop i) rfl hT (e.at rfl) (e.at rfl) hh1 (by rw [hdr];simp only [Nat.min_def];split<;>omega) (fun j v hj=>by rw [qD] at hj;exact zuL hh1 htake _ v hj) (by rw [hdr,hcs];omega) h1d) fun a e=>?_
  have e:=e.pick [(0,.slice (some ⟨g,0,none⟩) (n+m) kC),(1,.int .i64 (i:Int)),(2,u)] ⟨rfl,rfl,rfl,trivial⟩;rw [hdr];have hh2:=qq ({w with drawn:=w.drawn+1}:World) g kM (kM.toList.take (i+m)++cs.drop i++kM.toList.drop (i+m+(n - i))).toArray _ _ hh1;have hu2:=(qR ({w with drawn:=w.drawn+1}:World) g gu (kM.toList.take (i+m)++cs.drop i++kM.toList.drop (i+m+(n - i))).toArray hgg).trans hhu;refine zfH (zaD ?_);refine wk e rfl rfl rfl (zaq rfl (e.at rfl)) fun a e=>?_
  refine wk e rfl rfl rfl (zaq rfl (e.at rfl)) fun a e=>?_
  refine wk e rfl rfl rfl (zpn rfl hT (e.at rfl) (e.at rfl) (by omega) (by omega) (by omega)) fun a e=>?_
  refine wk e rfl rfl rfl (zaq rfl (e.at rfl)) fun a e=>?_
  refine wk e rfl rfl rfl (zxg (cs:=ds) rfl hT (e.at rfl) ((e.at rfl).trans hgu) hh2 (by rw [hdl];simp only [Nat.min_def];split<;>omega) (fun j v hj=>by rw [xK];exact zuL hu2 htake2 j v hj) (by rw [qf,k3,hdl];omega) h1u) fun a e=>?_
  refine zit ?_;have e:=e.pick [(0,.slice (some ⟨g,0,none⟩) (n+m) kC)] ⟨rfl,trivial⟩;rw [hdl];refine zfH (zaD ?_);refine wk e rfl rfl rfl (zaq rfl (e.at rfl)) fun a e=>?_
  refine wk e rfl rfl rfl (zic rfl (e.at rfl)) fun a e=>?_
  refine zit (zAc (⟨rfl,e.defers,?_⟩));rw [show a.tmps.getD 6 undef= .slice (some ⟨g,0,none⟩) (n+m) kC from e.at rfl];refine ⟨rfl,⟨by simp only [xz,xS,xR];omega,.inr ⟨g,kC,_,rfl,xC _,qq _ _ _ _ _ _ hh2,by omega,hcm,?_,?_⟩⟩,?_,.inl (by rw [hg];rfl)⟩
  · simp only [qf];rw [k2,yJ,yT];exact hcs
  · rw [yT];exact k1
  · refine ⟨rfl,rfl,rfl,by simp [World.setRow],fun k hk kO=>?_⟩;have hkg:k≠g:=fun e=>kO (by rw [hg,e];rfl)
    rw [qR _ _ _ _ hkg,qR _ _ _ _ hkg]
theorem zfV (h:zdw av b=some r):kg 15 [.sl Rp.byte [0] av,.sl Rp.byte [0] b] [kB r]:=by
 refine fi 10 func15 fun Xt=>?_
 unfold zdw at h;refine jp (jr (ra 1 [.sl Rp.byte [0] av] rfl (zqX rfl underlying24 underlying5 underlying9 (zbd _ _ _)) rfl (ra 1 [.sl Rp.byte [0] b] rfl (zqX rfl underlying24 underlying5 underlying9 (zbd _ _ _)) rfl rf)) ?_);cases h;exact zx lzz
theorem zsz (h:zgD sv=some r):kg 8 [.sl zd [0] sv] [kB r]:=by
 refine fi 54 func8 fun Xt=>?_
 unfold zgD at h;refine jp (jp (jp (zr (jb h fun q2 vE h=>jL vE [0] [] (fun s=>[(3,kI s.1),(4,kI s.2)]) (fun o=> .x 0 ⟨[(3,kI o)],[]⟩) ?_ lzz ?_))))
 ·clear h;intro s o h;obtain ⟨n,i⟩:=s;replace h:zcy sv n i=some o:=h;unfold zcy at h;refine jp (jI h ?_ ?_)<;>intro uY h
  ·refine zr (jb h fun x vi h=>jb h fun x2 vr h=>jd [0,3,4] [] zcw (by exact (lwn 4 (di [0] zgS.el vi (lwn 7 (di [0] zgS.el vr (lw_e (lx (ldl zd [0] x2 1 zb x2.Fields) l0))))))) (jp (zr (jb h fun q ve h=>jL ve [0,4] [] (fun s=>[(3,kI s.1),(5,kI s.2)]) (fun o=> .X 2 [0,4] [] [(3,kI o)] []) ?_ lzz ?_))))
   ·clear h;intro s o h;obtain ⟨n3,k⟩:=s;replace h:zcz i sv n3 k=some o:=h;unfold zcz at h;refine jb h fun x3 vC h=>jr (rx 3 [0] zgS.el vC rfl rfl (rc 1 rfl (ldl zd [0] x3 1 zb x3.Fields) rf)) (jI h ?_ ?_)<;>intro uZ h
    ·refine zr (jb h fun x4 vO h=>jb h fun x5 vS h=>jr (rx 3 [0] zgS.el vO rfl rfl (rc 1 rfl (ldl zd [0] x4 1 zb x4.Fields) (rx 1 [0] zkc.el vS rfl rfl rf))) (zK ?_));cases h;exact jy
    cases h;exact zae rfl lzz
   refine zar _ rfl (zK ?_);cases h;exact jy
  cases h;exact zae rfl lzz
 refine zar _ rfl ?_;cases h;exact jz
theorem zqu (h:ziU av b=some r):kg 28 [.sl Rp.byte [0] av,.sl Rp.byte [0] b] [kB r]:=by
 refine fi 10 func28 fun Xt=>?_
 unfold ziU at h;refine jp (jr (ra 1 [.sl Rp.byte [0] av] rfl (zqX rfl underlying24 underlying5 underlying9 (zbd _ _ _)) rfl (ra 1 [.sl Rp.byte [0] b] rfl (zqX rfl underlying24 underlying5 underlying9 (zbd _ _ _)) rfl rf)) ?_);cases h;exact zx lzz
theorem zkR (h:zeI sv=some r):kg 118 [kS sv] [kB r]:=by
 refine fi 55 func118 fun Xt=>?_
 unfold zeI at h;refine jp (jp (zr (jb h fun q ve h=>jL ve [0] [] (fun s=>[(3,kI s)]) (fun| (.inl v_)=> .x 0 ⟨[(0,kS sv)],[]⟩| (.inr v_)=> .r ⟨[(2,kB false)],[]⟩) ?_ lzz ?_)))
 ·clear h;intro i o h;unfold zcd at h;refine jp (jI h ?_ ?_)<;>intro uY h
  ·refine zr (jb h fun c wh h=>jr (ra 2 [kS sv,kI i] rfl (zCL rfl underlying9 wh) rfl rf) (jg [0,3] [] [(5,kB (if (decide ((c.toNat:Int)>=65)) then ((decide ((c.toNat:Int)<=90))|| (if (decide ((c.toNat:Int)>=97)) then ((decide ((c.toNat:Int)<=122))|| (((c.toNat:Int)==95)|| ((decide (i>0))&&((decide ((c.toNat:Int)>=48))&&(decide ((c.toNat:Int)<=57)))))) else (((c.toNat:Int)==95)|| ((decide (i>0))&&((decide ((c.toNat:Int)>=48))&&(decide ((c.toNat:Int)<=57))))))) else (if (decide ((c.toNat:Int)>=97)) then ((decide ((c.toNat:Int)<=122))|| (((c.toNat:Int)==95)|| ((decide (i>0))&&((decide ((c.toNat:Int)>=48))&&(decide ((c.toNat:Int)<=57)))))) else (((c.toNat:Int)==95)|| ((decide (i>0))&&((decide ((c.toNat:Int)>=48))&&(decide ((c.toNat:Int)<=57))))))))] ?_ ?_))
   ·refine (rsl 3 [] 17 (decide ((c.toNat:Int)>=65)) ?_ ?_)<;>intro uZ
    ·refine (rsl 4 [] 21 (decide ((c.toNat:Int)<=90)) ?_ ?_)<;>intro va
     · exact (rbl [] 5 true rfl (by grind))
     refine (rsl 3 [] 24 (decide ((c.toNat:Int)>=97)) ?_ ?_)<;>intro vd
     ·refine (rsl 5 [] 29 (decide ((c.toNat:Int)<=122)) ?_ ?_)<;>intro vf
      · exact (rbl [] 5 true rfl (by grind))
      refine (rsl 4 [] 33 ((c.toNat:Int)==95) ?_ ?_)<;>intro vk
      · exact (rbl [] 5 true rfl (by grind))
      refine (rsl 3 [] 36 (decide (i>0)) ?_ ?_)<;>intro vp
      ·refine (rsl 4 [] 40 (decide ((c.toNat:Int)>=48)) ?_ ?_)<;>intro vy
       · exact (rbl [] 5 (decide ((c.toNat:Int)<=57)) rfl (by grind))
       exact (rbl [] 5 false rfl (by grind))
      exact (rbl [] 5 false rfl (by grind))
     refine (rsl 9 [] 33 ((c.toNat:Int)==95) ?_ ?_)<;>intro vA
     · exact (rbl [] 5 true rfl (by grind))
     refine (rsl 3 [] 36 (decide (i>0)) ?_ ?_)<;>intro vB
     ·refine (rsl 4 [] 40 (decide ((c.toNat:Int)>=48)) ?_ ?_)<;>intro vI
      · exact (rbl [] 5 (decide ((c.toNat:Int)<=57)) rfl (by grind))
      exact (rbl [] 5 false rfl (by grind))
     exact (rbl [] 5 false rfl (by grind))
    refine (rsl 7 [] 24 (decide ((c.toNat:Int)>=97)) ?_ ?_)<;>intro vF
    ·refine (rsl 5 [] 29 (decide ((c.toNat:Int)<=122)) ?_ ?_)<;>intro vJ
     · exact (rbl [] 5 true rfl (by grind))
     refine (rsl 4 [] 33 ((c.toNat:Int)==95) ?_ ?_)<;>intro vL
     · exact (rbl [] 5 true rfl (by grind))
     refine (rsl 3 [] 36 (decide (i>0)) ?_ ?_)<;>intro vH
     ·refine (rsl 4 [] 40 (decide ((c.toNat:Int)>=48)) ?_ ?_)<;>intro vN
      · exact (rbl [] 5 (decide ((c.toNat:Int)<=57)) rfl (by grind))
      exact (rbl [] 5 false rfl (by grind))
     exact (rbl [] 5 false rfl (by grind))
    refine (rsl 9 [] 33 ((c.toNat:Int)==95) ?_ ?_)<;>intro vQ
    · exact (rbl [] 5 true rfl (by grind))
    refine (rsl 3 [] 36 (decide (i>0)) ?_ ?_)<;>intro vW
    ·refine (rsl 4 [] 40 (decide ((c.toNat:Int)>=48)) ?_ ?_)<;>intro vX
     · exact (rbl [] 5 (decide ((c.toNat:Int)<=57)) rfl (by grind))
     exact (rbl [] 5 false rfl (by grind))
    exact (rbl [] 5 false rfl (by grind))
   refine jp (jI h ?_ ?_)<;>intro wi h
   ·cases h;exact jz'
   refine zK ?_;cases h;exact jy
  cases h;exact zae rfl lzz
 rcases q with u| u2
 ·refine zar _ rfl (jg [] [] [(2,kB ((decide ((sv.length:Int)>=1))&&(decide ((sv.length:Int)<=60))))] ?_ ?_)
  ·refine (rsl 4 [] 50 (decide ((sv.length:Int)>=1)) ?_ ?_)<;>intro wj
   · exact (rbl [] 2 (decide ((sv.length:Int)<=60)) rfl (by grind))
   exact (rbl [] 2 false rfl (by grind))
  cases h;exact zx lzz
 obtain rfl:=(sj h);exact zgY lzz
theorem zhC (h:zed k=some r):kg 84 [kI k] [kB r]:=by
 refine fi 9 func84 fun Xt=>?_
 unfold zed at h;refine jp (jg [] [] [(2,kB ((decide (k>=1))&&(decide (k<=17))))] ?_ ?_)
 ·refine (rsl 3 [] 5 (decide (k>=1)) ?_ ?_)<;>intro uY
  · exact (rbl [] 2 (decide (k<=17)) rfl (by grind))
  exact (rbl [] 2 false rfl (by grind))
 cases h;exact zx lzz
theorem zbz (h:zaF k=some r):kg 38 [kI k] [kB r]:=by
 refine fi 9 func38 fun Xt=>?_
 unfold zaF at h;refine jp (jg [] [] [(2,kB ((decide (k>=1))&&(decide (k<=14))))] ?_ ?_)
 ·refine (rsl 3 [] 5 (decide (k>=1)) ?_ ?_)<;>intro uY
  · exact (rbl [] 2 (decide (k<=14)) rfl (by grind))
  exact (rbl [] 2 false rfl (by grind))
 cases h;exact zx lzz
theorem zdf (h:zaH b kp=some r):kg 60 [.sl Rp.byte [0] b,kI kp] [kU r.1,kI r.2.1,kI r.2.2]:=by
 refine fi 69 func60 fun Xt=>?_
 unfold zaH at h;refine jp (jp (zr (jb h fun q ve h=>jL ve [0,1] [] (fun s=>[(7,kI s)]) (fun o=> .X 0 [0,1] [] [(7,kI o)] []) ?_ lzz ?_)))
 ·clear h;intro n o h;unfold zbu at h;refine jb h fun g u0 h=>jg [0,1,7] [] [(28,kB g)] ?_ ?_
  ·refine (rsI 7 16 u0 ?_ ?_)<;>intro uY u0
   ·refine (rsI 4 20 u0 ?_ ?_)<;>intro uZ u0
    ·refine jb u0 fun x vi u0=>?_;cases u0;exact (rx 4 [0] zap.el vi rfl rfl rgg)
    cases u0;exact rgg
   cases u0;exact rgg
  refine jI h ?_ ?_<;>intro va h
  ·refine zr (jp (zK ?_));cases h;exact zV lzz
  cases h;exact zae rfl lzz
 refine zar _ rfl (jp (jI h ?_ ?_))<;>intro vd h
 ·cases h;exact jz
 refine jp (jI h ?_ ?_)<;>intro vf h
 ·cases h;exact jz
 refine jb h fun g2 vg h=>jg [0,1,7] [] [(49,kB g2)] ?_ ?_
 ·refine (rsI 3 41 vg ?_ ?_)<;>intro vk vg
  ·refine jb vg fun x2 vr vg=>?_;cases vg;exact (rx 4 [0] zap.el vr rfl rfl rgg)
  cases vg;exact rgg
 refine jI h ?_ ?_<;>intro vp h
 ·cases h;exact jz
 refine jp (jp (zr (jb h fun q2 vE h=>jL vE [0,1,7] [] (fun s=>[(8,kU s.1),(9,kI s.2)]) (fun o=> .x 2 ⟨[(7,kI q),(8,kU o)],[]⟩) ?_ lzz ?_)))
 ·clear h;intro s o h;obtain ⟨wv,i⟩:=s;replace h:zdc kp b wv i=some o:=h;unfold zdc at h;refine jp (jI h ?_ ?_)<;>intro vy h
  ·refine zr (jb h fun x3 vC h=>jr (rx 6 [0] zap.el vC rfl rfl rf) (zK ?_));cases h;exact jy
  cases h;exact zae rfl lzz
 refine zar _ rfl ?_;cases h;exact jz
theorem zpY (h:zfr vq wire=some r):kg 124 [kI vq,kI wire] [kB r]:=by
 refine fi 27 func124 fun Xt=>?_
 unfold zfr at h;refine jp (jg [] [] [(4,kB ((decide (vq>=1))&&((decide (vq<=536870911))&&((wire==0)|| ((wire==1)|| ((wire==2)|| (wire==5)))))))] ?_ ?_)
 ·refine (rsl 3 [] 7 (decide (vq>=1)) ?_ ?_)<;>intro uY
  ·refine (rsl 4 [] 11 (decide (vq<=536870911)) ?_ ?_)<;>intro uZ
   ·refine (rsl 3 [] 14 (wire==0) ?_ ?_)<;>intro va
    · exact (rbl [] 4 true rfl (by grind))
    refine (rsl 4 [] 18 (wire==1) ?_ ?_)<;>intro vd
    · exact (rbl [] 4 true rfl (by grind))
    refine (rsl 4 [] 22 (wire==2) ?_ ?_)<;>intro vf
    · exact (rbl [] 4 true rfl (by grind))
    exact (rbl [] 4 (wire==5) rfl (by grind))
   exact (rbl [] 4 false rfl (by grind))
  exact (rbl [] 4 false rfl (by grind))
 cases h;exact zx lzz
theorem zjX (h:zee m vq=some r):kg 55 [.rc zd [0] m,kI vq] [kI r]:=by
 refine fi 22 func55 fun Xt=>?_
 unfold zee at h;refine jr (ra 0 [.rc zd [0] m] rfl (zjy 11 (zU [0] m) [0] rfl rfl rfl rfl rfl) rfl rf) (jp (zr (jb h fun q ve h=>jL ve [1,2] [11] (fun s=>[(5,kI s)]) (fun| (.inl v_)=> .x 0 ⟨[],[]⟩| (.inr v_)=> .r ⟨[(4,kI v_)],[]⟩) ?_ lzz ?_)))
 ·clear h;intro i o h;unfold zbO at h;refine jp (jI h ?_ ?_)<;>intro uY h
  ·refine zr (jb h fun x vi h=>jr (rx 3 [0] zkc.el vi rfl rfl rf) (jI h ?_ ?_))<;>intro uZ h
   ·cases h;exact jz'
   refine zK ?_;cases h;exact jy
  cases h;exact zae rfl lzz
 rcases q with u| u2
 ·refine zar _ rfl ?_;cases h;exact jz
 obtain rfl:=(sj h);exact zgY lzz
theorem zgb (h:zcC k=some r):kg 58 [kI k] [kI r]:=by
 refine fi 9 func58 fun Xt=>?_
 unfold zcC at h;refine jp (jp (jI h ?_ ?_))<;>intro uY h
 ·cases h;exact jz
 refine jp (jI h ?_ ?_)<;>intro uZ h
 ·cases h;exact jz
 refine jp (jI h ?_ ?_)<;>intro va h
 ·cases h;exact jz
 cases h;exact jz
theorem zsB (h:zgF rv=some r):kg 150 [kI rv] [.own Rp.byte 5 2 [] r]:=by
 refine fi 68 func150 fun Xt=>?_
 unfold zgF at h;refine jp (jg [0] [] [(16,kB ((decide (rv<0))|| ((decide (rv>1114111))|| ((decide (rv>=55296))&&(decide (rv<=57343))))))] ?_ ?_)
 ·refine (rsl 3 [] 5 (decide (rv<0)) ?_ ?_)<;>intro uY
  · exact (rbl [] 16 true rfl (by grind))
  refine (rsl 4 [] 9 (decide (rv>1114111)) ?_ ?_)<;>intro uZ
  · exact (rbl [] 16 true rfl (by grind))
  refine (rsl 3 [] 12 (decide (rv>=55296)) ?_ ?_)<;>intro va
  · exact (rbl [] 16 (decide (rv<=57343)) rfl (by grind))
  exact (rbl [] 16 false rfl (by grind))
 refine jI h ?_ ?_<;>intro vd h
 ·refine jp ?_;cases h;exact zx lw
 refine jp (jI h ?_ ?_)<;>intro vf h
 ·refine jb h fun y vT h=>jr (rc 2 rfl (zB.lw (zfe [.lf (.int .u8 (y.toNat:Int))] 12 [] [y] rfl zap rfl rfl rfl rfl) (.l (zha vT))) rf) ?_;cases h;exact zx (lks [] [(12,2)] lzz)
 refine jp (jI h ?_ ?_)<;>intro vk h
 ·refine jb h fun y2 vR h=>jb h fun y3 wG h=>jr (rc 8 rfl (zB.lw (zfe [.lf (.int .u8 (y2.toNat:Int)),.lf (.int .u8 (y3.toNat:Int))] 13 [] [y2,y3] rfl zap rfl rfl rfl rfl) (.c (zha vR) (.l (zha wG)))) rf) ?_;cases h;exact zx (lks [] [(13,2)] lzz)
 refine jp (jI h ?_ ?_)<;>intro vp h
 ·refine jb h fun y4 wH h=>jb h fun y5 wI h=>jb h fun y6 wK h=>jr (rc 13 rfl (zB.lw (zfe [.lf (.int .u8 (y4.toNat:Int)),.lf (.int .u8 (y5.toNat:Int)),.lf (.int .u8 (y6.toNat:Int))] 14 [] [y4,y5,y6] rfl zap rfl rfl rfl rfl) (.c (zha wH) (.c (zha wI) (.l (zha wK))))) rf) ?_;cases h;exact zx (lks [] [(14,2)] lzz)
 refine jb h fun y7 wL h=>jb h fun y8 wM h=>jb h fun y9 wN h=>jb h fun y10 wO h=>jr (rc 18 rfl (zB.lw (zfe [.lf (.int .u8 (y7.toNat:Int)),.lf (.int .u8 (y8.toNat:Int)),.lf (.int .u8 (y9.toNat:Int)),.lf (.int .u8 (y10.toNat:Int))] 15 [] [y7,y8,y9,y10] rfl zap rfl rfl rfl rfl) (.c (zha wL) (.c (zha wM) (.c (zha wN) (.l (zha wO)))))) rf) ?_;cases h;exact zx (lks [] [(15,2)] lzz)
theorem zpd (h:zeX m=some r):kg 36 [.rc zd [0] m] [.own kd 3 2 [] r]:=by
 refine fi 53 func36 fun Xt=>?_
 unfold zeX at h;refine jr (ra 0 [.rc zd [0] m] rfl (zjy 15 (zU [0] m) [0] rfl rfl rfl rfl rfl) rfl rf) (jp (jp (zr (jb h fun q2 vE h=>jL vE [1] [15] (fun s=>[(3,.own kd 3 18 [] s.1),(4,kI s.2)]) (fun o=> .x 0 ⟨[(3,.own kd 3 18 [] o)],[]⟩) ?_ lw ?_))))
 ·clear h;intro s o h;obtain ⟨out,i⟩:=s;replace h:zbA m out i=some o:=h;unfold zbA at h;refine jp (jI h ?_ ?_)<;>intro uY h
  ·refine zr (jp (zr (jb h fun q ve h=>jL ve [1,3,4] [15] (fun s=>[(5,kI s)]) (fun o=> .X 2 [1,3,4] [15] [(5,kI o)] []) ?_ lzz ?_)))
   ·clear h;intro k o h;unfold zbB at h;refine jb h fun g u0 h=>jn (.N [1,3,4,5] [15] [(35,kB g)] []) ?_ (zez ?_)
    ·rcases zjw u0 with ⟨uZ,u0⟩| ⟨uZ,u0⟩
     ·refine jb u0 fun x vi u0=>jb u0 fun x2 vr u0=>jb u0 fun x3 vC u0=>?_;cases u0;exact jd [1,3,4,5,35] [15] zcw (by exact (lwn 4 (dg 17 uZ (lwn 4 (ly [.own kd 3 18 [] out,kI k] (zhI rfl zkd.el (zbv _ _ _ _ _) vi) rfl (lw_e (di [0] zkc.el vr (lwn 5 (di [0] zkc.el vC l0))))))))) (zV lzz)
     cases u0;exact jd [1,3,4,5,35] [15] zcw (by exact (lwn 4 (dg 17 uZ l0))) (zV lzz)
    refine jI h ?_ ?_<;>intro va h
    ·refine zr (jp (zK ?_));cases h;exact zV lzz
    cases h;exact zae rfl lzz
   refine zar _ rfl (jb h fun v2 vx h=>jb h fun v3 vu h=>jr (rc 0 rfl (zfe [] 20 [] ([]:(List Int)) rfl zkd rfl rfl rfl rfl) (ra 2 [.own kd 3 18 [] out,kI q] rfl (zfO none (some (kI q)) rfl zkd.el (zbv _ _ _ _ _) ⟨rfl,rfl⟩ ⟨rfl,rfl⟩ vx) rfl (rc 0 rfl (las 20 [] [18] [] zkd.el vu (.inl (zjc _))) rf))) (jb h fun v4 vK h=>jr (rc 2 rfl (zfe [kI i] 21 [] ([i]:(List Int)) rfl zkd rfl rfl rfl rfl) (rc 0 rfl (lao 20 [] 3 21 [] [] zkd.el vK (.inl (zjc _))) rf)) (jb h fun v5 vU h=>jb h fun v6 wa h=>jr (ra 3 [.own kd 3 18 [] out,kI q] rfl (zfO (some (kI q)) none rfl zkd.el (zbv _ _ _ _ _) ⟨rfl,rfl⟩ ⟨rfl,rfl⟩ vU) rfl (rc 0 rfl (las 20 [] [18] [] zkd.el wa (.inl (zjc _))) rf)) (zK (jp ?_)))));cases h;exact zV (lks [15] [(20,18)] lzz)
  cases h;exact zae rfl lzz
 refine zar _ rfl (jp ?_);obtain rfl:=(sj h);exact zx (lks [] [(18,2)] lzz)
theorem zqA (h:zfX b=some r):kg 59 [.sl Rp.byte [0] b] [kU r]:=by
 refine fi 28 func59 fun Xt=>?_
 unfold zfX at h;refine jp (jp (jp (zr (jb h fun q ve h=>jL ve [0] [] (fun s=>[(3,kU s.1),(4,kU s.2.1),(5,kI s.2.2)]) (fun o=> .x 0 ⟨[(3,kU o)],[]⟩) ?_ lzz ?_))))
 ·clear h;intro s o h;obtain ⟨wv,place,i⟩:=s;replace h:zcb b wv place i=some o:=h;unfold zcb at h;refine jg [0,3,4,5] [] [(13,kB ((decide (i<(b.length:Int)))&&(decide (i<8))))] ?_ ?_
  ·refine (rsl 5 [] 10 (decide (i<(b.length:Int))) ?_ ?_)<;>intro uY
   · exact (rbl [] 13 (decide (i<8)) rfl (by grind))
   exact (rbl [] 13 false rfl (by grind))
  refine jI h ?_ ?_<;>intro uZ h
  ·refine zr (jb h fun x vi h=>jr (rx 3 [0] zap.el vi rfl rfl rf) (jp (zK ?_)));cases h;exact jy
  cases h;exact zae rfl lzz
 refine zar _ rfl (jp ?_);obtain rfl:=(sj h);exact zx lzz
theorem zpc (h:zeW wv=some r):kg 91 [kU wv] [kI r]:=by
 refine fi 12 func91 fun Xt=>?_
 unfold zeW at h;refine jp (jp (jp (jI h ?_ ?_)))<;>intro uY h
 ·refine jp ?_;cases h;exact jz
 cases h;exact jz
theorem zqz (h:zfW n=some r):kg 90 [kI n] [kU r]:=by
 refine fi 12 func90 fun Xt=>?_
 unfold zfW at h;refine jp (jp (jI h ?_ ?_))<;>intro uY h
 ·cases h;exact jz
 cases h;exact jz
theorem zqH (h:zge v=some r):kg 40 [.rc zy [0] v] [kI r]:=by
 refine fi 14 func40 fun Xt=>?_
 unfold zge at h;refine jr (rc 0 rfl (lbx 11 [0] (zma [0] v)) rf) ?_;cases h;exact jz
theorem zjr (h:zdH wv n=some r):kg 123 [kU wv,kI n] [.own Rp.byte 5 2 [] r]:=by
 refine fi 25 func123 fun Xt=>?_
 unfold zdH at h;refine jp (jp (jp (zr (jb h fun q ve h=>jL ve [1] [] (fun s=>[(0,kU s.1),(5,.own Rp.byte 5 16 [] s.2.1),(6,kI s.2.2)]) (fun o=> .x 0 ⟨[(5,.own Rp.byte 5 16 [] o)],[]⟩) ?_ lw ?_))))
 ·clear h;intro s o h;obtain ⟨kA,out,i⟩:=s;replace h:zby n kA out i=some o:=h;unfold zby at h;refine jg [0,1,5,6] [] [(13,kB ((decide (i<n))&&(decide (i<8))))] ?_ ?_
  ·refine (rsl 4 [] 10 (decide (i<n)) ?_ ?_)<;>intro uY
   · exact (rbl [] 13 (decide (i<8)) rfl (by grind))
   exact (rbl [] 13 false rfl (by grind))
  refine jI h ?_ ?_<;>intro uZ h
  ·refine zr (jb h fun y vT h=>jb h fun v2 vx h=>jr (rc 4 rfl (zB.lw (zfe [.lf (.int .u8 (y.toNat:Int))] 17 [] [y] rfl zap rfl rfl rfl rfl) (.l (zha vT))) (rc 0 rfl (lao 16 [] 5 17 [] [] zap.el vx (.inl zaI)) rf)) (jp (zK ?_)));cases h;exact jy
  cases h;exact zae rfl lzz
 refine zar _ rfl (jp ?_);obtain rfl:=(sj h);exact zx (lks [] [(16,2)] lzz)
theorem zqB (wP:∀{wv:Int} {r:(List UInt8)},xo wv=some r->kg 122 [kU wv] [.own Rp.byte 5 2 [] r]) (h:zfq xo wv=some r):kg 122 [kU wv] [.own Rp.byte 5 2 [] r]:=by
 refine fi 17 func122 fun Xt=>?_
 unfold zfq at h;refine jp (jp (jI h ?_ ?_))<;>intro uY h
 ·refine jb h fun y vT h=>jr (rc 2 rfl (zB.lw (zfe [.lf (.int .u8 (y.toNat:Int))] 12 [] [y] rfl zap rfl rfl rfl rfl) (.l (zha vT))) rf) ?_;cases h;exact zx (lks [] [(12,2)] lzz)
 refine jb h fun y2 vR h=>jb h fun rv u9 h=>jb h fun v vn h=>jr (rc 4 rfl (zB.lw (zfe [.lf (.int .u8 (y2.toNat:Int))] 13 [] [y2] rfl zap rfl rfl rfl rfl) (.l (zha vR))) (rl 2 [1] 12 call122 (wP u9) (rc 0 rfl (lao 13 [] 5 14 [] [] zap.el vn (.inl zaI)) rf))) ?_;obtain rfl:=(sj h);exact zx (lks [] [(13,2)] lzz)
theorem zio (h:zcp vl wv=some r):kg 122 [kU wv] [.own Rp.byte 5 2 [] r]:=by
  induction vl generalizing wv r with
  | zero=>exact absurd h nofun
  | succ vl ih=>exact zqB (fun hh=>ih hh) h
end Go.Proofs.YtaglemhabeipfaaGreat

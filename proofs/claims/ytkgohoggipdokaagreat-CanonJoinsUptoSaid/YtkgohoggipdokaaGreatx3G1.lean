/-
  The Go functions do what the plain functions say. No condition.
-/
import Derived.Test.YtkgohoggipdokaaGreatx3T
import Derived.Test.YtkgohoggipdokaaGreatx3Y
set_option autoImplicit true
set_option relaxedAutoImplicit true
namespace Go.Proofs.YtkgohoggipdokaaGreat
open Go.IntKind (i64 u64 u8)
open Tryz
open Go Go.RowKit
set_option linter.unusedVariables false
set_option maxRecDepth 100000
set_option maxHeartbeats 3200000
abbrev zMb:=(mput ([]:(List (Int×zv))) 1 (⟨[105,110,116,51,50],0⟩:zv))
abbrev zMc:=(mput zMb 2 (⟨[105,110,116,54,52],0⟩:zv))
abbrev zMd:=(mput zMc 3 (⟨[117,105,110,116,51,50],0⟩:zv))
abbrev zMe:=(mput zMd 4 (⟨[117,105,110,116,54,52],0⟩:zv))
abbrev zMf:=(mput zMe 5 (⟨[115,105,110,116,51,50],0⟩:zv))
abbrev zMg:=(mput zMf 6 (⟨[115,105,110,116,54,52],0⟩:zv))
abbrev zMh:=(mput zMg 7 (⟨[98,111,111,108],0⟩:zv))
abbrev zMi:=(mput zMh 8 (⟨[101,110,117,109],0⟩:zv))
abbrev zMj:=(mput zMi 9 (⟨[102,105,120,101,100,51,50],5⟩:zv))
abbrev zJc:=(mput zMj 10 (⟨[115,102,105,120,101,100,51,50],5⟩:zv))
abbrev zJd:=(mput zJc 11 (⟨[102,108,111,97,116],5⟩:zv))
abbrev zJe:=(mput zJd 12 (⟨[102,105,120,101,100,54,52],1⟩:zv))
abbrev zJf:=(mput zJe 13 (⟨[115,102,105,120,101,100,54,52],1⟩:zv))
abbrev zEA:=(mput zJf 14 (⟨[100,111,117,98,108,101],1⟩:zv))
theorem zrF (h:zmj=some r):wo 155 [] [.om wj zaY 2 [] r]:=by
 refine fi 20 func155 fun Xt=>?_
 unfold zmj at h;refine jp (jr (rc 0 rfl (znT (rk:=wj) (rv:=zaY) 12 rfl) (rc 0 rfl (zaw (r:=zaY) [kS [105,110,116,51,50],kI 0] [] (⟨[105,110,116,51,50],0⟩:zv) rfl zhL rfl rfl) (rms (D:=[]) 0 [] 12 [] ([]:(List (Int×zv))) 1 (⟨[105,110,116,51,50],0⟩:zv) [] zfE (zdE rfl rfl) (zdf rfl) (rc 0 rfl (zaw (r:=zaY) [kS [105,110,116,54,52],kI 0] [] (⟨[105,110,116,54,52],0⟩:zv) rfl zhL rfl rfl) (rms (D:=[]) 0 [] 12 [] zMb 2 (⟨[105,110,116,54,52],0⟩:zv) [] zfE (zdE rfl rfl) (zdf rfl) (rc 0 rfl (zaw (r:=zaY) [kS [117,105,110,116,51,50],kI 0] [] (⟨[117,105,110,116,51,50],0⟩:zv) rfl zhL rfl rfl) (rms (D:=[]) 0 [] 12 [] zMc 3 (⟨[117,105,110,116,51,50],0⟩:zv) [] zfE (zdE rfl rfl) (zdf rfl) (rc 0 rfl (zaw (r:=zaY) [kS [117,105,110,116,54,52],kI 0] [] (⟨[117,105,110,116,54,52],0⟩:zv) rfl zhL rfl rfl) (rms (D:=[]) 0 [] 12 [] zMd 4 (⟨[117,105,110,116,54,52],0⟩:zv) [] zfE (zdE rfl rfl) (zdf rfl) (rc 0 rfl (zaw (r:=zaY) [kS [115,105,110,116,51,50],kI 0] [] (⟨[115,105,110,116,51,50],0⟩:zv) rfl zhL rfl rfl) (rms (D:=[]) 0 [] 12 [] zMe 5 (⟨[115,105,110,116,51,50],0⟩:zv) [] zfE (zdE rfl rfl) (zdf rfl) (rc 0 rfl (zaw (r:=zaY) [kS [115,105,110,116,54,52],kI 0] [] (⟨[115,105,110,116,54,52],0⟩:zv) rfl zhL rfl rfl) (rms (D:=[]) 0 [] 12 [] zMf 6 (⟨[115,105,110,116,54,52],0⟩:zv) [] zfE (zdE rfl rfl) (zdf rfl) (rc 0 rfl (zaw (r:=zaY) [kS [98,111,111,108],kI 0] [] (⟨[98,111,111,108],0⟩:zv) rfl zhL rfl rfl) (rms (D:=[]) 0 [] 12 [] zMg 7 (⟨[98,111,111,108],0⟩:zv) [] zfE (zdE rfl rfl) (zdf rfl) (rc 0 rfl (zaw (r:=zaY) [kS [101,110,117,109],kI 0] [] (⟨[101,110,117,109],0⟩:zv) rfl zhL rfl rfl) (rms (D:=[]) 0 [] 12 [] zMh 8 (⟨[101,110,117,109],0⟩:zv) [] zfE (zdE rfl rfl) (zdf rfl) (rc 0 rfl (zaw (r:=zaY) [kS [102,105,120,101,100,51,50],kI 5] [] (⟨[102,105,120,101,100,51,50],5⟩:zv) rfl zhL rfl rfl) (rms (D:=[]) 0 [] 12 [] zMi 9 (⟨[102,105,120,101,100,51,50],5⟩:zv) [] zfE (zdE rfl rfl) (zdf rfl) (rc 0 rfl (zaw (r:=zaY) [kS [115,102,105,120,101,100,51,50],kI 5] [] (⟨[115,102,105,120,101,100,51,50],5⟩:zv) rfl zhL rfl rfl) (rms (D:=[]) 0 [] 12 [] zMj 10 (⟨[115,102,105,120,101,100,51,50],5⟩:zv) [] zfE (zdE rfl rfl) (zdf rfl) (rc 0 rfl (zaw (r:=zaY) [kS [102,108,111,97,116],kI 5] [] (⟨[102,108,111,97,116],5⟩:zv) rfl zhL rfl rfl) (rms (D:=[]) 0 [] 12 [] zJc 11 (⟨[102,108,111,97,116],5⟩:zv) [] zfE (zdE rfl rfl) (zdf rfl) (rc 0 rfl (zaw (r:=zaY) [kS [102,105,120,101,100,54,52],kI 1] [] (⟨[102,105,120,101,100,54,52],1⟩:zv) rfl zhL rfl rfl) (rms (D:=[]) 0 [] 12 [] zJd 12 (⟨[102,105,120,101,100,54,52],1⟩:zv) [] zfE (zdE rfl rfl) (zdf rfl) (rc 0 rfl (zaw (r:=zaY) [kS [115,102,105,120,101,100,54,52],kI 1] [] (⟨[115,102,105,120,101,100,54,52],1⟩:zv) rfl zhL rfl rfl) (rms (D:=[]) 0 [] 12 [] zJe 13 (⟨[115,102,105,120,101,100,54,52],1⟩:zv) [] zfE (zdE rfl rfl) (zdf rfl) (rc 0 rfl (zaw (r:=zaY) [kS [100,111,117,98,108,101],kI 1] [] (⟨[100,111,117,98,108,101],1⟩:zv) rfl zhL rfl rfl) (rms (D:=[]) 0 [] 12 [] zJf 14 (⟨[100,111,117,98,108,101],1⟩:zv) [] zfE (zdE rfl rfl) (zdf rfl) (rc 0 rfl (zaw (r:=zaY) [kS [115,116,114,105,110,103],kI 2] [] (⟨[115,116,114,105,110,103],2⟩:zv) rfl zhL rfl rfl) (rms (D:=[]) 0 [] 12 [] zEA 15 (⟨[115,116,114,105,110,103],2⟩:zv) [] zfE (zdE rfl rfl) (zdf rfl) (rc 0 rfl (zaw (r:=zaY) [kS [98,121,116,101,115],kI 2] [] (⟨[98,121,116,101,115],2⟩:zv) rfl zhL rfl rfl) (rms (D:=[]) 0 [] 12 [] (mput zEA 15 (⟨[115,116,114,105,110,103],2⟩:zv)) 16 (⟨[98,121,116,101,115],2⟩:zv) [] zfE (zdE rfl rfl) (zdf rfl) (rc 0 rfl (zaw (r:=zaY) [kS [109,101,115,115,97,103,101],kI 2] [] (⟨[109,101,115,115,97,103,101],2⟩:zv) rfl zhL rfl rfl) (rms (D:=[]) 0 [] 12 [] (mput (mput zEA 15 (⟨[115,116,114,105,110,103],2⟩:zv)) 16 (⟨[98,121,116,101,115],2⟩:zv)) 17 (⟨[109,101,115,115,97,103,101],2⟩:zv) [] zfE (zdE rfl rfl) (zdf rfl) rf))))))))))))))))))))))))))))))))))) ?_);cases h;exact zB (lks [] [(12,2)] lzz)
theorem znd (h:zgz c=some r):wo 187 [k8 c] [kB r]:=by
 refine fi 9 func187 fun Xt=>?_
 unfold zgz at h;refine jp (jg [] [] [(2,kB ((decide (c>=48))&&(decide (c<=57))))] ?_ ?_)
 ·refine (rsl 3 [] 5 (decide (c>=48)) ?_ ?_)<;>intro uE
  · exact (rbl [] 2 (decide (c<=57)) rfl (by grind))
  exact (rbl [] 2 false rfl (by grind))
 cases h;exact zB lzz
theorem zsl (h:zhd c=some r):wo 188 [k8 c] [kB r]:=by
 refine fi 21 func188 fun Xt=>?_
 unfold zhd at h;refine jp (jg [] [] [(2,kB (if (decide (c>=97)) then ((decide (c<=122))|| (if (decide (c>=65)) then ((decide (c<=90))|| (c==95)) else (c==95))) else (if (decide (c>=65)) then ((decide (c<=90))|| (c==95)) else (c==95))))] ?_ ?_)
 ·refine (rsl 3 [] 5 (decide (c>=97)) ?_ ?_)<;>intro uE
  ·refine (rsl 4 [] 9 (decide (c<=122)) ?_ ?_)<;>intro uH
   · exact (rbl [] 2 true rfl (by grind))
   refine (rsl 3 [] 12 (decide (c>=65)) ?_ ?_)<;>intro uJ
   ·refine (rsl 5 [] 17 (decide (c<=90)) ?_ ?_)<;>intro uO
    · exact (rbl [] 2 true rfl (by grind))
    exact (rbl [] 2 (c==95) rfl (by grind))
   exact (rbl [] 2 (c==95) rfl (by grind))
  refine (rsl 7 [] 12 (decide (c>=65)) ?_ ?_)<;>intro uW
  ·refine (rsl 5 [] 17 (decide (c<=90)) ?_ ?_)<;>intro u0
   · exact (rbl [] 2 true rfl (by grind))
   exact (rbl [] 2 (c==95) rfl (by grind))
  exact (rbl [] 2 (c==95) rfl (by grind))
 cases h;exact zB lzz
theorem zsm (h:zhe n=some r):wo 157 [kI n] [kB r]:=by
 refine fi 17 func157 fun Xt=>?_
 unfold zhe at h;refine jp (jg [] [] [(2,kB ((decide (n>=1))&&((decide (n<=536870911))&&((decide (n<19000))|| (decide (n>19999))))))] ?_ ?_)
 ·refine (rsl 3 [] 5 (decide (n>=1)) ?_ ?_)<;>intro uE
  ·refine (rsl 4 [] 9 (decide (n<=536870911)) ?_ ?_)<;>intro uH
   ·refine (rsl 3 [] 12 (decide (n<19000)) ?_ ?_)<;>intro uJ
    · exact (rbl [] 2 true rfl (by grind))
    exact (rbl [] 2 (decide (n>19999)) rfl (by grind))
   exact (rbl [] 2 false rfl (by grind))
  exact (rbl [] 2 false rfl (by grind))
 cases h;exact zB lzz
theorem zmC (h:zdz sv v=some r):wo 189 [.sl wj [0] sv,kI v] [kI r]:=by
 refine fi 19 func189 fun Xt=>?_
 unfold zdz at h;refine jp (jp (zp (jb h fun q uL h=>jL uL [0,1,7] [] (fun s=>[(8,kI s)]) (fun| (.inl v_)=> .x 0 ⟨[],[]⟩| (.inr v_)=> .r ⟨[(4,kI v_)],[]⟩) ?_ lzz ?_)))
 ·clear h;intro v2 o h;unfold zaW at h;refine jp (jI h ?_ ?_)<;>intro uE h
  ·refine zp (jp (jb h fun x uN h=>jr (rx 3 [0] zKy.el uN rfl rfl rf) (jI h ?_ ?_)))<;>intro uH h
   ·cases h;exact jz'
   refine zan ?_;cases h;exact jy
  cases h;exact zaC rfl lzz
 rcases q with u| u2
 ·refine zaX _ rfl ?_;cases h;exact jz
 obtain rfl:=(sj h);exact zgh lzz
theorem zpw (h:zfz c f=some r):wo 160 [.ag [kI c.size,.sl wj [0] c.kinds,.mp zU Rp.bool [0] c.names,.mp zV Rp.bool [0] c.numbers],.rc zf [0] f] [kB r]:=by
 refine fi 21 func160 fun Xt=>?_
 unfold zfz at h;refine jq [11,12] (jp (jI h ?_ ?_))<;>intro uE h
 ·refine jg [] [] [(4,kB ((decide (f.Of>=0))&&(decide (f.Of<c.size))))] ?_ ?_
  ·refine (rsl 4 [] 11 (decide (f.Of>=0)) ?_ ?_)<;>intro uH
   · exact (rbl [] 4 (decide (f.Of<c.size)) rfl (by grind))
   exact (rbl [] 4 false rfl (by grind))
  cases h;exact zB lzz
 cases h;exact jz
theorem zym (vW:∀{x:zb} {wO:Int} {r:Int},xa x wO=some r->wo 55 [.rc zg [0] x,kI wO] [kI r]) (h:zjK xa x wO=some r):wo 55 [.rc zg [0] x,kI wO] [kI r]:=by
 refine fi 40 func55 fun Xt=>?_
 unfold zjK at h;refine jr (rc 0 rfl (lbx 11 [0] (zah [0] x)) rf) (jp (jp (zp (jb h fun q2 uX h=>jL uX [1,11,12] [] (fun s=>[(5,kI s.1),(13,kI s.2)]) (fun| (.inl v_)=> .x 0 ⟨[(5,kI v_)],[]⟩| (.inr v_)=> .r ⟨[(4,kI v_)],[]⟩) ?_ lzz ?_))))
 ·clear h;intro s o h;obtain ⟨wK,v⟩:=s;replace h:zew wO xa x wK v=some o:=h;unfold zew at h;refine jp (jI h ?_ ?_)<;>intro uE h
  ·refine zp (jb h fun x2 uQ h=>jr (rx 0 [0] zjX.el uQ rfl rfl (rc 0 rfl (lde zd [0] x2 ziS) (ral 1 [13] [.ptr 13 0,.rc zd [0] x2] rfl (zfe (r:=zd) (b:=⟨13,51,[kI 0,kN,kN,kN]⟩) (off:=0) (zt [0] x2) rfl sizeOf51 rfl rfl (by rw [zG]<;>rfl) rfl) rfl rf))) (jp (zp (jb h fun q uL h=>jL uL [1,11,12,13,18,19] [] (fun s=>[(5,kI s.1),(20,kI s.2)]) (fun| (.inl v_)=> .X 2 [1,11,12,13] [] [(5,kI v_)] []| (.inr v_)=> .r ⟨[(4,kI v_)],[]⟩) ?_ lzz ?_))))
   ·clear h;intro s o h;obtain ⟨deep3,v3⟩:=s;replace h:zex wO xa x2 deep3 v3=some o:=h;unfold zex at h;refine jp (jI h ?_ ?_)<;>intro uH h
    ·refine zp (jb h fun x3 va h=>jr (rx 0 [0] zjm.el va rfl rfl (rc 0 rfl (lde zg [0] x3 zkH) (ral 1 [15] [.ptr 15 0,.rc zg [0] x3] rfl (zfe (r:=zg) (b:=⟨15,27,[kN,kN]⟩) (off:=0) (zak [0] x3) rfl sizeOf27 rfl rfl (by rw [zaq]<;>rfl) rfl) rfl rf))) (jp (jI h ?_ ?_)))<;>intro uJ h
     ·cases h;exact jz'
     refine jb h fun rv uF h=>jr (rc 4 rfl (lw0 14 call55 (vW uF) (.c (zL [0] x3) (.k .n))) rf) (jp (jI h ?_ ?_))<;>intro uO h
     ·cases h;exact jz'
     refine zan ?_;cases h;exact jy
    cases h;exact zaC rfl lzz
   rcases q with u| u2
   ·refine zaX _ rfl (zan ?_);cases h;exact jy
   cases h;exact zFQ lzz
  cases h;exact zaC rfl lzz
 rcases q2 with u3| u4
 ·refine zaX _ rfl (jp ?_);obtain rfl:=(sj h);exact zB lzz
 obtain rfl:=(sj h);exact zgh lzz
theorem zyP (h:zgm uM x wO=some r):wo 55 [.rc zg [0] x,kI wO] [kI r]:=by
  induction uM generalizing x wO r with
  | zero=>exact absurd h nofun
  | succ uM ih=>exact zym (fun hh=>ih hh) h
theorem zqs (h:zfZ f v=some r):wo 108 [.rc zf [0] f,.ep wj [0] v 0] [kB r]:=by
 refine fi 8 func108 fun Xt=>?_
 unfold zfZ at h;refine jq [11] ?_;cases h;exact jz
theorem zlb (h:zeS v=some r):wo 93 [.rc zd [0] v] [kI r]:=by
 refine fi 14 func93 fun Xt=>?_
 unfold zeS at h;refine jr (rc 0 rfl (lbx 11 [0] (zbB [0] v)) rf) ?_;cases h;exact jz
theorem zDF (h:ztJ c=some r):wo 230 [k8 c] [kI r.1,.lf (.int .u32 r.2)]:=by
 refine fi 31 func230 fun Xt=>?_
 unfold ztJ at h;refine jp (zp (jr (ra 1 [k8 c,kU 7] rfl (zjA rfl rfl) rfl rf) (jI h ?_ ?_)))<;>intro uE h
 ·cases h;exact jz
 refine jr (ra 1 [k8 c,kU 5] rfl (zjA rfl rfl) rfl rf) (jI h ?_ ?_)<;>intro uH h
 ·cases h;exact jz
 refine jr (ra 1 [k8 c,kU 4] rfl (zjA rfl rfl) rfl rf) (jI h ?_ ?_)<;>intro uJ h
 ·cases h;exact jz
 refine jr (ra 1 [k8 c,kU 3] rfl (zjA rfl rfl) rfl rf) (jI h ?_ ?_)<;>intro uO h
 ·cases h;exact jz
 refine zan ?_;cases h;exact jz
theorem zDE (h:zop wv=some r):wo 231 [.lf (.int .u32 wv)] [kI r]:=by
 refine fi 22 func231 fun Xt=>?_
 unfold zop at h;refine jp (zp (jr (ra 1 [.lf (.int .u32 wv),kU 7] rfl (zjA rfl rfl) rfl rf) (jI h ?_ ?_)))<;>intro uE h
 ·cases h;exact jz
 refine jr (ra 1 [.lf (.int .u32 wv),kU 11] rfl (zjA rfl rfl) rfl rf) (jI h ?_ ?_)<;>intro uH h
 ·cases h;exact jz
 refine jr (ra 1 [.lf (.int .u32 wv),kU 11] rfl (zjA rfl rfl) rfl rf) (jI h ?_ ?_)<;>intro uJ h
 ·cases h;exact jz
 refine jr (ra 1 [.lf (.int .u32 wv),kU 16] rfl (zjA rfl rfl) rfl rf) (jI h ?_ ?_)<;>intro uO h
 ·cases h;exact jz
 refine jp (jI h ?_ ?_)<;>intro uW h
 ·cases h;exact jz
 refine zan ?_;cases h;exact jz
theorem zrB (h:zkb wv=some r):wo 178 [kU wv] [.lf (.int .u32 r)]:=by
 refine fi 5 func178 fun Xt=>?_
 unfold zkb at h;refine jp ?_;cases h;exact jz
theorem zwE (h:zkK n=some r):wo 176 [.lf (.int .i32 n)] [kU r]:=by
 refine fi 6 func176 fun Xt=>?_
 unfold zkK at h;refine jp ?_;cases h;exact jz
theorem zyM (h:zoJ wv=some r):wo 179 [kU wv] [kU r]:=by
 refine fi 5 func179 fun Xt=>?_
 unfold zoJ at h;refine jp ?_;cases h;exact jz
theorem zjL (h:zgK b=some r):wo 213 [.sl Rp.byte [0] b] [kU r.1,kI r.2.1,k8 r.2.2]:=by
 refine fi 38 func213 fun Xt=>?_
 unfold zgK at h;refine jp (jb h fun v uS h=>jr (ra 4 [.sl Rp.byte [0] b,kI (if (10:Int)<(b.length:Int) then 10 else (b.length:Int))] rfl (ziK none (some (kI (if (10:Int)<(b.length:Int) then 10 else (b.length:Int)))) rfl zej.el (zcZ _ _ _) ⟨rfl,rfl⟩ ⟨rfl,rfl⟩ uS) rfl rf) (zp (jb h fun q uL h=>jL uL [11,12] [] (fun s=>[(2,kU s.1),(13,kI s.2)]) (fun| (.inl v_)=> .x 0 ⟨[],[]⟩| (.inr v_)=> .r ⟨[(2,kU v_.1),(3,kI v_.2.1),(4,k8 v_.2.2)],[]⟩) ?_ lzz ?_)))
 ·clear h;intro s o h;obtain ⟨wv,v2⟩:=s;replace h:zdl v wv v2=some o:=h;unfold zdl at h;refine jp (jI h ?_ ?_)<;>intro uE h
  ·refine zp (jb h fun x uN h=>jr (rx 1 [0] zej.el uN rfl rfl rf) (jg [2,5,6,11,12,13] [] [(23,kB ((v2==9)&&(decide ((x.toNat:Int)>1))))] ?_ ?_))
   ·refine (rsl 3 [] 20 (v2==9) ?_ ?_)<;>intro uH
    · exact (rbl [] 23 (decide ((x.toNat:Int)>1)) rfl (by grind))
    exact (rbl [] 23 false rfl (by grind))
   refine jI h ?_ ?_<;>intro uJ h
   ·cases h;exact jz'
   refine jb h fun v4 vf h=>jr (ra 6 [kU (u64.wrap (andI .u8 (x.toNat:Int) 127)),kI (i64.wrap (7*v2))] rfl (zBf rfl vf) rfl rf) (jp (jI h ?_ ?_))<;>intro uO h
   ·cases h;exact jz'
   refine zan ?_;cases h;exact jy
  cases h;exact zaC rfl lzz
 rcases q with u| u2
 ·refine zaX _ rfl ?_;cases h;exact jz
 cases h;exact zgh lzz
theorem zuF (h:ziz wire=some r):wo 211 [kI wire] [kB r]:=by
 refine fi 9 func211 fun Xt=>?_
 unfold ziz at h;refine jp (jp (zp (jp (jI h ?_ ?_))))<;>intro uE h
 ·refine jI h ?_ ?_<;>intro uH h
  ·refine jp ?_;obtain rfl:=(sj h);exact zB lzz
  refine zan (jp ?_);obtain rfl:=(sj h);exact zB lzz
 refine jp (jI h ?_ ?_)<;>intro uJ h
 ·refine jI h ?_ ?_<;>intro uO h
  ·refine jp ?_;obtain rfl:=(sj h);exact zB lzz
  refine zan (jp ?_);obtain rfl:=(sj h);exact zB lzz
 refine jp (jI h ?_ ?_)<;>intro uW h
 ·refine jI h ?_ ?_<;>intro u0 h
  ·refine jp ?_;obtain rfl:=(sj h);exact zB lzz
  refine zan (jp ?_);obtain rfl:=(sj h);exact zB lzz
 refine jp (jI h ?_ ?_)<;>intro vb h
 ·refine jp ?_;obtain rfl:=(sj h);exact zB lzz
 refine zan (jp ?_);obtain rfl:=(sj h);exact zB lzz
theorem zln (h:zgS k=some r):wo 180 [kI k] [kI r.1,k8 r.2]:=by
 refine fi 22 func180 fun Xt=>?_
 unfold zgS at h;refine jp (jp (zp (jp (jb h fun p vc h=>jn (.n ⟨[(4,kI k),(5,kB p)],[]⟩) ?_ ?_))))
 ·replace h:=vc;refine jI h ?_ ?_<;>intro uE h
  ·cases h;exact zbj lzz
  refine jp (jI h ?_ ?_)<;>intro uH h
  ·cases h;exact zbj lzz
  refine jp (jI h ?_ ?_)<;>intro uJ h
  ·cases h;exact zbj lzz
  refine jp (jI h ?_ ?_)<;>intro uO h
  ·cases h;exact zbj lzz
  refine jp (jI h ?_ ?_)<;>intro uW h
  ·cases h;exact zbj lzz
  refine jp (jI h ?_ ?_)<;>intro u0 h
  ·cases h;exact zbj lzz
  refine jp (jI h ?_ ?_)<;>intro vb h
  ·cases h;exact zbj lzz
  cases h;exact jy
 refine zll (jI h ?_ ?_)<;>intro vg h
 ·cases h;exact jz
 refine jp (jb h fun p2 vk h=>jn (.n ⟨[(4,kI k),(14,kB p2)],[]⟩) ?_ ?_)
 ·replace h:=vk;refine jI h ?_ ?_<;>intro vh h
  ·cases h;exact zbj lzz
  refine jp (jI h ?_ ?_)<;>intro vl h
  ·cases h;exact zbj lzz
  cases h;exact jy
 refine zll (jI h ?_ ?_)<;>intro vx h
 ·cases h;exact jz
 refine jp (jI h ?_ ?_)<;>intro vz h
 ·refine jI h ?_ ?_<;>intro vA h
  ·cases h;exact jz
  refine zan ?_;cases h;exact jz
 refine jp (jI h ?_ ?_)<;>intro vB h
 ·refine jI h ?_ ?_<;>intro vX h
  ·cases h;exact jz
  refine zan ?_;cases h;exact jz
 refine jp (jI h ?_ ?_)<;>intro vY h
 ·cases h;exact jz
 refine zan ?_;cases h;exact jz
theorem zuW (h:znF wv=some r):wo 182 [kU wv] [kI r]:=by
 refine fi 13 func182 fun Xt=>?_
 unfold znF at h;refine jp (jp (jr (ra 1 [kU wv,kU 7] rfl (zjA rfl rfl) rfl rf) (zp (jb h fun q uL h=>jL uL [] [] (fun s=>[(0,kU s.1),(3,kI s.2)]) (fun o=> .x 0 ⟨[(3,kI o)],[]⟩) ?_ lzz ?_))))
 ·clear h;intro s o h;obtain ⟨wv2,n⟩:=s;replace h:zfQ wv2 n=some o:=h;unfold zfQ at h;refine jp (jI h ?_ ?_)<;>intro uE h
  ·refine zp (jp (zan (jr (ra 1 [kU wv2,kU 7] rfl (zjA rfl rfl) rfl rf) ?_)));cases h;exact zbj lzz
  cases h;exact zaC rfl lzz
 refine zaX _ rfl (jp ?_);obtain rfl:=(sj h);exact zB lzz
theorem zwC (h:zkI wv n=some r):wo 181 [kU wv,kI n] [.own Rp.byte 5 2 [] r]:=by
 refine fi 26 func181 fun Xt=>?_
 unfold zkI at h;refine jp (jb h fun v uS h=>jr (ra 3 [kI (if (8:Int)<(if n<0 then 0 else n) then 8 else (if n<0 then 0 else n)),kI (if (8:Int)<(if n<0 then 0 else n) then 8 else (if n<0 then 0 else n))] rfl (zqU 12 rfl zej rfl uS) rfl rf) (jp (zp (jb h fun q uL h=>jL uL [0,12] [] (fun s=>[(5,.own Rp.byte 5 12 [] s.1),(13,kI s.2)]) (fun o=> .x 0 ⟨[(5,.own Rp.byte 5 12 [] o)],[]⟩) ?_ lzz ?_))))
 ·clear h;intro s o h;obtain ⟨b,v2⟩:=s;replace h:zdg v wv b v2=some o:=h;unfold zdg at h;refine jp (jI h ?_ ?_)<;>intro uE h
  ·refine zp (jp (jb h fun v3 uU h=>jb h fun x uN h=>jb h fun y2 vm h=>jr (ra 5 [kU wv,kI (i64.wrap (8*v2))] rfl (zjA rfl uU) rfl (ra 1 [.own Rp.byte 5 12 [] b,kI v2] rfl (zoM rfl zej.el uN) rfl (rkl 0 [] ⟨[(0,kU wv),(5,.own Rp.byte 5 12 [] b),(12,kI (v.length:Int)),(13,kI v2),(22,k8 (u8.wrap v3)),(23,.ptr 12 (Int.toNat v2*Rp.byte.size))],[]⟩ (zBr (r:=Rp.byte) (e:=5) (C:=[]) (xs:=b) [5] (Int.toNat v2) 0 x y2 [] rfl rfl rfl rfl rfl rfl sizeOf5 rfl (by kernel_rfl) rfl (zoI uN) rfl (zJQ vm _) rfl rf)))) (zan ?_)));cases h;exact jy
  cases h;exact zaC rfl lzz
 refine zaX _ rfl (jp ?_);obtain rfl:=(sj h);exact zB (lks [] [(12,2)] lzz)
theorem zDx (h:zqx t=some r):wo 184 [.rc zcD [0] t] [kU r]:=by
 refine fi 11 func184 fun Xt=>?_
 unfold zqx at h;refine jq [11] (jr (ra 3 [kU (u64.wrap t.Number),kU 3] rfl (zBf rfl rfl) rfl rf) ?_);cases h;exact zB lzz
theorem zlH (h:zdj n=some r):wo 109 [kN,kI n] [.own Rp.byte 5 2 [] r]:=by
 refine fi 27 func109 fun Xt=>?_
 unfold zdj at h;refine jp (jp (jI h ?_ ?_))<;>intro uE h
 · exact absurd h nofun
 refine jr (ra 2 [kN] rfl (zja rfl underlying35) rfl rf) (jp (jI h ?_ ?_))<;>intro uH h
 ·refine jb h fun v uS h=>jb h fun v2 uY h=>jr (ra 2 [kN] rfl (zja rfl underlying35) rfl (ra 0 [kN,kI 0] rfl (zqT rfl zej.el) rfl (ra 1 [kN,kI (i64.wrap (n - (i64.wrap (0 - 0))))] rfl (zwc 12 rfl underlying3 zej rfl uS) rfl (ra 2 [.own Rp.byte 5 12 [] v,kI 0] rfl (zsZ rfl zej.el uY) rfl rf)))) (jp ?_);obtain rfl:=(sj h);exact zB (lks [] [(12,2)] lzz)
 refine jp ?_;cases h;exact zB lw
theorem zhr (h:zcv wv b=some r):ziq prog 65 [.ptr 800000 0,.sl Rp.byte [0] b] [] [⟨800000,76,(zo 800001 [0] wv)⟩] [800000] [⟨800000,76,(zo 800001 [0,2] r)⟩]:=by
 refine zlJ (E:=⟨[(0,.ptr 800000 0)],[⟨800000,76,(zo 800001 [0,2] r)⟩]⟩) 23 [0] [(0,800000)] func65 rfl rfl rfl trivial ⟨⟨rfl,rfl,rfl⟩,trivial⟩ ⟨rfl,trivial⟩ (fun Xt old=>?_);refine zcm ?_;unfold zcv at h;refine jb h fun v uS h=>jr (rc 6 rfl (zfI [.sl Rp.byte [0] b] 12 [0] ([b]:(List (List UInt8))) rfl zot rfl rfl rfl rfl) (rc 0 rfl (lao 800001 [0] 35 12 [0] [0,12] zot.el uS (.inr rfl)) rf)) (jp ?_);cases h;exact zzF (lks [800000] [(12,2)] lzz)
theorem zpJ (h:zhx av b=some r):wo 16 [.sl Rp.byte [0] av,.sl Rp.byte [0] b] [kB r]:=by
 refine fi 10 func16 fun Xt=>?_
 unfold zhx at h;refine jp (jr (ra 1 [.sl Rp.byte [0] av] rfl (zBd rfl underlying35 underlying5 underlying9 (zcZ _ _ _)) rfl (ra 1 [.sl Rp.byte [0] b] rfl (zBd rfl underlying35 underlying5 underlying9 (zcZ _ _ _)) rfl rf)) ?_);cases h;exact zB lzz
theorem zru (h:zgw sv=some r):wo 9 [.sl zj [0] sv] [kB r]:=by
 refine fi 54 func9 fun Xt=>?_
 unfold zgw at h;refine jp (jp (jp (zp (jb h fun q2 uX h=>jL uX [0] [] (fun s=>[(3,kI s.1),(4,kI s.2)]) (fun o=> .x 0 ⟨[(3,kI o)],[]⟩) ?_ lzz ?_))))
 ·clear h;intro s o h;obtain ⟨n,i⟩:=s;replace h:zcd sv n i=some o:=h;unfold zcd at h;refine jp (jI h ?_ ?_)<;>intro uE h
  ·refine zp (jb h fun x uN h=>jb h fun x2 uQ h=>jd [0,3,4] [] zeY (by exact (lwn 4 (di [0] zpp.el uN (lwn 7 (di [0] zpp.el uQ (lw_e (lx (ldl zj [0] x2 1 zf x2.Fields) l0))))))) (jp (zp (jb h fun q uL h=>jL uL [0,4] [] (fun s=>[(3,kI s.1),(5,kI s.2)]) (fun o=> .X 2 [0,4] [] [(3,kI o)] []) ?_ lzz ?_))))
   ·clear h;intro s o h;obtain ⟨n3,k⟩:=s;replace h:zce i sv n3 k=some o:=h;unfold zce at h;refine jb h fun x3 va h=>jr (rx 3 [0] zpp.el va rfl rfl (rc 1 rfl (ldl zj [0] x3 1 zf x3.Fields) rf)) (jI h ?_ ?_)<;>intro uH h
    ·refine zp (jb h fun x4 ve h=>jb h fun x5 vi h=>jr (rx 3 [0] zpp.el ve rfl rfl (rc 1 rfl (ldl zj [0] x4 1 zf x4.Fields) (rx 1 [0] zqJ.el vi rfl rfl rf))) (zan ?_));cases h;exact jy
    cases h;exact zaC rfl lzz
   refine zaX _ rfl (zan ?_);cases h;exact jy
  cases h;exact zaC rfl lzz
 refine zaX _ rfl ?_;cases h;exact jz
theorem zpt (vO:∀{x:zb} {wK:Int} {r:Int},xl x wK=some r->wo 10 [.rc zg [0] x,kI wK] [kI r]) (vP:∀{v:za} {wK:Int} {r:Int},xm v wK=some r->wo 17 [.rc zd [0] v,kI wK] [kI r]) (h:zeX xl xm x wK=some r):wo 10 [.rc zg [0] x,kI wK] [kI r]:=by
 refine fi 45 func10 fun Xt=>?_
 unfold zeX at h;refine jr (rc 0 rfl (lbx 11 [0] (zah [0] x)) rf) (jp (jI h ?_ ?_))<;>intro uE h
 ·cases h;exact jz
 refine jp (jp (zp (jb h fun q uL h=>jL uL [1,2] [11] (fun s=>[(5,kI s.1),(6,kI s.2)]) (fun o=> .X 0 [1,2] [11] [(5,kI o)] []) ?_ lzz ?_)))
 ·clear h;intro s o h;obtain ⟨n,i⟩:=s;replace h:zbV x n i=some o:=h;unfold zbV at h;refine jp (jI h ?_ ?_)<;>intro uH h
  ·refine zp (jb h fun x2 uQ h=>jr (rx 5 [0] zjY.el uQ rfl rfl rf) (zan ?_));cases h;exact jy
  cases h;exact zaC rfl lzz
 refine zaX _ rfl (jp (zp (jb h fun q2 uX h=>jL uX [1,2] [11] (fun s=>[(5,kI s.1),(7,kI s.2)]) (fun| (.inl v_)=> .x 2 ⟨[(5,kI v_)],[]⟩| (.inr v_)=> .r ⟨[(4,kI 5000)],[]⟩) ?_ lzz ?_)))
 ·clear h;intro s o h;obtain ⟨n3,i2⟩:=s;replace h:zbw wK xm x n3 i2=some o:=h;unfold zbw at h;refine jp (jI h ?_ ?_)<;>intro uJ h
  ·refine zp (jb h fun x3 va h=>jb h fun rv uF h=>jr (rx 4 [0] zjX.el va rfl rfl (rc 0 rfl (lde zd [0] x3 ziS) (rl 1 [0] 12 call17 (vP uF) rf))) (jp (jI h ?_ ?_)))<;>intro uO h
   ·cases h;exact jz'
   refine zan ?_;cases h;exact jy
  cases h;exact zaC rfl lzz
 rcases q2 with u| u2
 ·refine zaX _ rfl (jp ?_);obtain rfl:=(sj h);exact zB lzz
 cases h;exact zgh lzz
theorem zmd (vO:∀{x:zb} {wK:Int} {r:Int},xl x wK=some r->wo 10 [.rc zg [0] x,kI wK] [kI r]) (vP:∀{v:za} {wK:Int} {r:Int},xm v wK=some r->wo 17 [.rc zd [0] v,kI wK] [kI r]) (h:zdh xl xm v wK=some r):wo 17 [.rc zd [0] v,kI wK] [kI r]:=by
 refine fi 48 func17 fun Xt=>?_
 unfold zdh at h;refine jr (rc 0 rfl (lbx 11 [0] (zbB [0] v)) rf) (jp (jp (zp (jb h fun q uL h=>jL uL [1,2] [11] (fun s=>[(5,kI s.1),(6,kI s.2)]) (fun o=> .X 0 [1,2] [11] [(5,kI o)] []) ?_ lzz ?_))))
 ·clear h;intro s o h;obtain ⟨n,k⟩:=s;replace h:zbb v n k=some o:=h;unfold zbb at h;refine jp (jI h ?_ ?_)<;>intro uE h
  ·refine zp (jb h fun x uN h=>jr (rx 5 [0] zjY.el uN rfl rfl rf) (zan ?_));cases h;exact jy
  cases h;exact zaC rfl lzz
 refine zaX _ rfl (jp (zp (jb h fun q2 uX h=>jL uX [1,2] [11] (fun s=>[(5,kI s.1),(7,kI s.2)]) (fun| (.inl v_)=> .x 2 ⟨[(5,kI v_)],[]⟩| (.inr v_)=> .r ⟨[(4,kI 5000)],[]⟩) ?_ lzz ?_)))
 ·clear h;intro s o h;obtain ⟨n3,k2⟩:=s;replace h:zaP wK xl v n3 k2=some o:=h;unfold zaP at h;refine jp (jI h ?_ ?_)<;>intro uH h
  ·refine zp (jb h fun x2 uQ h=>jb h fun rv uF h=>jr (rx 4 [0] zjm.el uQ rfl rfl (rc 0 rfl (lde zg [0] x2 zkH) (rl 2 [0] 12 call10 (vO uF) rf))) (jp (jI h ?_ ?_)))<;>intro uJ h
   ·cases h;exact jz'
   refine zan ?_;cases h;exact jy
  cases h;exact zaC rfl lzz
 rcases q2 with u| u2
 ·refine zaX _ rfl (jp ?_);obtain rfl:=(sj h);exact zB lzz
 cases h;exact zgh lzz
theorem zfS (uM:Nat):(∀{x:zb} {wK:Int} {r:Int},zbz uM x wK=some r->wo 10 [.rc zg [0] x,kI wK] [kI r])/\(∀{v:za} {wK:Int} {r:Int},zbv uM v wK=some r->wo 17 [.rc zd [0] v,kI wK] [kI r]):=by
  induction uM with
  | zero=>exact ⟨fun h=>absurd h nofun,fun h=>absurd h nofun⟩
  | succ uM ih=>exact ⟨fun h=>zpt (fun hh=>ih.1 hh) (fun hh=>ih.2 hh) h,fun h=>zmd (fun hh=>ih.1 hh) (fun hh=>ih.2 hh) h⟩
theorem zkQ (h:zbz uM x wK=some r):wo 10 [.rc zg [0] x,kI wK] [kI r]:=(zfS uM).1 h
theorem zvR (h:zjM f v=some r):wo 216 [.rc zf [0] f,.ep wj [0] v 0] [kB r]:=by
 refine fi 8 func216 fun Xt=>?_
 unfold zjM at h;refine jq [11] ?_;cases h;exact jz
theorem zyT (h:zmD b l=some r):wo 128 [.sl Rp.byte [0] b,.sl zi [0] l] [.own Rp.str 9 2 [] r]:=by
 refine fi 32 func128 fun Xt=>?_
 unfold zmD at h;refine jp (jb h fun v uS h=>jr (ra 2 [kI (l.length:Int),kI (l.length:Int)] rfl (zqU 12 rfl zjY rfl uS) rfl rf) (jp (zp (jb h fun q uL h=>jL uL [0,11,12] [] (fun s=>[(5,.own Rp.str 9 12 [] s.1),(13,kI s.2)]) (fun o=> .x 0 ⟨[(5,.own Rp.str 9 12 [] o)],[]⟩) ?_ lzz ?_))))
 ·clear h;intro s o h;obtain ⟨all,v2⟩:=s;replace h:zey b l all v2=some o:=h;unfold zey at h;refine jp (jI h ?_ ?_)<;>intro uE h
  ·refine zp (jb h fun x uN h=>jr (rx 1 [0] znz.el uN rfl rfl (rc 0 rfl (lde zi [0] x zpD) (rfl' [14]))) (jb h fun v3 uU h=>jb h fun x2 uQ h=>jr (ra 9 [.sl Rp.byte [0] b,kI x.Record.At,kI x.Record.To] rfl (ziK (some (kI x.Record.At)) (some (kI x.Record.To)) rfl zej.el (zcZ _ _ _) ⟨rfl,rfl⟩ ⟨rfl,rfl⟩ uU) rfl (ra 0 [.sl Rp.byte [0] v3] rfl (zBd rfl underlying35 underlying5 underlying9 (zcZ _ _ _)) rfl (ra 0 [.own Rp.str 9 12 [] all,kI v2] rfl (zoM rfl zjY.el uQ) rfl (rkl 0 [] ⟨[(0,.sl Rp.byte [0] b),(5,.own Rp.str 9 12 [] all),(11,.sl zi [0] l),(12,kI (l.length:Int)),(13,kI v2),(28,kS v3),(29,.ptr 12 (Int.toNat v2*Rp.str.size))],[]⟩ (zBr (r:=Rp.str) (e:=9) (C:=[]) (xs:=all) [5] (Int.toNat v2) 0 x2 v3 [] rfl rfl rfl rfl rfl rfl sizeOf9 rfl (by kernel_rfl) rfl (zoI uQ) rfl (zrl rfl _) rfl rf))))) (zan ?_)));cases h;exact jy
  cases h;exact zaC rfl lzz
 refine zaX _ rfl (jp ?_);obtain rfl:=(sj h);exact zB (lks [] [(12,2)] lzz)
theorem zAB (h:znG b=some r):wo 229 [.sl Rp.byte [0] b] [kU r]:=by
 refine fi 26 func229 fun Xt=>?_
 unfold znG at h;refine jp (jp (jb h fun v uS h=>jr (ra 4 [.sl Rp.byte [0] b,kI (if (8:Int)<(b.length:Int) then 8 else (b.length:Int))] rfl (ziK none (some (kI (if (8:Int)<(b.length:Int) then 8 else (b.length:Int)))) rfl zej.el (zcZ _ _ _) ⟨rfl,rfl⟩ ⟨rfl,rfl⟩ uS) rfl rf) (zp (jb h fun q uL h=>jL uL [10,11] [] (fun s=>[(3,kU s.1),(12,kI s.2)]) (fun o=> .x 0 ⟨[(3,kU o)],[]⟩) ?_ lzz ?_))))
 ·clear h;intro s o h;obtain ⟨wv,v2⟩:=s;replace h:zfc v wv v2=some o:=h;unfold zfc at h;refine jp (jI h ?_ ?_)<;>intro uE h
  ·refine zp (jb h fun x uN h=>jr (rx 1 [0] zej.el uN rfl rfl rf) (jb h fun v3 uU h=>jr (ra 5 [kU (u64.wrap (x.toNat:Int)),kI (i64.wrap (8*v2))] rfl (zBf rfl uU) rfl rf) (zan ?_)));cases h;exact jy
  cases h;exact zaC rfl lzz
 refine zaX _ rfl (jp ?_);obtain rfl:=(sj h);exact zB lzz
theorem zjI (h:zcq s1 s2=some r):wo 130 [.sl wk [0] s1,.sl wk [0] s2] [kB r]:=by
 refine fi 26 func130 fun Xt=>?_
 unfold zcq at h;refine jp (jp (jI h ?_ ?_))<;>intro uE h
 ·refine jp ?_;obtain rfl:=(sj h);exact zB lzz
 refine jp (zp (jb h fun q uL h=>jL uL [0,1,12] [] (fun s=>[(13,kI s)]) (fun| (.inl v_)=> .x 0 ⟨[],[]⟩| (.inr v_)=> .r ⟨[(4,kB false)],[]⟩) ?_ lzz ?_))
 ·clear h;intro v o h;unfold zay at h;refine jp (jI h ?_ ?_)<;>intro uH h
  ·refine zp (jp (jb h fun x uN h=>jb h fun x2 uQ h=>jd [0,1,12,13,24] [] zeY (by exact (lwn 2 (di [0] zng.el uN (lwn 3 (di [0] zng.el uQ l0))))) (jI h ?_ ?_)))<;>intro uJ h
   ·cases h;exact jz'
   refine zan ?_;cases h;exact jy
  cases h;exact zaC rfl lzz
 rcases q with u| u2
 ·refine zaX _ rfl (jp ?_);obtain rfl:=(sj h);exact zB lzz
 obtain rfl:=(sj h);exact zgh lzz
theorem zgb (h:zbK s1 s2=some r):wo 96 [.sl Rp.str [0] s1,.sl Rp.str [0] s2] [kB r]:=by
 refine fi 26 func96 fun Xt=>?_
 unfold zbK at h;refine jp (jp (jI h ?_ ?_))<;>intro uE h
 ·refine jp ?_;obtain rfl:=(sj h);exact zB lzz
 refine jp (zp (jb h fun q uL h=>jL uL [0,1,12] [] (fun s=>[(13,kI s)]) (fun| (.inl v_)=> .x 0 ⟨[],[]⟩| (.inr v_)=> .r ⟨[(4,kB false)],[]⟩) ?_ lzz ?_))
 ·clear h;intro v o h;unfold zax at h;refine jp (jI h ?_ ?_)<;>intro uH h
  ·refine zp (jp (jb h fun x uN h=>jb h fun x2 uQ h=>jd [0,1,12,13,24] [] zeY (by exact (lwn 2 (di [0] zjY.el uN (lwn 3 (di [0] zjY.el uQ l0))))) (jI h ?_ ?_)))<;>intro uJ h
   ·cases h;exact jz'
   refine zan ?_;cases h;exact jy
  cases h;exact zaC rfl lzz
 rcases q with u| u2
 ·refine zaX _ rfl (jp ?_);obtain rfl:=(sj h);exact zB lzz
 obtain rfl:=(sj h);exact zgh lzz
theorem zrr (h:zgq x=some r):wo 100 [.rc zg [0] x] [.om wj zd 2 [0] r]:=by
 refine fi 23 func100 fun Xt=>?_
 unfold zgq at h;refine jr (rc 0 rfl (lbx 13 [0] (zah [0] x)) rf) (jr (ra 3 [kI (x.Values.length:Int)] rfl (zHv (rk:=wj) (rv:=zd) 14 rfl underlying165) rfl rf) (jp (zp (jb h fun q uL h=>jL uL [11,12] [] (fun s=>[(3,.om wj zd 14 [0] s.1),(13,kI s.2)]) (fun o=> .x 0 ⟨[(3,.om wj zd 14 [0] o)],[]⟩) ?_ lw ?_))))
 ·clear h;intro s o h;obtain ⟨wH,v⟩:=s;replace h:zcc x wH v=some o:=h;unfold zcc at h;refine jp (jI h ?_ ?_)<;>intro uE h
  ·refine zp (jb h fun x2 uQ h=>jr (rx 0 [0] zjX.el uQ rfl rfl (rc 0 rfl (lde zd [0] x2 ziS) (ral 1 [16] [.ptr 16 0,.rc zd [0] x2] rfl (zfe (r:=zd) (b:=⟨16,51,[kI 0,kN,kN,kN]⟩) (off:=0) (zt [0] x2) rfl sizeOf51 rfl rfl (by rw [zG]<;>rfl) rfl) rfl rf))) (jr (rms (D:=[0]) (av:= .ag (zt [0] x2)) 4 [] 14 [0] wH x2.Number x2 [0] ztc (zdE rfl rfl) (zEc (zaV [0] x2) (zdf rfl)) rf) (zan ?_)));cases h;exact jy
  cases h;exact zaC rfl lzz
 refine zaX _ rfl (jp ?_);obtain rfl:=(sj h);exact zB (lks [] [(14,2)] lzz)
theorem zjQ (h:zcz n=some r):wo 172 [kN,kI n] [.own wk 72 2 [] r]:=by
 refine fi 27 func172 fun Xt=>?_
 unfold zcz at h;refine jp (jp (jI h ?_ ?_))<;>intro uE h
 · exact absurd h nofun
 refine jr (ra 2 [kN] rfl (zja rfl underlying48) rfl rf) (jp (jI h ?_ ?_))<;>intro uH h
 ·refine jb h fun v uS h=>jb h fun v2 uY h=>jr (ra 2 [kN] rfl (zja rfl underlying48) rfl (ra 0 [kN,kI 0] rfl (zqT rfl zng.el) rfl (ra 1 [kN,kI (i64.wrap (n - (i64.wrap (0 - 0))))] rfl (zwc 12 rfl underlying3 zng rfl uS) rfl (ra 2 [.own wk 72 12 [] v,kI 0] rfl (zsZ rfl zng.el uY) rfl rf)))) (jp ?_);obtain rfl:=(sj h);exact zB (lks [] [(12,2)] lzz)
 refine jp ?_;cases h;exact zB lw
theorem zjP (h:zcy n=some r):wo 141 [kN,kI n] [.own Rp.str 9 2 [] r]:=by
 refine fi 27 func141 fun Xt=>?_
 unfold zcy at h;refine jp (jp (jI h ?_ ?_))<;>intro uE h
 · exact absurd h nofun
 refine jr (ra 2 [kN] rfl (zja rfl underlying25) rfl rf) (jp (jI h ?_ ?_))<;>intro uH h
 ·refine jb h fun v uS h=>jb h fun v2 uY h=>jr (ra 2 [kN] rfl (zja rfl underlying25) rfl (ra 0 [kN,kI 0] rfl (zqT rfl zjY.el) rfl (ra 1 [kN,kI (i64.wrap (n - (i64.wrap (0 - 0))))] rfl (zwc 12 rfl underlying3 zjY rfl uS) rfl (ra 2 [.own Rp.str 9 12 [] v,kI 0] rfl (zsZ rfl zjY.el uY) rfl rf)))) (jp ?_);obtain rfl:=(sj h);exact zB (lks [] [(12,2)] lzz)
 refine jp ?_;cases h;exact zB lw
theorem ziw (h:zbW n=some r):wo 173 [kN,kI n] [.own zg 27 2 [] r]:=by
 refine fi 27 func173 fun Xt=>?_
 unfold zbW at h;refine jp (jp (jI h ?_ ?_))<;>intro uE h
 · exact absurd h nofun
 refine jr (ra 2 [kN] rfl (zja rfl underlying49) rfl rf) (jp (jI h ?_ ?_))<;>intro uH h
 ·refine jb h fun v uS h=>jb h fun v2 uY h=>jr (ra 2 [kN] rfl (zja rfl underlying49) rfl (ra 0 [kN,kI 0] rfl (zqT rfl zjm.el) rfl (ra 1 [kN,kI (i64.wrap (n - (i64.wrap (0 - 0))))] rfl (zwc 12 rfl underlying3 zjm rfl uS) rfl (ra 2 [.own zg 27 12 [] v,kI 0] rfl (zsZ rfl zjm.el uY) rfl rf)))) (jp ?_);obtain rfl:=(sj h);exact zB (lks [] [(12,2)] lzz)
 refine jp ?_;cases h;exact zB lw
theorem znE (h:zhi v=some r):wo 139 [.rc zd [0] v] [.ag (zak [0] r)]:=by
 refine fj ⟨[(2,.ptr 2 0)],[⟨2,27,(zak [0] r)⟩]⟩ 12 func139 ⟨⟨_,_,rfl,rfl,rfl,zkH⟩,trivial⟩ fun Xt=>?_
 unfold zhi at h;refine jr (rc 0 rfl (lbx 13 [0] (zbB [0] v)) (rfl' [14])) (jp (jI h ?_ ?_))<;>intro uE h
 ·refine jr (ra 0 [] rfl (zhW [] [kN,kN] rfl zyb rfl) rfl rf) ?_;cases h;exact zB (lks [14] [(14,2)] lw)
 refine jb h fun x uN h=>jr (rx 2 [0] zjm.el uN rfl rfl (rc 0 rfl (lde zg [0] x zkH) (ra 0 [.ptr 14 0,.rc zg [0] x] rfl (zfe (r:=zg) (b:=⟨14,27,[kN,kN]⟩) (off:=0) (zak [0] x) rfl sizeOf27 rfl rfl (by rw [zaq]<;>rfl) rfl) rfl rf))) ?_;obtain rfl:=(sj h);exact zB (lks [14] [(14,2)] lzz)
theorem ztU (h:zkz uZ x=some r):wo 138 [kI uZ,.rc zg [0] x] [.ag (zcB 3 [0] r)]:=by
 refine fj ⟨[(4,.ptr 2 0)],[⟨2,51,(zcB 3 [0] r)⟩]⟩ 9 func138 ⟨⟨_,_,rfl,rfl,rfl,ziS⟩,trivial⟩ fun Xt=>?_
 unfold zkz at h;refine jr (rc 0 rfl (lbx 14 [0] (zah [0] x)) (rfl' [15])) (jr (rc 2 rfl (zF.lw (lbs1 16 [0] x zjm) (.l (zL [0] x))) (ra 0 [kI uZ,.own zg 27 16 [0] ([x]:(List zb))] rfl (zhW [kI uZ,.own zg 27 16 [0] ([x]:(List zb))] [kI uZ,kN,kN,.own zg 27 16 [0] ([x]:(List zb))] rfl zDt rfl) rfl rf)) ?_);cases h;exact zB (lks [15] [(15,2),(16,3)] lzz)
theorem zrS (h:zgY wH=some r):wo 103 [.mp wj zd [0] wH] [.own zd 51 2 [3,0] r]:=by
 refine fi 25 func103 fun Xt=>?_
 unfold zgY at h;refine jp (jb h fun v uS h=>jr (ra 1 [.mp wj zd [0] wH] rfl (zLf (rk:=wj) (rv:=zd) (m:=wH) rfl underlying165 (zAX _ _ _ _)) rfl (ra 0 [kI 0,kI (wH.length:Int)] rfl (zqU 14 rfl zjX rfl uS) rfl rf)) (jb h fun v2 uY h=>jr (rkl 1 [] ⟨[(0,.mp wj zd [0] wH),(3,.own zd 51 14 [] v),(9,.mp wj zd [0] wH)],[]⟩ (zxS (rv:=zd) (m:=wH) 15 zJU rfl rfl rfl rfl rfl rfl call140 call90 rfl (zAX _ _ _ _) uY rfl rf)) (zp (jb h fun q uL h=>jL uL [0,11,12] [] (fun s=>[(3,.own zd 51 14 [16,0] s.1),(13,kI s.2)]) (fun o=> .x 0 ⟨[(3,.own zd 51 14 [16,0] o)],[]⟩) ?_ lw ?_))))
 ·clear h;intro s o h;obtain ⟨l,v3⟩:=s;replace h:zcu v2 wH l v3=some o:=h;unfold zcu at h;refine jp (jI h ?_ ?_)<;>intro uE h
  ·refine zp (jb h fun x uN h=>jr (ra 0 [.own wj 3 15 [] v2,kI v3] rfl (zxo rfl zKy.el (zkS _ _ _ _ _) uN) rfl rf) (jb h fun v4 vf h=>jr (ra 3 [.mp wj zd [0] wH,kI x] rfl (zGb (rk:=wj) (rv:=zd) (m:=wH) (k:=x) (.rc zd [0] ((mget wH x).getD (⟨0,[],[],[]⟩:za))) rfl ztc (zAX _ _ _ _) (zdE rfl rfl) (zsG rfl)) rfl (rc 0 rfl (lbs1 19 [0] ((mget wH x).getD (⟨0,[],[],[]⟩:za)) zjX) (rc 0 rfl (lao 14 [16,0] 51 19 [0] [16,0,19] zjX.el vf (.inr rfl)) rf))) (zan (jp ?_))));cases h;exact zbj (lks [] [(19,16)] lw)
  cases h;exact zaC rfl lzz
 refine zaX _ rfl (jp ?_);obtain rfl:=(sj h);exact zB (lks [] [(14,2),(16,3)] lzz)
theorem zht (h:zbn sv=some r):wo 133 [.sl zd [0] sv] [.own zd 51 2 [0] r]:=by
 refine fi 8 func133 fun Xt=>?_
 unfold zbn at h;refine jp ?_;have hn1:=zqY h;refine zsS 1 4 true ⟨[(0,.sl zd [0] sv),(3,.sl zd [0] sv)],[]⟩ ⟨[(0,.sl zd [0] sv),(4,kB true)],[]⟩ ⟨[(0,.sl zd [0] sv),(4,kB false)],[]⟩ (by kernel_rfl) rfl rfl rfl (by kernel_rfl) rfl underlying24 rfl (zcZ _ _ _) (by kernel_rfl) (by kernel_rfl) (fun hx_=>?_) ?_
 ·replace h:=hn1.1 hx_;refine jT rfl (jp ?_);cases h;exact zB lw
 replace h:=hn1.2;refine jF rfl (jb h fun v uS h=>jr (rc 0 rfl (zfI [] 12 [] ([]:(List za)) rfl zjX rfl rfl rfl rfl) (rc 1 rfl (las 12 [] [0] [0] zjX.el uS (.inr rfl)) rf)) ?_);obtain rfl:=(sj h);exact zB (lks [] [(12,2)] lzz)
theorem zga (h:zbH sv=some r):wo 134 [.sl Rp.str [0] sv] [.own Rp.str 9 2 [] r]:=by
 refine fi 8 func134 fun Xt=>?_
 unfold zbH at h;refine jp ?_;have hn1:=zqY h;refine zsS 1 4 true ⟨[(0,.sl Rp.str [0] sv),(3,.sl Rp.str [0] sv)],[]⟩ ⟨[(0,.sl Rp.str [0] sv),(4,kB true)],[]⟩ ⟨[(0,.sl Rp.str [0] sv),(4,kB false)],[]⟩ (by kernel_rfl) rfl rfl rfl (by kernel_rfl) rfl underlying25 rfl (zcZ _ _ _) (by kernel_rfl) (by kernel_rfl) (fun hx_=>?_) ?_
 ·replace h:=hn1.1 hx_;refine jT rfl (jp ?_);cases h;exact zB lw
 replace h:=hn1.2;refine jF rfl (jb h fun v uS h=>jr (rc 0 rfl (zfI [] 12 [] ([]:(List Str)) rfl zjY rfl rfl rfl rfl) (rc 1 rfl (las 12 [] [0] [] zjY.el uS (.inl zuv)) rf)) ?_);obtain rfl:=(sj h);exact zB (lks [] [(12,2)] lzz)
theorem zjH (h:zco sv=some r):wo 170 [.sl wk [0] sv] [.own wk 72 2 [] r]:=by
 refine fi 8 func170 fun Xt=>?_
 unfold zco at h;refine jp ?_;have hn1:=zqY h;refine zsS 1 4 true ⟨[(0,.sl wk [0] sv),(3,.sl wk [0] sv)],[]⟩ ⟨[(0,.sl wk [0] sv),(4,kB true)],[]⟩ ⟨[(0,.sl wk [0] sv),(4,kB false)],[]⟩ (by kernel_rfl) rfl rfl rfl (by kernel_rfl) rfl underlying48 rfl (zcZ _ _ _) (by kernel_rfl) (by kernel_rfl) (fun hx_=>?_) ?_
 ·replace h:=hn1.1 hx_;refine jT rfl (jp ?_);cases h;exact zB lw
 replace h:=hn1.2;refine jF rfl (jb h fun v uS h=>jr (rc 0 rfl (zfI [] 12 [] ([]:(List Int)) rfl zng rfl rfl rfl rfl) (rc 1 rfl (las 12 [] [0] [] zng.el uS (.inl (zrc _))) rf)) ?_);obtain rfl:=(sj h);exact zB (lks [] [(12,2)] lzz)
theorem zim (h:zbN sv=some r):wo 171 [.sl zg [0] sv] [.own zg 27 2 [0] r]:=by
 refine fi 8 func171 fun Xt=>?_
 unfold zbN at h;refine jp ?_;have hn1:=zqY h;refine zsS 1 4 true ⟨[(0,.sl zg [0] sv),(3,.sl zg [0] sv)],[]⟩ ⟨[(0,.sl zg [0] sv),(4,kB true)],[]⟩ ⟨[(0,.sl zg [0] sv),(4,kB false)],[]⟩ (by kernel_rfl) rfl rfl rfl (by kernel_rfl) rfl underlying49 rfl (zcZ _ _ _) (by kernel_rfl) (by kernel_rfl) (fun hx_=>?_) ?_
 ·replace h:=hn1.1 hx_;refine jT rfl (jp ?_);cases h;exact zB lw
 replace h:=hn1.2;refine jF rfl (jb h fun v uS h=>jr (rc 0 rfl (zfI [] 12 [] ([]:(List zb)) rfl zjm rfl rfl rfl rfl) (rc 1 rfl (las 12 [] [0] [0] zjm.el uS (.inr rfl)) rf)) ?_);obtain rfl:=(sj h);exact zB (lks [] [(12,2)] lzz)
end Go.Proofs.YtkgohoggipdokaaGreat

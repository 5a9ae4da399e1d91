/-
  The Go functions do what the plain functions say. No condition.
-/
import Derived.Test.YtkgohoggipdokaaGreatx1T
import Derived.Test.YtkgohoggipdokaaGreatx1Y
set_option autoImplicit true
set_option relaxedAutoImplicit true
namespace Go.Proofs.YtkgohoggipdokaaGreat
open Go.IntKind (i64 u64 u8)
open Tryz
open Go Go.RowKit
set_option linter.unusedVariables false
set_option maxRecDepth 100000
set_option maxHeartbeats 3200000
abbrev zMG:=(mput ([]:(List (Int×zt))) 1 (⟨[105,110,116,51,50],0⟩:zt))
abbrev zMH:=(mput zMG 2 (⟨[105,110,116,54,52],0⟩:zt))
abbrev zMI:=(mput zMH 3 (⟨[117,105,110,116,51,50],0⟩:zt))
abbrev zMJ:=(mput zMI 4 (⟨[117,105,110,116,54,52],0⟩:zt))
abbrev zMK:=(mput zMJ 5 (⟨[115,105,110,116,51,50],0⟩:zt))
abbrev zML:=(mput zMK 6 (⟨[115,105,110,116,54,52],0⟩:zt))
abbrev zMM:=(mput zML 7 (⟨[98,111,111,108],0⟩:zt))
abbrev zMN:=(mput zMM 8 (⟨[101,110,117,109],0⟩:zt))
abbrev zMO:=(mput zMN 9 (⟨[102,105,120,101,100,51,50],5⟩:zt))
abbrev zJx:=(mput zMO 10 (⟨[115,102,105,120,101,100,51,50],5⟩:zt))
abbrev zJy:=(mput zJx 11 (⟨[102,108,111,97,116],5⟩:zt))
abbrev zJz:=(mput zJy 12 (⟨[102,105,120,101,100,54,52],1⟩:zt))
abbrev zJA:=(mput zJz 13 (⟨[115,102,105,120,101,100,54,52],1⟩:zt))
abbrev zFf:=(mput zJA 14 (⟨[100,111,117,98,108,101],1⟩:zt))
theorem zsu (h:zmz=some r):w6 155 [] [.om wY zaJ 2 [] r]:=by
 refine fi 20 func155 fun Xt=>?_
 unfold zmz at h;refine jp (jr (rc 0 rfl (zov (rk:=wY) (rv:=zaJ) 12 rfl) (rc 0 rfl (zab (r:=zaJ) [kS [105,110,116,51,50],kI 0] [] (⟨[105,110,116,51,50],0⟩:zt) rfl zig rfl rfl) (rms (D:=[]) 0 [] 12 [] ([]:(List (Int×zt))) 1 (⟨[105,110,116,51,50],0⟩:zt) [] zga (zfl rfl rfl) (zdQ rfl) (rc 0 rfl (zab (r:=zaJ) [kS [105,110,116,54,52],kI 0] [] (⟨[105,110,116,54,52],0⟩:zt) rfl zig rfl rfl) (rms (D:=[]) 0 [] 12 [] zMG 2 (⟨[105,110,116,54,52],0⟩:zt) [] zga (zfl rfl rfl) (zdQ rfl) (rc 0 rfl (zab (r:=zaJ) [kS [117,105,110,116,51,50],kI 0] [] (⟨[117,105,110,116,51,50],0⟩:zt) rfl zig rfl rfl) (rms (D:=[]) 0 [] 12 [] zMH 3 (⟨[117,105,110,116,51,50],0⟩:zt) [] zga (zfl rfl rfl) (zdQ rfl) (rc 0 rfl (zab (r:=zaJ) [kS [117,105,110,116,54,52],kI 0] [] (⟨[117,105,110,116,54,52],0⟩:zt) rfl zig rfl rfl) (rms (D:=[]) 0 [] 12 [] zMI 4 (⟨[117,105,110,116,54,52],0⟩:zt) [] zga (zfl rfl rfl) (zdQ rfl) (rc 0 rfl (zab (r:=zaJ) [kS [115,105,110,116,51,50],kI 0] [] (⟨[115,105,110,116,51,50],0⟩:zt) rfl zig rfl rfl) (rms (D:=[]) 0 [] 12 [] zMJ 5 (⟨[115,105,110,116,51,50],0⟩:zt) [] zga (zfl rfl rfl) (zdQ rfl) (rc 0 rfl (zab (r:=zaJ) [kS [115,105,110,116,54,52],kI 0] [] (⟨[115,105,110,116,54,52],0⟩:zt) rfl zig rfl rfl) (rms (D:=[]) 0 [] 12 [] zMK 6 (⟨[115,105,110,116,54,52],0⟩:zt) [] zga (zfl rfl rfl) (zdQ rfl) (rc 0 rfl (zab (r:=zaJ) [kS [98,111,111,108],kI 0] [] (⟨[98,111,111,108],0⟩:zt) rfl zig rfl rfl) (rms (D:=[]) 0 [] 12 [] zML 7 (⟨[98,111,111,108],0⟩:zt) [] zga (zfl rfl rfl) (zdQ rfl) (rc 0 rfl (zab (r:=zaJ) [kS [101,110,117,109],kI 0] [] (⟨[101,110,117,109],0⟩:zt) rfl zig rfl rfl) (rms (D:=[]) 0 [] 12 [] zMM 8 (⟨[101,110,117,109],0⟩:zt) [] zga (zfl rfl rfl) (zdQ rfl) (rc 0 rfl (zab (r:=zaJ) [kS [102,105,120,101,100,51,50],kI 5] [] (⟨[102,105,120,101,100,51,50],5⟩:zt) rfl zig rfl rfl) (rms (D:=[]) 0 [] 12 [] zMN 9 (⟨[102,105,120,101,100,51,50],5⟩:zt) [] zga (zfl rfl rfl) (zdQ rfl) (rc 0 rfl (zab (r:=zaJ) [kS [115,102,105,120,101,100,51,50],kI 5] [] (⟨[115,102,105,120,101,100,51,50],5⟩:zt) rfl zig rfl rfl) (rms (D:=[]) 0 [] 12 [] zMO 10 (⟨[115,102,105,120,101,100,51,50],5⟩:zt) [] zga (zfl rfl rfl) (zdQ rfl) (rc 0 rfl (zab (r:=zaJ) [kS [102,108,111,97,116],kI 5] [] (⟨[102,108,111,97,116],5⟩:zt) rfl zig rfl rfl) (rms (D:=[]) 0 [] 12 [] zJx 11 (⟨[102,108,111,97,116],5⟩:zt) [] zga (zfl rfl rfl) (zdQ rfl) (rc 0 rfl (zab (r:=zaJ) [kS [102,105,120,101,100,54,52],kI 1] [] (⟨[102,105,120,101,100,54,52],1⟩:zt) rfl zig rfl rfl) (rms (D:=[]) 0 [] 12 [] zJy 12 (⟨[102,105,120,101,100,54,52],1⟩:zt) [] zga (zfl rfl rfl) (zdQ rfl) (rc 0 rfl (zab (r:=zaJ) [kS [115,102,105,120,101,100,54,52],kI 1] [] (⟨[115,102,105,120,101,100,54,52],1⟩:zt) rfl zig rfl rfl) (rms (D:=[]) 0 [] 12 [] zJz 13 (⟨[115,102,105,120,101,100,54,52],1⟩:zt) [] zga (zfl rfl rfl) (zdQ rfl) (rc 0 rfl (zab (r:=zaJ) [kS [100,111,117,98,108,101],kI 1] [] (⟨[100,111,117,98,108,101],1⟩:zt) rfl zig rfl rfl) (rms (D:=[]) 0 [] 12 [] zJA 14 (⟨[100,111,117,98,108,101],1⟩:zt) [] zga (zfl rfl rfl) (zdQ rfl) (rc 0 rfl (zab (r:=zaJ) [kS [115,116,114,105,110,103],kI 2] [] (⟨[115,116,114,105,110,103],2⟩:zt) rfl zig rfl rfl) (rms (D:=[]) 0 [] 12 [] zFf 15 (⟨[115,116,114,105,110,103],2⟩:zt) [] zga (zfl rfl rfl) (zdQ rfl) (rc 0 rfl (zab (r:=zaJ) [kS [98,121,116,101,115],kI 2] [] (⟨[98,121,116,101,115],2⟩:zt) rfl zig rfl rfl) (rms (D:=[]) 0 [] 12 [] (mput zFf 15 (⟨[115,116,114,105,110,103],2⟩:zt)) 16 (⟨[98,121,116,101,115],2⟩:zt) [] zga (zfl rfl rfl) (zdQ rfl) (rc 0 rfl (zab (r:=zaJ) [kS [109,101,115,115,97,103,101],kI 2] [] (⟨[109,101,115,115,97,103,101],2⟩:zt) rfl zig rfl rfl) (rms (D:=[]) 0 [] 12 [] (mput (mput zFf 15 (⟨[115,116,114,105,110,103],2⟩:zt)) 16 (⟨[98,121,116,101,115],2⟩:zt)) 17 (⟨[109,101,115,115,97,103,101],2⟩:zt) [] zga (zfl rfl rfl) (zdQ rfl) rf))))))))))))))))))))))))))))))))))) ?_);cases h;exact zx (lks [] [(12,2)] lzz)
theorem znA (h:zhe c=some r):w6 187 [k8 c] [kB r]:=by
 refine fi 9 func187 fun Xt=>?_
 unfold zhe at h;refine jp (jg [] [] [(2,kB ((decide (c>=48))&&(decide (c<=57))))] ?_ ?_)
 ·refine (rsl 3 [] 5 (decide (c>=48)) ?_ ?_)<;>intro uS
  · exact (rbl [] 2 (decide (c<=57)) rfl (by grind))
  exact (rbl [] 2 false rfl (by grind))
 cases h;exact zx lzz
theorem ztd (h:zhF c=some r):w6 188 [k8 c] [kB r]:=by
 refine fi 21 func188 fun Xt=>?_
 unfold zhF at h;refine jp (jg [] [] [(2,kB (if (decide (c>=97)) then ((decide (c<=122))|| (if (decide (c>=65)) then ((decide (c<=90))|| (c==95)) else (c==95))) else (if (decide (c>=65)) then ((decide (c<=90))|| (c==95)) else (c==95))))] ?_ ?_)
 ·refine (rsl 3 [] 5 (decide (c>=97)) ?_ ?_)<;>intro uS
  ·refine (rsl 4 [] 9 (decide (c<=122)) ?_ ?_)<;>intro uT
   · exact (rbl [] 2 true rfl (by grind))
   refine (rsl 3 [] 12 (decide (c>=65)) ?_ ?_)<;>intro uW
   ·refine (rsl 5 [] 17 (decide (c<=90)) ?_ ?_)<;>intro uZ
    · exact (rbl [] 2 true rfl (by grind))
    exact (rbl [] 2 (c==95) rfl (by grind))
   exact (rbl [] 2 (c==95) rfl (by grind))
  refine (rsl 7 [] 12 (decide (c>=65)) ?_ ?_)<;>intro u9
  ·refine (rsl 5 [] 17 (decide (c<=90)) ?_ ?_)<;>intro vf
   · exact (rbl [] 2 true rfl (by grind))
   exact (rbl [] 2 (c==95) rfl (by grind))
  exact (rbl [] 2 (c==95) rfl (by grind))
 cases h;exact zx lzz
theorem zte (h:zhG n=some r):w6 157 [kI n] [kB r]:=by
 refine fi 17 func157 fun Xt=>?_
 unfold zhG at h;refine jp (jg [] [] [(2,kB ((decide (n>=1))&&((decide (n<=536870911))&&((decide (n<19000))|| (decide (n>19999))))))] ?_ ?_)
 ·refine (rsl 3 [] 5 (decide (n>=1)) ?_ ?_)<;>intro uS
  ·refine (rsl 4 [] 9 (decide (n<=536870911)) ?_ ?_)<;>intro uT
   ·refine (rsl 3 [] 12 (decide (n<19000)) ?_ ?_)<;>intro uW
    · exact (rbl [] 2 true rfl (by grind))
    exact (rbl [] 2 (decide (n>19999)) rfl (by grind))
   exact (rbl [] 2 false rfl (by grind))
  exact (rbl [] 2 false rfl (by grind))
 cases h;exact zx lzz
theorem zmN (h:zdK sv v=some r):w6 189 [.sl wY [0] sv,kI v] [kI r]:=by
 refine fi 19 func189 fun Xt=>?_
 unfold zdK at h;refine jp (jp (zq (jb h fun q u0 h=>jL u0 [0,1,7] [] (fun s=>[(8,kI s)]) (fun| (.inl v_)=> .x 0 ⟨[],[]⟩| (.inr v_)=> .r ⟨[(4,kI v_)],[]⟩) ?_ lzz ?_)))
 ·clear h;intro v2 o h;unfold zaI at h;refine jp (jI h ?_ ?_)<;>intro uS h
  ·refine zq (jp (jb h fun x va h=>jr (rx 3 [0] zkb.el va rfl rfl rf) (jI h ?_ ?_)))<;>intro uT h
   ·cases h;exact jz'
   refine zS ?_;cases h;exact jy
  cases h;exact zag rfl lzz
 rcases q with u| u2
 ·refine zaA _ rfl ?_;cases h;exact jz
 obtain rfl:=(sj h);exact zfn lzz
theorem zqg (h:zfV c f=some r):w6 160 [.ag [kI c.size,.sl wY [0] c.kinds,.mp zO Rp.bool [0] c.names,.mp zP Rp.bool [0] c.numbers],.rc ze [0] f] [kB r]:=by
 refine fi 21 func160 fun Xt=>?_
 unfold zfV at h;refine jq [11,12] (jp (jI h ?_ ?_))<;>intro uS h
 ·refine jg [] [] [(4,kB ((decide (f.Of>=0))&&(decide (f.Of<c.size))))] ?_ ?_
  ·refine (rsl 4 [] 11 (decide (f.Of>=0)) ?_ ?_)<;>intro uT
   · exact (rbl [] 4 (decide (f.Of<c.size)) rfl (by grind))
   exact (rbl [] 4 false rfl (by grind))
  cases h;exact zx lzz
 cases h;exact jz
theorem zyQ (wy:∀{x:zd} {km:Int} {r:Int},xb x km=some r->w6 55 [.rc zm [0] x,kI km] [kI r]) (h:zjO xb x km=some r):w6 55 [.rc zm [0] x,kI km] [kI r]:=by
 refine fi 40 func55 fun Xt=>?_
 unfold zjO at h;refine jr (rc 0 rfl (lbx 11 [0] (zcv [0] x)) rf) (jp (jp (zq (jb h fun q2 vn h=>jL vn [1,11,12] [] (fun s=>[(5,kI s.1),(13,kI s.2)]) (fun| (.inl v_)=> .x 0 ⟨[(5,kI v_)],[]⟩| (.inr v_)=> .r ⟨[(4,kI v_)],[]⟩) ?_ lzz ?_))))
 ·clear h;intro s o h;obtain ⟨deep,v⟩:=s;replace h:zeE km xb x deep v=some o:=h;unfold zeE at h;refine jp (jI h ?_ ?_)<;>intro uS h
  ·refine zq (jb h fun x2 vh h=>jr (rx 0 [0] zAY.el vh rfl rfl (rc 0 rfl (lde zj [0] x2 zzO) (ral 1 [13] [.ptr 13 0,.rc zj [0] x2] rfl (ziD (r:=zj) (b:=⟨13,51,[kI 0,kN,kN,kN]⟩) (off:=0) (zai [0] x2) rfl sizeOf51 rfl rfl (by rw [zaa]<;>rfl) rfl) rfl rf))) (jp (zq (jb h fun q u0 h=>jL u0 [1,11,12,13,18,19] [] (fun s=>[(5,kI s.1),(20,kI s.2)]) (fun| (.inl v_)=> .X 2 [1,11,12,13] [] [(5,kI v_)] []| (.inr v_)=> .r ⟨[(4,kI v_)],[]⟩) ?_ lzz ?_))))
   ·clear h;intro s o h;obtain ⟨deep3,v3⟩:=s;replace h:zeF km xb x2 deep3 v3=some o:=h;unfold zeF at h;refine jp (jI h ?_ ?_)<;>intro uT h
    ·refine zq (jb h fun x3 vp h=>jr (rx 0 [0] zEE.el vp rfl rfl (rc 0 rfl (lde zm [0] x3 zCz) (ral 1 [15] [.ptr 15 0,.rc zm [0] x3] rfl (ziD (r:=zm) (b:=⟨15,27,[kN,kN]⟩) (off:=0) (zcd [0] x3) rfl sizeOf27 rfl rfl (by rw [zbb]<;>rfl) rfl) rfl rf))) (jp (jI h ?_ ?_)))<;>intro uW h
     ·cases h;exact jz'
     refine jb h fun rv uU h=>jr (rc 4 rfl (lw0 14 call55 (wy uU) (.c (zbH [0] x3) (.k .n))) rf) (jp (jI h ?_ ?_))<;>intro uZ h
     ·cases h;exact jz'
     refine zS ?_;cases h;exact jy
    cases h;exact zag rfl lzz
   rcases q with u| u2
   ·refine zaA _ rfl (zS ?_);cases h;exact jy
   cases h;exact zwE lzz
  cases h;exact zag rfl lzz
 rcases q2 with u3| u4
 ·refine zaA _ rfl (jp ?_);obtain rfl:=(sj h);exact zx lzz
 obtain rfl:=(sj h);exact zfn lzz
theorem zzA (h:zgM vb x km=some r):w6 55 [.rc zm [0] x,kI km] [kI r]:=by
  induction vb generalizing x km r with
  | zero=>exact absurd h nofun
  | succ vb ih=>exact zyQ (fun hh=>ih hh) h
theorem zrm (h:zgA f v=some r):w6 108 [.rc ze [0] f,.ep wY [0] v 0] [kB r]:=by
 refine fi 8 func108 fun Xt=>?_
 unfold zgA at h;refine jq [11] ?_;cases h;exact jz
theorem zlh (h:zfb v=some r):w6 93 [.rc zj [0] v] [kI r]:=by
 refine fi 14 func93 fun Xt=>?_
 unfold zfb at h;refine jr (rc 0 rfl (lbx 11 [0] (zhY [0] v)) rf) ?_;cases h;exact jz
theorem zEq (h:zuu c=some r):w6 230 [k8 c] [kI r.1,.lf (.int .u32 r.2)]:=by
 refine fi 31 func230 fun Xt=>?_
 unfold zuu at h;refine jp (zq (jr (ra 1 [k8 c,kU 7] rfl (zjH rfl rfl) rfl rf) (jI h ?_ ?_)))<;>intro uS h
 ·cases h;exact jz
 refine jr (ra 1 [k8 c,kU 5] rfl (zjH rfl rfl) rfl rf) (jI h ?_ ?_)<;>intro uT h
 ·cases h;exact jz
 refine jr (ra 1 [k8 c,kU 4] rfl (zjH rfl rfl) rfl rf) (jI h ?_ ?_)<;>intro uW h
 ·cases h;exact jz
 refine jr (ra 1 [k8 c,kU 3] rfl (zjH rfl rfl) rfl rf) (jI h ?_ ?_)<;>intro uZ h
 ·cases h;exact jz
 refine zS ?_;cases h;exact jz
theorem zEp (h:zoP wv=some r):w6 231 [.lf (.int .u32 wv)] [kI r]:=by
 refine fi 22 func231 fun Xt=>?_
 unfold zoP at h;refine jp (zq (jr (ra 1 [.lf (.int .u32 wv),kU 7] rfl (zjH rfl rfl) rfl rf) (jI h ?_ ?_)))<;>intro uS h
 ·cases h;exact jz
 refine jr (ra 1 [.lf (.int .u32 wv),kU 11] rfl (zjH rfl rfl) rfl rf) (jI h ?_ ?_)<;>intro uT h
 ·cases h;exact jz
 refine jr (ra 1 [.lf (.int .u32 wv),kU 11] rfl (zjH rfl rfl) rfl rf) (jI h ?_ ?_)<;>intro uW h
 ·cases h;exact jz
 refine jr (ra 1 [.lf (.int .u32 wv),kU 16] rfl (zjH rfl rfl) rfl rf) (jI h ?_ ?_)<;>intro uZ h
 ·cases h;exact jz
 refine jp (jI h ?_ ?_)<;>intro u9 h
 ·cases h;exact jz
 refine zS ?_;cases h;exact jz
theorem zss (h:zkf wv=some r):w6 178 [kU wv] [.lf (.int .u32 r)]:=by
 refine fi 5 func178 fun Xt=>?_
 unfold zkf at h;refine jp ?_;cases h;exact jz
theorem zxe (h:zkM n=some r):w6 176 [.lf (.int .i32 n)] [kU r]:=by
 refine fi 6 func176 fun Xt=>?_
 unfold zkM at h;refine jp ?_;cases h;exact jz
theorem zzp (h:zpp wv=some r):w6 179 [kU wv] [kU r]:=by
 refine fi 5 func179 fun Xt=>?_
 unfold zpp at h;refine jp ?_;cases h;exact jz
theorem zjP (h:zhk b=some r):w6 213 [.sl Rp.byte [0] b] [kU r.1,kI r.2.1,k8 r.2.2]:=by
 refine fi 38 func213 fun Xt=>?_
 unfold zhk at h;refine jp (jb h fun v vi h=>jr (ra 4 [.sl Rp.byte [0] b,kI (if (10:Int)<(b.length:Int) then 10 else (b.length:Int))] rfl (zge none (some (kI (if (10:Int)<(b.length:Int) then 10 else (b.length:Int)))) rfl zbB.el (zce _ _ _) ⟨rfl,rfl⟩ ⟨rfl,rfl⟩ vi) rfl rf) (zq (jb h fun q u0 h=>jL u0 [11,12] [] (fun s=>[(2,kU s.1),(13,kI s.2)]) (fun| (.inl v_)=> .x 0 ⟨[],[]⟩| (.inr v_)=> .r ⟨[(2,kU v_.1),(3,kI v_.2.1),(4,k8 v_.2.2)],[]⟩) ?_ lzz ?_)))
 ·clear h;intro s o h;obtain ⟨wv,v2⟩:=s;replace h:zdr v wv v2=some o:=h;unfold zdr at h;refine jp (jI h ?_ ?_)<;>intro uS h
  ·refine zq (jb h fun x va h=>jr (rx 1 [0] zbB.el va rfl rfl rf) (jg [2,5,6,11,12,13] [] [(23,kB ((v2==9)&&(decide ((x.toNat:Int)>1))))] ?_ ?_))
   ·refine (rsl 3 [] 20 (v2==9) ?_ ?_)<;>intro uT
    · exact (rbl [] 23 (decide ((x.toNat:Int)>1)) rfl (by grind))
    exact (rbl [] 23 false rfl (by grind))
   refine jI h ?_ ?_<;>intro uW h
   ·cases h;exact jz'
   refine jb h fun v4 vH h=>jr (ra 6 [kU (u64.wrap (andI .u8 (x.toNat:Int) 127)),kI (i64.wrap (7*v2))] rfl (zBM rfl vH) rfl rf) (jp (jI h ?_ ?_))<;>intro uZ h
   ·cases h;exact jz'
   refine zS ?_;cases h;exact jy
  cases h;exact zag rfl lzz
 rcases q with u| u2
 ·refine zaA _ rfl ?_;cases h;exact jz
 cases h;exact zfn lzz
theorem zvl (h:ziM wire=some r):w6 211 [kI wire] [kB r]:=by
 refine fi 9 func211 fun Xt=>?_
 unfold ziM at h;refine jp (jp (zq (jp (jI h ?_ ?_))))<;>intro uS h
 ·refine jI h ?_ ?_<;>intro uT h
  ·refine jp ?_;obtain rfl:=(sj h);exact zx lzz
  refine zS (jp ?_);obtain rfl:=(sj h);exact zx lzz
 refine jp (jI h ?_ ?_)<;>intro uW h
 ·refine jI h ?_ ?_<;>intro uZ h
  ·refine jp ?_;obtain rfl:=(sj h);exact zx lzz
  refine zS (jp ?_);obtain rfl:=(sj h);exact zx lzz
 refine jp (jI h ?_ ?_)<;>intro u9 h
 ·refine jI h ?_ ?_<;>intro vf h
  ·refine jp ?_;obtain rfl:=(sj h);exact zx lzz
  refine zS (jp ?_);obtain rfl:=(sj h);exact zx lzz
 refine jp (jI h ?_ ?_)<;>intro vj h
 ·refine jp ?_;obtain rfl:=(sj h);exact zx lzz
 refine zS (jp ?_);obtain rfl:=(sj h);exact zx lzz
theorem zls (h:zhx k=some r):w6 180 [kI k] [kI r.1,k8 r.2]:=by
 refine fi 22 func180 fun Xt=>?_
 unfold zhx at h;refine jp (jp (zq (jp (jb h fun p vt h=>jn (.n ⟨[(4,kI k),(5,kB p)],[]⟩) ?_ ?_))))
 ·replace h:=vt;refine jI h ?_ ?_<;>intro uS h
  ·cases h;exact zae lzz
  refine jp (jI h ?_ ?_)<;>intro uT h
  ·cases h;exact zae lzz
  refine jp (jI h ?_ ?_)<;>intro uW h
  ·cases h;exact zae lzz
  refine jp (jI h ?_ ?_)<;>intro uZ h
  ·cases h;exact zae lzz
  refine jp (jI h ?_ ?_)<;>intro u9 h
  ·cases h;exact zae lzz
  refine jp (jI h ?_ ?_)<;>intro vf h
  ·cases h;exact zae lzz
  refine jp (jI h ?_ ?_)<;>intro vj h
  ·cases h;exact zae lzz
  cases h;exact jy
 refine zek (jI h ?_ ?_)<;>intro vr h
 ·cases h;exact jz
 refine jp (jb h fun p2 vE h=>jn (.n ⟨[(4,kI k),(14,kB p2)],[]⟩) ?_ ?_)
 ·replace h:=vE;refine jI h ?_ ?_<;>intro vu h
  ·cases h;exact zae lzz
  refine jp (jI h ?_ ?_)<;>intro vv h
  ·cases h;exact zae lzz
  cases h;exact jy
 refine zek (jI h ?_ ?_)<;>intro vF h
 ·cases h;exact jz
 refine jp (jI h ?_ ?_)<;>intro vy h
 ·refine jI h ?_ ?_<;>intro vD h
  ·cases h;exact jz
  refine zS ?_;cases h;exact jz
 refine jp (jI h ?_ ?_)<;>intro vG h
 ·refine jI h ?_ ?_<;>intro vA h
  ·cases h;exact jz
  refine zS ?_;cases h;exact jz
 refine jp (jI h ?_ ?_)<;>intro vI h
 ·cases h;exact jz
 refine zS ?_;cases h;exact jz
theorem zvF (h:zoi wv=some r):w6 182 [kU wv] [kI r]:=by
 refine fi 13 func182 fun Xt=>?_
 unfold zoi at h;refine jp (jp (jr (ra 1 [kU wv,kU 7] rfl (zjH rfl rfl) rfl rf) (zq (jb h fun q u0 h=>jL u0 [] [] (fun s=>[(0,kU s.1),(3,kI s.2)]) (fun o=> .x 0 ⟨[(3,kI o)],[]⟩) ?_ lzz ?_))))
 ·clear h;intro s o h;obtain ⟨wv2,n⟩:=s;replace h:zgl wv2 n=some o:=h;unfold zgl at h;refine jp (jI h ?_ ?_)<;>intro uS h
  ·refine zq (jp (zS (jr (ra 1 [kU wv2,kU 7] rfl (zjH rfl rfl) rfl rf) ?_)));cases h;exact zae lzz
  cases h;exact zag rfl lzz
 refine zaA _ rfl (jp ?_);obtain rfl:=(sj h);exact zx lzz
theorem zxc (h:zkK wv n=some r):w6 181 [kU wv,kI n] [.own Rp.byte 5 2 [] r]:=by
 refine fi 26 func181 fun Xt=>?_
 unfold zkK at h;refine jp (jb h fun v vi h=>jr (ra 3 [kI (if (8:Int)<(if n<0 then 0 else n) then 8 else (if n<0 then 0 else n)),kI (if (8:Int)<(if n<0 then 0 else n) then 8 else (if n<0 then 0 else n))] rfl (ztK 12 rfl zbB rfl vi) rfl rf) (jp (zq (jb h fun q u0 h=>jL u0 [0,12] [] (fun s=>[(5,.own Rp.byte 5 12 [] s.1),(13,kI s.2)]) (fun o=> .x 0 ⟨[(5,.own Rp.byte 5 12 [] o)],[]⟩) ?_ lzz ?_))))
 ·clear h;intro s o h;obtain ⟨b,v2⟩:=s;replace h:zdo v wv b v2=some o:=h;unfold zdo at h;refine jp (jI h ?_ ?_)<;>intro uS h
  ·refine zq (jp (jb h fun v3 vk h=>jb h fun x va h=>jb h fun y2 vL h=>jr (ra 5 [kU wv,kI (i64.wrap (8*v2))] rfl (zjH rfl vk) rfl (ra 1 [.own Rp.byte 5 12 [] b,kI v2] rfl (zxQ rfl zbB.el va) rfl (rkl 0 [] ⟨[(0,kU wv),(5,.own Rp.byte 5 12 [] b),(12,kI (v.length:Int)),(13,kI v2),(22,k8 (u8.wrap v3)),(23,.ptr 12 (Int.toNat v2*Rp.byte.size))],[]⟩ (zCd (r:=Rp.byte) (e:=5) (C:=[]) (xs:=b) [5] (Int.toNat v2) 0 x y2 [] rfl rfl rfl rfl rfl rfl sizeOf5 rfl (by kernel_rfl) rfl (ztC va) rfl (zKs vL _) rfl rf)))) (zS ?_)));cases h;exact jy
  cases h;exact zag rfl lzz
 refine zaA _ rfl (jp ?_);obtain rfl:=(sj h);exact zx (lks [] [(12,2)] lzz)
theorem zEi (h:zrp t=some r):w6 184 [.rc zcq [0] t] [kU r]:=by
 refine fi 11 func184 fun Xt=>?_
 unfold zrp at h;refine jq [11] (jr (ra 3 [kU (u64.wrap t.Number),kU 3] rfl (zBM rfl rfl) rfl rf) ?_);cases h;exact zx lzz
theorem zlL (h:zdq n=some r):w6 109 [kN,kI n] [.own Rp.byte 5 2 [] r]:=by
 refine fi 27 func109 fun Xt=>?_
 unfold zdq at h;refine jp (jp (jI h ?_ ?_))<;>intro uS h
 · exact absurd h nofun
 refine jr (ra 2 [kN] rfl (zAo rfl underlying35) rfl rf) (jp (jI h ?_ ?_))<;>intro uT h
 ·refine jb h fun v vi h=>jb h fun v2 vq h=>jr (ra 2 [kN] rfl (zAo rfl underlying35) rfl (ra 0 [kN,kI 0] rfl (zHV rfl zbB.el) rfl (ra 1 [kN,kI (i64.wrap (n - (i64.wrap (0 - 0))))] rfl (zLG 12 rfl underlying3 zbB rfl vi) rfl (ra 2 [.own Rp.byte 5 12 [] v,kI 0] rfl (zGJ rfl zbB.el vq) rfl rf)))) (jp ?_);obtain rfl:=(sj h);exact zx (lks [] [(12,2)] lzz)
 refine jp ?_;cases h;exact zx lw
theorem zhQ (h:zcl wv b=some r):ziI prog 65 [.ptr 800000 0,.sl Rp.byte [0] b] [] [⟨800000,76,(zp 800001 [0] wv)⟩] [800000] [⟨800000,76,(zp 800001 [0,2] r)⟩]:=by
 refine zlO (E:=⟨[(0,.ptr 800000 0)],[⟨800000,76,(zp 800001 [0,2] r)⟩]⟩) 23 [0] [(0,800000)] func65 rfl rfl rfl trivial ⟨⟨rfl,rfl,rfl⟩,trivial⟩ ⟨rfl,trivial⟩ (fun Xt old=>?_);refine zcw ?_;unfold zcl at h;refine jb h fun v vi h=>jr (rc 6 rfl (zey [.sl Rp.byte [0] b] 12 [0] ([b]:(List (List UInt8))) rfl zoV rfl rfl rfl rfl) (rc 0 rfl (lao 800001 [0] 35 12 [0] [0,12] zoV.el vi (.inr rfl)) rf)) (jp ?_);cases h;exact zAi (lks [800000] [(12,2)] lzz)
theorem zkO (h:zgm av b=some r):w6 16 [.sl Rp.byte [0] av,.sl Rp.byte [0] b] [kB r]:=by
 refine fi 10 func16 fun Xt=>?_
 unfold zgm at h;refine jp (jr (ra 1 [.sl Rp.byte [0] av] rfl (znZ rfl underlying35 underlying5 underlying9 (zce _ _ _)) rfl (ra 1 [.sl Rp.byte [0] b] rfl (znZ rfl underlying35 underlying5 underlying9 (zce _ _ _)) rfl rf)) ?_);cases h;exact zx lzz
theorem zsg (h:zgU sv=some r):w6 9 [.sl zg [0] sv] [kB r]:=by
 refine fi 54 func9 fun Xt=>?_
 unfold zgU at h;refine jp (jp (jp (zq (jb h fun q2 vn h=>jL vn [0] [] (fun s=>[(3,kI s.1),(4,kI s.2)]) (fun o=> .x 0 ⟨[(3,kI o)],[]⟩) ?_ lzz ?_))))
 ·clear h;intro s o h;obtain ⟨n,i⟩:=s;replace h:zbX sv n i=some o:=h;unfold zbX at h;refine jp (jI h ?_ ?_)<;>intro uS h
  ·refine zq (jb h fun x va h=>jb h fun x2 vh h=>jd [0,3,4] [] zdc (by exact (lwn 4 (di [0] zhl.el va (lwn 7 (di [0] zhl.el vh (lw_e (lx (ldl zg [0] x2 1 ze x2.Fields) l0))))))) (jp (zq (jb h fun q u0 h=>jL u0 [0,4] [] (fun s=>[(3,kI s.1),(5,kI s.2)]) (fun o=> .X 2 [0,4] [] [(3,kI o)] []) ?_ lzz ?_))))
   ·clear h;intro s o h;obtain ⟨n3,k⟩:=s;replace h:zbY i sv n3 k=some o:=h;unfold zbY at h;refine jb h fun x3 vp h=>jr (rx 3 [0] zhl.el vp rfl rfl (rc 1 rfl (ldl zg [0] x3 1 ze x3.Fields) rf)) (jI h ?_ ?_)<;>intro uT h
    ·refine zq (jb h fun x4 vz h=>jb h fun x5 vB h=>jr (rx 3 [0] zhl.el vz rfl rfl (rc 1 rfl (ldl zg [0] x4 1 ze x4.Fields) (rx 1 [0] zjp.el vB rfl rfl rf))) (zS ?_));cases h;exact jy
    cases h;exact zag rfl lzz
   refine zaA _ rfl (zS ?_);cases h;exact jy
  cases h;exact zag rfl lzz
 refine zaA _ rfl ?_;cases h;exact jz
theorem zkP (h:zeV sv=some r):w6 73 [kS sv] [kB r]:=by
 refine fi 55 func73 fun Xt=>?_
 unfold zeV at h;refine jp (jp (zq (jb h fun q u0 h=>jL u0 [0] [] (fun s=>[(3,kI s)]) (fun| (.inl v_)=> .x 0 ⟨[(0,kS sv)],[]⟩| (.inr v_)=> .r ⟨[(2,kB false)],[]⟩) ?_ lzz ?_)))
 ·clear h;intro i o h;unfold zbM at h;refine jp (jI h ?_ ?_)<;>intro uS h
  ·refine zq (jb h fun c vV h=>jr (ra 2 [kS sv,kI i] rfl (zBL rfl underlying9 vV) rfl rf) (jg [0,3] [] [(5,kB (if (decide ((c.toNat:Int)>=65)) then ((decide ((c.toNat:Int)<=90))|| (if (decide ((c.toNat:Int)>=97)) then ((decide ((c.toNat:Int)<=122))|| (((c.toNat:Int)==95)|| ((decide (i>0))&&((decide ((c.toNat:Int)>=48))&&(decide ((c.toNat:Int)<=57)))))) else (((c.toNat:Int)==95)|| ((decide (i>0))&&((decide ((c.toNat:Int)>=48))&&(decide ((c.toNat:Int)<=57))))))) else (if (decide ((c.toNat:Int)>=97)) then ((decide ((c.toNat:Int)<=122))|| (((c.toNat:Int)==95)|| ((decide (i>0))&&((decide ((c.toNat:Int)>=48))&&(decide ((c.toNat:Int)<=57)))))) else (((c.toNat:Int)==95)|| ((decide (i>0))&&((decide ((c.toNat:Int)>=48))&&(decide ((c.toNat:Int)<=57))))))))] ?_ ?_))
   ·refine (rsl 3 [] 17 (decide ((c.toNat:Int)>=65)) ?_ ?_)<;>intro uT
    ·refine (rsl 4 [] 21 (decide ((c.toNat:Int)<=90)) ?_ ?_)<;>intro uW
     · exact (rbl [] 5 true rfl (by grind))
     refine (rsl 3 [] 24 (decide ((c.toNat:Int)>=97)) ?_ ?_)<;>intro uZ
     ·refine (rsl 5 [] 29 (decide ((c.toNat:Int)<=122)) ?_ ?_)<;>intro u9
      · exact (rbl [] 5 true rfl (by grind))
      refine (rsl 4 [] 33 ((c.toNat:Int)==95) ?_ ?_)<;>intro vf
      · exact (rbl [] 5 true rfl (by grind))
      refine (rsl 3 [] 36 (decide (i>0)) ?_ ?_)<;>intro vj
      ·refine (rsl 4 [] 40 (decide ((c.toNat:Int)>=48)) ?_ ?_)<;>intro vr
       · exact (rbl [] 5 (decide ((c.toNat:Int)<=57)) rfl (by grind))
       exact (rbl [] 5 false rfl (by grind))
      exact (rbl [] 5 false rfl (by grind))
     refine (rsl 9 [] 33 ((c.toNat:Int)==95) ?_ ?_)<;>intro vu
     · exact (rbl [] 5 true rfl (by grind))
     refine (rsl 3 [] 36 (decide (i>0)) ?_ ?_)<;>intro vv
     ·refine (rsl 4 [] 40 (decide ((c.toNat:Int)>=48)) ?_ ?_)<;>intro vF
      · exact (rbl [] 5 (decide ((c.toNat:Int)<=57)) rfl (by grind))
      exact (rbl [] 5 false rfl (by grind))
     exact (rbl [] 5 false rfl (by grind))
    refine (rsl 7 [] 24 (decide ((c.toNat:Int)>=97)) ?_ ?_)<;>intro vy
    ·refine (rsl 5 [] 29 (decide ((c.toNat:Int)<=122)) ?_ ?_)<;>intro vD
     · exact (rbl [] 5 true rfl (by grind))
     refine (rsl 4 [] 33 ((c.toNat:Int)==95) ?_ ?_)<;>intro vG
     · exact (rbl [] 5 true rfl (by grind))
     refine (rsl 3 [] 36 (decide (i>0)) ?_ ?_)<;>intro vA
     ·refine (rsl 4 [] 40 (decide ((c.toNat:Int)>=48)) ?_ ?_)<;>intro vI
      · exact (rbl [] 5 (decide ((c.toNat:Int)<=57)) rfl (by grind))
      exact (rbl [] 5 false rfl (by grind))
     exact (rbl [] 5 false rfl (by grind))
    refine (rsl 9 [] 33 ((c.toNat:Int)==95) ?_ ?_)<;>intro vK
    · exact (rbl [] 5 true rfl (by grind))
    refine (rsl 3 [] 36 (decide (i>0)) ?_ ?_)<;>intro vN
    ·refine (rsl 4 [] 40 (decide ((c.toNat:Int)>=48)) ?_ ?_)<;>intro vO
     · exact (rbl [] 5 (decide ((c.toNat:Int)<=57)) rfl (by grind))
     exact (rbl [] 5 false rfl (by grind))
    exact (rbl [] 5 false rfl (by grind))
   refine jp (jI h ?_ ?_)<;>intro vW h
   ·cases h;exact jz'
   refine zS ?_;cases h;exact jy
  cases h;exact zag rfl lzz
 rcases q with u| u2
 ·refine zaA _ rfl (jg [] [] [(2,kB ((decide ((sv.length:Int)>=1))&&(decide ((sv.length:Int)<=60))))] ?_ ?_)
  ·refine (rsl 4 [] 50 (decide ((sv.length:Int)>=1)) ?_ ?_)<;>intro vX
   · exact (rbl [] 2 (decide ((sv.length:Int)<=60)) rfl (by grind))
   exact (rbl [] 2 false rfl (by grind))
  cases h;exact zx lzz
 obtain rfl:=(sj h);exact zfn lzz
theorem zhS (h:zes k=some r):w6 41 [kI k] [kB r]:=by
 refine fi 9 func41 fun Xt=>?_
 unfold zes at h;refine jp (jg [] [] [(2,kB ((decide (k>=1))&&(decide (k<=17))))] ?_ ?_)
 ·refine (rsl 3 [] 5 (decide (k>=1)) ?_ ?_)<;>intro uS
  · exact (rbl [] 2 (decide (k<=17)) rfl (by grind))
  exact (rbl [] 2 false rfl (by grind))
 cases h;exact zx lzz
theorem zcm (h:zaN k=some r):w6 42 [kI k] [kB r]:=by
 refine fi 9 func42 fun Xt=>?_
 unfold zaN at h;refine jp (jg [] [] [(2,kB ((decide (k>=1))&&(decide (k<=14))))] ?_ ?_)
 ·refine (rsl 3 [] 5 (decide (k>=1)) ?_ ?_)<;>intro uS
  · exact (rbl [] 2 (decide (k<=14)) rfl (by grind))
  exact (rbl [] 2 false rfl (by grind))
 cases h;exact zx lzz
theorem zjV (h:zet m vl=some r):w6 35 [.rc zg [0] m,kI vl] [kI r]:=by
 refine fi 22 func35 fun Xt=>?_
 unfold zet at h;refine jr (ra 0 [.rc zg [0] m] rfl (zhu 11 (zT [0] m) [0] rfl rfl rfl rfl rfl) rfl rf) (jp (zq (jb h fun q u0 h=>jL u0 [1,2] [11] (fun s=>[(5,kI s)]) (fun| (.inl v_)=> .x 0 ⟨[],[]⟩| (.inr v_)=> .r ⟨[(4,kI v_)],[]⟩) ?_ lzz ?_)))
 ·clear h;intro i o h;unfold zbu at h;refine jp (jI h ?_ ?_)<;>intro uS h
  ·refine zq (jb h fun x va h=>jr (rx 3 [0] zjp.el va rfl rfl rf) (jI h ?_ ?_))<;>intro uT h
   ·cases h;exact jz'
   refine zS ?_;cases h;exact jy
  cases h;exact zag rfl lzz
 rcases q with u| u2
 ·refine zaA _ rfl ?_;cases h;exact jz
 obtain rfl:=(sj h);exact zfn lzz
theorem zqE (h:zgv v=some r):w6 40 [.rc zj [0] v] [kI r]:=by
 refine fi 14 func40 fun Xt=>?_
 unfold zgv at h;refine jr (rc 0 rfl (lbx 11 [0] (zhY [0] v)) rf) ?_;cases h;exact jz
theorem zpd (h:zff wv=some r):w6 76 [kU wv] [kI r]:=by
 refine fi 12 func76 fun Xt=>?_
 unfold zff at h;refine jp (jp (jp (jI h ?_ ?_)))<;>intro uS h
 ·refine jp ?_;cases h;exact jz
 cases h;exact jz
theorem zqv (h:zgn n=some r):w6 75 [kI n] [kU r]:=by
 refine fi 12 func75 fun Xt=>?_
 unfold zgn at h;refine jp (jp (jI h ?_ ?_))<;>intro uS h
 ·cases h;exact jz
 cases h;exact jz
theorem zsi (h:zgW rv=some r):w6 161 [kI rv] [.own Rp.byte 5 2 [] r]:=by
 refine fi 68 func161 fun Xt=>?_
 unfold zgW at h;refine jp (jg [0] [] [(16,kB ((decide (rv<0))|| ((decide (rv>1114111))|| ((decide (rv>=55296))&&(decide (rv<=57343))))))] ?_ ?_)
 ·refine (rsl 3 [] 5 (decide (rv<0)) ?_ ?_)<;>intro uS
  · exact (rbl [] 16 true rfl (by grind))
  refine (rsl 4 [] 9 (decide (rv>1114111)) ?_ ?_)<;>intro uT
  · exact (rbl [] 16 true rfl (by grind))
  refine (rsl 3 [] 12 (decide (rv>=55296)) ?_ ?_)<;>intro uW
  · exact (rbl [] 16 (decide (rv<=57343)) rfl (by grind))
  exact (rbl [] 16 false rfl (by grind))
 refine jI h ?_ ?_<;>intro uZ h
 ·refine jp ?_;cases h;exact zx lw
 refine jp (jI h ?_ ?_)<;>intro u9 h
 ·refine jb h fun y vM h=>jr (rc 2 rfl (zy.lw (zey [.lf (.int .u8 (y.toNat:Int))] 12 [] [y] rfl zbB rfl rfl rfl rfl) (.l (zht vM))) rf) ?_;cases h;exact zx (lks [] [(12,2)] lzz)
 refine jp (jI h ?_ ?_)<;>intro vf h
 ·refine jb h fun y2 vL h=>jb h fun y3 wz h=>jr (rc 8 rfl (zy.lw (zey [.lf (.int .u8 (y2.toNat:Int)),.lf (.int .u8 (y3.toNat:Int))] 13 [] [y2,y3] rfl zbB rfl rfl rfl rfl) (.c (zht vL) (.l (zht wz)))) rf) ?_;cases h;exact zx (lks [] [(13,2)] lzz)
 refine jp (jI h ?_ ?_)<;>intro vj h
 ·refine jb h fun y4 wB h=>jb h fun y5 wC h=>jb h fun y6 wD h=>jr (rc 13 rfl (zy.lw (zey [.lf (.int .u8 (y4.toNat:Int)),.lf (.int .u8 (y5.toNat:Int)),.lf (.int .u8 (y6.toNat:Int))] 14 [] [y4,y5,y6] rfl zbB rfl rfl rfl rfl) (.c (zht wB) (.c (zht wC) (.l (zht wD))))) rf) ?_;cases h;exact zx (lks [] [(14,2)] lzz)
 refine jb h fun y7 wE h=>jb h fun y8 wF h=>jb h fun y9 wG h=>jb h fun y10 wH h=>jr (rc 18 rfl (zy.lw (zey [.lf (.int .u8 (y7.toNat:Int)),.lf (.int .u8 (y8.toNat:Int)),.lf (.int .u8 (y9.toNat:Int)),.lf (.int .u8 (y10.toNat:Int))] 15 [] [y7,y8,y9,y10] rfl zbB rfl rfl rfl rfl) (.c (zht wE) (.c (zht wF) (.c (zht wG) (.l (zht wH)))))) rf) ?_;cases h;exact zx (lks [] [(15,2)] lzz)
theorem zdA (h:zbk b kd=some r):w6 87 [.sl Rp.byte [0] b,kI kd] [kU r.1,kI r.2.1,kI r.2.2]:=by
 refine fi 69 func87 fun Xt=>?_
 unfold zbk at h;refine jp (jp (zq (jb h fun q u0 h=>jL u0 [0,1] [] (fun s=>[(7,kI s)]) (fun o=> .X 0 [0,1] [] [(7,kI o)] []) ?_ lzz ?_)))
 ·clear h;intro n o h;unfold zbi at h;refine jb h fun g uV h=>jg [0,1,7] [] [(28,kB g)] ?_ ?_
  ·refine (rsI 7 16 uV ?_ ?_)<;>intro uS uV
   ·refine (rsI 4 20 uV ?_ ?_)<;>intro uT uV
    ·refine jb uV fun x va uV=>?_;cases uV;exact (rx 4 [0] zbB.el va rfl rfl rgg)
    cases uV;exact rgg
   cases uV;exact rgg
  refine jI h ?_ ?_<;>intro uW h
  ·refine zq (jp (zS ?_));cases h;exact zae lzz
  cases h;exact zag rfl lzz
 refine zaA _ rfl (jp (jI h ?_ ?_))<;>intro uZ h
 ·cases h;exact jz
 refine jp (jI h ?_ ?_)<;>intro u9 h
 ·cases h;exact jz
 refine jb h fun g2 vg h=>jg [0,1,7] [] [(49,kB g2)] ?_ ?_
 ·refine (rsI 3 41 vg ?_ ?_)<;>intro vf vg
  ·refine jb vg fun x2 vh vg=>?_;cases vg;exact (rx 4 [0] zbB.el vh rfl rfl rgg)
  cases vg;exact rgg
 refine jI h ?_ ?_<;>intro vj h
 ·cases h;exact jz
 refine jp (jp (zq (jb h fun q2 vn h=>jL vn [0,1,7] [] (fun s=>[(8,kU s.1),(9,kI s.2)]) (fun o=> .x 2 ⟨[(7,kI q),(8,kU o)],[]⟩) ?_ lzz ?_)))
 ·clear h;intro s o h;obtain ⟨wv,i⟩:=s;replace h:zbJ kd b wv i=some o:=h;unfold zbJ at h;refine jp (jI h ?_ ?_)<;>intro vr h
  ·refine zq (jb h fun x3 vp h=>jr (rx 6 [0] zbB.el vp rfl rfl rf) (zS ?_));cases h;exact jy
  cases h;exact zag rfl lzz
 refine zaA _ rfl ?_;cases h;exact jz
theorem zpW (h:zfM vl wire=some r):w6 144 [kI vl,kI wire] [kB r]:=by
 refine fi 27 func144 fun Xt=>?_
 unfold zfM at h;refine jp (jg [] [] [(4,kB ((decide (vl>=1))&&((decide (vl<=536870911))&&((wire==0)|| ((wire==1)|| ((wire==2)|| (wire==5)))))))] ?_ ?_)
 ·refine (rsl 3 [] 7 (decide (vl>=1)) ?_ ?_)<;>intro uS
  ·refine (rsl 4 [] 11 (decide (vl<=536870911)) ?_ ?_)<;>intro uT
   ·refine (rsl 3 [] 14 (wire==0) ?_ ?_)<;>intro uW
    · exact (rbl [] 4 true rfl (by grind))
    refine (rsl 4 [] 18 (wire==1) ?_ ?_)<;>intro uZ
    · exact (rbl [] 4 true rfl (by grind))
    refine (rsl 4 [] 22 (wire==2) ?_ ?_)<;>intro u9
    · exact (rbl [] 4 true rfl (by grind))
    exact (rbl [] 4 (wire==5) rfl (by grind))
   exact (rbl [] 4 false rfl (by grind))
  exact (rbl [] 4 false rfl (by grind))
 cases h;exact zx lzz
theorem zjx (h:zea wv n=some r):w6 80 [kU wv,kI n] [.own Rp.byte 5 2 [] r]:=by
 refine fi 25 func80 fun Xt=>?_
 unfold zea at h;refine jp (jp (jp (zq (jb h fun q u0 h=>jL u0 [1] [] (fun s=>[(0,kU s.1),(5,.own Rp.byte 5 16 [] s.2.1),(6,kI s.2.2)]) (fun o=> .x 0 ⟨[(5,.own Rp.byte 5 16 [] o)],[]⟩) ?_ lw ?_))))
 ·clear h;intro s o h;obtain ⟨wv2,out,i⟩:=s;replace h:zbc n wv2 out i=some o:=h;unfold zbc at h;refine jg [0,1,5,6] [] [(13,kB ((decide (i<n))&&(decide (i<8))))] ?_ ?_
  ·refine (rsl 4 [] 10 (decide (i<n)) ?_ ?_)<;>intro uS
   · exact (rbl [] 13 (decide (i<8)) rfl (by grind))
   exact (rbl [] 13 false rfl (by grind))
  refine jI h ?_ ?_<;>intro uT h
  ·refine zq (jb h fun y vM h=>jb h fun v2 vq h=>jr (rc 4 rfl (zy.lw (zey [.lf (.int .u8 (y.toNat:Int))] 17 [] [y] rfl zbB rfl rfl rfl rfl) (.l (zht vM))) (rc 0 rfl (lao 16 [] 5 17 [] [] zbB.el vq (.inl zcH)) rf)) (jp (zS ?_)));cases h;exact jy
  cases h;exact zag rfl lzz
 refine zaA _ rfl (jp ?_);obtain rfl:=(sj h);exact zx (lks [] [(16,2)] lzz)
theorem zqx (wI:∀{wv:Int} {r:(List UInt8)},xt wv=some r->w6 79 [kU wv] [.own Rp.byte 5 2 [] r]) (h:zfL xt wv=some r):w6 79 [kU wv] [.own Rp.byte 5 2 [] r]:=by
 refine fi 17 func79 fun Xt=>?_
 unfold zfL at h;refine jp (jp (jI h ?_ ?_))<;>intro uS h
 ·refine jb h fun y vM h=>jr (rc 2 rfl (zy.lw (zey [.lf (.int .u8 (y.toNat:Int))] 12 [] [y] rfl zbB rfl rfl rfl rfl) (.l (zht vM))) rf) ?_;cases h;exact zx (lks [] [(12,2)] lzz)
 refine jb h fun y2 vL h=>jb h fun rv uU h=>jb h fun v vi h=>jr (rc 4 rfl (zy.lw (zey [.lf (.int .u8 (y2.toNat:Int))] 13 [] [y2] rfl zbB rfl rfl rfl rfl) (.l (zht vL))) (rl 2 [1] 12 call79 (wI uU) (rc 0 rfl (lao 13 [] 5 14 [] [] zbB.el vi (.inl zcH)) rf))) ?_;obtain rfl:=(sj h);exact zx (lks [] [(13,2)] lzz)
theorem ziC (h:zcN vb wv=some r):w6 79 [kU wv] [.own Rp.byte 5 2 [] r]:=by
  induction vb generalizing wv r with
  | zero=>exact absurd h nofun
  | succ vb ih=>exact zqx (fun hh=>ih hh) h
theorem zgs (h:zda k=some r):w6 47 [kI k] [kI r]:=by
 refine fi 9 func47 fun Xt=>?_
 unfold zda at h;refine jp (jp (jI h ?_ ?_))<;>intro uS h
 ·cases h;exact jz
 refine jp (jI h ?_ ?_)<;>intro uT h
 ·cases h;exact jz
 refine jp (jI h ?_ ?_)<;>intro uW h
 ·cases h;exact jz
 cases h;exact jz
theorem zpe (h:zfg m=some r):w6 51 [.rc zg [0] m] [.own wY 3 2 [] r]:=by
 refine fi 53 func51 fun Xt=>?_
 unfold zfg at h;refine jr (ra 0 [.rc zg [0] m] rfl (zhu 15 (zT [0] m) [0] rfl rfl rfl rfl rfl) rfl rf) (jp (jp (zq (jb h fun q2 vn h=>jL vn [1] [15] (fun s=>[(3,.own wY 3 18 [] s.1),(4,kI s.2)]) (fun o=> .x 0 ⟨[(3,.own wY 3 18 [] o)],[]⟩) ?_ lw ?_))))
 ·clear h;intro s o h;obtain ⟨out,i⟩:=s;replace h:zbd m out i=some o:=h;unfold zbd at h;refine jp (jI h ?_ ?_)<;>intro uS h
  ·refine zq (jp (zq (jb h fun q u0 h=>jL u0 [1,3,4] [15] (fun s=>[(5,kI s)]) (fun o=> .X 2 [1,3,4] [15] [(5,kI o)] []) ?_ lzz ?_)))
   ·clear h;intro k o h;unfold zbe at h;refine jb h fun g uV h=>jn (.N [1,3,4,5] [15] [(35,kB g)] []) ?_ (zek ?_)
    ·rcases zkW uV with ⟨uT,uV⟩| ⟨uT,uV⟩
     ·refine jb uV fun x va uV=>jb uV fun x2 vh uV=>jb uV fun x3 vp uV=>?_;cases uV;exact jd [1,3,4,5,35] [15] zdc (by exact (lwn 4 (dg 17 uT (lwn 4 (ly [.own wY 3 18 [] out,kI k] (zjG rfl zkb.el (zcn _ _ _ _ _) va) rfl (lw_e (di [0] zjp.el vh (lwn 5 (di [0] zjp.el vp l0))))))))) (zae lzz)
     cases uV;exact jd [1,3,4,5,35] [15] zdc (by exact (lwn 4 (dg 17 uT l0))) (zae lzz)
    refine jI h ?_ ?_<;>intro uW h
    ·refine zq (jp (zS ?_));cases h;exact zae lzz
    cases h;exact zag rfl lzz
   refine zaA _ rfl (jb h fun v2 vq h=>jb h fun v3 vk h=>jr (rc 0 rfl (zey [] 20 [] ([]:(List Int)) rfl zkb rfl rfl rfl rfl) (ra 2 [.own wY 3 18 [] out,kI q] rfl (zge none (some (kI q)) rfl zkb.el (zcn _ _ _ _ _) ⟨rfl,rfl⟩ ⟨rfl,rfl⟩ vq) rfl (rc 0 rfl (las 20 [] [18] [] zkb.el vk (.inl (zio _))) rf))) (jb h fun v4 vH h=>jr (rc 2 rfl (zey [kI i] 21 [] ([i]:(List Int)) rfl zkb rfl rfl rfl rfl) (rc 0 rfl (lao 20 [] 3 21 [] [] zkb.el vH (.inl (zio _))) rf)) (jb h fun v5 vJ h=>jb h fun v6 vY h=>jr (ra 3 [.own wY 3 18 [] out,kI q] rfl (zge (some (kI q)) none rfl zkb.el (zcn _ _ _ _ _) ⟨rfl,rfl⟩ ⟨rfl,rfl⟩ vJ) rfl (rc 0 rfl (las 20 [] [18] [] zkb.el vY (.inl (zio _))) rf)) (zS (jp ?_)))));cases h;exact zae (lks [15] [(20,18)] lzz)
  cases h;exact zag rfl lzz
 refine zaA _ rfl (jp ?_);obtain rfl:=(sj h);exact zx (lks [] [(18,2)] lzz)
theorem zqw (h:zgo b=some r):w6 86 [.sl Rp.byte [0] b] [kU r]:=by
 refine fi 28 func86 fun Xt=>?_
 unfold zgo at h;refine jp (jp (jp (zq (jb h fun q u0 h=>jL u0 [0] [] (fun s=>[(3,kU s.1),(4,kU s.2.1),(5,kI s.2.2)]) (fun o=> .x 0 ⟨[(3,kU o)],[]⟩) ?_ lzz ?_))))
 ·clear h;intro s o h;obtain ⟨wv,place,i⟩:=s;replace h:zbI b wv place i=some o:=h;unfold zbI at h;refine jg [0,3,4,5] [] [(13,kB ((decide (i<(b.length:Int)))&&(decide (i<8))))] ?_ ?_
  ·refine (rsl 5 [] 10 (decide (i<(b.length:Int))) ?_ ?_)<;>intro uS
   · exact (rbl [] 13 (decide (i<8)) rfl (by grind))
   exact (rbl [] 13 false rfl (by grind))
  refine jI h ?_ ?_<;>intro uT h
  ·refine zq (jb h fun x va h=>jr (rx 3 [0] zbB.el va rfl rfl rf) (jp (zS ?_)));cases h;exact jy
  cases h;exact zag rfl lzz
 refine zaA _ rfl (jp ?_);obtain rfl:=(sj h);exact zx lzz
theorem zwr (h:zjQ f v=some r):w6 216 [.rc ze [0] f,.ep wY [0] v 0] [kB r]:=by
 refine fi 8 func216 fun Xt=>?_
 unfold zjQ at h;refine jq [11] ?_;cases h;exact jz
theorem zzD (h:zmO b l=some r):w6 128 [.sl Rp.byte [0] b,.sl zh [0] l] [.own Rp.str 9 2 [] r]:=by
 refine fi 32 func128 fun Xt=>?_
 unfold zmO at h;refine jp (jb h fun v vi h=>jr (ra 2 [kI (l.length:Int),kI (l.length:Int)] rfl (ztK 12 rfl znG rfl vi) rfl rf) (jp (zq (jb h fun q u0 h=>jL u0 [0,11,12] [] (fun s=>[(5,.own Rp.str 9 12 [] s.1),(13,kI s.2)]) (fun o=> .x 0 ⟨[(5,.own Rp.str 9 12 [] o)],[]⟩) ?_ lzz ?_))))
 ·clear h;intro s o h;obtain ⟨all,v2⟩:=s;replace h:zeG b l all v2=some o:=h;unfold zeG at h;refine jp (jI h ?_ ?_)<;>intro uS h
  ·refine zq (jb h fun x va h=>jr (rx 1 [0] zog.el va rfl rfl (rc 0 rfl (lde zh [0] x zqn) (rfl' [14]))) (jb h fun v3 vk h=>jb h fun x2 vh h=>jr (ra 9 [.sl Rp.byte [0] b,kI x.Record.At,kI x.Record.To] rfl (zge (some (kI x.Record.At)) (some (kI x.Record.To)) rfl zbB.el (zce _ _ _) ⟨rfl,rfl⟩ ⟨rfl,rfl⟩ vk) rfl (ra 0 [.sl Rp.byte [0] v3] rfl (znZ rfl underlying35 underlying5 underlying9 (zce _ _ _)) rfl (ra 0 [.own Rp.str 9 12 [] all,kI v2] rfl (zxQ rfl znG.el vh) rfl (rkl 0 [] ⟨[(0,.sl Rp.byte [0] b),(5,.own Rp.str 9 12 [] all),(11,.sl zh [0] l),(12,kI (l.length:Int)),(13,kI v2),(28,kS v3),(29,.ptr 12 (Int.toNat v2*Rp.str.size))],[]⟩ (zCd (r:=Rp.str) (e:=9) (C:=[]) (xs:=all) [5] (Int.toNat v2) 0 x2 v3 [] rfl rfl rfl rfl rfl rfl sizeOf9 rfl (by kernel_rfl) rfl (ztC vh) rfl (zwS rfl _) rfl rf))))) (zS ?_)));cases h;exact jy
  cases h;exact zag rfl lzz
 refine zaA _ rfl (jp ?_);obtain rfl:=(sj h);exact zx (lks [] [(12,2)] lzz)
theorem zBk (h:zoj b=some r):w6 229 [.sl Rp.byte [0] b] [kU r]:=by
 refine fi 26 func229 fun Xt=>?_
 unfold zoj at h;refine jp (jp (jb h fun v vi h=>jr (ra 4 [.sl Rp.byte [0] b,kI (if (8:Int)<(b.length:Int) then 8 else (b.length:Int))] rfl (zge none (some (kI (if (8:Int)<(b.length:Int) then 8 else (b.length:Int)))) rfl zbB.el (zce _ _ _) ⟨rfl,rfl⟩ ⟨rfl,rfl⟩ vi) rfl rf) (zq (jb h fun q u0 h=>jL u0 [10,11] [] (fun s=>[(3,kU s.1),(12,kI s.2)]) (fun o=> .x 0 ⟨[(3,kU o)],[]⟩) ?_ lzz ?_))))
 ·clear h;intro s o h;obtain ⟨wv,v2⟩:=s;replace h:zfm v wv v2=some o:=h;unfold zfm at h;refine jp (jI h ?_ ?_)<;>intro uS h
  ·refine zq (jb h fun x va h=>jr (rx 1 [0] zbB.el va rfl rfl rf) (jb h fun v3 vk h=>jr (ra 5 [kU (u64.wrap (x.toNat:Int)),kI (i64.wrap (8*v2))] rfl (zBM rfl vk) rfl rf) (zS ?_)));cases h;exact jy
  cases h;exact zag rfl lzz
 refine zaA _ rfl (jp ?_);obtain rfl:=(sj h);exact zx lzz
theorem zxg (h:znq av b=some r):w6 54 [.sl Rp.byte [0] av,.sl Rp.byte [0] b] [kB r]:=by
 refine fi 10 func54 fun Xt=>?_
 unfold znq at h;refine jp (jr (ra 1 [.sl Rp.byte [0] av] rfl (znZ rfl underlying35 underlying5 underlying9 (zce _ _ _)) rfl (ra 1 [.sl Rp.byte [0] b] rfl (znZ rfl underlying35 underlying5 underlying9 (zce _ _ _)) rfl rf)) ?_);cases h;exact zx lzz
end Go.Proofs.YtkgohoggipdokaaGreat

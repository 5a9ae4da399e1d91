/-
  The Go functions do what the plain functions say. No condition.
-/
import Derived.Test.YtkgohoggipdokaaGreatx1T
import Derived.Test.YtkgohoggipdokaaGreatx1Y
set_option autoImplicit true
set_option relaxedAutoImplicit true
namespace Go.Proofs.YtkgohoggipdokaaGreat
open Go.IntKind (i64 u64 u8)
open Tryz
open Go Go.RowKit
set_option linter.unusedVariables false
set_option maxRecDepth 100000
set_option maxHeartbeats 3200000
abbrev zFy:=(mput ([]:(List (Int×zo))) 1 (⟨[105,110,116,51,50],0⟩:zo))
abbrev zFz:=(mput zFy 2 (⟨[105,110,116,54,52],0⟩:zo))
abbrev zFA:=(mput zFz 3 (⟨[117,105,110,116,51,50],0⟩:zo))
abbrev zFB:=(mput zFA 4 (⟨[117,105,110,116,54,52],0⟩:zo))
abbrev zFC:=(mput zFB 5 (⟨[115,105,110,116,51,50],0⟩:zo))
abbrev zFD:=(mput zFC 6 (⟨[115,105,110,116,54,52],0⟩:zo))
abbrev zFE:=(mput zFD 7 (⟨[98,111,111,108],0⟩:zo))
abbrev zFF:=(mput zFE 8 (⟨[101,110,117,109],0⟩:zo))
abbrev zFG:=(mput zFF 9 (⟨[102,105,120,101,100,51,50],5⟩:zo))
abbrev zCK:=(mput zFG 10 (⟨[115,102,105,120,101,100,51,50],5⟩:zo))
abbrev zCL:=(mput zCK 11 (⟨[102,108,111,97,116],5⟩:zo))
abbrev zCM:=(mput zCL 12 (⟨[102,105,120,101,100,54,52],1⟩:zo))
abbrev zCN:=(mput zCM 13 (⟨[115,102,105,120,101,100,54,52],1⟩:zo))
abbrev zzv:=(mput zCN 14 (⟨[100,111,117,98,108,101],1⟩:zo))
theorem zpf (h:zkp=some r):vT 155 [] [.om vR zan 2 [] r]:=by
 refine fi 20 func155 fun Xt=>?_
 unfold zkp at h;refine jp (jr (rc 0 rfl (zty (rk:=vR) (rv:=zan) 12 rfl) (rc 0 rfl (zai (r:=zan) [kS [105,110,116,51,50],kI 0] [] (⟨[105,110,116,51,50],0⟩:zo) rfl zgF rfl rfl) (rms (D:=[]) 0 [] 12 [] ([]:(List (Int×zo))) 1 (⟨[105,110,116,51,50],0⟩:zo) [] zeU (zfs rfl rfl) (zeE rfl) (rc 0 rfl (zai (r:=zan) [kS [105,110,116,54,52],kI 0] [] (⟨[105,110,116,54,52],0⟩:zo) rfl zgF rfl rfl) (rms (D:=[]) 0 [] 12 [] zFy 2 (⟨[105,110,116,54,52],0⟩:zo) [] zeU (zfs rfl rfl) (zeE rfl) (rc 0 rfl (zai (r:=zan) [kS [117,105,110,116,51,50],kI 0] [] (⟨[117,105,110,116,51,50],0⟩:zo) rfl zgF rfl rfl) (rms (D:=[]) 0 [] 12 [] zFz 3 (⟨[117,105,110,116,51,50],0⟩:zo) [] zeU (zfs rfl rfl) (zeE rfl) (rc 0 rfl (zai (r:=zan) [kS [117,105,110,116,54,52],kI 0] [] (⟨[117,105,110,116,54,52],0⟩:zo) rfl zgF rfl rfl) (rms (D:=[]) 0 [] 12 [] zFA 4 (⟨[117,105,110,116,54,52],0⟩:zo) [] zeU (zfs rfl rfl) (zeE rfl) (rc 0 rfl (zai (r:=zan) [kS [115,105,110,116,51,50],kI 0] [] (⟨[115,105,110,116,51,50],0⟩:zo) rfl zgF rfl rfl) (rms (D:=[]) 0 [] 12 [] zFB 5 (⟨[115,105,110,116,51,50],0⟩:zo) [] zeU (zfs rfl rfl) (zeE rfl) (rc 0 rfl (zai (r:=zan) [kS [115,105,110,116,54,52],kI 0] [] (⟨[115,105,110,116,54,52],0⟩:zo) rfl zgF rfl rfl) (rms (D:=[]) 0 [] 12 [] zFC 6 (⟨[115,105,110,116,54,52],0⟩:zo) [] zeU (zfs rfl rfl) (zeE rfl) (rc 0 rfl (zai (r:=zan) [kS [98,111,111,108],kI 0] [] (⟨[98,111,111,108],0⟩:zo) rfl zgF rfl rfl) (rms (D:=[]) 0 [] 12 [] zFD 7 (⟨[98,111,111,108],0⟩:zo) [] zeU (zfs rfl rfl) (zeE rfl) (rc 0 rfl (zai (r:=zan) [kS [101,110,117,109],kI 0] [] (⟨[101,110,117,109],0⟩:zo) rfl zgF rfl rfl) (rms (D:=[]) 0 [] 12 [] zFE 8 (⟨[101,110,117,109],0⟩:zo) [] zeU (zfs rfl rfl) (zeE rfl) (rc 0 rfl (zai (r:=zan) [kS [102,105,120,101,100,51,50],kI 5] [] (⟨[102,105,120,101,100,51,50],5⟩:zo) rfl zgF rfl rfl) (rms (D:=[]) 0 [] 12 [] zFF 9 (⟨[102,105,120,101,100,51,50],5⟩:zo) [] zeU (zfs rfl rfl) (zeE rfl) (rc 0 rfl (zai (r:=zan) [kS [115,102,105,120,101,100,51,50],kI 5] [] (⟨[115,102,105,120,101,100,51,50],5⟩:zo) rfl zgF rfl rfl) (rms (D:=[]) 0 [] 12 [] zFG 10 (⟨[115,102,105,120,101,100,51,50],5⟩:zo) [] zeU (zfs rfl rfl) (zeE rfl) (rc 0 rfl (zai (r:=zan) [kS [102,108,111,97,116],kI 5] [] (⟨[102,108,111,97,116],5⟩:zo) rfl zgF rfl rfl) (rms (D:=[]) 0 [] 12 [] zCK 11 (⟨[102,108,111,97,116],5⟩:zo) [] zeU (zfs rfl rfl) (zeE rfl) (rc 0 rfl (zai (r:=zan) [kS [102,105,120,101,100,54,52],kI 1] [] (⟨[102,105,120,101,100,54,52],1⟩:zo) rfl zgF rfl rfl) (rms (D:=[]) 0 [] 12 [] zCL 12 (⟨[102,105,120,101,100,54,52],1⟩:zo) [] zeU (zfs rfl rfl) (zeE rfl) (rc 0 rfl (zai (r:=zan) [kS [115,102,105,120,101,100,54,52],kI 1] [] (⟨[115,102,105,120,101,100,54,52],1⟩:zo) rfl zgF rfl rfl) (rms (D:=[]) 0 [] 12 [] zCM 13 (⟨[115,102,105,120,101,100,54,52],1⟩:zo) [] zeU (zfs rfl rfl) (zeE rfl) (rc 0 rfl (zai (r:=zan) [kS [100,111,117,98,108,101],kI 1] [] (⟨[100,111,117,98,108,101],1⟩:zo) rfl zgF rfl rfl) (rms (D:=[]) 0 [] 12 [] zCN 14 (⟨[100,111,117,98,108,101],1⟩:zo) [] zeU (zfs rfl rfl) (zeE rfl) (rc 0 rfl (zai (r:=zan) [kS [115,116,114,105,110,103],kI 2] [] (⟨[115,116,114,105,110,103],2⟩:zo) rfl zgF rfl rfl) (rms (D:=[]) 0 [] 12 [] zzv 15 (⟨[115,116,114,105,110,103],2⟩:zo) [] zeU (zfs rfl rfl) (zeE rfl) (rc 0 rfl (zai (r:=zan) [kS [98,121,116,101,115],kI 2] [] (⟨[98,121,116,101,115],2⟩:zo) rfl zgF rfl rfl) (rms (D:=[]) 0 [] 12 [] (mput zzv 15 (⟨[115,116,114,105,110,103],2⟩:zo)) 16 (⟨[98,121,116,101,115],2⟩:zo) [] zeU (zfs rfl rfl) (zeE rfl) (rc 0 rfl (zai (r:=zan) [kS [109,101,115,115,97,103,101],kI 2] [] (⟨[109,101,115,115,97,103,101],2⟩:zo) rfl zgF rfl rfl) (rms (D:=[]) 0 [] 12 [] (mput (mput zzv 15 (⟨[115,116,114,105,110,103],2⟩:zo)) 16 (⟨[98,121,116,101,115],2⟩:zo)) 17 (⟨[109,101,115,115,97,103,101],2⟩:zo) [] zeU (zfs rfl rfl) (zeE rfl) rf))))))))))))))))))))))))))))))))))) ?_);cases h;exact zz (lks [] [(12,2)] lzz)
theorem zlh (h:zfO c=some r):vT 187 [k8 c] [kB r]:=by
 refine fi 9 func187 fun Xt=>?_
 unfold zfO at h;refine jp (jg [] [] [(2,kB ((decide (c>=48))&&(decide (c<=57))))] ?_ ?_)
 ·refine (rsl 3 [] 5 (decide (c>=48)) ?_ ?_)<;>intro pV
  · exact (rbl [] 2 (decide (c<=57)) rfl (by grind))
  exact (rbl [] 2 false rfl (by grind))
 cases h;exact zz lzz
theorem zpP (h:zgi c=some r):vT 188 [k8 c] [kB r]:=by
 refine fi 21 func188 fun Xt=>?_
 unfold zgi at h;refine jp (jg [] [] [(2,kB (if (decide (c>=97)) then ((decide (c<=122))|| (if (decide (c>=65)) then ((decide (c<=90))|| (c==95)) else (c==95))) else (if (decide (c>=65)) then ((decide (c<=90))|| (c==95)) else (c==95))))] ?_ ?_)
 ·refine (rsl 3 [] 5 (decide (c>=97)) ?_ ?_)<;>intro pV
  ·refine (rsl 4 [] 9 (decide (c<=122)) ?_ ?_)<;>intro pX
   · exact (rbl [] 2 true rfl (by grind))
   refine (rsl 3 [] 12 (decide (c>=65)) ?_ ?_)<;>intro pZ
   ·refine (rsl 5 [] 17 (decide (c<=90)) ?_ ?_)<;>intro p9
    · exact (rbl [] 2 true rfl (by grind))
    exact (rbl [] 2 (c==95) rfl (by grind))
   exact (rbl [] 2 (c==95) rfl (by grind))
  refine (rsl 7 [] 12 (decide (c>=65)) ?_ ?_)<;>intro ug
  ·refine (rsl 5 [] 17 (decide (c<=90)) ?_ ?_)<;>intro uj
   · exact (rbl [] 2 true rfl (by grind))
   exact (rbl [] 2 (c==95) rfl (by grind))
  exact (rbl [] 2 (c==95) rfl (by grind))
 cases h;exact zz lzz
theorem zpQ (h:zgj n=some r):vT 157 [kI n] [kB r]:=by
 refine fi 17 func157 fun Xt=>?_
 unfold zgj at h;refine jp (jg [] [] [(2,kB ((decide (n>=1))&&((decide (n<=536870911))&&((decide (n<19000))|| (decide (n>19999))))))] ?_ ?_)
 ·refine (rsl 3 [] 5 (decide (n>=1)) ?_ ?_)<;>intro pV
  ·refine (rsl 4 [] 9 (decide (n<=536870911)) ?_ ?_)<;>intro pX
   ·refine (rsl 3 [] 12 (decide (n<19000)) ?_ ?_)<;>intro pZ
    · exact (rbl [] 2 true rfl (by grind))
    exact (rbl [] 2 (decide (n>19999)) rfl (by grind))
   exact (rbl [] 2 false rfl (by grind))
  exact (rbl [] 2 false rfl (by grind))
 cases h;exact zz lzz
theorem zkA (h:zdg sv v=some r):vT 189 [.sl vR [0] sv,kI v] [kI r]:=by
 refine fi 19 func189 fun Xt=>?_
 unfold zdg at h;refine jp (jp (zm (jb h fun q ue h=>jL ue [0,1,7] [] (fun s=>[(8,kI s)]) (fun| (.inl v_)=> .x 0 ⟨[],[]⟩| (.inr v_)=> .r ⟨[(4,kI v_)],[]⟩) ?_ lzz ?_)))
 ·clear h;intro v2 o h;unfold zal at h;refine jp (jI h ?_ ?_)<;>intro pV h
  ·refine zm (jp (jb h fun x uk h=>jr (rx 3 [0] zEe.el uk rfl rfl rf) (jI h ?_ ?_)))<;>intro pX h
   ·cases h;exact jz'
   refine zS ?_;cases h;exact jy
  cases h;exact zV rfl lzz
 rcases q with u| u2
 ·refine zat _ rfl ?_;cases h;exact jz
 obtain rfl:=(sj h);exact zes lzz
theorem znq (h:zeR c f=some r):vT 160 [.ag [kI c.size,.sl vR [0] c.kinds,.mp zD Rp.bool [0] c.names,.mp zE Rp.bool [0] c.numbers],.rc ze [0] f] [kB r]:=by
 refine fi 21 func160 fun Xt=>?_
 unfold zeR at h;refine jq [11,12] (jp (jI h ?_ ?_))<;>intro pV h
 ·refine jg [] [] [(4,kB ((decide (f.Of>=0))&&(decide (f.Of<c.size))))] ?_ ?_
  ·refine (rsl 4 [] 11 (decide (f.Of>=0)) ?_ ?_)<;>intro pX
   · exact (rbl [] 4 (decide (f.Of<c.size)) rfl (by grind))
   exact (rbl [] 4 false rfl (by grind))
  cases h;exact zz lzz
 cases h;exact jz
theorem zum (vx:∀{x:zc} {wd:Int} {r:Int},xa x wd=some r->vT 55 [.rc zh [0] x,kI wd] [kI r]) (h:zia xa x wd=some r):vT 55 [.rc zh [0] x,kI wd] [kI r]:=by
 refine fi 40 func55 fun Xt=>?_
 unfold zia at h;refine jr (rc 0 rfl (lbx 11 [0] (zas [0] x)) rf) (jp (jp (zm (jb h fun q2 ur h=>jL ur [1,11,12] [] (fun s=>[(5,kI s.1),(13,kI s.2)]) (fun| (.inl v_)=> .x 0 ⟨[(5,kI v_)],[]⟩| (.inr v_)=> .r ⟨[(4,kI v_)],[]⟩) ?_ lzz ?_))))
 ·clear h;intro s o h;obtain ⟨wh,v⟩:=s;replace h:zdV wd xa x wh v=some o:=h;unfold zdV at h;refine jp (jI h ?_ ?_)<;>intro pV h
  ·refine zm (jb h fun x2 uo h=>jr (rx 0 [0] zwc.el uo rfl rfl (rc 0 rfl (lde zf [0] x2 zsQ) (ral 1 [13] [.ptr 13 0,.rc zf [0] x2] rfl (zkr (r:=zf) (b:=⟨13,51,[kI 0,kN,kN,kN]⟩) (off:=0) (zM [0] x2) rfl sizeOf51 rfl rfl (by rw [zF]<;>rfl) rfl) rfl rf))) (jp (zm (jb h fun q ue h=>jL ue [1,11,12,13,18,19] [] (fun s=>[(5,kI s.1),(20,kI s.2)]) (fun| (.inl v_)=> .X 2 [1,11,12,13] [] [(5,kI v_)] []| (.inr v_)=> .r ⟨[(4,kI v_)],[]⟩) ?_ lzz ?_))))
   ·clear h;intro s o h;obtain ⟨deep3,v3⟩:=s;replace h:zdW wd xa x2 deep3 v3=some o:=h;unfold zdW at h;refine jp (jI h ?_ ?_)<;>intro pX h
    ·refine zm (jb h fun x3 uw h=>jr (rx 0 [0] zyZ.el uw rfl rfl (rc 0 rfl (lde zh [0] x3 zxm) (ral 1 [15] [.ptr 15 0,.rc zh [0] x3] rfl (zkr (r:=zh) (b:=⟨15,27,[kN,kN]⟩) (off:=0) (zbk [0] x3) rfl sizeOf27 rfl rfl (by rw [zaQ]<;>rfl) rfl) rfl rf))) (jp (jI h ?_ ?_)))<;>intro pZ h
     ·cases h;exact jz'
     refine jb h fun rv pY h=>jr (rc 4 rfl (lw0 14 call55 (vx pY) (.c (zZ [0] x3) (.k .n))) rf) (jp (jI h ?_ ?_))<;>intro p9 h
     ·cases h;exact jz'
     refine zS ?_;cases h;exact jy
    cases h;exact zV rfl lzz
   rcases q with u| u2
   ·refine zat _ rfl (zS ?_);cases h;exact jy
   cases h;exact zwx lzz
  cases h;exact zV rfl lzz
 rcases q2 with u3| u4
 ·refine zat _ rfl (jp ?_);obtain rfl:=(sj h);exact zz lzz
 obtain rfl:=(sj h);exact zes lzz
theorem zuQ (h:zfz uh x wd=some r):vT 55 [.rc zh [0] x,kI wd] [kI r]:=by
  induction uh generalizing x wd r with
  | zero=>exact absurd h nofun
  | succ uh ih=>exact zum (fun hh=>ih hh) h
theorem zol (h:zfo f v=some r):vT 108 [.rc ze [0] f,.ep vR [0] v 0] [kB r]:=by
 refine fi 8 func108 fun Xt=>?_
 unfold zfo at h;refine jq [11] ?_;cases h;exact jz
theorem zos (h:zfp v=some r):vT 93 [.rc zf [0] v] [kI r]:=by
 refine fi 14 func93 fun Xt=>?_
 unfold zfp at h;refine jr (rc 0 rfl (lbx 11 [0] (zdl [0] v)) rf) ?_;cases h;exact jz
theorem zyS (h:zqR c=some r):vT 230 [k8 c] [kI r.1,.lf (.int .u32 r.2)]:=by
 refine fi 31 func230 fun Xt=>?_
 unfold zqR at h;refine jp (zm (jr (ra 1 [k8 c,kU 7] rfl (zhU rfl rfl) rfl rf) (jI h ?_ ?_)))<;>intro pV h
 ·cases h;exact jz
 refine jr (ra 1 [k8 c,kU 5] rfl (zhU rfl rfl) rfl rf) (jI h ?_ ?_)<;>intro pX h
 ·cases h;exact jz
 refine jr (ra 1 [k8 c,kU 4] rfl (zhU rfl rfl) rfl rf) (jI h ?_ ?_)<;>intro pZ h
 ·cases h;exact jz
 refine jr (ra 1 [k8 c,kU 3] rfl (zhU rfl rfl) rfl rf) (jI h ?_ ?_)<;>intro p9 h
 ·cases h;exact jz
 refine zS ?_;cases h;exact jz
theorem zyR (h:zmq wv=some r):vT 231 [.lf (.int .u32 wv)] [kI r]:=by
 refine fi 22 func231 fun Xt=>?_
 unfold zmq at h;refine jp (zm (jr (ra 1 [.lf (.int .u32 wv),kU 7] rfl (zhU rfl rfl) rfl rf) (jI h ?_ ?_)))<;>intro pV h
 ·cases h;exact jz
 refine jr (ra 1 [.lf (.int .u32 wv),kU 11] rfl (zhU rfl rfl) rfl rf) (jI h ?_ ?_)<;>intro pX h
 ·cases h;exact jz
 refine jr (ra 1 [.lf (.int .u32 wv),kU 11] rfl (zhU rfl rfl) rfl rf) (jI h ?_ ?_)<;>intro pZ h
 ·cases h;exact jz
 refine jr (ra 1 [.lf (.int .u32 wv),kU 16] rfl (zhU rfl rfl) rfl rf) (jI h ?_ ?_)<;>intro p9 h
 ·cases h;exact jz
 refine jp (jI h ?_ ?_)<;>intro ug h
 ·cases h;exact jz
 refine zS ?_;cases h;exact jz
theorem zpd (h:zil wv=some r):vT 178 [kU wv] [.lf (.int .u32 r)]:=by
 refine fi 5 func178 fun Xt=>?_
 unfold zil at h;refine jp ?_;cases h;exact jz
theorem zsT (h:ziM n=some r):vT 176 [.lf (.int .i32 n)] [kU r]:=by
 refine fi 6 func176 fun Xt=>?_
 unfold ziM at h;refine jp ?_;cases h;exact jz
theorem zuH (h:zmE wv=some r):vT 179 [kU wv] [kU r]:=by
 refine fi 5 func179 fun Xt=>?_
 unfold zmE at h;refine jp ?_;cases h;exact jz
theorem zkD (h:zfW b=some r):vT 213 [.sl Rp.byte [0] b] [kU r.1,kI r.2.1,k8 r.2.2]:=by
 refine fi 38 func213 fun Xt=>?_
 unfold zfW at h;refine jp (jb h fun v uy h=>jr (ra 4 [.sl Rp.byte [0] b,kI (if (10:Int)<(b.length:Int) then 10 else (b.length:Int))] rfl (zrk none (some (kI (if (10:Int)<(b.length:Int) then 10 else (b.length:Int)))) rfl zcd.el (zhm _ _ _) ⟨rfl,rfl⟩ ⟨rfl,rfl⟩ uy) rfl rf) (zm (jb h fun q ue h=>jL ue [11,12] [] (fun s=>[(2,kU s.1),(13,kI s.2)]) (fun| (.inl v_)=> .x 0 ⟨[],[]⟩| (.inr v_)=> .r ⟨[(2,kU v_.1),(3,kI v_.2.1),(4,k8 v_.2.2)],[]⟩) ?_ lzz ?_)))
 ·clear h;intro s o h;obtain ⟨wv,v2⟩:=s;replace h:zcJ v wv v2=some o:=h;unfold zcJ at h;refine jp (jI h ?_ ?_)<;>intro pV h
  ·refine zm (jb h fun x uk h=>jr (rx 1 [0] zcd.el uk rfl rfl rf) (jg [2,5,6,11,12,13] [] [(23,kB ((v2==9)&&(decide ((x.toNat:Int)>1))))] ?_ ?_))
   ·refine (rsl 3 [] 20 (v2==9) ?_ ?_)<;>intro pX
    · exact (rbl [] 23 (decide ((x.toNat:Int)>1)) rfl (by grind))
    exact (rbl [] 23 false rfl (by grind))
   refine jI h ?_ ?_<;>intro pZ h
   ·cases h;exact jz'
   refine jb h fun v4 uR h=>jr (ra 6 [kU (u64.wrap (andI .u8 (x.toNat:Int) 127)),kI (i64.wrap (7*v2))] rfl (zzA rfl uR) rfl rf) (jp (jI h ?_ ?_))<;>intro p9 h
   ·cases h;exact jz'
   refine zS ?_;cases h;exact jy
  cases h;exact zV rfl lzz
 rcases q with u| u2
 ·refine zat _ rfl ?_;cases h;exact jz
 cases h;exact zes lzz
theorem zry (h:zhi wire=some r):vT 211 [kI wire] [kB r]:=by
 refine fi 9 func211 fun Xt=>?_
 unfold zhi at h;refine jp (jp (zm (jp (jI h ?_ ?_))))<;>intro pV h
 ·refine jI h ?_ ?_<;>intro pX h
  ·refine jp ?_;obtain rfl:=(sj h);exact zz lzz
  refine zS (jp ?_);obtain rfl:=(sj h);exact zz lzz
 refine jp (jI h ?_ ?_)<;>intro pZ h
 ·refine jI h ?_ ?_<;>intro p9 h
  ·refine jp ?_;obtain rfl:=(sj h);exact zz lzz
  refine zS (jp ?_);obtain rfl:=(sj h);exact zz lzz
 refine jp (jI h ?_ ?_)<;>intro ug h
 ·refine jI h ?_ ?_<;>intro uj h
  ·refine jp ?_;obtain rfl:=(sj h);exact zz lzz
  refine zS (jp ?_);obtain rfl:=(sj h);exact zz lzz
 refine jp (jI h ?_ ?_)<;>intro up h
 ·refine jp ?_;obtain rfl:=(sj h);exact zz lzz
 refine zS (jp ?_);obtain rfl:=(sj h);exact zz lzz
theorem zmX (h:zgL k=some r):vT 180 [kI k] [kI r.1,k8 r.2]:=by
 refine fi 22 func180 fun Xt=>?_
 unfold zgL at h;refine jp (jp (zm (jp (jb h fun p uL h=>jn (.n ⟨[(4,kI k),(5,kB p)],[]⟩) ?_ ?_))))
 ·replace h:=uL;refine jI h ?_ ?_<;>intro pV h
  ·cases h;exact zX lzz
  refine jp (jI h ?_ ?_)<;>intro pX h
  ·cases h;exact zX lzz
  refine jp (jI h ?_ ?_)<;>intro pZ h
  ·cases h;exact zX lzz
  refine jp (jI h ?_ ?_)<;>intro p9 h
  ·cases h;exact zX lzz
  refine jp (jI h ?_ ?_)<;>intro ug h
  ·cases h;exact zX lzz
  refine jp (jI h ?_ ?_)<;>intro uj h
  ·cases h;exact zX lzz
  refine jp (jI h ?_ ?_)<;>intro up h
  ·cases h;exact zX lzz
  cases h;exact jy
 refine zfv (jI h ?_ ?_)<;>intro uu h
 ·cases h;exact jz
 refine jp (jb h fun p2 uS h=>jn (.n ⟨[(4,kI k),(14,kB p2)],[]⟩) ?_ ?_)
 ·replace h:=uS;refine jI h ?_ ?_<;>intro uv h
  ·cases h;exact zX lzz
  refine jp (jI h ?_ ?_)<;>intro uD h
  ·cases h;exact zX lzz
  cases h;exact jy
 refine zfv (jI h ?_ ?_)<;>intro uM h
 ·cases h;exact jz
 refine jp (jI h ?_ ?_)<;>intro uE h
 ·refine jI h ?_ ?_<;>intro uF h
  ·cases h;exact jz
  refine zS ?_;cases h;exact jz
 refine jp (jI h ?_ ?_)<;>intro uH h
 ·refine jI h ?_ ?_<;>intro uI h
  ·cases h;exact jz
  refine zS ?_;cases h;exact jz
 refine jp (jI h ?_ ?_)<;>intro uO h
 ·cases h;exact jz
 refine zS ?_;cases h;exact jz
theorem zrJ (h:zlN wv=some r):vT 182 [kU wv] [kI r]:=by
 refine fi 13 func182 fun Xt=>?_
 unfold zlN at h;refine jp (jp (jr (ra 1 [kU wv,kU 7] rfl (zhU rfl rfl) rfl rf) (zm (jb h fun q ue h=>jL ue [] [] (fun s=>[(0,kU s.1),(3,kI s.2)]) (fun o=> .x 0 ⟨[(3,kI o)],[]⟩) ?_ lzz ?_))))
 ·clear h;intro s o h;obtain ⟨wv2,n⟩:=s;replace h:zfb wv2 n=some o:=h;unfold zfb at h;refine jp (jI h ?_ ?_)<;>intro pV h
  ·refine zm (jp (zS (jr (ra 1 [kU wv2,kU 7] rfl (zhU rfl rfl) rfl rf) ?_)));cases h;exact zX lzz
  cases h;exact zV rfl lzz
 refine zat _ rfl (jp ?_);obtain rfl:=(sj h);exact zz lzz
theorem zsR (h:ziK wv n=some r):vT 181 [kU wv,kI n] [.own Rp.byte 5 2 [] r]:=by
 refine fi 26 func181 fun Xt=>?_
 unfold ziK at h;refine jp (jb h fun v uy h=>jr (ra 3 [kI (if (8:Int)<(if n<0 then 0 else n) then 8 else (if n<0 then 0 else n)),kI (if (8:Int)<(if n<0 then 0 else n) then 8 else (if n<0 then 0 else n))] rfl (zAC 12 rfl zcd rfl uy) rfl rf) (jp (zm (jb h fun q ue h=>jL ue [0,12] [] (fun s=>[(5,.own Rp.byte 5 12 [] s.1),(13,kI s.2)]) (fun o=> .x 0 ⟨[(5,.own Rp.byte 5 12 [] o)],[]⟩) ?_ lzz ?_))))
 ·clear h;intro s o h;obtain ⟨b,v2⟩:=s;replace h:zcF v wv b v2=some o:=h;unfold zcF at h;refine jp (jI h ?_ ?_)<;>intro pV h
  ·refine zm (jp (jb h fun v3 uC h=>jb h fun x uk h=>jb h fun y2 uT h=>jr (ra 5 [kU wv,kI (i64.wrap (8*v2))] rfl (zhU rfl uC) rfl (ra 1 [.own Rp.byte 5 12 [] b,kI v2] rfl (zDb rfl zcd.el uk) rfl (rkl 0 [] ⟨[(0,kU wv),(5,.own Rp.byte 5 12 [] b),(12,kI (v.length:Int)),(13,kI v2),(22,k8 (u8.wrap v3)),(23,.ptr 12 (Int.toNat v2*Rp.byte.size))],[]⟩ (zGz (r:=Rp.byte) (e:=5) (C:=[]) (xs:=b) [5] (Int.toNat v2) 0 x y2 [] rfl rfl rfl rfl rfl rfl sizeOf5 rfl (by kernel_rfl) rfl (zAl uk) rfl (zDB uT _) rfl rf)))) (zS ?_)));cases h;exact jy
  cases h;exact zV rfl lzz
 refine zat _ rfl (jp ?_);obtain rfl:=(sj h);exact zz (lks [] [(12,2)] lzz)
theorem zyJ (h:zoq t=some r):vT 184 [.rc zbP [0] t] [kU r]:=by
 refine fi 11 func184 fun Xt=>?_
 unfold zoq at h;refine jq [11] (jr (ra 3 [kU (u64.wrap t.Number),kU 3] rfl (zzA rfl rfl) rfl rf) ?_);cases h;exact zz lzz
theorem zjH (h:zcI n=some r):vT 109 [kN,kI n] [.own Rp.byte 5 2 [] r]:=by
 refine fi 27 func109 fun Xt=>?_
 unfold zcI at h;refine jp (jp (jI h ?_ ?_))<;>intro pV h
 · exact absurd h nofun
 refine jr (ra 2 [kN] rfl (zvv rfl underlying35) rfl rf) (jp (jI h ?_ ?_))<;>intro pX h
 ·refine jb h fun v uy h=>jb h fun v2 uA h=>jr (ra 2 [kN] rfl (zvv rfl underlying35) rfl (ra 0 [kN,kI 0] rfl (zBu rfl zcd.el) rfl (ra 1 [kN,kI (i64.wrap (n - (i64.wrap (0 - 0))))] rfl (zEH 12 rfl underlying3 zcd rfl uy) rfl (ra 2 [.own Rp.byte 5 12 [] v,kI 0] rfl (zAz rfl zcd.el uA) rfl rf)))) (jp ?_);obtain rfl:=(sj h);exact zz (lks [] [(12,2)] lzz)
 refine jp ?_;cases h;exact zz lw
theorem zgq (h:zbK wv b=some r):zhc prog 65 [.ptr 800000 0,.sl Rp.byte [0] b] [] [⟨800000,76,(zj 800001 [0] wv)⟩] [800000] [⟨800000,76,(zj 800001 [0,2] r)⟩]:=by
 refine zjJ (E:=⟨[(0,.ptr 800000 0)],[⟨800000,76,(zj 800001 [0,2] r)⟩]⟩) 23 [0] [(0,800000)] func65 rfl rfl rfl trivial ⟨⟨rfl,rfl,rfl⟩,trivial⟩ ⟨rfl,trivial⟩ (fun Xt old=>?_);refine zgf ?_;unfold zbK at h;refine jb h fun v uy h=>jr (rc 6 rfl (zgt [.sl Rp.byte [0] b] 12 [0] ([b]:(List (List UInt8))) rfl zqX rfl rfl rfl rfl) (rc 0 rfl (lao 800001 [0] 35 12 [0] [0,12] zqX.el uy (.inr rfl)) rf)) (jp ?_);cases h;exact zvn (lks [800000] [(12,2)] lzz)
theorem ziR (h:zff av b=some r):vT 16 [.sl Rp.byte [0] av,.sl Rp.byte [0] b] [kB r]:=by
 refine fi 10 func16 fun Xt=>?_
 unfold zff at h;refine jp (jr (ra 1 [.sl Rp.byte [0] av] rfl (zwG rfl underlying35 underlying5 underlying9 (zhm _ _ _)) rfl (ra 1 [.sl Rp.byte [0] b] rfl (zwG rfl underlying35 underlying5 underlying9 (zhm _ _ _)) rfl rf)) ?_);cases h;exact zz lzz
theorem zoV (h:zfH sv=some r):vT 9 [.sl zi [0] sv] [kB r]:=by
 refine fi 54 func9 fun Xt=>?_
 unfold zfH at h;refine jp (jp (jp (zm (jb h fun q2 ur h=>jL ur [0] [] (fun s=>[(3,kI s.1),(4,kI s.2)]) (fun o=> .x 0 ⟨[(3,kI o)],[]⟩) ?_ lzz ?_))))
 ·clear h;intro s o h;obtain ⟨n,i⟩:=s;replace h:zby sv n i=some o:=h;unfold zby at h;refine jp (jI h ?_ ?_)<;>intro pV h
  ·refine zm (jb h fun x uk h=>jb h fun x2 uo h=>jd [0,3,4] [] zcM (by exact (lwn 4 (di [0] zgU.el uk (lwn 7 (di [0] zgU.el uo (lw_e (lx (ldl zi [0] x2 1 ze x2.Fields) l0))))))) (jp (zm (jb h fun q ue h=>jL ue [0,4] [] (fun s=>[(3,kI s.1),(5,kI s.2)]) (fun o=> .X 2 [0,4] [] [(3,kI o)] []) ?_ lzz ?_))))
   ·clear h;intro s o h;obtain ⟨n3,k⟩:=s;replace h:zbz i sv n3 k=some o:=h;unfold zbz at h;refine jb h fun x3 uw h=>jr (rx 3 [0] zgU.el uw rfl rfl (rc 1 rfl (ldl zi [0] x3 1 ze x3.Fields) rf)) (jI h ?_ ?_)<;>intro pX h
    ·refine zm (jb h fun x4 uG h=>jb h fun x5 uJ h=>jr (rx 3 [0] zgU.el uG rfl rfl (rc 1 rfl (ldl zi [0] x4 1 ze x4.Fields) (rx 1 [0] zms.el uJ rfl rfl rf))) (zS ?_));cases h;exact jy
    cases h;exact zV rfl lzz
   refine zat _ rfl (zS ?_);cases h;exact jy
  cases h;exact zV rfl lzz
 refine zat _ rfl ?_;cases h;exact jz
theorem znf (vn:∀{x:zc} {wh:Int} {r:Int},xf x wh=some r->vT 10 [.rc zh [0] x,kI wh] [kI r]) (vo:∀{v:za} {wh:Int} {r:Int},xg v wh=some r->vT 17 [.rc zf [0] v,kI wh] [kI r]) (h:zem xf xg x wh=some r):vT 10 [.rc zh [0] x,kI wh] [kI r]:=by
 refine fi 45 func10 fun Xt=>?_
 unfold zem at h;refine jr (rc 0 rfl (lbx 11 [0] (zas [0] x)) rf) (jp (jI h ?_ ?_))<;>intro pV h
 ·cases h;exact jz
 refine jp (jp (zm (jb h fun q ue h=>jL ue [1,2] [11] (fun s=>[(5,kI s.1),(6,kI s.2)]) (fun o=> .X 0 [1,2] [11] [(5,kI o)] []) ?_ lzz ?_)))
 ·clear h;intro s o h;obtain ⟨n,i⟩:=s;replace h:zbm x n i=some o:=h;unfold zbm at h;refine jp (jI h ?_ ?_)<;>intro pX h
  ·refine zm (jb h fun x2 uo h=>jr (rx 5 [0] zlj.el uo rfl rfl rf) (zS ?_));cases h;exact jy
  cases h;exact zV rfl lzz
 refine zat _ rfl (jp (zm (jb h fun q2 ur h=>jL ur [1,2] [11] (fun s=>[(5,kI s.1),(7,kI s.2)]) (fun| (.inl v_)=> .x 2 ⟨[(5,kI v_)],[]⟩| (.inr v_)=> .r ⟨[(4,kI 5000)],[]⟩) ?_ lzz ?_)))
 ·clear h;intro s o h;obtain ⟨n3,i2⟩:=s;replace h:zaL wh xg x n3 i2=some o:=h;unfold zaL at h;refine jp (jI h ?_ ?_)<;>intro pZ h
  ·refine zm (jb h fun x3 uw h=>jb h fun rv pY h=>jr (rx 4 [0] zwc.el uw rfl rfl (rc 0 rfl (lde zf [0] x3 zsQ) (rl 1 [0] 12 call17 (vo pY) rf))) (jp (jI h ?_ ?_)))<;>intro p9 h
   ·cases h;exact jz'
   refine zS ?_;cases h;exact jy
  cases h;exact zV rfl lzz
 rcases q2 with u| u2
 ·refine zat _ rfl (jp ?_);obtain rfl:=(sj h);exact zz lzz
 cases h;exact zes lzz
theorem zjY (vn:∀{x:zc} {wh:Int} {r:Int},xf x wh=some r->vT 10 [.rc zh [0] x,kI wh] [kI r]) (vo:∀{v:za} {wh:Int} {r:Int},xg v wh=some r->vT 17 [.rc zf [0] v,kI wh] [kI r]) (h:zcG xf xg v wh=some r):vT 17 [.rc zf [0] v,kI wh] [kI r]:=by
 refine fi 48 func17 fun Xt=>?_
 unfold zcG at h;refine jr (rc 0 rfl (lbx 11 [0] (zdl [0] v)) rf) (jp (jp (zm (jb h fun q ue h=>jL ue [1,2] [11] (fun s=>[(5,kI s.1),(6,kI s.2)]) (fun o=> .X 0 [1,2] [11] [(5,kI o)] []) ?_ lzz ?_))))
 ·clear h;intro s o h;obtain ⟨n,k⟩:=s;replace h:zar v n k=some o:=h;unfold zar at h;refine jp (jI h ?_ ?_)<;>intro pV h
  ·refine zm (jb h fun x uk h=>jr (rx 5 [0] zlj.el uk rfl rfl rf) (zS ?_));cases h;exact jy
  cases h;exact zV rfl lzz
 refine zat _ rfl (jp (zm (jb h fun q2 ur h=>jL ur [1,2] [11] (fun s=>[(5,kI s.1),(7,kI s.2)]) (fun| (.inl v_)=> .x 2 ⟨[(5,kI v_)],[]⟩| (.inr v_)=> .r ⟨[(4,kI 5000)],[]⟩) ?_ lzz ?_)))
 ·clear h;intro s o h;obtain ⟨n3,k2⟩:=s;replace h:zah wh xf v n3 k2=some o:=h;unfold zah at h;refine jp (jI h ?_ ?_)<;>intro pX h
  ·refine zm (jb h fun x2 uo h=>jb h fun rv pY h=>jr (rx 4 [0] zyZ.el uo rfl rfl (rc 0 rfl (lde zh [0] x2 zxm) (rl 2 [0] 12 call10 (vn pY) rf))) (jp (jI h ?_ ?_)))<;>intro pZ h
   ·cases h;exact jz'
   refine zS ?_;cases h;exact jy
  cases h;exact zV rfl lzz
 rcases q2 with u| u2
 ·refine zat _ rfl (jp ?_);obtain rfl:=(sj h);exact zz lzz
 cases h;exact zes lzz
theorem zfe (uh:Nat):(∀{x:zc} {wh:Int} {r:Int},zbl uh x wh=some r->vT 10 [.rc zh [0] x,kI wh] [kI r])/\(∀{v:za} {wh:Int} {r:Int},zaG uh v wh=some r->vT 17 [.rc zf [0] v,kI wh] [kI r]):=by
  induction uh with
  | zero=>exact ⟨fun h=>absurd h nofun,fun h=>absurd h nofun⟩
  | succ uh ih=>exact ⟨fun h=>znf (fun hh=>ih.1 hh) (fun hh=>ih.2 hh) h,fun h=>zjY (fun hh=>ih.1 hh) (fun hh=>ih.2 hh) h⟩
theorem znB (h:zbl uh x wh=some r):vT 10 [.rc zh [0] x,kI wh] [kI r]:=(zfe uh).1 h
theorem zoW (vp:∀{x:zc} {r:zc},xh x=some r->vT 11 [.rc zh [0] x] [.ag (zaq 3 [4,0] 5 [] r)]) (vq:∀{v:za} {r:za},xi v=some r->vT 19 [.rc zf [0] v] [.ag (zav [0] [0] 3 [4,0] r)]) (h:zfd xh xi x=some r):vT 11 [.rc zh [0] x] [.ag (zaq 3 [4,0] 5 [] r)]:=by
 refine fj ⟨[(2,.ptr 2 0)],[⟨2,33,(zaq 3 [4,0] 5 [] r)⟩]⟩ 29 func11 ⟨⟨_,_,rfl,rfl,rfl,zzX⟩,trivial⟩ fun Xt=>?_
 unfold zfd at h;refine jr (rc 0 rfl (lbx 21 [0] (zas [0] x)) (rfl' [22])) (jb h fun v uy h=>jr (rc 0 rfl (zgt [] 23 [] ([]:(List Str)) rfl zlj rfl rfl rfl rfl) (rc 2 rfl (las 23 [] [0] [] zlj.el uy (.inl zBC)) (ra 0 [.own Rp.str 9 23 [] v] rfl (zmc [.own Rp.str 9 23 [] v] [kN,.own Rp.str 9 23 [] v] rfl zHq rfl) rfl (rfl' [24])))) (jp (zm (jb h fun q ue h=>jl ue [1,2,3] [21,22] (fun s=>[(4,kI s.1)]) (fun s=>[⟨24,33,[.own zf 55 30 [25,0] s.2,.own Rp.str 9 23 [] v]⟩]) (fun o=> .X 0 [2,3] [22] [] [⟨24,33,[.own zf 55 30 [25,0] o,.own Rp.str 9 23 [] v]⟩]) ?_ lw ?_))))
 ·clear h;intro s o h;obtain ⟨i,f⟩:=s;replace h:zbL xi x i f=some o:=h;unfold zbL at h;refine jp (jI h ?_ ?_)<;>intro pV h
  ·refine zm (jb h fun x2 uo h=>jb h fun rv pY h=>jb h fun v2 uA h=>jd [1,2,3,4] [21,22,24] zcM (by exact (lwn 5 (di [0] zwc.el uo (lx (lde zf [0] x2 zsQ) (lx (lf1 19 (lc0 33 call19 (vq pY))) (lx (zu.lw (lbs1 38 [0,36,37] rv zoA) (.l (zlb zf [0,36,37] rv (zav [0] [0] 36 [37,0] rv) (by rw [zF]<;>rfl) rfl))) (ly [.own zf 55 30 [25,0] f,.own zf 55 38 [0,36,37] ([rv]:(List za))] (zu.withBx (zwF 30 [25,0,38,36,37] rfl zoA.el rfl (zlX _ _ _ _ _) (zlY _ _ _ _ _) uA (.inr rfl) rfl) ⟨24,33,[.own zf 55 30 [25,0] f,.own Rp.str 9 23 [] v]⟩ rfl rfl) rfl (lw_e (ly [.ptr 24 0,.own zf 55 30 [25,0,38,36,37] v2] (zwI (b:=⟨24,33,[.any,.own Rp.str 9 23 [] v]⟩) (off:=0) rfl sizeOf31 rfl rfl rfl) rfl l0))))))))) (zS (jp ?_)));cases h;exact zX (lks [21,22,24] [(38,25),(36,25),(37,25)] lw)
  cases h;exact zV rfl lzz
 refine zat _ rfl (jp ?_);cases h;exact zz (lks [22] [(22,2),(30,3),(23,5),(25,4)] lzz)
theorem zll (vp:∀{x:zc} {r:zc},xh x=some r->vT 11 [.rc zh [0] x] [.ag (zaq 3 [4,0] 5 [] r)]) (vq:∀{v:za} {r:za},xi v=some r->vT 19 [.rc zf [0] v] [.ag (zav [0] [0] 3 [4,0] r)]) (h:zdn xh xi v=some r):vT 19 [.rc zf [0] v] [.ag (zav [0] [0] 3 [4,0] r)]:=by
 refine fj ⟨[(2,.ptr 2 0)],[⟨2,55,(zav [0] [0] 3 [4,0] r)⟩]⟩ 31 func19 ⟨⟨_,_,rfl,rfl,rfl,zzY⟩,trivial⟩ fun Xt=>?_
 unfold zdn at h;refine jr (rc 0 rfl (lbx 21 [0] (zdl [0] v)) (rfl' [22])) (jr (ra 6 [kI v.Number,.sl vS [0] v.Words,.sl Rp.str [0] v.Texts] rfl (zmc [kI v.Number,.sl vS [0] v.Words,.sl Rp.str [0] v.Texts] (zio [0] [0] v) rfl zHs rfl) rfl (rfl' [23])) (jp (zm (jb h fun q ue h=>jl ue [1,2,3] [21,22] (fun s=>[(4,kI s.1)]) (fun s=>[⟨23,55,[kI v.Number,.sl vS [0] v.Words,.sl Rp.str [0] v.Texts,.own zh 33 30 [24,0] s.2]⟩]) (fun o=> .X 0 [2,3] [22] [] [⟨23,55,[kI v.Number,.sl vS [0] v.Words,.sl Rp.str [0] v.Texts,.own zh 33 30 [24,0] o]⟩]) ?_ lw ?_))))
 ·clear h;intro s o h;obtain ⟨i,f⟩:=s;replace h:zaC xh v i f=some o:=h;unfold zaC at h;refine jp (jI h ?_ ?_)<;>intro pV h
  ·refine zm (jb h fun x uk h=>jb h fun rv pY h=>jb h fun v2 uA h=>jd [1,2,3,4] [21,22,23] zcM (by exact (lwn 5 (di [0] zyZ.el uk (lx (lde zh [0] x zxm) (lx (lf1 11 (lc0 34 call11 (vp pY))) (lx (zu.lw (lbs1 40 [37,38,0,39] rv zwd) (.l (zlb zh [37,38,0,39] rv (zaq 37 [38,0] 39 [] rv) (by rw [zaQ]<;>rfl) rfl))) (ly [.own zh 33 30 [24,0] f,.own zh 33 40 [37,38,0,39] ([rv]:(List zc))] (zu.withBx (zwF 30 [24,0,40,37,38,39] rfl zwd.el rfl (zlX _ _ _ _ _) (zlY _ _ _ _ _) uA (.inr rfl) rfl) ⟨23,55,[kI v.Number,.sl vS [0] v.Words,.sl Rp.str [0] v.Texts,.own zh 33 30 [24,0] f]⟩ rfl rfl) rfl (lw_e (ly [.ptr 23 3,.own zh 33 30 [24,0,40,37,38,39] v2] (zwI (b:=⟨23,55,[kI v.Number,.sl vS [0] v.Words,.sl Rp.str [0] v.Texts,.any]⟩) (off:=3) rfl sizeOf42 rfl rfl rfl) rfl l0))))))))) (zS (jp ?_)));cases h;exact zX (lks [21,22,23] [(40,24),(37,24),(38,24),(39,24)] lw)
  cases h;exact zV rfl lzz
 refine zat _ rfl (jp ?_);cases h;exact zz (lks [22] [(22,2),(30,3),(24,4)] lzz)
theorem zfT (uh:Nat):(∀{x:zc} {r:zc},zcK uh x=some r->vT 11 [.rc zh [0] x] [.ag (zaq 3 [4,0] 5 [] r)])/\(∀{v:za} {r:za},zcR uh v=some r->vT 19 [.rc zf [0] v] [.ag (zav [0] [0] 3 [4,0] r)]):=by
  induction uh with
  | zero=>exact ⟨fun h=>absurd h nofun,fun h=>absurd h nofun⟩
  | succ uh ih=>exact ⟨fun h=>zoW (fun hh=>ih.1 hh) (fun hh=>ih.2 hh) h,fun h=>zll (fun hh=>ih.1 hh) (fun hh=>ih.2 hh) h⟩
theorem zpr (h:zcK uh x=some r):vT 11 [.rc zh [0] x] [.ag (zaq 3 [4,0] 5 [] r)]:=(zfT uh).1 h
theorem ziS (h:zeg sv=some r):vT 73 [kS sv] [kB r]:=by
 refine fi 55 func73 fun Xt=>?_
 unfold zeg at h;refine jp (jp (zm (jb h fun q ue h=>jL ue [0] [] (fun s=>[(3,kI s)]) (fun| (.inl v_)=> .x 0 ⟨[(0,kS sv)],[]⟩| (.inr v_)=> .r ⟨[(2,kB false)],[]⟩) ?_ lzz ?_)))
 ·clear h;intro i o h;unfold zbq at h;refine jp (jI h ?_ ?_)<;>intro pV h
  ·refine zm (jb h fun c u9 h=>jr (ra 2 [kS sv,kI i] rfl (zwH rfl underlying9 u9) rfl rf) (jg [0,3] [] [(5,kB (if (decide ((c.toNat:Int)>=65)) then ((decide ((c.toNat:Int)<=90))|| (if (decide ((c.toNat:Int)>=97)) then ((decide ((c.toNat:Int)<=122))|| (((c.toNat:Int)==95)|| ((decide (i>0))&&((decide ((c.toNat:Int)>=48))&&(decide ((c.toNat:Int)<=57)))))) else (((c.toNat:Int)==95)|| ((decide (i>0))&&((decide ((c.toNat:Int)>=48))&&(decide ((c.toNat:Int)<=57))))))) else (if (decide ((c.toNat:Int)>=97)) then ((decide ((c.toNat:Int)<=122))|| (((c.toNat:Int)==95)|| ((decide (i>0))&&((decide ((c.toNat:Int)>=48))&&(decide ((c.toNat:Int)<=57)))))) else (((c.toNat:Int)==95)|| ((decide (i>0))&&((decide ((c.toNat:Int)>=48))&&(decide ((c.toNat:Int)<=57))))))))] ?_ ?_))
   ·refine (rsl 3 [] 17 (decide ((c.toNat:Int)>=65)) ?_ ?_)<;>intro pX
    ·refine (rsl 4 [] 21 (decide ((c.toNat:Int)<=90)) ?_ ?_)<;>intro pZ
     · exact (rbl [] 5 true rfl (by grind))
     refine (rsl 3 [] 24 (decide ((c.toNat:Int)>=97)) ?_ ?_)<;>intro p9
     ·refine (rsl 5 [] 29 (decide ((c.toNat:Int)<=122)) ?_ ?_)<;>intro ug
      · exact (rbl [] 5 true rfl (by grind))
      refine (rsl 4 [] 33 ((c.toNat:Int)==95) ?_ ?_)<;>intro uj
      · exact (rbl [] 5 true rfl (by grind))
      refine (rsl 3 [] 36 (decide (i>0)) ?_ ?_)<;>intro up
      ·refine (rsl 4 [] 40 (decide ((c.toNat:Int)>=48)) ?_ ?_)<;>intro uu
       · exact (rbl [] 5 (decide ((c.toNat:Int)<=57)) rfl (by grind))
       exact (rbl [] 5 false rfl (by grind))
      exact (rbl [] 5 false rfl (by grind))
     refine (rsl 9 [] 33 ((c.toNat:Int)==95) ?_ ?_)<;>intro uv
     · exact (rbl [] 5 true rfl (by grind))
     refine (rsl 3 [] 36 (decide (i>0)) ?_ ?_)<;>intro uD
     ·refine (rsl 4 [] 40 (decide ((c.toNat:Int)>=48)) ?_ ?_)<;>intro uM
      · exact (rbl [] 5 (decide ((c.toNat:Int)<=57)) rfl (by grind))
      exact (rbl [] 5 false rfl (by grind))
     exact (rbl [] 5 false rfl (by grind))
    refine (rsl 7 [] 24 (decide ((c.toNat:Int)>=97)) ?_ ?_)<;>intro uE
    ·refine (rsl 5 [] 29 (decide ((c.toNat:Int)<=122)) ?_ ?_)<;>intro uF
     · exact (rbl [] 5 true rfl (by grind))
     refine (rsl 4 [] 33 ((c.toNat:Int)==95) ?_ ?_)<;>intro uH
     · exact (rbl [] 5 true rfl (by grind))
     refine (rsl 3 [] 36 (decide (i>0)) ?_ ?_)<;>intro uI
     ·refine (rsl 4 [] 40 (decide ((c.toNat:Int)>=48)) ?_ ?_)<;>intro uO
      · exact (rbl [] 5 (decide ((c.toNat:Int)<=57)) rfl (by grind))
      exact (rbl [] 5 false rfl (by grind))
     exact (rbl [] 5 false rfl (by grind))
    refine (rsl 9 [] 33 ((c.toNat:Int)==95) ?_ ?_)<;>intro uP
    · exact (rbl [] 5 true rfl (by grind))
    refine (rsl 3 [] 36 (decide (i>0)) ?_ ?_)<;>intro uQ
    ·refine (rsl 4 [] 40 (decide ((c.toNat:Int)>=48)) ?_ ?_)<;>intro uU
     · exact (rbl [] 5 (decide ((c.toNat:Int)<=57)) rfl (by grind))
     exact (rbl [] 5 false rfl (by grind))
    exact (rbl [] 5 false rfl (by grind))
   refine jp (jI h ?_ ?_)<;>intro va h
   ·cases h;exact jz'
   refine zS ?_;cases h;exact jy
  cases h;exact zV rfl lzz
 rcases q with u| u2
 ·refine zat _ rfl (jg [] [] [(2,kB ((decide ((sv.length:Int)>=1))&&(decide ((sv.length:Int)<=60))))] ?_ ?_)
  ·refine (rsl 4 [] 50 (decide ((sv.length:Int)>=1)) ?_ ?_)<;>intro vb
   · exact (rbl [] 2 (decide ((sv.length:Int)<=60)) rfl (by grind))
   exact (rbl [] 2 false rfl (by grind))
  cases h;exact zz lzz
 obtain rfl:=(sj h);exact zes lzz
theorem zgr (h:zbM k=some r):vT 41 [kI k] [kB r]:=by
 refine fi 9 func41 fun Xt=>?_
 unfold zbM at h;refine jp (jg [] [] [(2,kB ((decide (k>=1))&&(decide (k<=17))))] ?_ ?_)
 ·refine (rsl 3 [] 5 (decide (k>=1)) ?_ ?_)<;>intro pV
  · exact (rbl [] 2 (decide (k<=17)) rfl (by grind))
  exact (rbl [] 2 false rfl (by grind))
 cases h;exact zz lzz
theorem zdp (h:zbA k=some r):vT 42 [kI k] [kB r]:=by
 refine fi 9 func42 fun Xt=>?_
 unfold zbA at h;refine jp (jg [] [] [(2,kB ((decide (k>=1))&&(decide (k<=14))))] ?_ ?_)
 ·refine (rsl 3 [] 5 (decide (k>=1)) ?_ ?_)<;>intro pV
  · exact (rbl [] 2 (decide (k<=14)) rfl (by grind))
  exact (rbl [] 2 false rfl (by grind))
 cases h;exact zz lzz
theorem zgs (h:zcO m ut=some r):vT 35 [.rc zi [0] m,kI ut] [kI r]:=by
 refine fi 22 func35 fun Xt=>?_
 unfold zcO at h;refine jr (ra 0 [.rc zi [0] m] rfl (zjo 11 (zbj [0] m) [0] rfl rfl rfl rfl rfl) rfl rf) (jp (zm (jb h fun q ue h=>jL ue [1,2] [11] (fun s=>[(5,kI s)]) (fun| (.inl v_)=> .x 0 ⟨[],[]⟩| (.inr v_)=> .r ⟨[(4,kI v_)],[]⟩) ?_ lzz ?_)))
 ·clear h;intro i o h;unfold zaY at h;refine jp (jI h ?_ ?_)<;>intro pV h
  ·refine zm (jb h fun x uk h=>jr (rx 3 [0] zms.el uk rfl rfl rf) (jI h ?_ ?_))<;>intro pX h
   ·cases h;exact jz'
   refine zS ?_;cases h;exact jy
  cases h;exact zV rfl lzz
 rcases q with u| u2
 ·refine zat _ rfl ?_;cases h;exact jz
 obtain rfl:=(sj h);exact zes lzz
theorem ziT (h:zco v=some r):vT 40 [.rc zf [0] v] [kI r]:=by
 refine fi 14 func40 fun Xt=>?_
 unfold zco at h;refine jr (rc 0 rfl (lbx 11 [0] (zdl [0] v)) rf) ?_;cases h;exact jz
theorem zmy (h:zen wv=some r):vT 76 [kU wv] [kI r]:=by
 refine fi 12 func76 fun Xt=>?_
 unfold zen at h;refine jp (jp (jp (jI h ?_ ?_)))<;>intro pV h
 ·refine jp ?_;cases h;exact jz
 cases h;exact jz
theorem znC (h:zfg n=some r):vT 75 [kI n] [kU r]:=by
 refine fi 12 func75 fun Xt=>?_
 unfold zfg at h;refine jp (jp (jI h ?_ ?_))<;>intro pV h
 ·cases h;exact jz
 cases h;exact jz
theorem zoY (h:zfJ rv=some r):vT 161 [kI rv] [.own Rp.byte 5 2 [] r]:=by
 refine fi 68 func161 fun Xt=>?_
 unfold zfJ at h;refine jp (jg [0] [] [(16,kB ((decide (rv<0))|| ((decide (rv>1114111))|| ((decide (rv>=55296))&&(decide (rv<=57343))))))] ?_ ?_)
 ·refine (rsl 3 [] 5 (decide (rv<0)) ?_ ?_)<;>intro pV
  · exact (rbl [] 16 true rfl (by grind))
  refine (rsl 4 [] 9 (decide (rv>1114111)) ?_ ?_)<;>intro pX
  · exact (rbl [] 16 true rfl (by grind))
  refine (rsl 3 [] 12 (decide (rv>=55296)) ?_ ?_)<;>intro pZ
  · exact (rbl [] 16 (decide (rv<=57343)) rfl (by grind))
  exact (rbl [] 16 false rfl (by grind))
 refine jI h ?_ ?_<;>intro p9 h
 ·refine jp ?_;cases h;exact zz lw
 refine jp (jI h ?_ ?_)<;>intro ug h
 ·refine jb h fun y uV h=>jr (rc 2 rfl (zu.lw (zgt [.lf (.int .u8 (y.toNat:Int))] 12 [] [y] rfl zcd rfl rfl rfl rfl) (.l (zgb uV))) rf) ?_;cases h;exact zz (lks [] [(12,2)] lzz)
 refine jp (jI h ?_ ?_)<;>intro uj h
 ·refine jb h fun y2 uT h=>jb h fun y3 vy h=>jr (rc 8 rfl (zu.lw (zgt [.lf (.int .u8 (y2.toNat:Int)),.lf (.int .u8 (y3.toNat:Int))] 13 [] [y2,y3] rfl zcd rfl rfl rfl rfl) (.c (zgb uT) (.l (zgb vy)))) rf) ?_;cases h;exact zz (lks [] [(13,2)] lzz)
 refine jp (jI h ?_ ?_)<;>intro up h
 ·refine jb h fun y4 vz h=>jb h fun y5 vA h=>jb h fun y6 vB h=>jr (rc 13 rfl (zu.lw (zgt [.lf (.int .u8 (y4.toNat:Int)),.lf (.int .u8 (y5.toNat:Int)),.lf (.int .u8 (y6.toNat:Int))] 14 [] [y4,y5,y6] rfl zcd rfl rfl rfl rfl) (.c (zgb vz) (.c (zgb vA) (.l (zgb vB))))) rf) ?_;cases h;exact zz (lks [] [(14,2)] lzz)
 refine jb h fun y7 vC h=>jb h fun y8 vD h=>jb h fun y9 vE h=>jb h fun y10 vF h=>jr (rc 18 rfl (zu.lw (zgt [.lf (.int .u8 (y7.toNat:Int)),.lf (.int .u8 (y8.toNat:Int)),.lf (.int .u8 (y9.toNat:Int)),.lf (.int .u8 (y10.toNat:Int))] 15 [] [y7,y8,y9,y10] rfl zcd rfl rfl rfl rfl) (.c (zgb vC) (.c (zgb vD) (.c (zgb vE) (.l (zgb vF)))))) rf) ?_;cases h;exact zz (lks [] [(15,2)] lzz)
theorem zgz (h:zdo b wc=some r):vT 87 [.sl Rp.byte [0] b,kI wc] [kU r.1,kI r.2.1,kI r.2.2]:=by
 refine fi 69 func87 fun Xt=>?_
 unfold zdo at h;refine jp (jp (zm (jb h fun q ue h=>jL ue [0,1] [] (fun s=>[(7,kI s)]) (fun o=> .X 0 [0,1] [] [(7,kI o)] []) ?_ lzz ?_)))
 ·clear h;intro n o h;unfold zaM at h;refine jb h fun g pW h=>jg [0,1,7] [] [(28,kB g)] ?_ ?_
  ·refine (rsI 7 16 pW ?_ ?_)<;>intro pV pW
   ·refine (rsI 4 20 pW ?_ ?_)<;>intro pX pW
    ·refine jb pW fun x uk pW=>?_;cases pW;exact (rx 4 [0] zcd.el uk rfl rfl rgg)
    cases pW;exact rgg
   cases pW;exact rgg
  refine jI h ?_ ?_<;>intro pZ h
  ·refine zm (jp (zS ?_));cases h;exact zX lzz
  cases h;exact zV rfl lzz
 refine zat _ rfl (jp (jI h ?_ ?_))<;>intro p9 h
 ·cases h;exact jz
 refine jp (jI h ?_ ?_)<;>intro ug h
 ·cases h;exact jz
 refine jb h fun g2 uc h=>jg [0,1,7] [] [(49,kB g2)] ?_ ?_
 ·refine (rsI 3 41 uc ?_ ?_)<;>intro uj uc
  ·refine jb uc fun x2 uo uc=>?_;cases uc;exact (rx 4 [0] zcd.el uo rfl rfl rgg)
  cases uc;exact rgg
 refine jI h ?_ ?_<;>intro up h
 ·cases h;exact jz
 refine jp (jp (zm (jb h fun q2 ur h=>jL ur [0,1,7] [] (fun s=>[(8,kU s.1),(9,kI s.2)]) (fun o=> .x 2 ⟨[(7,kI q),(8,kU o)],[]⟩) ?_ lzz ?_)))
 ·clear h;intro s o h;obtain ⟨wv,i⟩:=s;replace h:zbn wc b wv i=some o:=h;unfold zbn at h;refine jp (jI h ?_ ?_)<;>intro uu h
  ·refine zm (jb h fun x3 uw h=>jr (rx 6 [0] zcd.el uw rfl rfl rf) (zS ?_));cases h;exact jy
  cases h;exact zV rfl lzz
 refine zat _ rfl ?_;cases h;exact jz
theorem znh (h:zeJ ut wire=some r):vT 144 [kI ut,kI wire] [kB r]:=by
 refine fi 27 func144 fun Xt=>?_
 unfold zeJ at h;refine jp (jg [] [] [(4,kB ((decide (ut>=1))&&((decide (ut<=536870911))&&((wire==0)|| ((wire==1)|| ((wire==2)|| (wire==5)))))))] ?_ ?_)
 ·refine (rsl 3 [] 7 (decide (ut>=1)) ?_ ?_)<;>intro pV
  ·refine (rsl 4 [] 11 (decide (ut<=536870911)) ?_ ?_)<;>intro pX
   ·refine (rsl 3 [] 14 (wire==0) ?_ ?_)<;>intro pZ
    · exact (rbl [] 4 true rfl (by grind))
    refine (rsl 4 [] 18 (wire==1) ?_ ?_)<;>intro p9
    · exact (rbl [] 4 true rfl (by grind))
    refine (rsl 4 [] 22 (wire==2) ?_ ?_)<;>intro ug
    · exact (rbl [] 4 true rfl (by grind))
    exact (rbl [] 4 (wire==5) rfl (by grind))
   exact (rbl [] 4 false rfl (by grind))
  exact (rbl [] 4 false rfl (by grind))
 cases h;exact zz lzz
theorem zhQ (h:zdA wv n=some r):vT 80 [kU wv,kI n] [.own Rp.byte 5 2 [] r]:=by
 refine fi 25 func80 fun Xt=>?_
 unfold zdA at h;refine jp (jp (jp (zm (jb h fun q ue h=>jL ue [1] [] (fun s=>[(0,kU s.1),(5,.own Rp.byte 5 16 [] s.2.1),(6,kI s.2.2)]) (fun o=> .x 0 ⟨[(5,.own Rp.byte 5 16 [] o)],[]⟩) ?_ lw ?_))))
 ·clear h;intro s o h;obtain ⟨wv2,out,i⟩:=s;replace h:zaH n wv2 out i=some o:=h;unfold zaH at h;refine jg [0,1,5,6] [] [(13,kB ((decide (i<n))&&(decide (i<8))))] ?_ ?_
  ·refine (rsl 4 [] 10 (decide (i<n)) ?_ ?_)<;>intro pV
   · exact (rbl [] 13 (decide (i<8)) rfl (by grind))
   exact (rbl [] 13 false rfl (by grind))
  refine jI h ?_ ?_<;>intro pX h
  ·refine zm (jb h fun y uV h=>jb h fun v2 uA h=>jr (rc 4 rfl (zu.lw (zgt [.lf (.int .u8 (y.toNat:Int))] 17 [] [y] rfl zcd rfl rfl rfl rfl) (.l (zgb uV))) (rc 0 rfl (lao 16 [] 5 17 [] [] zcd.el uA (.inl zcn)) rf)) (jp (zS ?_)));cases h;exact jy
  cases h;exact zV rfl lzz
 refine zat _ rfl (jp ?_);obtain rfl:=(sj h);exact zz (lks [] [(16,2)] lzz)
theorem znD (vG:∀{wv:Int} {r:(List UInt8)},xr wv=some r->vT 79 [kU wv] [.own Rp.byte 5 2 [] r]) (h:zeI xr wv=some r):vT 79 [kU wv] [.own Rp.byte 5 2 [] r]:=by
 refine fi 17 func79 fun Xt=>?_
 unfold zeI at h;refine jp (jp (jI h ?_ ?_))<;>intro pV h
 ·refine jb h fun y uV h=>jr (rc 2 rfl (zu.lw (zgt [.lf (.int .u8 (y.toNat:Int))] 12 [] [y] rfl zcd rfl rfl rfl rfl) (.l (zgb uV))) rf) ?_;cases h;exact zz (lks [] [(12,2)] lzz)
 refine jb h fun y2 uT h=>jb h fun rv pY h=>jb h fun v uy h=>jr (rc 4 rfl (zu.lw (zgt [.lf (.int .u8 (y2.toNat:Int))] 13 [] [y2] rfl zcd rfl rfl rfl rfl) (.l (zgb uT))) (rl 2 [1] 12 call79 (vG pY) (rc 0 rfl (lao 13 [] 5 14 [] [] zcd.el uy (.inl zcn)) rf))) ?_;obtain rfl:=(sj h);exact zz (lks [] [(13,2)] lzz)
theorem zgZ (h:zcf uh wv=some r):vT 79 [kU wv] [.own Rp.byte 5 2 [] r]:=by
  induction uh generalizing wv r with
  | zero=>exact absurd h nofun
  | succ uh ih=>exact znD (fun hh=>ih hh) h
theorem znH (h:zfk k=some r):vT 47 [kI k] [kI r]:=by
 refine fi 9 func47 fun Xt=>?_
 unfold zfk at h;refine jp (jp (jI h ?_ ?_))<;>intro pV h
 ·cases h;exact jz
 refine jp (jI h ?_ ?_)<;>intro pX h
 ·cases h;exact jz
 refine jp (jI h ?_ ?_)<;>intro pZ h
 ·cases h;exact jz
 cases h;exact jz
end Go.Proofs.YtkgohoggipdokaaGreat

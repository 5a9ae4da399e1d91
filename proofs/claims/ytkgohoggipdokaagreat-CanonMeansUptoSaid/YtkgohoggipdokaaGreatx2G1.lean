/-
  The Go functions do what the plain functions say. No condition.
-/
import Derived.Test.YtkgohoggipdokaaGreatx2T
import Derived.Test.YtkgohoggipdokaaGreatx2Y
set_option autoImplicit true
set_option relaxedAutoImplicit true
namespace Go.Proofs.YtkgohoggipdokaaGreat
open Go.IntKind (i64 u64 u8)
open Tryz
open Go Go.RowKit
set_option linter.unusedVariables false
set_option maxRecDepth 100000
set_option maxHeartbeats 3200000
abbrev zIE:=(mput ([]:(List (Int×zr))) 1 (⟨[105,110,116,51,50],0⟩:zr))
abbrev zIF:=(mput zIE 2 (⟨[105,110,116,54,52],0⟩:zr))
abbrev zIG:=(mput zIF 3 (⟨[117,105,110,116,51,50],0⟩:zr))
abbrev zIH:=(mput zIG 4 (⟨[117,105,110,116,54,52],0⟩:zr))
abbrev zII:=(mput zIH 5 (⟨[115,105,110,116,51,50],0⟩:zr))
abbrev zIJ:=(mput zII 6 (⟨[115,105,110,116,54,52],0⟩:zr))
abbrev zIK:=(mput zIJ 7 (⟨[98,111,111,108],0⟩:zr))
abbrev zIL:=(mput zIK 8 (⟨[101,110,117,109],0⟩:zr))
abbrev zIM:=(mput zIL 9 (⟨[102,105,120,101,100,51,50],5⟩:zr))
abbrev zFE:=(mput zIM 10 (⟨[115,102,105,120,101,100,51,50],5⟩:zr))
abbrev zFF:=(mput zFE 11 (⟨[102,108,111,97,116],5⟩:zr))
abbrev zFG:=(mput zFF 12 (⟨[102,105,120,101,100,54,52],1⟩:zr))
abbrev zFH:=(mput zFG 13 (⟨[115,102,105,120,101,100,54,52],1⟩:zr))
abbrev zBo:=(mput zFH 14 (⟨[100,111,117,98,108,101],1⟩:zr))
theorem zpa (h:zkp=some r):vW 155 [] [.om vU zaK 2 [] r]:=by
 refine fi 20 func155 fun Xt=>?_
 unfold zkp at h;refine jp (jr (rc 0 rfl (zlJ (rk:=vU) (rv:=zaK) 12 rfl) (rc 0 rfl (zam (r:=zaK) [kS [105,110,116,51,50],kI 0] [] (⟨[105,110,116,51,50],0⟩:zr) rfl zgi rfl rfl) (rms (D:=[]) 0 [] 12 [] ([]:(List (Int×zr))) 1 (⟨[105,110,116,51,50],0⟩:zr) [] zeq (zdT rfl rfl) (zcL rfl) (rc 0 rfl (zam (r:=zaK) [kS [105,110,116,54,52],kI 0] [] (⟨[105,110,116,54,52],0⟩:zr) rfl zgi rfl rfl) (rms (D:=[]) 0 [] 12 [] zIE 2 (⟨[105,110,116,54,52],0⟩:zr) [] zeq (zdT rfl rfl) (zcL rfl) (rc 0 rfl (zam (r:=zaK) [kS [117,105,110,116,51,50],kI 0] [] (⟨[117,105,110,116,51,50],0⟩:zr) rfl zgi rfl rfl) (rms (D:=[]) 0 [] 12 [] zIF 3 (⟨[117,105,110,116,51,50],0⟩:zr) [] zeq (zdT rfl rfl) (zcL rfl) (rc 0 rfl (zam (r:=zaK) [kS [117,105,110,116,54,52],kI 0] [] (⟨[117,105,110,116,54,52],0⟩:zr) rfl zgi rfl rfl) (rms (D:=[]) 0 [] 12 [] zIG 4 (⟨[117,105,110,116,54,52],0⟩:zr) [] zeq (zdT rfl rfl) (zcL rfl) (rc 0 rfl (zam (r:=zaK) [kS [115,105,110,116,51,50],kI 0] [] (⟨[115,105,110,116,51,50],0⟩:zr) rfl zgi rfl rfl) (rms (D:=[]) 0 [] 12 [] zIH 5 (⟨[115,105,110,116,51,50],0⟩:zr) [] zeq (zdT rfl rfl) (zcL rfl) (rc 0 rfl (zam (r:=zaK) [kS [115,105,110,116,54,52],kI 0] [] (⟨[115,105,110,116,54,52],0⟩:zr) rfl zgi rfl rfl) (rms (D:=[]) 0 [] 12 [] zII 6 (⟨[115,105,110,116,54,52],0⟩:zr) [] zeq (zdT rfl rfl) (zcL rfl) (rc 0 rfl (zam (r:=zaK) [kS [98,111,111,108],kI 0] [] (⟨[98,111,111,108],0⟩:zr) rfl zgi rfl rfl) (rms (D:=[]) 0 [] 12 [] zIJ 7 (⟨[98,111,111,108],0⟩:zr) [] zeq (zdT rfl rfl) (zcL rfl) (rc 0 rfl (zam (r:=zaK) [kS [101,110,117,109],kI 0] [] (⟨[101,110,117,109],0⟩:zr) rfl zgi rfl rfl) (rms (D:=[]) 0 [] 12 [] zIK 8 (⟨[101,110,117,109],0⟩:zr) [] zeq (zdT rfl rfl) (zcL rfl) (rc 0 rfl (zam (r:=zaK) [kS [102,105,120,101,100,51,50],kI 5] [] (⟨[102,105,120,101,100,51,50],5⟩:zr) rfl zgi rfl rfl) (rms (D:=[]) 0 [] 12 [] zIL 9 (⟨[102,105,120,101,100,51,50],5⟩:zr) [] zeq (zdT rfl rfl) (zcL rfl) (rc 0 rfl (zam (r:=zaK) [kS [115,102,105,120,101,100,51,50],kI 5] [] (⟨[115,102,105,120,101,100,51,50],5⟩:zr) rfl zgi rfl rfl) (rms (D:=[]) 0 [] 12 [] zIM 10 (⟨[115,102,105,120,101,100,51,50],5⟩:zr) [] zeq (zdT rfl rfl) (zcL rfl) (rc 0 rfl (zam (r:=zaK) [kS [102,108,111,97,116],kI 5] [] (⟨[102,108,111,97,116],5⟩:zr) rfl zgi rfl rfl) (rms (D:=[]) 0 [] 12 [] zFE 11 (⟨[102,108,111,97,116],5⟩:zr) [] zeq (zdT rfl rfl) (zcL rfl) (rc 0 rfl (zam (r:=zaK) [kS [102,105,120,101,100,54,52],kI 1] [] (⟨[102,105,120,101,100,54,52],1⟩:zr) rfl zgi rfl rfl) (rms (D:=[]) 0 [] 12 [] zFF 12 (⟨[102,105,120,101,100,54,52],1⟩:zr) [] zeq (zdT rfl rfl) (zcL rfl) (rc 0 rfl (zam (r:=zaK) [kS [115,102,105,120,101,100,54,52],kI 1] [] (⟨[115,102,105,120,101,100,54,52],1⟩:zr) rfl zgi rfl rfl) (rms (D:=[]) 0 [] 12 [] zFG 13 (⟨[115,102,105,120,101,100,54,52],1⟩:zr) [] zeq (zdT rfl rfl) (zcL rfl) (rc 0 rfl (zam (r:=zaK) [kS [100,111,117,98,108,101],kI 1] [] (⟨[100,111,117,98,108,101],1⟩:zr) rfl zgi rfl rfl) (rms (D:=[]) 0 [] 12 [] zFH 14 (⟨[100,111,117,98,108,101],1⟩:zr) [] zeq (zdT rfl rfl) (zcL rfl) (rc 0 rfl (zam (r:=zaK) [kS [115,116,114,105,110,103],kI 2] [] (⟨[115,116,114,105,110,103],2⟩:zr) rfl zgi rfl rfl) (rms (D:=[]) 0 [] 12 [] zBo 15 (⟨[115,116,114,105,110,103],2⟩:zr) [] zeq (zdT rfl rfl) (zcL rfl) (rc 0 rfl (zam (r:=zaK) [kS [98,121,116,101,115],kI 2] [] (⟨[98,121,116,101,115],2⟩:zr) rfl zgi rfl rfl) (rms (D:=[]) 0 [] 12 [] (mput zBo 15 (⟨[115,116,114,105,110,103],2⟩:zr)) 16 (⟨[98,121,116,101,115],2⟩:zr) [] zeq (zdT rfl rfl) (zcL rfl) (rc 0 rfl (zam (r:=zaK) [kS [109,101,115,115,97,103,101],kI 2] [] (⟨[109,101,115,115,97,103,101],2⟩:zr) rfl zgi rfl rfl) (rms (D:=[]) 0 [] 12 [] (mput (mput zBo 15 (⟨[115,116,114,105,110,103],2⟩:zr)) 16 (⟨[98,121,116,101,115],2⟩:zr)) 17 (⟨[109,101,115,115,97,103,101],2⟩:zr) [] zeq (zdT rfl rfl) (zcL rfl) rf))))))))))))))))))))))))))))))))))) ?_);cases h;exact zH (lks [] [(12,2)] lzz)
theorem zlb (h:zfi c=some r):vW 187 [k8 c] [kB r]:=by
 refine fi 9 func187 fun Xt=>?_
 unfold zfi at h;refine jp (jg [] [] [(2,kB ((decide (c>=48))&&(decide (c<=57))))] ?_ ?_)
 ·refine (rsl 3 [] 5 (decide (c>=48)) ?_ ?_)<;>intro ur
  · exact (rbl [] 2 (decide (c<=57)) rfl (by grind))
  exact (rbl [] 2 false rfl (by grind))
 cases h;exact zH lzz
theorem zpG (h:zfJ c=some r):vW 188 [k8 c] [kB r]:=by
 refine fi 21 func188 fun Xt=>?_
 unfold zfJ at h;refine jp (jg [] [] [(2,kB (if (decide (c>=97)) then ((decide (c<=122))|| (if (decide (c>=65)) then ((decide (c<=90))|| (c==95)) else (c==95))) else (if (decide (c>=65)) then ((decide (c<=90))|| (c==95)) else (c==95))))] ?_ ?_)
 ·refine (rsl 3 [] 5 (decide (c>=97)) ?_ ?_)<;>intro ur
  ·refine (rsl 4 [] 9 (decide (c<=122)) ?_ ?_)<;>intro uv
   · exact (rbl [] 2 true rfl (by grind))
   refine (rsl 3 [] 12 (decide (c>=65)) ?_ ?_)<;>intro uy
   ·refine (rsl 5 [] 17 (decide (c<=90)) ?_ ?_)<;>intro uC
    · exact (rbl [] 2 true rfl (by grind))
    exact (rbl [] 2 (c==95) rfl (by grind))
   exact (rbl [] 2 (c==95) rfl (by grind))
  refine (rsl 7 [] 12 (decide (c>=65)) ?_ ?_)<;>intro uJ
  ·refine (rsl 5 [] 17 (decide (c<=90)) ?_ ?_)<;>intro uL
   · exact (rbl [] 2 true rfl (by grind))
   exact (rbl [] 2 (c==95) rfl (by grind))
  exact (rbl [] 2 (c==95) rfl (by grind))
 cases h;exact zH lzz
theorem zpH (h:zfK n=some r):vW 157 [kI n] [kB r]:=by
 refine fi 17 func157 fun Xt=>?_
 unfold zfK at h;refine jp (jg [] [] [(2,kB ((decide (n>=1))&&((decide (n<=536870911))&&((decide (n<19000))|| (decide (n>19999))))))] ?_ ?_)
 ·refine (rsl 3 [] 5 (decide (n>=1)) ?_ ?_)<;>intro ur
  ·refine (rsl 4 [] 9 (decide (n<=536870911)) ?_ ?_)<;>intro uv
   ·refine (rsl 3 [] 12 (decide (n<19000)) ?_ ?_)<;>intro uy
    · exact (rbl [] 2 true rfl (by grind))
    exact (rbl [] 2 (decide (n>19999)) rfl (by grind))
   exact (rbl [] 2 false rfl (by grind))
  exact (rbl [] 2 false rfl (by grind))
 cases h;exact zH lzz
theorem zkC (h:zcF sv v=some r):vW 189 [.sl vU [0] sv,kI v] [kI r]:=by
 refine fi 19 func189 fun Xt=>?_
 unfold zcF at h;refine jp (jp (zw (jb h fun q uA h=>jL uA [0,1,7] [] (fun s=>[(8,kI s)]) (fun| (.inl v_)=> .x 0 ⟨[],[]⟩| (.inr v_)=> .r ⟨[(4,kI v_)],[]⟩) ?_ lzz ?_)))
 ·clear h;intro v2 o h;unfold zaI at h;refine jp (jI h ?_ ?_)<;>intro ur h
  ·refine zw (jp (jb h fun x uD h=>jr (rx 3 [0] zIY.el uD rfl rfl rf) (jI h ?_ ?_)))<;>intro uv h
   ·cases h;exact jz'
   refine zal ?_;cases h;exact jy
  cases h;exact zaJ rfl lzz
 rcases q with u| u2
 ·refine zbo _ rfl ?_;cases h;exact jz
 obtain rfl:=(sj h);exact zfe lzz
theorem zmW (h:zen c f=some r):vW 160 [.ag [kI c.size,.sl vU [0] c.kinds,.mp zM Rp.bool [0] c.names,.mp zN Rp.bool [0] c.numbers],.rc zf [0] f] [kB r]:=by
 refine fi 21 func160 fun Xt=>?_
 unfold zen at h;refine jq [11,12] (jp (jI h ?_ ?_))<;>intro ur h
 ·refine jg [] [] [(4,kB ((decide (f.Of>=0))&&(decide (f.Of<c.size))))] ?_ ?_
  ·refine (rsl 4 [] 11 (decide (f.Of>=0)) ?_ ?_)<;>intro uv
   · exact (rbl [] 4 (decide (f.Of<c.size)) rfl (by grind))
   exact (rbl [] 4 false rfl (by grind))
  cases h;exact zH lzz
 cases h;exact jz
theorem zvm (vG:∀{x:zc} {wr:Int} {r:Int},xa x wr=some r->vW 55 [.rc zj [0] x,kI wr] [kI r]) (h:zhO xa x wr=some r):vW 55 [.rc zj [0] x,kI wr] [kI r]:=by
 refine fi 40 func55 fun Xt=>?_
 unfold zhO at h;refine jr (rc 0 rfl (lbx 11 [0] (zaH [0] x)) rf) (jp (jp (zw (jb h fun q2 uN h=>jL uN [1,11,12] [] (fun s=>[(5,kI s.1),(13,kI s.2)]) (fun| (.inl v_)=> .x 0 ⟨[(5,kI v_)],[]⟩| (.inr v_)=> .r ⟨[(4,kI v_)],[]⟩) ?_ lzz ?_))))
 ·clear h;intro s o h;obtain ⟨wj,v⟩:=s;replace h:zdq wr xa x wj v=some o:=h;unfold zdq at h;refine jp (jI h ?_ ?_)<;>intro ur h
  ·refine zw (jb h fun x2 uH h=>jr (rx 0 [0] zrk.el uH rfl rfl (rc 0 rfl (lde zh [0] x2 zpV) (ral 1 [13] [.ptr 13 0,.rc zh [0] x2] rfl (zfW (r:=zh) (b:=⟨13,51,[kI 0,kN,kN,kN]⟩) (off:=0) (zW [0] x2) rfl sizeOf51 rfl rfl (by rw [zad]<;>rfl) rfl) rfl rf))) (jp (zw (jb h fun q uA h=>jL uA [1,11,12,13,18,19] [] (fun s=>[(5,kI s.1),(20,kI s.2)]) (fun| (.inl v_)=> .X 2 [1,11,12,13] [] [(5,kI v_)] []| (.inr v_)=> .r ⟨[(4,kI v_)],[]⟩) ?_ lzz ?_))))
   ·clear h;intro s o h;obtain ⟨deep3,v3⟩:=s;replace h:zdr wr xa x2 deep3 v3=some o:=h;unfold zdr at h;refine jp (jI h ?_ ?_)<;>intro uv h
    ·refine zw (jb h fun x3 uR h=>jr (rx 0 [0] zsL.el uR rfl rfl (rc 0 rfl (lde zj [0] x3 zjs) (ral 1 [15] [.ptr 15 0,.rc zj [0] x3] rfl (zfW (r:=zj) (b:=⟨15,27,[kN,kN]⟩) (off:=0) (zae [0] x3) rfl sizeOf27 rfl rfl (by rw [zak]<;>rfl) rfl) rfl rf))) (jp (jI h ?_ ?_)))<;>intro uy h
     ·cases h;exact jz'
     refine jb h fun rv uu h=>jr (rc 4 rfl (lw0 14 call55 (vG uu) (.c (zaa [0] x3) (.k .n))) rf) (jp (jI h ?_ ?_))<;>intro uC h
     ·cases h;exact jz'
     refine zal ?_;cases h;exact jy
    cases h;exact zaJ rfl lzz
   rcases q with u| u2
   ·refine zbo _ rfl (zal ?_);cases h;exact jy
   cases h;exact zCB lzz
  cases h;exact zaJ rfl lzz
 rcases q2 with u3| u4
 ·refine zbo _ rfl (jp ?_);obtain rfl:=(sj h);exact zH lzz
 obtain rfl:=(sj h);exact zfe lzz
theorem zvS (h:zeW uB x wr=some r):vW 55 [.rc zj [0] x,kI wr] [kI r]:=by
  induction uB generalizing x wr r with
  | zero=>exact absurd h nofun
  | succ uB ih=>exact zvm (fun hh=>ih hh) h
theorem znS (h:zeM f v=some r):vW 108 [.rc zf [0] f,.ep vU [0] v 0] [kB r]:=by
 refine fi 8 func108 fun Xt=>?_
 unfold zeM at h;refine jq [11] ?_;cases h;exact jz
theorem zjb (h:zdH v=some r):vW 93 [.rc zh [0] v] [kI r]:=by
 refine fi 14 func93 fun Xt=>?_
 unfold zdH at h;refine jr (rc 0 rfl (lbx 11 [0] (zcN [0] v)) rf) ?_;cases h;exact jz
theorem zAy (h:zrc c=some r):vW 230 [k8 c] [kI r.1,.lf (.int .u32 r.2)]:=by
 refine fi 31 func230 fun Xt=>?_
 unfold zrc at h;refine jp (zw (jr (ra 1 [k8 c,kU 7] rfl (zhD rfl rfl) rfl rf) (jI h ?_ ?_)))<;>intro ur h
 ·cases h;exact jz
 refine jr (ra 1 [k8 c,kU 5] rfl (zhD rfl rfl) rfl rf) (jI h ?_ ?_)<;>intro uv h
 ·cases h;exact jz
 refine jr (ra 1 [k8 c,kU 4] rfl (zhD rfl rfl) rfl rf) (jI h ?_ ?_)<;>intro uy h
 ·cases h;exact jz
 refine jr (ra 1 [k8 c,kU 3] rfl (zhD rfl rfl) rfl rf) (jI h ?_ ?_)<;>intro uC h
 ·cases h;exact jz
 refine zal ?_;cases h;exact jz
theorem zAx (h:zmc wv=some r):vW 231 [.lf (.int .u32 wv)] [kI r]:=by
 refine fi 22 func231 fun Xt=>?_
 unfold zmc at h;refine jp (zw (jr (ra 1 [.lf (.int .u32 wv),kU 7] rfl (zhD rfl rfl) rfl rf) (jI h ?_ ?_)))<;>intro ur h
 ·cases h;exact jz
 refine jr (ra 1 [.lf (.int .u32 wv),kU 11] rfl (zhD rfl rfl) rfl rf) (jI h ?_ ?_)<;>intro uv h
 ·cases h;exact jz
 refine jr (ra 1 [.lf (.int .u32 wv),kU 11] rfl (zhD rfl rfl) rfl rf) (jI h ?_ ?_)<;>intro uy h
 ·cases h;exact jz
 refine jr (ra 1 [.lf (.int .u32 wv),kU 16] rfl (zhD rfl rfl) rfl rf) (jI h ?_ ?_)<;>intro uC h
 ·cases h;exact jz
 refine jp (jI h ?_ ?_)<;>intro uJ h
 ·cases h;exact jz
 refine zal ?_;cases h;exact jz
theorem zoX (h:zid wv=some r):vW 178 [kU wv] [.lf (.int .u32 r)]:=by
 refine fi 5 func178 fun Xt=>?_
 unfold zid at h;refine jp ?_;cases h;exact jz
theorem ztL (h:ziK n=some r):vW 176 [.lf (.int .i32 n)] [kU r]:=by
 refine fi 6 func176 fun Xt=>?_
 unfold ziK at h;refine jp ?_;cases h;exact jz
theorem zvO (h:zmp wv=some r):vW 179 [kU wv] [kU r]:=by
 refine fi 5 func179 fun Xt=>?_
 unfold zmp at h;refine jp ?_;cases h;exact jz
theorem zhP (h:zfs b=some r):vW 213 [.sl Rp.byte [0] b] [kU r.1,kI r.2.1,k8 r.2.2]:=by
 refine fi 38 func213 fun Xt=>?_
 unfold zfs at h;refine jp (jb h fun v uK h=>jr (ra 4 [.sl Rp.byte [0] b,kI (if (10:Int)<(b.length:Int) then 10 else (b.length:Int))] rfl (zgQ none (some (kI (if (10:Int)<(b.length:Int) then 10 else (b.length:Int)))) rfl zdK.el (zcH _ _ _) ⟨rfl,rfl⟩ ⟨rfl,rfl⟩ uK) rfl rf) (zw (jb h fun q uA h=>jL uA [11,12] [] (fun s=>[(2,kU s.1),(13,kI s.2)]) (fun| (.inl v_)=> .x 0 ⟨[],[]⟩| (.inr v_)=> .r ⟨[(2,kU v_.1),(3,kI v_.2.1),(4,k8 v_.2.2)],[]⟩) ?_ lzz ?_)))
 ·clear h;intro s o h;obtain ⟨wv,v2⟩:=s;replace h:zct v wv v2=some o:=h;unfold zct at h;refine jp (jI h ?_ ?_)<;>intro ur h
  ·refine zw (jb h fun x uD h=>jr (rx 1 [0] zdK.el uD rfl rfl rf) (jg [2,5,6,11,12,13] [] [(23,kB ((v2==9)&&(decide ((x.toNat:Int)>1))))] ?_ ?_))
   ·refine (rsl 3 [] 20 (v2==9) ?_ ?_)<;>intro uv
    · exact (rbl [] 23 (decide ((x.toNat:Int)>1)) rfl (by grind))
    exact (rbl [] 23 false rfl (by grind))
   refine jI h ?_ ?_<;>intro uy h
   ·cases h;exact jz'
   refine jb h fun v4 u9 h=>jr (ra 6 [kU (u64.wrap (andI .u8 (x.toNat:Int) 127)),kI (i64.wrap (7*v2))] rfl (zyf rfl u9) rfl rf) (jp (jI h ?_ ?_))<;>intro uC h
   ·cases h;exact jz'
   refine zal ?_;cases h;exact jy
  cases h;exact zaJ rfl lzz
 rcases q with u| u2
 ·refine zbo _ rfl ?_;cases h;exact jz
 cases h;exact zfe lzz
theorem zrS (h:zgJ wire=some r):vW 211 [kI wire] [kB r]:=by
 refine fi 9 func211 fun Xt=>?_
 unfold zgJ at h;refine jp (jp (zw (jp (jI h ?_ ?_))))<;>intro ur h
 ·refine jI h ?_ ?_<;>intro uv h
  ·refine jp ?_;obtain rfl:=(sj h);exact zH lzz
  refine zal (jp ?_);obtain rfl:=(sj h);exact zH lzz
 refine jp (jI h ?_ ?_)<;>intro uy h
 ·refine jI h ?_ ?_<;>intro uC h
  ·refine jp ?_;obtain rfl:=(sj h);exact zH lzz
  refine zal (jp ?_);obtain rfl:=(sj h);exact zH lzz
 refine jp (jI h ?_ ?_)<;>intro uJ h
 ·refine jI h ?_ ?_<;>intro uL h
  ·refine jp ?_;obtain rfl:=(sj h);exact zH lzz
  refine zal (jp ?_);obtain rfl:=(sj h);exact zH lzz
 refine jp (jI h ?_ ?_)<;>intro uU h
 ·refine jp ?_;obtain rfl:=(sj h);exact zH lzz
 refine zal (jp ?_);obtain rfl:=(sj h);exact zH lzz
theorem zjo (h:zfC k=some r):vW 180 [kI k] [kI r.1,k8 r.2]:=by
 refine fi 22 func180 fun Xt=>?_
 unfold zfC at h;refine jp (jp (zw (jp (jb h fun p uS h=>jn (.n ⟨[(4,kI k),(5,kB p)],[]⟩) ?_ ?_))))
 ·replace h:=uS;refine jI h ?_ ?_<;>intro ur h
  ·cases h;exact zaT lzz
  refine jp (jI h ?_ ?_)<;>intro uv h
  ·cases h;exact zaT lzz
  refine jp (jI h ?_ ?_)<;>intro uy h
  ·cases h;exact zaT lzz
  refine jp (jI h ?_ ?_)<;>intro uC h
  ·cases h;exact zaT lzz
  refine jp (jI h ?_ ?_)<;>intro uJ h
  ·cases h;exact zaT lzz
  refine jp (jI h ?_ ?_)<;>intro uL h
  ·cases h;exact zaT lzz
  refine jp (jI h ?_ ?_)<;>intro uU h
  ·cases h;exact zaT lzz
  cases h;exact jy
 refine zim (jI h ?_ ?_)<;>intro uT h
 ·cases h;exact jz
 refine jp (jb h fun p2 va h=>jn (.n ⟨[(4,kI k),(14,kB p2)],[]⟩) ?_ ?_)
 ·replace h:=va;refine jI h ?_ ?_<;>intro uV h
  ·cases h;exact zaT lzz
  refine jp (jI h ?_ ?_)<;>intro uX h
  ·cases h;exact zaT lzz
  cases h;exact jy
 refine zim (jI h ?_ ?_)<;>intro vj h
 ·cases h;exact jz
 refine jp (jI h ?_ ?_)<;>intro vk h
 ·refine jI h ?_ ?_<;>intro vl h
  ·cases h;exact jz
  refine zal ?_;cases h;exact jz
 refine jp (jI h ?_ ?_)<;>intro vm h
 ·refine jI h ?_ ?_<;>intro vH h
  ·cases h;exact jz
  refine zal ?_;cases h;exact jz
 refine jp (jI h ?_ ?_)<;>intro vI h
 ·cases h;exact jz
 refine zal ?_;cases h;exact jz
theorem zsj (h:zlw wv=some r):vW 182 [kU wv] [kI r]:=by
 refine fi 13 func182 fun Xt=>?_
 unfold zlw at h;refine jp (jp (jr (ra 1 [kU wv,kU 7] rfl (zhD rfl rfl) rfl rf) (zw (jb h fun q uA h=>jL uA [] [] (fun s=>[(0,kU s.1),(3,kI s.2)]) (fun o=> .x 0 ⟨[(3,kI o)],[]⟩) ?_ lzz ?_))))
 ·clear h;intro s o h;obtain ⟨wv2,n⟩:=s;replace h:zeA wv2 n=some o:=h;unfold zeA at h;refine jp (jI h ?_ ?_)<;>intro ur h
  ·refine zw (jp (zal (jr (ra 1 [kU wv2,kU 7] rfl (zhD rfl rfl) rfl rf) ?_)));cases h;exact zaT lzz
  cases h;exact zaJ rfl lzz
 refine zbo _ rfl (jp ?_);obtain rfl:=(sj h);exact zH lzz
theorem ztJ (h:ziI wv n=some r):vW 181 [kU wv,kI n] [.own Rp.byte 5 2 [] r]:=by
 refine fi 26 func181 fun Xt=>?_
 unfold ziI at h;refine jp (jb h fun v uK h=>jr (ra 3 [kI (if (8:Int)<(if n<0 then 0 else n) then 8 else (if n<0 then 0 else n)),kI (if (8:Int)<(if n<0 then 0 else n) then 8 else (if n<0 then 0 else n))] rfl (zqu 12 rfl zdK rfl uK) rfl rf) (jp (zw (jb h fun q uA h=>jL uA [0,12] [] (fun s=>[(5,.own Rp.byte 5 12 [] s.1),(13,kI s.2)]) (fun o=> .x 0 ⟨[(5,.own Rp.byte 5 12 [] o)],[]⟩) ?_ lzz ?_))))
 ·clear h;intro s o h;obtain ⟨b,v2⟩:=s;replace h:zcq v wv b v2=some o:=h;unfold zcq at h;refine jp (jI h ?_ ?_)<;>intro ur h
  ·refine zw (jp (jb h fun v3 uM h=>jb h fun x uD h=>jb h fun y2 vb h=>jr (ra 5 [kU wv,kI (i64.wrap (8*v2))] rfl (zhD rfl uM) rfl (ra 1 [.own Rp.byte 5 12 [] b,kI v2] rfl (zus rfl zdK.el uD) rfl (rkl 0 [] ⟨[(0,kU wv),(5,.own Rp.byte 5 12 [] b),(12,kI (v.length:Int)),(13,kI v2),(22,k8 (u8.wrap v3)),(23,.ptr 12 (Int.toNat v2*Rp.byte.size))],[]⟩ (zyp (r:=Rp.byte) (e:=5) (C:=[]) (xs:=b) [5] (Int.toNat v2) 0 x y2 [] rfl rfl rfl rfl rfl rfl sizeOf5 rfl (by kernel_rfl) rfl (zqj uD) rfl (zGt vb _) rfl rf)))) (zal ?_)));cases h;exact jy
  cases h;exact zaJ rfl lzz
 refine zbo _ rfl (jp ?_);obtain rfl:=(sj h);exact zH (lks [] [(12,2)] lzz)
theorem zAp (h:znV t=some r):vW 184 [.rc zbO [0] t] [kU r]:=by
 refine fi 11 func184 fun Xt=>?_
 unfold znV at h;refine jq [11] (jr (ra 3 [kU (u64.wrap t.Number),kU 3] rfl (zyf rfl rfl) rfl rf) ?_);cases h;exact zH lzz
theorem zjK (h:zcs n=some r):vW 109 [kN,kI n] [.own Rp.byte 5 2 [] r]:=by
 refine fi 27 func109 fun Xt=>?_
 unfold zcs at h;refine jp (jp (jI h ?_ ?_))<;>intro ur h
 · exact absurd h nofun
 refine jr (ra 2 [kN] rfl (zwL rfl underlying35) rfl rf) (jp (jI h ?_ ?_))<;>intro uv h
 ·refine jb h fun v uK h=>jb h fun v2 uP h=>jr (ra 2 [kN] rfl (zwL rfl underlying35) rfl (ra 0 [kN,kI 0] rfl (zDW rfl zdK.el) rfl (ra 1 [kN,kI (i64.wrap (n - (i64.wrap (0 - 0))))] rfl (zHE 12 rfl underlying3 zdK rfl uK) rfl (ra 2 [.own Rp.byte 5 12 [] v,kI 0] rfl (zCL rfl zdK.el uP) rfl rf)))) (jp ?_);obtain rfl:=(sj h);exact zH (lks [] [(12,2)] lzz)
 refine jp ?_;cases h;exact zH lw
theorem zfV (h:zbK wv b=some r):zgE prog 65 [.ptr 800000 0,.sl Rp.byte [0] b] [] [⟨800000,76,(zo 800001 [0] wv)⟩] [800000] [⟨800000,76,(zo 800001 [0,2] r)⟩]:=by
 refine zjO (E:=⟨[(0,.ptr 800000 0)],[⟨800000,76,(zo 800001 [0,2] r)⟩]⟩) 23 [0] [(0,800000)] func65 rfl rfl rfl trivial ⟨⟨rfl,rfl,rfl⟩,trivial⟩ ⟨rfl,trivial⟩ (fun Xt old=>?_);refine zbR ?_;unfold zbK at h;refine jb h fun v uK h=>jr (rc 6 rfl (zjl [.sl Rp.byte [0] b] 12 [0] ([b]:(List (List UInt8))) rfl zmg rfl rfl rfl rfl) (rc 0 rfl (lao 800001 [0] 35 12 [0] [0,12] zmg.el uK (.inr rfl)) rf)) (jp ?_);cases h;exact zwF (lks [800000] [(12,2)] lzz)
theorem ziQ (h:zeF av b=some r):vW 16 [.sl Rp.byte [0] av,.sl Rp.byte [0] b] [kB r]:=by
 refine fi 10 func16 fun Xt=>?_
 unfold zeF at h;refine jp (jr (ra 1 [.sl Rp.byte [0] av] rfl (zrC rfl underlying35 underlying5 underlying9 (zcH _ _ _)) rfl (ra 1 [.sl Rp.byte [0] b] rfl (zrC rfl underlying35 underlying5 underlying9 (zcH _ _ _)) rfl rf)) ?_);cases h;exact zH lzz
theorem zoQ (h:zfd sv=some r):vW 9 [.sl zi [0] sv] [kB r]:=by
 refine fi 54 func9 fun Xt=>?_
 unfold zfd at h;refine jp (jp (jp (zw (jb h fun q2 uN h=>jL uN [0] [] (fun s=>[(3,kI s.1),(4,kI s.2)]) (fun o=> .x 0 ⟨[(3,kI o)],[]⟩) ?_ lzz ?_))))
 ·clear h;intro s o h;obtain ⟨n,i⟩:=s;replace h:zbx sv n i=some o:=h;unfold zbx at h;refine jp (jI h ?_ ?_)<;>intro ur h
  ·refine zw (jb h fun x uD h=>jb h fun x2 uH h=>jd [0,3,4] [] zeY (by exact (lwn 4 (di [0] zoj.el uD (lwn 7 (di [0] zoj.el uH (lw_e (lx (ldl zi [0] x2 1 zf x2.Fields) l0))))))) (jp (zw (jb h fun q uA h=>jL uA [0,4] [] (fun s=>[(3,kI s.1),(5,kI s.2)]) (fun o=> .X 2 [0,4] [] [(3,kI o)] []) ?_ lzz ?_))))
   ·clear h;intro s o h;obtain ⟨n3,k⟩:=s;replace h:zby i sv n3 k=some o:=h;unfold zby at h;refine jb h fun x3 uR h=>jr (rx 3 [0] zoj.el uR rfl rfl (rc 1 rfl (ldl zi [0] x3 1 zf x3.Fields) rf)) (jI h ?_ ?_)<;>intro uv h
    ·refine zw (jb h fun x4 uW h=>jb h fun x5 uY h=>jr (rx 3 [0] zoj.el uW rfl rfl (rc 1 rfl (ldl zi [0] x4 1 zf x4.Fields) (rx 1 [0] zpl.el uY rfl rfl rf))) (zal ?_));cases h;exact jy
    cases h;exact zaJ rfl lzz
   refine zbo _ rfl (zal ?_);cases h;exact jy
  cases h;exact zaJ rfl lzz
 refine zbo _ rfl ?_;cases h;exact jz
theorem zmT (vB:∀{x:zc} {wj:Int} {r:Int},xj x wj=some r->vW 10 [.rc zj [0] x,kI wj] [kI r]) (vC:∀{v:zb} {wj:Int} {r:Int},xk v wj=some r->vW 17 [.rc zh [0] v,kI wj] [kI r]) (h:zdP xj xk x wj=some r):vW 10 [.rc zj [0] x,kI wj] [kI r]:=by
 refine fi 45 func10 fun Xt=>?_
 unfold zdP at h;refine jr (rc 0 rfl (lbx 11 [0] (zaH [0] x)) rf) (jp (jI h ?_ ?_))<;>intro ur h
 ·cases h;exact jz
 refine jp (jp (zw (jb h fun q uA h=>jL uA [1,2] [11] (fun s=>[(5,kI s.1),(6,kI s.2)]) (fun o=> .X 0 [1,2] [11] [(5,kI o)] []) ?_ lzz ?_)))
 ·clear h;intro s o h;obtain ⟨n,i⟩:=s;replace h:zbs x n i=some o:=h;unfold zbs at h;refine jp (jI h ?_ ?_)<;>intro uv h
  ·refine zw (jb h fun x2 uH h=>jr (rx 5 [0] zmQ.el uH rfl rfl rf) (zal ?_));cases h;exact jy
  cases h;exact zaJ rfl lzz
 refine zbo _ rfl (jp (zw (jb h fun q2 uN h=>jL uN [1,2] [11] (fun s=>[(5,kI s.1),(7,kI s.2)]) (fun| (.inl v_)=> .x 2 ⟨[(5,kI v_)],[]⟩| (.inr v_)=> .r ⟨[(4,kI 5000)],[]⟩) ?_ lzz ?_)))
 ·clear h;intro s o h;obtain ⟨n3,i2⟩:=s;replace h:zbc wj xk x n3 i2=some o:=h;unfold zbc at h;refine jp (jI h ?_ ?_)<;>intro uy h
  ·refine zw (jb h fun x3 uR h=>jb h fun rv uu h=>jr (rx 4 [0] zrk.el uR rfl rfl (rc 0 rfl (lde zh [0] x3 zpV) (rl 1 [0] 12 call17 (vC uu) rf))) (jp (jI h ?_ ?_)))<;>intro uC h
   ·cases h;exact jz'
   refine zal ?_;cases h;exact jy
  cases h;exact zaJ rfl lzz
 rcases q2 with u| u2
 ·refine zbo _ rfl (jp ?_);obtain rfl:=(sj h);exact zH lzz
 cases h;exact zfe lzz
theorem zki (vB:∀{x:zc} {wj:Int} {r:Int},xj x wj=some r->vW 10 [.rc zj [0] x,kI wj] [kI r]) (vC:∀{v:zb} {wj:Int} {r:Int},xk v wj=some r->vW 17 [.rc zh [0] v,kI wj] [kI r]) (h:zcr xj xk v wj=some r):vW 17 [.rc zh [0] v,kI wj] [kI r]:=by
 refine fi 48 func17 fun Xt=>?_
 unfold zcr at h;refine jr (rc 0 rfl (lbx 11 [0] (zcN [0] v)) rf) (jp (jp (zw (jb h fun q uA h=>jL uA [1,2] [11] (fun s=>[(5,kI s.1),(6,kI s.2)]) (fun o=> .X 0 [1,2] [11] [(5,kI o)] []) ?_ lzz ?_))))
 ·clear h;intro s o h;obtain ⟨n,k⟩:=s;replace h:zaL v n k=some o:=h;unfold zaL at h;refine jp (jI h ?_ ?_)<;>intro ur h
  ·refine zw (jb h fun x uD h=>jr (rx 5 [0] zmQ.el uD rfl rfl rf) (zal ?_));cases h;exact jy
  cases h;exact zaJ rfl lzz
 refine zbo _ rfl (jp (zw (jb h fun q2 uN h=>jL uN [1,2] [11] (fun s=>[(5,kI s.1),(7,kI s.2)]) (fun| (.inl v_)=> .x 2 ⟨[(5,kI v_)],[]⟩| (.inr v_)=> .r ⟨[(4,kI 5000)],[]⟩) ?_ lzz ?_)))
 ·clear h;intro s o h;obtain ⟨n3,k2⟩:=s;replace h:zaB wj xj v n3 k2=some o:=h;unfold zaB at h;refine jp (jI h ?_ ?_)<;>intro uv h
  ·refine zw (jb h fun x2 uH h=>jb h fun rv uu h=>jr (rx 4 [0] zsL.el uH rfl rfl (rc 0 rfl (lde zj [0] x2 zjs) (rl 2 [0] 12 call10 (vB uu) rf))) (jp (jI h ?_ ?_)))<;>intro uy h
   ·cases h;exact jz'
   refine zal ?_;cases h;exact jy
  cases h;exact zaJ rfl lzz
 rcases q2 with u| u2
 ·refine zbo _ rfl (jp ?_);obtain rfl:=(sj h);exact zH lzz
 cases h;exact zfe lzz
theorem zeE (uB:Nat):(∀{x:zc} {wj:Int} {r:Int},zbe uB x wj=some r->vW 10 [.rc zj [0] x,kI wj] [kI r])/\(∀{v:zb} {wj:Int} {r:Int},zbb uB v wj=some r->vW 17 [.rc zh [0] v,kI wj] [kI r]):=by
  induction uB with
  | zero=>exact ⟨fun h=>absurd h nofun,fun h=>absurd h nofun⟩
  | succ uB ih=>exact ⟨fun h=>zmT (fun hh=>ih.1 hh) (fun hh=>ih.2 hh) h,fun h=>zki (fun hh=>ih.1 hh) (fun hh=>ih.2 hh) h⟩
theorem ziP (h:zbe uB x wj=some r):vW 10 [.rc zj [0] x,kI wj] [kI r]:=(zeE uB).1 h
theorem zsZ (h:zhQ f v=some r):vW 216 [.rc zf [0] f,.ep vU [0] v 0] [kB r]:=by
 refine fi 8 func216 fun Xt=>?_
 unfold zhQ at h;refine jq [11] ?_;cases h;exact jz
theorem zvW (h:zkE b l=some r):vW 128 [.sl Rp.byte [0] b,.sl zg [0] l] [.own Rp.str 9 2 [] r]:=by
 refine fi 32 func128 fun Xt=>?_
 unfold zkE at h;refine jp (jb h fun v uK h=>jr (ra 2 [kI (l.length:Int),kI (l.length:Int)] rfl (zqu 12 rfl zmQ rfl uK) rfl rf) (jp (zw (jb h fun q uA h=>jL uA [0,11,12] [] (fun s=>[(5,.own Rp.str 9 12 [] s.1),(13,kI s.2)]) (fun o=> .x 0 ⟨[(5,.own Rp.str 9 12 [] o)],[]⟩) ?_ lzz ?_))))
 ·clear h;intro s o h;obtain ⟨all,v2⟩:=s;replace h:zds b l all v2=some o:=h;unfold zds at h;refine jp (jI h ?_ ?_)<;>intro ur h
  ·refine zw (jb h fun x uD h=>jr (rx 1 [0] zlu.el uD rfl rfl (rc 0 rfl (lde zg [0] x zne) (rfl' [14]))) (jb h fun v3 uM h=>jb h fun x2 uH h=>jr (ra 9 [.sl Rp.byte [0] b,kI x.Record.At,kI x.Record.To] rfl (zgQ (some (kI x.Record.At)) (some (kI x.Record.To)) rfl zdK.el (zcH _ _ _) ⟨rfl,rfl⟩ ⟨rfl,rfl⟩ uM) rfl (ra 0 [.sl Rp.byte [0] v3] rfl (zrC rfl underlying35 underlying5 underlying9 (zcH _ _ _)) rfl (ra 0 [.own Rp.str 9 12 [] all,kI v2] rfl (zus rfl zmQ.el uH) rfl (rkl 0 [] ⟨[(0,.sl Rp.byte [0] b),(5,.own Rp.str 9 12 [] all),(11,.sl zg [0] l),(12,kI (l.length:Int)),(13,kI v2),(28,kS v3),(29,.ptr 12 (Int.toNat v2*Rp.str.size))],[]⟩ (zyp (r:=Rp.str) (e:=9) (C:=[]) (xs:=all) [5] (Int.toNat v2) 0 x2 v3 [] rfl rfl rfl rfl rfl rfl sizeOf9 rfl (by kernel_rfl) rfl (zqj uH) rfl (ztC rfl _) rfl rf))))) (zal ?_)));cases h;exact jy
  cases h;exact zaJ rfl lzz
 refine zbo _ rfl (jp ?_);obtain rfl:=(sj h);exact zH (lks [] [(12,2)] lzz)
theorem zxG (h:zlx b=some r):vW 229 [.sl Rp.byte [0] b] [kU r]:=by
 refine fi 26 func229 fun Xt=>?_
 unfold zlx at h;refine jp (jp (jb h fun v uK h=>jr (ra 4 [.sl Rp.byte [0] b,kI (if (8:Int)<(b.length:Int) then 8 else (b.length:Int))] rfl (zgQ none (some (kI (if (8:Int)<(b.length:Int) then 8 else (b.length:Int)))) rfl zdK.el (zcH _ _ _) ⟨rfl,rfl⟩ ⟨rfl,rfl⟩ uK) rfl rf) (zw (jb h fun q uA h=>jL uA [10,11] [] (fun s=>[(3,kU s.1),(12,kI s.2)]) (fun o=> .x 0 ⟨[(3,kU o)],[]⟩) ?_ lzz ?_))))
 ·clear h;intro s o h;obtain ⟨wv,v2⟩:=s;replace h:zdU v wv v2=some o:=h;unfold zdU at h;refine jp (jI h ?_ ?_)<;>intro ur h
  ·refine zw (jb h fun x uD h=>jr (rx 1 [0] zdK.el uD rfl rfl rf) (jb h fun v3 uM h=>jr (ra 5 [kU (u64.wrap (x.toNat:Int)),kI (i64.wrap (8*v2))] rfl (zyf rfl uM) rfl rf) (zal ?_)));cases h;exact jy
  cases h;exact zaJ rfl lzz
 refine zbo _ rfl (jp ?_);obtain rfl:=(sj h);exact zH lzz
theorem ztM (h:zkR av b=some r):vW 54 [.sl Rp.byte [0] av,.sl Rp.byte [0] b] [kB r]:=by
 refine fi 10 func54 fun Xt=>?_
 unfold zkR at h;refine jp (jr (ra 1 [.sl Rp.byte [0] av] rfl (zrC rfl underlying35 underlying5 underlying9 (zcH _ _ _)) rfl (ra 1 [.sl Rp.byte [0] b] rfl (zrC rfl underlying35 underlying5 underlying9 (zcH _ _ _)) rfl rf)) ?_);cases h;exact zH lzz
theorem zhK (h:zbH s1 s2=some r):vW 130 [.sl vV [0] s1,.sl vV [0] s2] [kB r]:=by
 refine fi 26 func130 fun Xt=>?_
 unfold zbH at h;refine jp (jp (jI h ?_ ?_))<;>intro ur h
 ·refine jp ?_;obtain rfl:=(sj h);exact zH lzz
 refine jp (zw (jb h fun q uA h=>jL uA [0,1,12] [] (fun s=>[(13,kI s)]) (fun| (.inl v_)=> .x 0 ⟨[],[]⟩| (.inr v_)=> .r ⟨[(4,kB false)],[]⟩) ?_ lzz ?_))
 ·clear h;intro v o h;unfold zao at h;refine jp (jI h ?_ ?_)<;>intro uv h
  ·refine zw (jp (jb h fun x uD h=>jb h fun x2 uH h=>jd [0,1,12,13,24] [] zeY (by exact (lwn 2 (di [0] zsK.el uD (lwn 3 (di [0] zsK.el uH l0))))) (jI h ?_ ?_)))<;>intro uy h
   ·cases h;exact jz'
   refine zal ?_;cases h;exact jy
  cases h;exact zaJ rfl lzz
 rcases q with u| u2
 ·refine zbo _ rfl (jp ?_);obtain rfl:=(sj h);exact zH lzz
 obtain rfl:=(sj h);exact zfe lzz
theorem zeN (h:zbm s1 s2=some r):vW 96 [.sl Rp.str [0] s1,.sl Rp.str [0] s2] [kB r]:=by
 refine fi 26 func96 fun Xt=>?_
 unfold zbm at h;refine jp (jp (jI h ?_ ?_))<;>intro ur h
 ·refine jp ?_;obtain rfl:=(sj h);exact zH lzz
 refine jp (zw (jb h fun q uA h=>jL uA [0,1,12] [] (fun s=>[(13,kI s)]) (fun| (.inl v_)=> .x 0 ⟨[],[]⟩| (.inr v_)=> .r ⟨[(4,kB false)],[]⟩) ?_ lzz ?_))
 ·clear h;intro v o h;unfold zan at h;refine jp (jI h ?_ ?_)<;>intro uv h
  ·refine zw (jp (jb h fun x uD h=>jb h fun x2 uH h=>jd [0,1,12,13,24] [] zeY (by exact (lwn 2 (di [0] zmQ.el uD (lwn 3 (di [0] zmQ.el uH l0))))) (jI h ?_ ?_)))<;>intro uy h
   ·cases h;exact jz'
   refine zal ?_;cases h;exact jy
  cases h;exact zaJ rfl lzz
 rcases q with u| u2
 ·refine zbo _ rfl (jp ?_);obtain rfl:=(sj h);exact zH lzz
 obtain rfl:=(sj h);exact zfe lzz
end Go.Proofs.YtkgohoggipdokaaGreat

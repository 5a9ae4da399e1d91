/-
  The Go functions do what the plain functions say. No condition.
-/
import Derived.Test.YtaglemhabeipfaaGreatx1T
set_option autoImplicit true
set_option relaxedAutoImplicit true
namespace Go.Proofs.YtaglemhabeipfaaGreat
open Go.IntKind (i64 u64 u8)
open Tryz
open Go Go.RowKit
set_option linter.unusedVariables false
set_option maxRecDepth 100000
set_option maxHeartbeats 3200000
abbrev zMB:=(mput ([]:(List (Int×zq))) 1 (⟨[105,110,116,51,50],0⟩:zq))
abbrev zMC:=(mput zMB 2 (⟨[105,110,116,54,52],0⟩:zq))
abbrev zMD:=(mput zMC 3 (⟨[117,105,110,116,51,50],0⟩:zq))
abbrev zME:=(mput zMD 4 (⟨[117,105,110,116,54,52],0⟩:zq))
abbrev zMF:=(mput zME 5 (⟨[115,105,110,116,51,50],0⟩:zq))
abbrev zMG:=(mput zMF 6 (⟨[115,105,110,116,54,52],0⟩:zq))
abbrev zMH:=(mput zMG 7 (⟨[98,111,111,108],0⟩:zq))
abbrev zMI:=(mput zMH 8 (⟨[101,110,117,109],0⟩:zq))
abbrev zMJ:=(mput zMI 9 (⟨[102,105,120,101,100,51,50],5⟩:zq))
abbrev zJf:=(mput zMJ 10 (⟨[115,102,105,120,101,100,51,50],5⟩:zq))
abbrev zJg:=(mput zJf 11 (⟨[102,108,111,97,116],5⟩:zq))
abbrev zJh:=(mput zJg 12 (⟨[102,105,120,101,100,54,52],1⟩:zq))
abbrev zJi:=(mput zJh 13 (⟨[115,102,105,120,101,100,54,52],1⟩:zq))
abbrev zEC:=(mput zJi 14 (⟨[100,111,117,98,108,101],1⟩:zq))
theorem zrr (h:zls=some r):wO 168 [] [.om wM zak 2 [] r]:=by
 refine fi 20 func168 fun Xt=>?_
 unfold zls at h;refine jp (jr (rc 0 rfl (znv (rk:=wM) (rv:=zak) 12 rfl) (rc 0 rfl (zL (r:=zak) [kS [105,110,116,51,50],kI 0] [] (⟨[105,110,116,51,50],0⟩:zq) rfl zhl rfl rfl) (rms (D:=[]) 0 [] 12 [] ([]:(List (Int×zq))) 1 (⟨[105,110,116,51,50],0⟩:zq) [] zfo (zey rfl rfl) (zcv rfl) (rc 0 rfl (zL (r:=zak) [kS [105,110,116,54,52],kI 0] [] (⟨[105,110,116,54,52],0⟩:zq) rfl zhl rfl rfl) (rms (D:=[]) 0 [] 12 [] zMB 2 (⟨[105,110,116,54,52],0⟩:zq) [] zfo (zey rfl rfl) (zcv rfl) (rc 0 rfl (zL (r:=zak) [kS [117,105,110,116,51,50],kI 0] [] (⟨[117,105,110,116,51,50],0⟩:zq) rfl zhl rfl rfl) (rms (D:=[]) 0 [] 12 [] zMC 3 (⟨[117,105,110,116,51,50],0⟩:zq) [] zfo (zey rfl rfl) (zcv rfl) (rc 0 rfl (zL (r:=zak) [kS [117,105,110,116,54,52],kI 0] [] (⟨[117,105,110,116,54,52],0⟩:zq) rfl zhl rfl rfl) (rms (D:=[]) 0 [] 12 [] zMD 4 (⟨[117,105,110,116,54,52],0⟩:zq) [] zfo (zey rfl rfl) (zcv rfl) (rc 0 rfl (zL (r:=zak) [kS [115,105,110,116,51,50],kI 0] [] (⟨[115,105,110,116,51,50],0⟩:zq) rfl zhl rfl rfl) (rms (D:=[]) 0 [] 12 [] zME 5 (⟨[115,105,110,116,51,50],0⟩:zq) [] zfo (zey rfl rfl) (zcv rfl) (rc 0 rfl (zL (r:=zak) [kS [115,105,110,116,54,52],kI 0] [] (⟨[115,105,110,116,54,52],0⟩:zq) rfl zhl rfl rfl) (rms (D:=[]) 0 [] 12 [] zMF 6 (⟨[115,105,110,116,54,52],0⟩:zq) [] zfo (zey rfl rfl) (zcv rfl) (rc 0 rfl (zL (r:=zak) [kS [98,111,111,108],kI 0] [] (⟨[98,111,111,108],0⟩:zq) rfl zhl rfl rfl) (rms (D:=[]) 0 [] 12 [] zMG 7 (⟨[98,111,111,108],0⟩:zq) [] zfo (zey rfl rfl) (zcv rfl) (rc 0 rfl (zL (r:=zak) [kS [101,110,117,109],kI 0] [] (⟨[101,110,117,109],0⟩:zq) rfl zhl rfl rfl) (rms (D:=[]) 0 [] 12 [] zMH 8 (⟨[101,110,117,109],0⟩:zq) [] zfo (zey rfl rfl) (zcv rfl) (rc 0 rfl (zL (r:=zak) [kS [102,105,120,101,100,51,50],kI 5] [] (⟨[102,105,120,101,100,51,50],5⟩:zq) rfl zhl rfl rfl) (rms (D:=[]) 0 [] 12 [] zMI 9 (⟨[102,105,120,101,100,51,50],5⟩:zq) [] zfo (zey rfl rfl) (zcv rfl) (rc 0 rfl (zL (r:=zak) [kS [115,102,105,120,101,100,51,50],kI 5] [] (⟨[115,102,105,120,101,100,51,50],5⟩:zq) rfl zhl rfl rfl) (rms (D:=[]) 0 [] 12 [] zMJ 10 (⟨[115,102,105,120,101,100,51,50],5⟩:zq) [] zfo (zey rfl rfl) (zcv rfl) (rc 0 rfl (zL (r:=zak) [kS [102,108,111,97,116],kI 5] [] (⟨[102,108,111,97,116],5⟩:zq) rfl zhl rfl rfl) (rms (D:=[]) 0 [] 12 [] zJf 11 (⟨[102,108,111,97,116],5⟩:zq) [] zfo (zey rfl rfl) (zcv rfl) (rc 0 rfl (zL (r:=zak) [kS [102,105,120,101,100,54,52],kI 1] [] (⟨[102,105,120,101,100,54,52],1⟩:zq) rfl zhl rfl rfl) (rms (D:=[]) 0 [] 12 [] zJg 12 (⟨[102,105,120,101,100,54,52],1⟩:zq) [] zfo (zey rfl rfl) (zcv rfl) (rc 0 rfl (zL (r:=zak) [kS [115,102,105,120,101,100,54,52],kI 1] [] (⟨[115,102,105,120,101,100,54,52],1⟩:zq) rfl zhl rfl rfl) (rms (D:=[]) 0 [] 12 [] zJh 13 (⟨[115,102,105,120,101,100,54,52],1⟩:zq) [] zfo (zey rfl rfl) (zcv rfl) (rc 0 rfl (zL (r:=zak) [kS [100,111,117,98,108,101],kI 1] [] (⟨[100,111,117,98,108,101],1⟩:zq) rfl zhl rfl rfl) (rms (D:=[]) 0 [] 12 [] zJi 14 (⟨[100,111,117,98,108,101],1⟩:zq) [] zfo (zey rfl rfl) (zcv rfl) (rc 0 rfl (zL (r:=zak) [kS [115,116,114,105,110,103],kI 2] [] (⟨[115,116,114,105,110,103],2⟩:zq) rfl zhl rfl rfl) (rms (D:=[]) 0 [] 12 [] zEC 15 (⟨[115,116,114,105,110,103],2⟩:zq) [] zfo (zey rfl rfl) (zcv rfl) (rc 0 rfl (zL (r:=zak) [kS [98,121,116,101,115],kI 2] [] (⟨[98,121,116,101,115],2⟩:zq) rfl zhl rfl rfl) (rms (D:=[]) 0 [] 12 [] (mput zEC 15 (⟨[115,116,114,105,110,103],2⟩:zq)) 16 (⟨[98,121,116,101,115],2⟩:zq) [] zfo (zey rfl rfl) (zcv rfl) (rc 0 rfl (zL (r:=zak) [kS [109,101,115,115,97,103,101],kI 2] [] (⟨[109,101,115,115,97,103,101],2⟩:zq) rfl zhl rfl rfl) (rms (D:=[]) 0 [] 12 [] (mput (mput zEC 15 (⟨[115,116,114,105,110,103],2⟩:zq)) 16 (⟨[98,121,116,101,115],2⟩:zq)) 17 (⟨[109,101,115,115,97,103,101],2⟩:zq) [] zfo (zey rfl rfl) (zcv rfl) rf))))))))))))))))))))))))))))))))))) ?_);cases h;exact zy (lks [] [(12,2)] lzz)
theorem zmv (h:zgi c=some r):wO 203 [k8 c] [kB r]:=by
 refine fi 9 func203 fun Xt=>?_
 unfold zgi at h;refine jp (jg [] [] [(2,kB ((decide (c>=48))&&(decide (c<=57))))] ?_ ?_)
 ·refine (rsl 3 [] 5 (decide (c>=48)) ?_ ?_)<;>intro uM
  · exact (rbl [] 2 (decide (c<=57)) rfl (by grind))
  exact (rbl [] 2 false rfl (by grind))
 cases h;exact zy lzz
theorem zrY (h:zgK c=some r):wO 204 [k8 c] [kB r]:=by
 refine fi 21 func204 fun Xt=>?_
 unfold zgK at h;refine jp (jg [] [] [(2,kB (if (decide (c>=97)) then ((decide (c<=122))|| (if (decide (c>=65)) then ((decide (c<=90))|| (c==95)) else (c==95))) else (if (decide (c>=65)) then ((decide (c<=90))|| (c==95)) else (c==95))))] ?_ ?_)
 ·refine (rsl 3 [] 5 (decide (c>=97)) ?_ ?_)<;>intro uM
  ·refine (rsl 4 [] 9 (decide (c<=122)) ?_ ?_)<;>intro uN
   · exact (rbl [] 2 true rfl (by grind))
   refine (rsl 3 [] 12 (decide (c>=65)) ?_ ?_)<;>intro uQ
   ·refine (rsl 5 [] 17 (decide (c<=90)) ?_ ?_)<;>intro uS
    · exact (rbl [] 2 true rfl (by grind))
    exact (rbl [] 2 (c==95) rfl (by grind))
   exact (rbl [] 2 (c==95) rfl (by grind))
  refine (rsl 7 [] 12 (decide (c>=65)) ?_ ?_)<;>intro uU
  ·refine (rsl 5 [] 17 (decide (c<=90)) ?_ ?_)<;>intro uW
   · exact (rbl [] 2 true rfl (by grind))
   exact (rbl [] 2 (c==95) rfl (by grind))
  exact (rbl [] 2 (c==95) rfl (by grind))
 cases h;exact zy lzz
theorem zrZ (h:zgL n=some r):wO 170 [kI n] [kB r]:=by
 refine fi 17 func170 fun Xt=>?_
 unfold zgL at h;refine jp (jg [] [] [(2,kB ((decide (n>=1))&&((decide (n<=536870911))&&((decide (n<19000))|| (decide (n>19999))))))] ?_ ?_)
 ·refine (rsl 3 [] 5 (decide (n>=1)) ?_ ?_)<;>intro uM
  ·refine (rsl 4 [] 9 (decide (n<=536870911)) ?_ ?_)<;>intro uN
   ·refine (rsl 3 [] 12 (decide (n<19000)) ?_ ?_)<;>intro uQ
    · exact (rbl [] 2 true rfl (by grind))
    exact (rbl [] 2 (decide (n>19999)) rfl (by grind))
   exact (rbl [] 2 false rfl (by grind))
  exact (rbl [] 2 false rfl (by grind))
 cases h;exact zy lzz
theorem zlK (h:zda sv v=some r):wO 205 [.sl wM [0] sv,kI v] [kI r]:=by
 refine fi 19 func205 fun Xt=>?_
 unfold zda at h;refine jp (jp (zu (jb h fun q uV h=>jL uV [0,1,7] [] (fun s=>[(8,kI s)]) (fun| (.inl v_)=> .x 0 ⟨[],[]⟩| (.inr v_)=> .r ⟨[(4,kI v_)],[]⟩) ?_ lzz ?_)))
 ·clear h;intro v2 o h;unfold zaG at h;refine jp (jI h ?_ ?_)<;>intro uM h
  ·refine zu (jp (jb h fun x uY h=>jr (rx 3 [0] zjm.el uY rfl rfl rf) (jI h ?_ ?_)))<;>intro uN h
   ·cases h;exact jz'
   refine zR ?_;cases h;exact jy
  cases h;exact zaj rfl lzz
 rcases q with u| u2
 ·refine zaE _ rfl ?_;cases h;exact jz
 obtain rfl:=(sj h);exact zfQ lzz
theorem zpd (h:zfk c f=some r):wO 173 [.ag [kI c.size,.sl wM [0] c.kinds,.mp zA Rp.bool [0] c.names,.mp zf Rp.bool [0] c.numbers],.rc zb [0] f] [kB r]:=by
 refine fi 21 func173 fun Xt=>?_
 unfold zfk at h;refine jq [11,12] (jp (jI h ?_ ?_))<;>intro uM h
 ·refine jg [] [] [(4,kB ((decide (f.Of>=0))&&(decide (f.Of<c.size))))] ?_ ?_
  ·refine (rsl 4 [] 11 (decide (f.Of>=0)) ?_ ?_)<;>intro uN
   · exact (rbl [] 4 (decide (f.Of<c.size)) rfl (by grind))
   exact (rbl [] 4 false rfl (by grind))
  cases h;exact zy lzz
 cases h;exact jz
theorem zjb (h:zgs b=some r):wO 182 [.sl Rp.byte [0] b] [kU r.1,kI r.2.1,k8 r.2.2]:=by
 refine fi 38 func182 fun Xt=>?_
 unfold zgs at h;refine jp (jb h fun v vc h=>jr (ra 4 [.sl Rp.byte [0] b,kI (if (10:Int)<(b.length:Int) then 10 else (b.length:Int))] rfl (zgf none (some (kI (if (10:Int)<(b.length:Int) then 10 else (b.length:Int)))) rfl zbd.el (zbj _ _ _) ⟨rfl,rfl⟩ ⟨rfl,rfl⟩ vc) rfl rf) (zu (jb h fun q uV h=>jL uV [11,12] [] (fun s=>[(2,kU s.1),(13,kI s.2)]) (fun| (.inl v_)=> .x 0 ⟨[],[]⟩| (.inr v_)=> .r ⟨[(2,kU v_.1),(3,kI v_.2.1),(4,k8 v_.2.2)],[]⟩) ?_ lzz ?_)))
 ·clear h;intro s o h;obtain ⟨wv,v2⟩:=s;replace h:zek v wv v2=some o:=h;unfold zek at h;refine jp (jI h ?_ ?_)<;>intro uM h
  ·refine zu (jb h fun x uY h=>jr (rx 1 [0] zbd.el uY rfl rfl rf) (jg [2,5,6,11,12,13] [] [(23,kB ((v2==9)&&(decide ((x.toNat:Int)>1))))] ?_ ?_))
   ·refine (rsl 3 [] 20 (v2==9) ?_ ?_)<;>intro uN
    · exact (rbl [] 23 (decide ((x.toNat:Int)>1)) rfl (by grind))
    exact (rbl [] 23 false rfl (by grind))
   refine jI h ?_ ?_<;>intro uQ h
   ·cases h;exact jz'
   refine jb h fun v4 vy h=>jr (ra 6 [kU (u64.wrap (andI .u8 (x.toNat:Int) 127)),kI (i64.wrap (7*v2))] rfl (zAJ rfl vy) rfl rf) (jp (jI h ?_ ?_))<;>intro uS h
   ·cases h;exact jz'
   refine zR ?_;cases h;exact jy
  cases h;exact zaj rfl lzz
 rcases q with u| u2
 ·refine zaE _ rfl ?_;cases h;exact jz
 cases h;exact zfQ lzz
theorem zup (h:zhQ wire=some r):wO 209 [kI wire] [kB r]:=by
 refine fi 9 func209 fun Xt=>?_
 unfold zhQ at h;refine jp (jp (zu (jp (jI h ?_ ?_))))<;>intro uM h
 ·refine jI h ?_ ?_<;>intro uN h
  ·refine jp ?_;obtain rfl:=(sj h);exact zy lzz
  refine zR (jp ?_);obtain rfl:=(sj h);exact zy lzz
 refine jp (jI h ?_ ?_)<;>intro uQ h
 ·refine jI h ?_ ?_<;>intro uS h
  ·refine jp ?_;obtain rfl:=(sj h);exact zy lzz
  refine zR (jp ?_);obtain rfl:=(sj h);exact zy lzz
 refine jp (jI h ?_ ?_)<;>intro uU h
 ·refine jI h ?_ ?_<;>intro uW h
  ·refine jp ?_;obtain rfl:=(sj h);exact zy lzz
  refine zR (jp ?_);obtain rfl:=(sj h);exact zy lzz
 refine jp (jI h ?_ ?_)<;>intro u0 h
 ·refine jp ?_;obtain rfl:=(sj h);exact zy lzz
 refine zR (jp ?_);obtain rfl:=(sj h);exact zy lzz
theorem zvu (h:zjc f v=some r):wO 190 [.rc zb [0] f,.ep wM [0] v 0] [kB r]:=by
 refine fi 8 func190 fun Xt=>?_
 unfold zjc at h;refine jq [11] ?_;cases h;exact jz
theorem zkE (h:zgE k=some r):wO 185 [kI k] [kI r.1,k8 r.2]:=by
 refine fi 22 func185 fun Xt=>?_
 unfold zgE at h;refine jp (jp (zu (jp (jb h fun p vi h=>jn (.n ⟨[(4,kI k),(5,kB p)],[]⟩) ?_ ?_))))
 ·replace h:=vi;refine jI h ?_ ?_<;>intro uM h
  ·cases h;exact zS lzz
  refine jp (jI h ?_ ?_)<;>intro uN h
  ·cases h;exact zS lzz
  refine jp (jI h ?_ ?_)<;>intro uQ h
  ·cases h;exact zS lzz
  refine jp (jI h ?_ ?_)<;>intro uS h
  ·cases h;exact zS lzz
  refine jp (jI h ?_ ?_)<;>intro uU h
  ·cases h;exact zS lzz
  refine jp (jI h ?_ ?_)<;>intro uW h
  ·cases h;exact zS lzz
  refine jp (jI h ?_ ?_)<;>intro u0 h
  ·cases h;exact zS lzz
  cases h;exact jy
 refine zez (jI h ?_ ?_)<;>intro vg h
 ·cases h;exact jz
 refine jp (jb h fun p2 vz h=>jn (.n ⟨[(4,kI k),(14,kB p2)],[]⟩) ?_ ?_)
 ·replace h:=vz;refine jI h ?_ ?_<;>intro vj h
  ·cases h;exact zS lzz
  refine jp (jI h ?_ ?_)<;>intro vk h
  ·cases h;exact zS lzz
  cases h;exact jy
 refine zez (jI h ?_ ?_)<;>intro vu h
 ·cases h;exact jz
 refine jp (jI h ?_ ?_)<;>intro vp h
 ·refine jI h ?_ ?_<;>intro vt h
  ·cases h;exact jz
  refine zR ?_;cases h;exact jz
 refine jp (jI h ?_ ?_)<;>intro vv h
 ·refine jI h ?_ ?_<;>intro vr h
  ·cases h;exact jz
  refine zR ?_;cases h;exact jz
 refine jp (jI h ?_ ?_)<;>intro vA h
 ·cases h;exact jz
 refine zR ?_;cases h;exact jz
theorem zrn (h:zjp wv=some r):wO 212 [kU wv] [.lf (.int .u32 r)]:=by
 refine fi 5 func212 fun Xt=>?_
 unfold zjp at h;refine jp ?_;cases h;exact jz
theorem zwg (h:zjU n=some r):wO 210 [.lf (.int .i32 n)] [kU r]:=by
 refine fi 6 func210 fun Xt=>?_
 unfold zjU at h;refine jp ?_;cases h;exact jz
theorem zys (h:zoi wv=some r):wO 213 [kU wv] [kU r]:=by
 refine fi 5 func213 fun Xt=>?_
 unfold zoi at h;refine jp ?_;cases h;exact jz
theorem zux (h:znh wv=some r):wO 187 [kU wv] [kI r]:=by
 refine fi 13 func187 fun Xt=>?_
 unfold znh at h;refine jp (jp (jr (ra 1 [kU wv,kU 7] rfl (ziL rfl rfl) rfl rf) (zu (jb h fun q uV h=>jL uV [] [] (fun s=>[(0,kU s.1),(3,kI s.2)]) (fun o=> .x 0 ⟨[(3,kI o)],[]⟩) ?_ lzz ?_))))
 ·clear h;intro s o h;obtain ⟨w7,n⟩:=s;replace h:zih w7 n=some o:=h;unfold zih at h;refine jp (jI h ?_ ?_)<;>intro uM h
  ·refine zu (jp (zR (jr (ra 1 [kU w7,kU 7] rfl (ziL rfl rfl) rfl rf) ?_)));cases h;exact zS lzz
  cases h;exact zaj rfl lzz
 refine zaE _ rfl (jp ?_);obtain rfl:=(sj h);exact zy lzz
theorem zDI (h:ztt c=some r):wO 221 [k8 c] [kI r.1,.lf (.int .u32 r.2)]:=by
 refine fi 31 func221 fun Xt=>?_
 unfold ztt at h;refine jp (zu (jr (ra 1 [k8 c,kU 7] rfl (ziL rfl rfl) rfl rf) (jI h ?_ ?_)))<;>intro uM h
 ·cases h;exact jz
 refine jr (ra 1 [k8 c,kU 5] rfl (ziL rfl rfl) rfl rf) (jI h ?_ ?_)<;>intro uN h
 ·cases h;exact jz
 refine jr (ra 1 [k8 c,kU 4] rfl (ziL rfl rfl) rfl rf) (jI h ?_ ?_)<;>intro uQ h
 ·cases h;exact jz
 refine jr (ra 1 [k8 c,kU 3] rfl (ziL rfl rfl) rfl rf) (jI h ?_ ?_)<;>intro uS h
 ·cases h;exact jz
 refine zR ?_;cases h;exact jz
theorem zDH (h:znS wv=some r):wO 222 [.lf (.int .u32 wv)] [kI r]:=by
 refine fi 22 func222 fun Xt=>?_
 unfold znS at h;refine jp (zu (jr (ra 1 [.lf (.int .u32 wv),kU 7] rfl (ziL rfl rfl) rfl rf) (jI h ?_ ?_)))<;>intro uM h
 ·cases h;exact jz
 refine jr (ra 1 [.lf (.int .u32 wv),kU 11] rfl (ziL rfl rfl) rfl rf) (jI h ?_ ?_)<;>intro uN h
 ·cases h;exact jz
 refine jr (ra 1 [.lf (.int .u32 wv),kU 11] rfl (ziL rfl rfl) rfl rf) (jI h ?_ ?_)<;>intro uQ h
 ·cases h;exact jz
 refine jr (ra 1 [.lf (.int .u32 wv),kU 16] rfl (ziL rfl rfl) rfl rf) (jI h ?_ ?_)<;>intro uS h
 ·cases h;exact jz
 refine jp (jI h ?_ ?_)<;>intro uU h
 ·cases h;exact jz
 refine zR ?_;cases h;exact jz
theorem zAh (h:zni b=some r):wO 217 [.sl Rp.byte [0] b] [kU r]:=by
 refine fi 26 func217 fun Xt=>?_
 unfold zni at h;refine jp (jp (jb h fun v vc h=>jr (ra 4 [.sl Rp.byte [0] b,kI (if (8:Int)<(b.length:Int) then 8 else (b.length:Int))] rfl (zgf none (some (kI (if (8:Int)<(b.length:Int) then 8 else (b.length:Int)))) rfl zbd.el (zbj _ _ _) ⟨rfl,rfl⟩ ⟨rfl,rfl⟩ vc) rfl rf) (zu (jb h fun q uV h=>jL uV [10,11] [] (fun s=>[(3,kU s.1),(12,kI s.2)]) (fun o=> .x 0 ⟨[(3,kU o)],[]⟩) ?_ lzz ?_))))
 ·clear h;intro s o h;obtain ⟨wv,v2⟩:=s;replace h:zgu v wv v2=some o:=h;unfold zgu at h;refine jp (jI h ?_ ?_)<;>intro uM h
  ·refine zu (jb h fun x uY h=>jr (rx 1 [0] zbd.el uY rfl rfl rf) (jb h fun v3 ve h=>jr (ra 5 [kU (u64.wrap (x.toNat:Int)),kI (i64.wrap (8*v2))] rfl (zAJ rfl ve) rfl rf) (zR ?_)));cases h;exact jy
  cases h;exact zaj rfl lzz
 refine zaE _ rfl (jp ?_);obtain rfl:=(sj h);exact zy lzz
theorem zwe (h:zjS wv n=some r):wO 206 [kU wv,kI n] [.own Rp.byte 5 2 [] r]:=by
 refine fi 26 func206 fun Xt=>?_
 unfold zjS at h;refine jp (jb h fun v vc h=>jr (ra 3 [kI (if (8:Int)<(if n<0 then 0 else n) then 8 else (if n<0 then 0 else n)),kI (if (8:Int)<(if n<0 then 0 else n) then 8 else (if n<0 then 0 else n))] rfl (zGh 12 rfl zbd rfl vc) rfl rf) (jp (zu (jb h fun q uV h=>jL uV [0,12] [] (fun s=>[(5,.own Rp.byte 5 12 [] s.1),(13,kI s.2)]) (fun o=> .x 0 ⟨[(5,.own Rp.byte 5 12 [] o)],[]⟩) ?_ lzz ?_))))
 ·clear h;intro s o h;obtain ⟨b,v2⟩:=s;replace h:zeb v wv b v2=some o:=h;unfold zeb at h;refine jp (jI h ?_ ?_)<;>intro uM h
  ·refine zu (jp (jb h fun v3 ve h=>jb h fun x uY h=>jb h fun y2 vF h=>jr (ra 5 [kU wv,kI (i64.wrap (8*v2))] rfl (ziL rfl ve) rfl (ra 1 [.own Rp.byte 5 12 [] b,kI v2] rfl (zNu rfl zbd.el uY) rfl (rkl 0 [] ⟨[(0,kU wv),(5,.own Rp.byte 5 12 [] b),(12,kI (v.length:Int)),(13,kI v2),(22,k8 (u8.wrap v3)),(23,.ptr 12 (Int.toNat v2*Rp.byte.size))],[]⟩ (zNJ (r:=Rp.byte) (e:=5) (C:=[]) (xs:=b) [5] (Int.toNat v2) 0 x y2 [] rfl rfl rfl rfl rfl rfl sizeOf5 rfl (by kernel_rfl) rfl (zLl uY) rfl (zKh vF _) rfl rf)))) (zR ?_)));cases h;exact jy
  cases h;exact zaj rfl lzz
 refine zaE _ rfl (jp ?_);obtain rfl:=(sj h);exact zy (lks [] [(12,2)] lzz)
theorem zDz (h:zqm t=some r):wO 207 [.rc zbz [0] t] [kU r]:=by
 refine fi 11 func207 fun Xt=>?_
 unfold zqm at h;refine jq [11] (jr (ra 3 [kU (u64.wrap t.Number),kU 3] rfl (zAJ rfl rfl) rfl rf) ?_);cases h;exact zy lzz
theorem zkO (h:zcy n=some r):wO 105 [kN,kI n] [.own Rp.byte 5 2 [] r]:=by
 refine fi 27 func105 fun Xt=>?_
 unfold zcy at h;refine jp (jp (jI h ?_ ?_))<;>intro uM h
 · exact absurd h nofun
 refine jr (ra 2 [kN] rfl (zzm rfl underlying24) rfl rf) (jp (jI h ?_ ?_))<;>intro uN h
 ·refine jb h fun v vc h=>jb h fun v2 vn h=>jr (ra 2 [kN] rfl (zzm rfl underlying24) rfl (ra 0 [kN,kI 0] rfl (zHw rfl zbd.el) rfl (ra 1 [kN,kI (i64.wrap (n - (i64.wrap (0 - 0))))] rfl (zLz 12 rfl underlying3 zbd rfl vc) rfl (ra 2 [.own Rp.byte 5 12 [] v,kI 0] rfl (zGf rfl zbd.el vn) rfl rf)))) (jp ?_);obtain rfl:=(sj h);exact zy (lks [] [(12,2)] lzz)
 refine jp ?_;cases h;exact zy lw
theorem zNf:zMt prog 145 5:=by
  intro w s u n m i cs ds hs hu hap h1s h1u hin hlim;have hT:ElT prog 24 5 1 1:=zbd.el;have hcl:cs.length=n:=by have:=hs.1;omega
  have hdl:ds.length=m:=by have:=hu.1;omega
  obtain ⟨A,c,hsf,hnc,hcm⟩:=zAU hs;obtain ⟨B,c2,huf,hmc,hcm2⟩:=zAU hu;have hml:(maxLen:Nat)=9223372036854775807:=rfl;refine zEm 6 func145 rfl rfl ?_;have e0:Ev ⟨#[s,.int .i64 (i:Int),u]++Array.replicate (f145.ntmps - 3) undef,[]⟩ 95 [(0,s),(1,.int .i64 (i:Int)),(2,u)]:=Ev.three _ _ _ (95 - 3);refine zfn (zay ?_);refine wk e0 rfl rfl rfl (zht rfl rfl) fun a e=>?_
  refine zhH (zfn (zay ?_));refine wk e rfl rfl rfl (zan rfl (e.at rfl)) fun a e=>?_
  refine wk e rfl rfl rfl (zan rfl (e.at rfl)) fun a e=>?_
  refine wk e rfl rfl rfl (zFM rfl hT ((e.at rfl).trans hsf) (e.at rfl) hin hnc) fun a e=>?_
  refine zhH (zfn (zay ?_));refine wk e rfl rfl rfl (zan rfl (e.at rfl)) fun a e=>?_
  refine wk e rfl rfl rfl (zIF rfl ((e.at rfl).trans huf) hT.u) fun a e=>?_
  refine wk e rfl rfl rfl (zht rfl (e.at rfl)) fun a e=>?_
  refine zhH (zfn (zfn (zay ?_)));refine wk e rfl rfl rfl (zan rfl (e.at rfl)) fun a e=>?_
  refine wk e rfl rfl rfl (zFN (j:=0) rfl (e.at rfl) rfl) fun a e=>?_
  refine zhH ?_;have e:=e.pick [(0,s),(1,.int .i64 (i:Int)),(2,u),(7,.int .i64 (m:Int)),(16,.bool (decide (m=0)))] ⟨rfl,rfl,rfl,rfl,rfl,trivial⟩;rcases q8 m with hm0| hm
  · refine zje ((e.at rfl).trans (congrArg Value.bool (xQ hm0))) (zfn (zay ?_));refine wk e rfl rfl rfl (zan rfl (e.at rfl)) fun a e=>?_
    refine wk e rfl rfl rfl (zht rfl (e.at rfl)) fun a e=>?_
    refine zhH (zyi ?_);have hd0:ds=[]:=yA (by omega);refine ⟨rfl,e.defers,?_⟩;rw [show a.tmps.getD 6 undef=s from e.at rfl];refine ⟨by rw [hsf];rfl,?_,⟨rfl,rfl,rfl,xw _,fun _ _ _=>rfl⟩,.inl rfl⟩;rw [hm0,hd0,yw,xY,qc];exact hs
  refine zjQ ((e.at rfl).trans (congrArg Value.bool (xT (by omega)))) (zvV ?_);refine zfn (zay ?_);refine wk e rfl rfl rfl (zan rfl (e.at rfl)) fun a e=>?_
  refine wk e rfl rfl rfl (zIF rfl ((e.at rfl).trans hsf) hT.u) fun a e=>?_
  refine wk e rfl rfl rfl (zht rfl (e.at rfl)) fun a e=>?_
  refine zhH (zfn (zfn (zay ?_)));refine wk e rfl rfl rfl (zan rfl (e.at rfl)) fun a e=>?_
  refine wk e rfl rfl rfl (zan rfl (e.at rfl)) fun a e=>?_
  refine wk e rfl rfl rfl (zFN rfl (e.at rfl) (e.at rfl)) fun a e=>?_
  refine zhH ?_;have e:=e.pick [(0,s),(1,.int .i64 (i:Int)),(2,u),(7,.int .i64 (m:Int)),(8,.int .i64 (n:Int)),(22,.bool (decide (i=n)))] ⟨rfl,rfl,rfl,rfl,rfl,rfl,trivial⟩;by_cases hi0:i=n
  · refine zje ((e.at rfl).trans (congrArg Value.bool (xQ hi0))) (zfn (zay ?_));refine wk e rfl rfl rfl (zan rfl (e.at rfl)) fun a e=>?_
    refine wk e rfl rfl rfl (zan rfl (e.at rfl)) fun a e=>?_
    refine zMR e rfl rfl rfl (zNa rfl hT (e.at rfl) (e.at rfl) hs hu h1u hlim) fun z a hz e=>?_
    refine wk e rfl rfl rfl (zht rfl (e.at rfl)) fun a e=>?_
    refine zhH (zyi ?_);obtain ⟨hz1,hz2,hz3⟩:=hz;refine ⟨rfl,e.defers,?_⟩;rw [show a.tmps.getD 6 undef=z.1 from e.at rfl];refine ⟨by obtain ⟨A',c',h',_⟩:=zAU hz1;rw [h'];rfl,?_,hz2,hz3⟩;rw [hi0,<-hcl,pV,pr,xY,hcl];exact hz1
  refine zjQ ((e.at rfl).trans (congrArg Value.bool (xT hi0))) (zvV ?_);have wS:i<n:=by omega
  refine zfn (zfn (zay ?_));refine wk e rfl rfl rfl (zan rfl (e.at rfl)) fun a e=>?_
  refine wk e rfl rfl rfl (zan rfl (e.at rfl)) fun a e=>?_
  refine wk e rfl rfl rfl (zqy rfl (e.at rfl) (e.at rfl) (by omega)) fun a e=>?_
  refine wk e rfl rfl rfl (zan rfl (e.at rfl)) fun a e=>?_
  refine wk e rfl rfl rfl (zNb rfl ((e.at rfl).trans hsf) hT.u) fun a e=>?_
  refine wk e rfl rfl rfl (zLf rfl (e.at rfl) (e.at rfl)) fun a e=>?_
  refine zhH ?_;have e:=e.pick [(0,s),(1,.int .i64 (i:Int)),(2,u),(7,.int .i64 (m:Int)),(8,.int .i64 (n:Int)),(31,.bool (decide (c<n+m)))] ⟨rfl,rfl,rfl,rfl,rfl,rfl,trivial⟩;obtain ⟨g,w9,kj,hg,_,hh,_,_,hcs,htake⟩:∃g w9 kj,s= .slice (some ⟨g,0,none⟩) n w9/\0<=g/\w.heap[g]? =some (.cells kj 5 (0,0))/\n<=w9/\w9<=maxLen/\kj.size=w9*1/\kj.toList.take (n*1)=cs:=by
    rcases hs.2 with ⟨_,h0⟩| h
    · omega
    · exact h
  obtain ⟨gu,cap2,cur2,hgu,_,hhu,_,_,hcs2,htake2⟩:∃g w9 kj,u= .slice (some ⟨g,0,none⟩) m w9/\0<=g/\w.heap[g]? =some (.cells kj 5 (0,0))/\m<=w9/\w9<=maxLen/\kj.size=w9*1/\kj.toList.take (m*1)=ds:=by
    rcases hu.2 with ⟨_,h0⟩| h
    · omega
    · exact h
  obtain rfl:w9=c:=by rw [hsf] at hg;cases hg;rfl
  rw [yN] at hcs hcs2 htake htake2;have hglt:g<w.heap.size:=(ya.1 hh).1;have hgult:gu<w.heap.size:=(ya.1 hhu).1;have hgg:gu≠g:=fun e=>hap g (by rw [hg];rfl) (by rw [hgu,e];rfl)
  have hdr:(cs.drop i).length=n - i:=by rw [xW,hcl]
  have h1d:∀v∈cs.drop i,v.oneCell'=true:=fun v hv=>h1s v (pt hv)
  by_cases hroom:w9<n+m
  · refine zje ((e.at rfl).trans (congrArg Value.bool (xQ hroom))) (zfn (zay ?_));refine wk e rfl rfl rfl (zan rfl (e.at rfl)) fun a e=>?_
    refine wk e rfl rfl rfl (zan rfl (e.at rfl)) fun a e=>?_
    refine wk e rfl rfl rfl (zFL rfl hT ((e.at rfl).trans hg) (e.at rfl) (by omega) hnc) fun a e=>?_
    refine wk e rfl rfl rfl (zan rfl (e.at rfl)) fun a e=>?_
    refine wk e rfl rfl rfl (zan rfl (e.at rfl)) fun a e=>?_
    refine wk e rfl rfl rfl (zqy rfl (e.at rfl) (e.at rfl) (by omega)) fun a e=>?_
    refine wk e rfl rfl rfl (zan rfl (e.at rfl)) fun a e=>?_
    refine wk e rfl rfl rfl (zLg rfl (e.at rfl) (e.at rfl) (by omega) (by omega)) fun a e=>?_
    refine zMR e rfl rfl rfl (zLe (olds:=cs.take i) rfl hT underlying3 (e.at rfl) (e.at rfl) (ztf hh (by rw [<-htake,qd,yO hin])) (by rw [xO];omega) (by omega) (by omega) (by omega)) fun z a hz e=>?_
    refine wk e rfl rfl rfl (zht rfl (e.at rfl)) fun a e=>?_
    refine zhH ?_;obtain ⟨z1,z2,z3,z4⟩:=hz;have hnm:i+(n+m - i)=n+m:=by omega
    rw [hnm] at z1;have e:=e.pick [(0,s),(1,.int .i64 (i:Int)),(2,u),(7,.int .i64 (m:Int)),(9,.slice (some ⟨w.heap.size,0,none⟩) (n+m) z.1)] ⟨rfl,rfl,rfl,rfl,congrArg (fun k=>some (Value.slice (some ⟨w.heap.size,0,none⟩) k z.1)) hnm,trivial⟩;have hG:=yV w.drew (.cells z.2 5);have hO:∀k,k<w.heap.size->(w.drew.alloc (.cells z.2 5)).heap[k]? =w.heap[k]? :=fun k hk=>heap_alloc_old w.drew _ hk
    refine zfn (zay ?_);refine wk e rfl rfl rfl (zan rfl (e.at rfl)) fun a e=>?_
    refine wk e rfl rfl rfl (zan rfl (e.at rfl)) fun a e=>?_
    refine wk e rfl rfl rfl (zoh rfl hT (e.at rfl) (e.at rfl) (by omega) z1 (by omega)) fun a e=>?_
    refine wk e rfl rfl rfl (zan rfl (e.at rfl)) fun a e=>?_
    refine wk e rfl rfl rfl (zvD (cs:=ds) rfl hT (e.at rfl) ((e.at rfl).trans hgu) hG (by rw [hdl];simp only [Nat.min_def];split<;>omega) (fun j v hj=>by rw [xL];exact ztf ((hO gu hgult).trans hhu) htake2 j v hj) (by omega) h1u) fun a e=>?_
    refine zhH ?_;have e:=e.pick [(0,s),(1,.int .i64 (i:Int)),(2,u),(7,.int .i64 (m:Int)),(9,.slice (some ⟨w.heap.size,0,none⟩) (n+m) z.1)] ⟨rfl,rfl,rfl,rfl,rfl,trivial⟩;rw [hdl]
    generalize hW2:(w.drew.alloc (.cells z.2 5)).setRow w.heap.size (z.2.toList.take i++ds++z.2.toList.drop (i+m)).toArray=W2
    have hG2:W2.heap[w.heap.size]? =some (.cells (z.2.toList.take i++ds++z.2.toList.drop (i+m)).toArray 5 (0,0)):=by rw [<-hW2];exact qe _ _ _ _ _ _ hG
    have hO2:∀k,k<w.heap.size->W2.heap[k]? =w.heap[k]? :=fun k hk=>by rw [<-hW2,qM _ _ _ _ (by omega)];exact hO k hk
    refine zfn (ztC [⟨[],46,.slice (some ⟨w.heap.size,0,none⟩) (n+m) z.1⟩,⟨[],47,.int .i64 (i:Int)⟩,⟨[],48,.int .i64 (m:Int)⟩,⟨[1,2],49,.int .i64 ((i+m:Nat):Int)⟩,⟨[0,3],50,.slice (some ⟨w.heap.size,i+m,none⟩) (n+m - (i+m)) (z.1 - (i+m))⟩,⟨[],51,s⟩,⟨[],52,.int .i64 (i:Int)⟩,⟨[5,6],53,.slice (some ⟨g,i,none⟩) (n - i) (w9 - i)⟩] e zdo rfl rfl rfl (by kernel_rfl) (by kernel_rfl) (by kernel_rfl) (fun k p hp=>?_) ⟨_,rfl,rfl,fun a e=>?_⟩)
    · rcases k with _| _| _| _| _| _| _| _| k
      · cases hp;exact ⟨_,rfl,rfl,rfl,fun a e=>zan rfl (e.at rfl)⟩
      · cases hp;exact ⟨_,rfl,rfl,rfl,fun a e=>zan rfl (e.at rfl)⟩
      · cases hp;exact ⟨_,rfl,rfl,rfl,fun a e=>zan rfl (e.at rfl)⟩
      · cases hp;exact ⟨_,rfl,rfl,rfl,fun a e=>zqy rfl (e.at rfl) (e.at rfl) (by omega)⟩
      · cases hp;exact ⟨_,rfl,rfl,rfl,fun a e=>zoh rfl hT (e.at rfl) (e.at rfl) (by omega) z1 (by omega)⟩
      · cases hp;exact ⟨_,rfl,rfl,rfl,fun a e=>zan rfl (e.at rfl)⟩
      · cases hp;exact ⟨_,rfl,rfl,rfl,fun a e=>zan rfl (e.at rfl)⟩
      · cases hp;exact ⟨_,rfl,rfl,rfl,fun a e=>zoh rfl hT ((e.at rfl).trans hg) (e.at rfl) (by omega) hnc (by omega)⟩
      · cases hp
    have hl2:(z.2.toList.take i++ds++z.2.toList.drop (i+m)).toArray.size=z.1:=by simp only [yW,xy,xO,xW,yD];omega
    refine zzt e rfl rfl (zvD (cs:=cs.drop i) rfl hT (e.at rfl) (e.at rfl) hG2 (by rw [hdr];simp only [Nat.min_def];split<;>omega) (fun j v hj=>by rw [qu] at hj;exact ztf ((hO2 g hglt).trans hh) htake _ v hj) (by omega) h1d) fun a e=>?_
    have e:=e.pick [(9,.slice (some ⟨w.heap.size,0,none⟩) (n+m) z.1)] ⟨rfl,trivial⟩;rw [hdr];refine zfn (zay ?_);refine wk e rfl rfl rfl (zan rfl (e.at rfl)) fun a e=>?_
    refine wk e rfl rfl rfl (zht rfl (e.at rfl)) fun a e=>?_
    refine zhH (zyi ?_);have hR:n+m<=z.2.toList.length:=by rw [yD];omega
    obtain ⟨k1,k2⟩:=zIU hR z4 hcl hdl hin;refine ⟨rfl,e.defers,?_⟩;rw [show a.tmps.getD 6 undef= .slice (some ⟨w.heap.size,0,none⟩) (n+m) z.1 from e.at rfl];refine ⟨rfl,⟨by simp only [xy,xO,xW];omega,.inr ⟨w.heap.size,z.1,_,rfl,xC _,qe {W2 with drawn:=W2.drawn+1} _ _ _ _ _ hG2,z1,z2,?_,?_⟩⟩,?_,.inr rfl⟩
    · simp only [yW];rw [k2,yD,yN];exact z3
    · rw [yN];exact k1
    · refine ⟨by rw [<-hW2];rfl,by rw [<-hW2];rfl,by rw [<-hW2];rfl,?_,fun k hk _=>?_⟩
      · have:W2.heap.size=w.heap.size+1:=by rw [<-hW2,zuZ];exact Array.size_push ..
        rw [zuZ];show w.heap.size<=W2.heap.size;omega
      · rw [qM _ _ _ _ (by omega)];exact hO2 k hk
  refine zjQ ((e.at rfl).trans (congrArg Value.bool (xT hroom))) (zvV ?_);refine zfn (zay ?_);refine wk e rfl rfl rfl (zan rfl (e.at rfl)) fun a e=>?_
  refine wk e rfl rfl rfl (zan rfl (e.at rfl)) fun a e=>?_
  refine wk e rfl rfl rfl (zan rfl (e.at rfl)) fun a e=>?_
  refine wk e rfl rfl rfl (zqy rfl (e.at rfl) (e.at rfl) (by omega)) fun a e=>?_
  refine wk e rfl rfl rfl (zFL rfl hT ((e.at rfl).trans hg) (e.at rfl) (by omega) hnc) fun a e=>?_
  refine wk e rfl rfl rfl (zht rfl (e.at rfl)) fun a e=>?_
  refine zhH ?_;have e:=e.pick [(0,.slice (some ⟨g,0,none⟩) (n+m) w9),(1,.int .i64 (i:Int)),(2,u),(7,.int .i64 (m:Int))] ⟨rfl,rfl,rfl,rfl,trivial⟩;have hfro:∀j,w.frozen? ⟨gu,j,none⟩=false:=fun j=>frozen_of_row w gu j cur2 5 hhu
  have hov:(callFunc 188 #[u,.slice (some ⟨g,i+m,none⟩) (n+m - (i+m)) (w9 - (i+m))]).run prog w= .ok (.value (.bool false)) w:=by
    rw [run_callFunc_extern func188 (by kernel_rfl) (by kernel_rfl) (by kernel_rfl) (e:=Extern.SlicesOverlaps.overlaps #[24,24] #[4]) (by kernel_rfl),hgu,
      Lib.run_overlaps_apart w 24 4 5 hT.u 1 hT.size ⟨gu,0,none⟩ ⟨g,i+m,none⟩ m cap2 _ _ hgg 5 5 cur2.size kj.size (zzL hhu) (zzL hh) (by omega) (hfro 0) (hfro _)]
    rfl
  refine zfn (zfn (zay ?_));refine wk e rfl rfl rfl (zan rfl (e.at rfl)) fun a e=>?_
  refine wk e rfl rfl rfl (zan rfl (e.at rfl)) fun a e=>?_
  refine wk e rfl rfl rfl (zan rfl (e.at rfl)) fun a e=>?_
  refine wk e rfl rfl rfl (zan rfl (e.at rfl)) fun a e=>?_
  refine wk e rfl rfl rfl (zqy rfl (e.at rfl) (e.at rfl) (by omega)) fun a e=>?_
  refine wk e rfl rfl rfl (zoh rfl hT (e.at rfl) (e.at rfl) (by omega) (by omega) (by omega)) fun a e=>?_
  refine wk e rfl rfl rfl (zNc rfl (e.at rfl) (e.at rfl) hov) fun a e=>?_
  refine wk e rfl rfl rfl (zNd rfl (e.at rfl)) fun a e=>?_
  refine zhH ?_;have e:=e.pick [(0,.slice (some ⟨g,0,none⟩) (n+m) w9),(1,.int .i64 (i:Int)),(2,u),(7,.int .i64 (m:Int)),(68,.bool true)] ⟨rfl,rfl,rfl,rfl,rfl,trivial⟩;refine zje (e.at rfl) (zfn (ztC [⟨[],69,.slice (some ⟨g,0,none⟩) (n+m) w9⟩,⟨[],70,.int .i64 (i:Int)⟩,⟨[],71,.int .i64 (m:Int)⟩,⟨[1,2],72,.int .i64 ((i+m:Nat):Int)⟩,⟨[0,3],73,.slice (some ⟨g,i+m,none⟩) (n+m - (i+m)) (w9 - (i+m))⟩,⟨[],74,.slice (some ⟨g,0,none⟩) (n+m) w9⟩,⟨[],75,.int .i64 (i:Int)⟩,⟨[5,6],76,.slice (some ⟨g,i,none⟩) (n+m - i) (w9 - i)⟩] e zdo rfl rfl rfl (by kernel_rfl) (by kernel_rfl) (by kernel_rfl) (fun k p hp=>?_) ⟨_,rfl,rfl,fun a e=>?_⟩))
  · rcases k with _| _| _| _| _| _| _| _| k
    · cases hp;exact ⟨_,rfl,rfl,rfl,fun a e=>zan rfl (e.at rfl)⟩
    · cases hp;exact ⟨_,rfl,rfl,rfl,fun a e=>zan rfl (e.at rfl)⟩
    · cases hp;exact ⟨_,rfl,rfl,rfl,fun a e=>zan rfl (e.at rfl)⟩
    · cases hp;exact ⟨_,rfl,rfl,rfl,fun a e=>zqy rfl (e.at rfl) (e.at rfl) (by omega)⟩
    · cases hp;exact ⟨_,rfl,rfl,rfl,fun a e=>zoh rfl hT (e.at rfl) (e.at rfl) (by omega) (by omega) (by omega)⟩
    · cases hp;exact ⟨_,rfl,rfl,rfl,fun a e=>zan rfl (e.at rfl)⟩
    · cases hp;exact ⟨_,rfl,rfl,rfl,fun a e=>zan rfl (e.at rfl)⟩
    · cases hp;exact ⟨_,rfl,rfl,rfl,fun a e=>zoh rfl hT (e.at rfl) (e.at rfl) (by omega) (by omega) (by omega)⟩
    · cases hp
  have hR:n+m<=kj.toList.length:=by rw [yD];omega
  obtain ⟨k1,k2,k3⟩:=zHm hR htake hcl hdl hin;have hh1:({w with drawn:=w.drawn+1}:World).heap[g]? =some (.cells kj 5 (0,0)):=hh;refine zzt e rfl rfl (zvD (cs:=cs.drop i) rfl hT (e.at rfl) (e.at rfl) hh1 (by rw [hdr];simp only [Nat.min_def];split<;>omega) (fun j v hj=>by rw [qu] at hj;exact ztf hh1 htake _ v hj) (by rw [hdr,hcs];omega) h1d) fun a e=>?_
  have e:=e.pick [(0,.slice (some ⟨g,0,none⟩) (n+m) w9),(1,.int .i64 (i:Int)),(2,u)] ⟨rfl,rfl,rfl,trivial⟩;rw [hdr];have hh2:=qe ({w with drawn:=w.drawn+1}:World) g kj (kj.toList.take (i+m)++cs.drop i++kj.toList.drop (i+m+(n - i))).toArray _ _ hh1;have hu2:=(qM ({w with drawn:=w.drawn+1}:World) g gu (kj.toList.take (i+m)++cs.drop i++kj.toList.drop (i+m+(n - i))).toArray hgg).trans hhu;refine zfn (zay ?_);refine wk e rfl rfl rfl (zan rfl (e.at rfl)) fun a e=>?_
  refine wk e rfl rfl rfl (zan rfl (e.at rfl)) fun a e=>?_
  refine wk e rfl rfl rfl (zoh rfl hT (e.at rfl) (e.at rfl) (by omega) (by omega) (by omega)) fun a e=>?_
  refine wk e rfl rfl rfl (zan rfl (e.at rfl)) fun a e=>?_
  refine wk e rfl rfl rfl (zvD (cs:=ds) rfl hT (e.at rfl) ((e.at rfl).trans hgu) hh2 (by rw [hdl];simp only [Nat.min_def];split<;>omega) (fun j v hj=>by rw [xL];exact ztf hu2 htake2 j v hj) (by rw [yW,k3,hdl];omega) h1u) fun a e=>?_
  refine zhH ?_;have e:=e.pick [(0,.slice (some ⟨g,0,none⟩) (n+m) w9)] ⟨rfl,trivial⟩;rw [hdl];refine zfn (zay ?_);refine wk e rfl rfl rfl (zan rfl (e.at rfl)) fun a e=>?_
  refine wk e rfl rfl rfl (zht rfl (e.at rfl)) fun a e=>?_
  refine zhH (zyi (⟨rfl,e.defers,?_⟩));rw [show a.tmps.getD 6 undef= .slice (some ⟨g,0,none⟩) (n+m) w9 from e.at rfl];refine ⟨rfl,⟨by simp only [xy,xO,xW];omega,.inr ⟨g,w9,_,rfl,xC _,qe _ _ _ _ _ _ hh2,by omega,hcm,?_,?_⟩⟩,?_,.inl (by rw [hg];rfl)⟩
  · simp only [yW];rw [k2,yD,yN];exact hcs
  · rw [yN];exact k1
  · refine ⟨rfl,rfl,rfl,by simp [World.setRow],fun k hk kl=>?_⟩;have hkg:k≠g:=fun e=>kl (by rw [hg,e];rfl)
    rw [qM _ _ _ _ hkg,qM _ _ _ _ hkg]
theorem zpo (h:ziD av b=some r):wO 15 [.sl Rp.byte [0] av,.sl Rp.byte [0] b] [kB r]:=by
 refine fi 10 func15 fun Xt=>?_
 unfold ziD at h;refine jp (jr (ra 1 [.sl Rp.byte [0] av] rfl (zpL rfl underlying24 underlying5 underlying9 (zbj _ _ _)) rfl (ra 1 [.sl Rp.byte [0] b] rfl (zpL rfl underlying24 underlying5 underlying9 (zbj _ _ _)) rfl rf)) ?_);cases h;exact zy lzz
theorem zra (h:zgb sv=some r):wO 8 [.sl zg [0] sv] [kB r]:=by
 refine fi 54 func8 fun Xt=>?_
 unfold zgb at h;refine jp (jp (jp (zu (jb h fun q2 vl h=>jL vl [0] [] (fun s=>[(3,kI s.1),(4,kI s.2)]) (fun o=> .x 0 ⟨[(3,kI o)],[]⟩) ?_ lzz ?_))))
 ·clear h;intro s o h;obtain ⟨n,i⟩:=s;replace h:zci sv n i=some o:=h;unfold zci at h;refine jp (jI h ?_ ?_)<;>intro uM h
  ·refine zu (jb h fun x uY h=>jb h fun x2 vd h=>jd [0,3,4] [] zdo (by exact (lwn 4 (di [0] zhp.el uY (lwn 7 (di [0] zhp.el vd (lw_e (lx (ldl zg [0] x2 1 zb x2.Fields) l0))))))) (jp (zu (jb h fun q uV h=>jL uV [0,4] [] (fun s=>[(3,kI s.1),(5,kI s.2)]) (fun o=> .X 2 [0,4] [] [(3,kI o)] []) ?_ lzz ?_))))
   ·clear h;intro s o h;obtain ⟨n3,k⟩:=s;replace h:zcj i sv n3 k=some o:=h;unfold zcj at h;refine jb h fun x3 vm h=>jr (rx 3 [0] zhp.el vm rfl rfl (rc 1 rfl (ldl zg [0] x3 1 zb x3.Fields) rf)) (jI h ?_ ?_)<;>intro uN h
    ·refine zu (jb h fun x4 vx h=>jb h fun x5 vD h=>jr (rx 3 [0] zhp.el vx rfl rfl (rc 1 rfl (ldl zg [0] x4 1 zb x4.Fields) (rx 1 [0] zkv.el vD rfl rfl rf))) (zR ?_));cases h;exact jy
    cases h;exact zaj rfl lzz
   refine zaE _ rfl (zR ?_);cases h;exact jy
  cases h;exact zaj rfl lzz
 refine zaE _ rfl ?_;cases h;exact jz
theorem zwh (h:zmg av b=some r):wO 28 [.sl Rp.byte [0] av,.sl Rp.byte [0] b] [kB r]:=by
 refine fi 10 func28 fun Xt=>?_
 unfold zmg at h;refine jp (jr (ra 1 [.sl Rp.byte [0] av] rfl (zpL rfl underlying24 underlying5 underlying9 (zbj _ _ _)) rfl (ra 1 [.sl Rp.byte [0] b] rfl (zpL rfl underlying24 underlying5 underlying9 (zbj _ _ _)) rfl rf)) ?_);cases h;exact zy lzz
theorem zjW (h:zen sv=some r):wO 118 [kS sv] [kB r]:=by
 refine fi 55 func118 fun Xt=>?_
 unfold zen at h;refine jp (jp (zu (jb h fun q uV h=>jL uV [0] [] (fun s=>[(3,kI s)]) (fun| (.inl v_)=> .x 0 ⟨[(0,kS sv)],[]⟩| (.inr v_)=> .r ⟨[(2,kB false)],[]⟩) ?_ lzz ?_)))
 ·clear h;intro i o h;unfold zbP at h;refine jp (jI h ?_ ?_)<;>intro uM h
  ·refine zu (jb h fun c vS h=>jr (ra 2 [kS sv,kI i] rfl (zAH rfl underlying9 vS) rfl rf) (jg [0,3] [] [(5,kB (if (decide ((c.toNat:Int)>=65)) then ((decide ((c.toNat:Int)<=90))|| (if (decide ((c.toNat:Int)>=97)) then ((decide ((c.toNat:Int)<=122))|| (((c.toNat:Int)==95)|| ((decide (i>0))&&((decide ((c.toNat:Int)>=48))&&(decide ((c.toNat:Int)<=57)))))) else (((c.toNat:Int)==95)|| ((decide (i>0))&&((decide ((c.toNat:Int)>=48))&&(decide ((c.toNat:Int)<=57))))))) else (if (decide ((c.toNat:Int)>=97)) then ((decide ((c.toNat:Int)<=122))|| (((c.toNat:Int)==95)|| ((decide (i>0))&&((decide ((c.toNat:Int)>=48))&&(decide ((c.toNat:Int)<=57)))))) else (((c.toNat:Int)==95)|| ((decide (i>0))&&((decide ((c.toNat:Int)>=48))&&(decide ((c.toNat:Int)<=57))))))))] ?_ ?_))
   ·refine (rsl 3 [] 17 (decide ((c.toNat:Int)>=65)) ?_ ?_)<;>intro uN
    ·refine (rsl 4 [] 21 (decide ((c.toNat:Int)<=90)) ?_ ?_)<;>intro uQ
     · exact (rbl [] 5 true rfl (by grind))
     refine (rsl 3 [] 24 (decide ((c.toNat:Int)>=97)) ?_ ?_)<;>intro uS
     ·refine (rsl 5 [] 29 (decide ((c.toNat:Int)<=122)) ?_ ?_)<;>intro uU
      · exact (rbl [] 5 true rfl (by grind))
      refine (rsl 4 [] 33 ((c.toNat:Int)==95) ?_ ?_)<;>intro uW
      · exact (rbl [] 5 true rfl (by grind))
      refine (rsl 3 [] 36 (decide (i>0)) ?_ ?_)<;>intro u0
      ·refine (rsl 4 [] 40 (decide ((c.toNat:Int)>=48)) ?_ ?_)<;>intro vg
       · exact (rbl [] 5 (decide ((c.toNat:Int)<=57)) rfl (by grind))
       exact (rbl [] 5 false rfl (by grind))
      exact (rbl [] 5 false rfl (by grind))
     refine (rsl 9 [] 33 ((c.toNat:Int)==95) ?_ ?_)<;>intro vj
     · exact (rbl [] 5 true rfl (by grind))
     refine (rsl 3 [] 36 (decide (i>0)) ?_ ?_)<;>intro vk
     ·refine (rsl 4 [] 40 (decide ((c.toNat:Int)>=48)) ?_ ?_)<;>intro vu
      · exact (rbl [] 5 (decide ((c.toNat:Int)<=57)) rfl (by grind))
      exact (rbl [] 5 false rfl (by grind))
     exact (rbl [] 5 false rfl (by grind))
    refine (rsl 7 [] 24 (decide ((c.toNat:Int)>=97)) ?_ ?_)<;>intro vp
    ·refine (rsl 5 [] 29 (decide ((c.toNat:Int)<=122)) ?_ ?_)<;>intro vt
     · exact (rbl [] 5 true rfl (by grind))
     refine (rsl 4 [] 33 ((c.toNat:Int)==95) ?_ ?_)<;>intro vv
     · exact (rbl [] 5 true rfl (by grind))
     refine (rsl 3 [] 36 (decide (i>0)) ?_ ?_)<;>intro vr
     ·refine (rsl 4 [] 40 (decide ((c.toNat:Int)>=48)) ?_ ?_)<;>intro vA
      · exact (rbl [] 5 (decide ((c.toNat:Int)<=57)) rfl (by grind))
      exact (rbl [] 5 false rfl (by grind))
     exact (rbl [] 5 false rfl (by grind))
    refine (rsl 9 [] 33 ((c.toNat:Int)==95) ?_ ?_)<;>intro vC
    · exact (rbl [] 5 true rfl (by grind))
    refine (rsl 3 [] 36 (decide (i>0)) ?_ ?_)<;>intro vE
    ·refine (rsl 4 [] 40 (decide ((c.toNat:Int)>=48)) ?_ ?_)<;>intro vG
     · exact (rbl [] 5 (decide ((c.toNat:Int)<=57)) rfl (by grind))
     exact (rbl [] 5 false rfl (by grind))
    exact (rbl [] 5 false rfl (by grind))
   refine jp (jI h ?_ ?_)<;>intro vT h
   ·cases h;exact jz'
   refine zR ?_;cases h;exact jy
  cases h;exact zaj rfl lzz
 rcases q with u| u2
 ·refine zaE _ rfl (jg [] [] [(2,kB ((decide ((sv.length:Int)>=1))&&(decide ((sv.length:Int)<=60))))] ?_ ?_)
  ·refine (rsl 4 [] 50 (decide ((sv.length:Int)>=1)) ?_ ?_)<;>intro vU
   · exact (rbl [] 2 (decide ((sv.length:Int)<=60)) rfl (by grind))
   exact (rbl [] 2 false rfl (by grind))
  cases h;exact zy lzz
 obtain rfl:=(sj h);exact zfQ lzz
theorem zgU (h:zdK k=some r):wO 84 [kI k] [kB r]:=by
 refine fi 9 func84 fun Xt=>?_
 unfold zdK at h;refine jp (jg [] [] [(2,kB ((decide (k>=1))&&(decide (k<=17))))] ?_ ?_)
 ·refine (rsl 3 [] 5 (decide (k>=1)) ?_ ?_)<;>intro uM
  · exact (rbl [] 2 (decide (k<=17)) rfl (by grind))
  exact (rbl [] 2 false rfl (by grind))
 cases h;exact zy lzz
theorem zdg (h:zbe k=some r):wO 38 [kI k] [kB r]:=by
 refine fi 9 func38 fun Xt=>?_
 unfold zbe at h;refine jp (jg [] [] [(2,kB ((decide (k>=1))&&(decide (k<=14))))] ?_ ?_)
 ·refine (rsl 3 [] 5 (decide (k>=1)) ?_ ?_)<;>intro uM
  · exact (rbl [] 2 (decide (k<=14)) rfl (by grind))
  exact (rbl [] 2 false rfl (by grind))
 cases h;exact zy lzz
theorem zcN (h:zaD b wU=some r):wO 60 [.sl Rp.byte [0] b,kI wU] [kU r.1,kI r.2.1,kI r.2.2]:=by
 refine fi 69 func60 fun Xt=>?_
 unfold zaD at h;refine jp (jp (zu (jb h fun q uV h=>jL uV [0,1] [] (fun s=>[(7,kI s)]) (fun o=> .X 0 [0,1] [] [(7,kI o)] []) ?_ lzz ?_)))
 ·clear h;intro n o h;unfold zbl at h;refine jb h fun g uO h=>jg [0,1,7] [] [(28,kB g)] ?_ ?_
  ·refine (rsI 7 16 uO ?_ ?_)<;>intro uM uO
   ·refine (rsI 4 20 uO ?_ ?_)<;>intro uN uO
    ·refine jb uO fun x uY uO=>?_;cases uO;exact (rx 4 [0] zbd.el uY rfl rfl rgg)
    cases uO;exact rgg
   cases uO;exact rgg
  refine jI h ?_ ?_<;>intro uQ h
  ·refine zu (jp (zR ?_));cases h;exact zS lzz
  cases h;exact zaj rfl lzz
 refine zaE _ rfl (jp (jI h ?_ ?_))<;>intro uS h
 ·cases h;exact jz
 refine jp (jI h ?_ ?_)<;>intro uU h
 ·cases h;exact jz
 refine jb h fun g2 u9 h=>jg [0,1,7] [] [(49,kB g2)] ?_ ?_
 ·refine (rsI 3 41 u9 ?_ ?_)<;>intro uW u9
  ·refine jb u9 fun x2 vd u9=>?_;cases u9;exact (rx 4 [0] zbd.el vd rfl rfl rgg)
  cases u9;exact rgg
 refine jI h ?_ ?_<;>intro u0 h
 ·cases h;exact jz
 refine jp (jp (zu (jb h fun q2 vl h=>jL vl [0,1,7] [] (fun s=>[(8,kU s.1),(9,kI s.2)]) (fun o=> .x 2 ⟨[(7,kI q),(8,kU o)],[]⟩) ?_ lzz ?_)))
 ·clear h;intro s o h;obtain ⟨wv,i⟩:=s;replace h:zcK wU b wv i=some o:=h;unfold zcK at h;refine jp (jI h ?_ ?_)<;>intro vg h
  ·refine zu (jb h fun x3 vm h=>jr (rx 6 [0] zbd.el vm rfl rfl rf) (zR ?_));cases h;exact jy
  cases h;exact zaj rfl lzz
 refine zaE _ rfl ?_;cases h;exact jz
theorem zoR (h:zeY vh wire=some r):wO 124 [kI vh,kI wire] [kB r]:=by
 refine fi 27 func124 fun Xt=>?_
 unfold zeY at h;refine jp (jg [] [] [(4,kB ((decide (vh>=1))&&((decide (vh<=536870911))&&((wire==0)|| ((wire==1)|| ((wire==2)|| (wire==5)))))))] ?_ ?_)
 ·refine (rsl 3 [] 7 (decide (vh>=1)) ?_ ?_)<;>intro uM
  ·refine (rsl 4 [] 11 (decide (vh<=536870911)) ?_ ?_)<;>intro uN
   ·refine (rsl 3 [] 14 (wire==0) ?_ ?_)<;>intro uQ
    · exact (rbl [] 4 true rfl (by grind))
    refine (rsl 4 [] 18 (wire==1) ?_ ?_)<;>intro uS
    · exact (rbl [] 4 true rfl (by grind))
    refine (rsl 4 [] 22 (wire==2) ?_ ?_)<;>intro uU
    · exact (rbl [] 4 true rfl (by grind))
    exact (rbl [] 4 (wire==5) rfl (by grind))
   exact (rbl [] 4 false rfl (by grind))
  exact (rbl [] 4 false rfl (by grind))
 cases h;exact zy lzz
theorem zoW (h:zfc m vh=some r):wO 55 [.rc zg [0] m,kI vh] [kI r]:=by
 refine fi 22 func55 fun Xt=>?_
 unfold zfc at h;refine jr (ra 0 [.rc zg [0] m] rfl (zlu 11 (zaf [0] m) [0] rfl rfl rfl rfl rfl) rfl rf) (jp (zu (jb h fun q uV h=>jL uV [1,2] [11] (fun s=>[(5,kI s)]) (fun| (.inl v_)=> .x 0 ⟨[],[]⟩| (.inr v_)=> .r ⟨[(4,kI v_)],[]⟩) ?_ lzz ?_)))
 ·clear h;intro i o h;unfold zbF at h;refine jp (jI h ?_ ?_)<;>intro uM h
  ·refine zu (jb h fun x uY h=>jr (rx 3 [0] zkv.el uY rfl rfl rf) (jI h ?_ ?_))<;>intro uN h
   ·cases h;exact jz'
   refine zR ?_;cases h;exact jy
  cases h;exact zaj rfl lzz
 rcases q with u| u2
 ·refine zaE _ rfl ?_;cases h;exact jz
 obtain rfl:=(sj h);exact zfQ lzz
theorem zhd (h:zdh k=some r):wO 58 [kI k] [kI r]:=by
 refine fi 9 func58 fun Xt=>?_
 unfold zdh at h;refine jp (jp (jI h ?_ ?_))<;>intro uM h
 ·cases h;exact jz
 refine jp (jI h ?_ ?_)<;>intro uN h
 ·cases h;exact jz
 refine jp (jI h ?_ ?_)<;>intro uQ h
 ·cases h;exact jz
 cases h;exact jz
theorem zrb (h:zgc rv=some r):wO 150 [kI rv] [.own Rp.byte 5 2 [] r]:=by
 refine fi 68 func150 fun Xt=>?_
 unfold zgc at h;refine jp (jg [0] [] [(16,kB ((decide (rv<0))|| ((decide (rv>1114111))|| ((decide (rv>=55296))&&(decide (rv<=57343))))))] ?_ ?_)
 ·refine (rsl 3 [] 5 (decide (rv<0)) ?_ ?_)<;>intro uM
  · exact (rbl [] 16 true rfl (by grind))
  refine (rsl 4 [] 9 (decide (rv>1114111)) ?_ ?_)<;>intro uN
  · exact (rbl [] 16 true rfl (by grind))
  refine (rsl 3 [] 12 (decide (rv>=55296)) ?_ ?_)<;>intro uQ
  · exact (rbl [] 16 (decide (rv<=57343)) rfl (by grind))
  exact (rbl [] 16 false rfl (by grind))
 refine jI h ?_ ?_<;>intro uS h
 ·refine jp ?_;cases h;exact zy lw
 refine jp (jI h ?_ ?_)<;>intro uU h
 ·refine jb h fun y vK h=>jr (rc 2 rfl (zz.lw (zfR [.lf (.int .u8 (y.toNat:Int))] 12 [] [y] rfl zbd rfl rfl rfl rfl) (.l (zhW vK))) rf) ?_;cases h;exact zy (lks [] [(12,2)] lzz)
 refine jp (jI h ?_ ?_)<;>intro uW h
 ·refine jb h fun y2 vF h=>jb h fun y3 wc h=>jr (rc 8 rfl (zz.lw (zfR [.lf (.int .u8 (y2.toNat:Int)),.lf (.int .u8 (y3.toNat:Int))] 13 [] [y2,y3] rfl zbd rfl rfl rfl rfl) (.c (zhW vF) (.l (zhW wc)))) rf) ?_;cases h;exact zy (lks [] [(13,2)] lzz)
 refine jp (jI h ?_ ?_)<;>intro u0 h
 ·refine jb h fun y4 we h=>jb h fun y5 wh h=>jb h fun y6 wi h=>jr (rc 13 rfl (zz.lw (zfR [.lf (.int .u8 (y4.toNat:Int)),.lf (.int .u8 (y5.toNat:Int)),.lf (.int .u8 (y6.toNat:Int))] 14 [] [y4,y5,y6] rfl zbd rfl rfl rfl rfl) (.c (zhW we) (.c (zhW wh) (.l (zhW wi))))) rf) ?_;cases h;exact zy (lks [] [(14,2)] lzz)
 refine jb h fun y7 wj h=>jb h fun y8 wo h=>jb h fun y9 wr h=>jb h fun y10 wu h=>jr (rc 18 rfl (zz.lw (zfR [.lf (.int .u8 (y7.toNat:Int)),.lf (.int .u8 (y8.toNat:Int)),.lf (.int .u8 (y9.toNat:Int)),.lf (.int .u8 (y10.toNat:Int))] 15 [] [y7,y8,y9,y10] rfl zbd rfl rfl rfl rfl) (.c (zhW wj) (.c (zhW wo) (.c (zhW wr) (.l (zhW wu)))))) rf) ?_;cases h;exact zy (lks [] [(15,2)] lzz)
theorem znZ (h:zeF m=some r):wO 36 [.rc zg [0] m] [.own wM 3 2 [] r]:=by
 refine fi 53 func36 fun Xt=>?_
 unfold zeF at h;refine jr (ra 0 [.rc zg [0] m] rfl (zlu 15 (zaf [0] m) [0] rfl rfl rfl rfl rfl) rfl rf) (jp (jp (zu (jb h fun q2 vl h=>jL vl [1] [15] (fun s=>[(3,.own wM 3 18 [] s.1),(4,kI s.2)]) (fun o=> .x 0 ⟨[(3,.own wM 3 18 [] o)],[]⟩) ?_ lw ?_))))
 ·clear h;intro s o h;obtain ⟨out,i⟩:=s;replace h:zbr m out i=some o:=h;unfold zbr at h;refine jp (jI h ?_ ?_)<;>intro uM h
  ·refine zu (jp (zu (jb h fun q uV h=>jL uV [1,3,4] [15] (fun s=>[(5,kI s)]) (fun o=> .X 2 [1,3,4] [15] [(5,kI o)] []) ?_ lzz ?_)))
   ·clear h;intro k o h;unfold zbs at h;refine jb h fun g uO h=>jn (.N [1,3,4,5] [15] [(35,kB g)] []) ?_ (zez ?_)
    ·rcases znr uO with ⟨uN,uO⟩| ⟨uN,uO⟩
     ·refine jb uO fun x uY uO=>jb uO fun x2 vd uO=>jb uO fun x3 vm uO=>?_;cases uO;exact jd [1,3,4,5,35] [15] zdo (by exact (lwn 4 (dg 17 uN (lwn 4 (ly [.own wM 3 18 [] out,kI k] (zji rfl zjm.el (zcV _ _ _ _ _) uY) rfl (lw_e (di [0] zkv.el vd (lwn 5 (di [0] zkv.el vm l0))))))))) (zS lzz)
     cases uO;exact jd [1,3,4,5,35] [15] zdo (by exact (lwn 4 (dg 17 uN l0))) (zS lzz)
    refine jI h ?_ ?_<;>intro uQ h
    ·refine zu (jp (zR ?_));cases h;exact zS lzz
    cases h;exact zaj rfl lzz
   refine zaE _ rfl (jb h fun v2 vn h=>jb h fun v3 ve h=>jr (rc 0 rfl (zfR [] 20 [] ([]:(List Int)) rfl zjm rfl rfl rfl rfl) (ra 2 [.own wM 3 18 [] out,kI q] rfl (zgf none (some (kI q)) rfl zjm.el (zcV _ _ _ _ _) ⟨rfl,rfl⟩ ⟨rfl,rfl⟩ vn) rfl (rc 0 rfl (las 20 [] [18] [] zjm.el ve (.inl (zio _))) rf))) (jb h fun v4 vy h=>jr (rc 2 rfl (zfR [kI i] 21 [] ([i]:(List Int)) rfl zjm rfl rfl rfl rfl) (rc 0 rfl (lao 20 [] 3 21 [] [] zjm.el vy (.inl (zio _))) rf)) (jb h fun v5 vH h=>jb h fun v6 vL h=>jr (ra 3 [.own wM 3 18 [] out,kI q] rfl (zgf (some (kI q)) none rfl zjm.el (zcV _ _ _ _ _) ⟨rfl,rfl⟩ ⟨rfl,rfl⟩ vH) rfl (rc 0 rfl (las 20 [] [18] [] zjm.el vL (.inl (zio _))) rf)) (zR (jp ?_)))));cases h;exact zS (lks [15] [(20,18)] lzz)
  cases h;exact zaj rfl lzz
 refine zaE _ rfl (jp ?_);obtain rfl:=(sj h);exact zy (lks [] [(18,2)] lzz)
theorem zpq (h:zfz b=some r):wO 59 [.sl Rp.byte [0] b] [kU r]:=by
 refine fi 28 func59 fun Xt=>?_
 unfold zfz at h;refine jp (jp (jp (zu (jb h fun q uV h=>jL uV [0] [] (fun s=>[(3,kU s.1),(4,kU s.2.1),(5,kI s.2.2)]) (fun o=> .x 0 ⟨[(3,kU o)],[]⟩) ?_ lzz ?_))))
 ·clear h;intro s o h;obtain ⟨wv,place,i⟩:=s;replace h:zbN b wv place i=some o:=h;unfold zbN at h;refine jg [0,3,4,5] [] [(13,kB ((decide (i<(b.length:Int)))&&(decide (i<8))))] ?_ ?_
  ·refine (rsl 5 [] 10 (decide (i<(b.length:Int))) ?_ ?_)<;>intro uM
   · exact (rbl [] 13 (decide (i<8)) rfl (by grind))
   exact (rbl [] 13 false rfl (by grind))
  refine jI h ?_ ?_<;>intro uN h
  ·refine zu (jb h fun x uY h=>jr (rx 3 [0] zbd.el uY rfl rfl rf) (jp (zR ?_)));cases h;exact jy
  cases h;exact zaj rfl lzz
 refine zaE _ rfl (jp ?_);obtain rfl:=(sj h);exact zy lzz
theorem znY (h:zeE wv=some r):wO 91 [kU wv] [kI r]:=by
 refine fi 12 func91 fun Xt=>?_
 unfold zeE at h;refine jp (jp (jp (jI h ?_ ?_)))<;>intro uM h
 ·refine jp ?_;cases h;exact jz
 cases h;exact jz
theorem zpp (h:zfy n=some r):wO 90 [kI n] [kU r]:=by
 refine fi 12 func90 fun Xt=>?_
 unfold zfy at h;refine jp (jp (jI h ?_ ?_))<;>intro uM h
 ·cases h;exact jz
 cases h;exact jz
theorem zpw (h:zfE v=some r):wO 40 [.rc zw [0] v] [kI r]:=by
 refine fi 14 func40 fun Xt=>?_
 unfold zfE at h;refine jr (rc 0 rfl (lbx 11 [0] (zeW [0] v)) rf) ?_;cases h;exact jz
theorem zpa (vY:∀{av:zd} {b:zd} {r:Bool},xf av b=some r->wO 19 [.rc zD [0] av,.rc zD [0] b] [kB r]) (vZ:∀{av:zc} {b:zc} {r:Bool},xg av b=some r->wO 34 [.rc zw [0] av,.rc zw [0] b] [kB r]) (h:zeG xf xg av b=some r):wO 19 [.rc zD [0] av,.rc zD [0] b] [kB r]:=by
 refine fi 60 func19 fun Xt=>?_
 unfold zeG at h;refine jr (rc 0 rfl (lbx 11 [0] (zmi [0] av)) (rc 0 rfl (lbx 12 [0] (zmi [0] b)) rf)) (jg [2,3] [11,12] [(22,kB (((av.Values.length:Int) !=(b.Values.length:Int))|| ((av.Unknown.length:Int) !=(b.Unknown.length:Int))))] ?_ ?_)
 ·refine (rsl 8 [] 14 ((av.Values.length:Int) !=(b.Values.length:Int)) ?_ ?_)<;>intro uM
  · exact (rbl [] 22 true rfl (by grind))
  exact (rbl [] 22 ((av.Unknown.length:Int) !=(b.Unknown.length:Int)) rfl (by grind))
 refine jI h ?_ ?_<;>intro uN h
 ·refine jp ?_;obtain rfl:=(sj h);exact zy lzz
 refine jp (zu (jb h fun q uV h=>jL uV [2,3] [11,12] (fun s=>[(5,kI s)]) (fun| (.inl v_)=> .X 0 [2,3] [11,12] [] []| (.inr v_)=> .r ⟨[(4,kB false)],[]⟩) ?_ lzz ?_))
 ·clear h;intro i o h;unfold zbT at h;refine jp (jI h ?_ ?_)<;>intro uQ h
  ·refine zu (jb h fun x uY h=>jb h fun x2 vd h=>jb h fun rv uP h=>jd [2,3,5,41] [11,12] zdo (by exact (lwn 3 (di [0] zGX.el uY (lx (lde zw [0] x zMu) (lwn 3 (di [0] zGX.el vd (lx (lde zw [0] x2 zMu) (lx (lf1 34 (lc0 12 call34 (vZ uP))) l0)))))))) (jI h ?_ ?_))<;>intro uS h
   ·cases h;exact jz'
   refine zR ?_;cases h;exact jy
  cases h;exact zaj rfl lzz
 rcases q with u| u4
 ·refine zaE _ rfl (jp (zu (jb h fun q2 vl h=>jL vl [2,3] [11,12] (fun s=>[(6,kI s)]) (fun| (.inl v_)=> .x 2 ⟨[],[]⟩| (.inr v_)=> .r ⟨[(4,kB false)],[]⟩) ?_ lzz ?_)))
  ·clear h;intro i2 o h;unfold zbU at h;refine jp (jI h ?_ ?_)<;>intro uU h
   ·refine zu (jb h fun x3 vm h=>jb h fun x4 vx h=>jd [2,3,6,59] [11,12] zdo (by exact (lwn 3 (di [0] zvh.el vm (lwn 4 (di [0] zvh.el vx l0))))) (jI h ?_ ?_))<;>intro uW h
    ·cases h;exact jz'
    refine zR ?_;cases h;exact jy
   cases h;exact zaj rfl lzz
  rcases q2 with u2| u3
  ·refine zaE _ rfl (jp ?_);obtain rfl:=(sj h);exact zy lzz
  obtain rfl:=(sj h);exact zfQ lzz
 obtain rfl:=(sj h);exact zfQ lzz
theorem zlm (vY:∀{av:zd} {b:zd} {r:Bool},xf av b=some r->wO 19 [.rc zD [0] av,.rc zD [0] b] [kB r]) (vZ:∀{av:zc} {b:zc} {r:Bool},xg av b=some r->wO 34 [.rc zw [0] av,.rc zw [0] b] [kB r]) (h:zcw xf xg av b=some r):wO 34 [.rc zw [0] av,.rc zw [0] b] [kB r]:=by
 refine fi 95 func34 fun Xt=>?_
 unfold zcw at h;refine jr (rc 0 rfl (lbx 11 [0] (zeW [0] av)) (rc 0 rfl (lbx 12 [0] (zeW [0] b)) rf)) (jg [2,3] [11,12] [(39,kB ((av.Number !=b.Number)|| (((av.Words.length:Int) !=(b.Words.length:Int))|| (((av.Texts.length:Int) !=(b.Texts.length:Int))|| ((av.Subs.length:Int) !=(b.Subs.length:Int))))))] ?_ ?_)
 ·refine (rsl 6 [] 13 (av.Number !=b.Number) ?_ ?_)<;>intro uM
  · exact (rbl [] 39 true rfl (by grind))
  refine (rsl 9 [] 22 ((av.Words.length:Int) !=(b.Words.length:Int)) ?_ ?_)<;>intro uN
  · exact (rbl [] 39 true rfl (by grind))
  refine (rsl 9 [] 31 ((av.Texts.length:Int) !=(b.Texts.length:Int)) ?_ ?_)<;>intro uQ
  · exact (rbl [] 39 true rfl (by grind))
  exact (rbl [] 39 ((av.Subs.length:Int) !=(b.Subs.length:Int)) rfl (by grind))
 refine jI h ?_ ?_<;>intro uS h
 ·refine jp ?_;obtain rfl:=(sj h);exact zy lzz
 refine jp (zu (jb h fun q uV h=>jL uV [2,3] [11,12] (fun s=>[(5,kI s)]) (fun| (.inl v_)=> .X 0 [2,3] [11,12] [] []| (.inr v_)=> .r ⟨[(4,kB false)],[]⟩) ?_ lzz ?_))
 ·clear h;intro i o h;unfold zaO at h;refine jp (jI h ?_ ?_)<;>intro uU h
  ·refine zu (jb h fun x uY h=>jb h fun x2 vd h=>jd [2,3,5,57] [11,12] zdo (by exact (lwn 3 (di [0] zrD.el uY (lwn 4 (di [0] zrD.el vd l0))))) (jI h ?_ ?_))<;>intro uW h
   ·cases h;exact jz'
   refine zR ?_;cases h;exact jy
  cases h;exact zaj rfl lzz
 rcases q with u| u6
 ·refine zaE _ rfl (jp (zu (jb h fun q2 vl h=>jL vl [2,3] [11,12] (fun s=>[(6,kI s)]) (fun| (.inl v_)=> .X 2 [2,3] [11,12] [] []| (.inr v_)=> .r ⟨[(4,kB false)],[]⟩) ?_ lzz ?_)))
  ·clear h;intro i2 o h;unfold zaP at h;refine jp (jI h ?_ ?_)<;>intro u0 h
   ·refine zu (jb h fun x3 vm h=>jb h fun x4 vx h=>jd [2,3,6,75] [11,12] zdo (by exact (lwn 3 (di [0] zvh.el vm (lwn 4 (di [0] zvh.el vx l0))))) (jI h ?_ ?_))<;>intro vg h
    ·cases h;exact jz'
    refine zR ?_;cases h;exact jy
   cases h;exact zaj rfl lzz
  rcases q2 with u2| u5
  ·refine zaE _ rfl (jp (zu (jb h fun q3 vM h=>jL vM [2,3] [11,12] (fun s=>[(7,kI s)]) (fun| (.inl v_)=> .x 4 ⟨[],[]⟩| (.inr v_)=> .r ⟨[(4,kB false)],[]⟩) ?_ lzz ?_)))
   ·clear h;intro i3 o h;unfold zaQ at h;refine jp (jI h ?_ ?_)<;>intro vj h
    ·refine zu (jb h fun x5 vD h=>jb h fun x6 vN h=>jb h fun rv uP h=>jd [2,3,7,94] [11,12] zdo (by exact (lwn 3 (di [0] zDX.el vD (lx (lde zD [0] x5 zIn) (lwn 3 (di [0] zDX.el vN (lx (lde zD [0] x6 zIn) (lx (lf1 19 (lc0 14 call19 (vY uP))) l0)))))))) (jI h ?_ ?_))<;>intro vk h
     ·cases h;exact jz'
     refine zR ?_;cases h;exact jy
    cases h;exact zaj rfl lzz
   rcases q3 with u3| u4
   ·refine zaE _ rfl (jp ?_);obtain rfl:=(sj h);exact zy lzz
   obtain rfl:=(sj h);exact zfQ lzz
  obtain rfl:=(sj h);exact zfQ lzz
 obtain rfl:=(sj h);exact zfQ lzz
theorem zfG (vb:Nat):(∀{av:zd} {b:zd} {r:Bool},zbi vb av b=some r->wO 19 [.rc zD [0] av,.rc zD [0] b] [kB r])/\(∀{av:zc} {b:zc} {r:Bool},zbt vb av b=some r->wO 34 [.rc zw [0] av,.rc zw [0] b] [kB r]):=by
  induction vb with
  | zero=>exact ⟨fun h=>absurd h nofun,fun h=>absurd h nofun⟩
  | succ vb ih=>exact ⟨fun h=>zpa (fun hh=>ih.1 hh) (fun hh=>ih.2 hh) h,fun h=>zlm (fun hh=>ih.1 hh) (fun hh=>ih.2 hh) h⟩
theorem zpx (h:zbi vb av b=some r):wO 19 [.rc zD [0] av,.rc zD [0] b] [kB r]:=(zfG vb).1 h
end Go.Proofs.YtaglemhabeipfaaGreat

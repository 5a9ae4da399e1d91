/-
  The Go functions do what the plain functions say. No condition.
-/
import Derived.Test.YtaglemhabeipfaaGreatx3T
set_option autoImplicit true
set_option relaxedAutoImplicit true
namespace Go.Proofs.YtaglemhabeipfaaGreat
open Go.IntKind (i64 u64 u8)
open Tryz
open Go Go.RowKit
set_option linter.unusedVariables false
set_option maxRecDepth 100000
set_option maxHeartbeats 3200000
abbrev zGV:=(mput ([]:(List (Int×zq))) 1 (⟨[105,110,116,51,50],0⟩:zq))
abbrev zGW:=(mput zGV 2 (⟨[105,110,116,54,52],0⟩:zq))
abbrev zGX:=(mput zGW 3 (⟨[117,105,110,116,51,50],0⟩:zq))
abbrev zGY:=(mput zGX 4 (⟨[117,105,110,116,54,52],0⟩:zq))
abbrev zGZ:=(mput zGY 5 (⟨[115,105,110,116,51,50],0⟩:zq))
abbrev zHa:=(mput zGZ 6 (⟨[115,105,110,116,54,52],0⟩:zq))
abbrev zHb:=(mput zHa 7 (⟨[98,111,111,108],0⟩:zq))
abbrev zHc:=(mput zHb 8 (⟨[101,110,117,109],0⟩:zq))
abbrev zHd:=(mput zHc 9 (⟨[102,105,120,101,100,51,50],5⟩:zq))
abbrev zDF:=(mput zHd 10 (⟨[115,102,105,120,101,100,51,50],5⟩:zq))
abbrev zDG:=(mput zDF 11 (⟨[102,108,111,97,116],5⟩:zq))
abbrev zDH:=(mput zDG 12 (⟨[102,105,120,101,100,54,52],1⟩:zq))
abbrev zDI:=(mput zDH 13 (⟨[115,102,105,120,101,100,54,52],1⟩:zq))
abbrev zze:=(mput zDI 14 (⟨[100,111,117,98,108,101],1⟩:zq))
theorem zmP (h:zin=some r):vy 168 [] [.om vv zaa 2 [] r]:=by
 refine fi 20 func168 fun Xt=>?_
 unfold zin at h;refine jp (jr (rc 0 rfl (zjF (rk:=vv) (rv:=zaa) 12 rfl) (rc 0 rfl (zJ (r:=zaa) [kS [105,110,116,51,50],kI 0] [] (⟨[105,110,116,51,50],0⟩:zq) rfl zeM rfl rfl) (rms (D:=[]) 0 [] 12 [] ([]:(List (Int×zq))) 1 (⟨[105,110,116,51,50],0⟩:zq) [] zdn (zcJ rfl rfl) (zbn rfl) (rc 0 rfl (zJ (r:=zaa) [kS [105,110,116,54,52],kI 0] [] (⟨[105,110,116,54,52],0⟩:zq) rfl zeM rfl rfl) (rms (D:=[]) 0 [] 12 [] zGV 2 (⟨[105,110,116,54,52],0⟩:zq) [] zdn (zcJ rfl rfl) (zbn rfl) (rc 0 rfl (zJ (r:=zaa) [kS [117,105,110,116,51,50],kI 0] [] (⟨[117,105,110,116,51,50],0⟩:zq) rfl zeM rfl rfl) (rms (D:=[]) 0 [] 12 [] zGW 3 (⟨[117,105,110,116,51,50],0⟩:zq) [] zdn (zcJ rfl rfl) (zbn rfl) (rc 0 rfl (zJ (r:=zaa) [kS [117,105,110,116,54,52],kI 0] [] (⟨[117,105,110,116,54,52],0⟩:zq) rfl zeM rfl rfl) (rms (D:=[]) 0 [] 12 [] zGX 4 (⟨[117,105,110,116,54,52],0⟩:zq) [] zdn (zcJ rfl rfl) (zbn rfl) (rc 0 rfl (zJ (r:=zaa) [kS [115,105,110,116,51,50],kI 0] [] (⟨[115,105,110,116,51,50],0⟩:zq) rfl zeM rfl rfl) (rms (D:=[]) 0 [] 12 [] zGY 5 (⟨[115,105,110,116,51,50],0⟩:zq) [] zdn (zcJ rfl rfl) (zbn rfl) (rc 0 rfl (zJ (r:=zaa) [kS [115,105,110,116,54,52],kI 0] [] (⟨[115,105,110,116,54,52],0⟩:zq) rfl zeM rfl rfl) (rms (D:=[]) 0 [] 12 [] zGZ 6 (⟨[115,105,110,116,54,52],0⟩:zq) [] zdn (zcJ rfl rfl) (zbn rfl) (rc 0 rfl (zJ (r:=zaa) [kS [98,111,111,108],kI 0] [] (⟨[98,111,111,108],0⟩:zq) rfl zeM rfl rfl) (rms (D:=[]) 0 [] 12 [] zHa 7 (⟨[98,111,111,108],0⟩:zq) [] zdn (zcJ rfl rfl) (zbn rfl) (rc 0 rfl (zJ (r:=zaa) [kS [101,110,117,109],kI 0] [] (⟨[101,110,117,109],0⟩:zq) rfl zeM rfl rfl) (rms (D:=[]) 0 [] 12 [] zHb 8 (⟨[101,110,117,109],0⟩:zq) [] zdn (zcJ rfl rfl) (zbn rfl) (rc 0 rfl (zJ (r:=zaa) [kS [102,105,120,101,100,51,50],kI 5] [] (⟨[102,105,120,101,100,51,50],5⟩:zq) rfl zeM rfl rfl) (rms (D:=[]) 0 [] 12 [] zHc 9 (⟨[102,105,120,101,100,51,50],5⟩:zq) [] zdn (zcJ rfl rfl) (zbn rfl) (rc 0 rfl (zJ (r:=zaa) [kS [115,102,105,120,101,100,51,50],kI 5] [] (⟨[115,102,105,120,101,100,51,50],5⟩:zq) rfl zeM rfl rfl) (rms (D:=[]) 0 [] 12 [] zHd 10 (⟨[115,102,105,120,101,100,51,50],5⟩:zq) [] zdn (zcJ rfl rfl) (zbn rfl) (rc 0 rfl (zJ (r:=zaa) [kS [102,108,111,97,116],kI 5] [] (⟨[102,108,111,97,116],5⟩:zq) rfl zeM rfl rfl) (rms (D:=[]) 0 [] 12 [] zDF 11 (⟨[102,108,111,97,116],5⟩:zq) [] zdn (zcJ rfl rfl) (zbn rfl) (rc 0 rfl (zJ (r:=zaa) [kS [102,105,120,101,100,54,52],kI 1] [] (⟨[102,105,120,101,100,54,52],1⟩:zq) rfl zeM rfl rfl) (rms (D:=[]) 0 [] 12 [] zDG 12 (⟨[102,105,120,101,100,54,52],1⟩:zq) [] zdn (zcJ rfl rfl) (zbn rfl) (rc 0 rfl (zJ (r:=zaa) [kS [115,102,105,120,101,100,54,52],kI 1] [] (⟨[115,102,105,120,101,100,54,52],1⟩:zq) rfl zeM rfl rfl) (rms (D:=[]) 0 [] 12 [] zDH 13 (⟨[115,102,105,120,101,100,54,52],1⟩:zq) [] zdn (zcJ rfl rfl) (zbn rfl) (rc 0 rfl (zJ (r:=zaa) [kS [100,111,117,98,108,101],kI 1] [] (⟨[100,111,117,98,108,101],1⟩:zq) rfl zeM rfl rfl) (rms (D:=[]) 0 [] 12 [] zDI 14 (⟨[100,111,117,98,108,101],1⟩:zq) [] zdn (zcJ rfl rfl) (zbn rfl) (rc 0 rfl (zJ (r:=zaa) [kS [115,116,114,105,110,103],kI 2] [] (⟨[115,116,114,105,110,103],2⟩:zq) rfl zeM rfl rfl) (rms (D:=[]) 0 [] 12 [] zze 15 (⟨[115,116,114,105,110,103],2⟩:zq) [] zdn (zcJ rfl rfl) (zbn rfl) (rc 0 rfl (zJ (r:=zaa) [kS [98,121,116,101,115],kI 2] [] (⟨[98,121,116,101,115],2⟩:zq) rfl zeM rfl rfl) (rms (D:=[]) 0 [] 12 [] (mput zze 15 (⟨[115,116,114,105,110,103],2⟩:zq)) 16 (⟨[98,121,116,101,115],2⟩:zq) [] zdn (zcJ rfl rfl) (zbn rfl) (rc 0 rfl (zJ (r:=zaa) [kS [109,101,115,115,97,103,101],kI 2] [] (⟨[109,101,115,115,97,103,101],2⟩:zq) rfl zeM rfl rfl) (rms (D:=[]) 0 [] 12 [] (mput (mput zze 15 (⟨[115,116,114,105,110,103],2⟩:zq)) 16 (⟨[98,121,116,101,115],2⟩:zq)) 17 (⟨[109,101,115,115,97,103,101],2⟩:zq) [] zdn (zcJ rfl rfl) (zbn rfl) rf))))))))))))))))))))))))))))))))))) ?_);cases h;exact zI (lks [] [(12,2)] lzz)
theorem ziU (h:zdN c=some r):vy 203 [k8 c] [kB r]:=by
 refine fi 9 func203 fun Xt=>?_
 unfold zdN at h;refine jp (jg [] [] [(2,kB ((decide (c>=48))&&(decide (c<=57))))] ?_ ?_)
 ·refine (rsl 3 [] 5 (decide (c>=48)) ?_ ?_)<;>intro ul
  · exact (rbl [] 2 (decide (c<=57)) rfl (by grind))
  exact (rbl [] 2 false rfl (by grind))
 cases h;exact zI lzz
theorem znv (h:zem c=some r):vy 204 [k8 c] [kB r]:=by
 refine fi 21 func204 fun Xt=>?_
 unfold zem at h;refine jp (jg [] [] [(2,kB (if (decide (c>=97)) then ((decide (c<=122))|| (if (decide (c>=65)) then ((decide (c<=90))|| (c==95)) else (c==95))) else (if (decide (c>=65)) then ((decide (c<=90))|| (c==95)) else (c==95))))] ?_ ?_)
 ·refine (rsl 3 [] 5 (decide (c>=97)) ?_ ?_)<;>intro ul
  ·refine (rsl 4 [] 9 (decide (c<=122)) ?_ ?_)<;>intro up
   · exact (rbl [] 2 true rfl (by grind))
   refine (rsl 3 [] 12 (decide (c>=65)) ?_ ?_)<;>intro ut
   ·refine (rsl 5 [] 17 (decide (c<=90)) ?_ ?_)<;>intro uw
    · exact (rbl [] 2 true rfl (by grind))
    exact (rbl [] 2 (c==95) rfl (by grind))
   exact (rbl [] 2 (c==95) rfl (by grind))
  refine (rsl 7 [] 12 (decide (c>=65)) ?_ ?_)<;>intro uB
  ·refine (rsl 5 [] 17 (decide (c<=90)) ?_ ?_)<;>intro uE
   · exact (rbl [] 2 true rfl (by grind))
   exact (rbl [] 2 (c==95) rfl (by grind))
  exact (rbl [] 2 (c==95) rfl (by grind))
 cases h;exact zI lzz
theorem znw (h:zen n=some r):vy 170 [kI n] [kB r]:=by
 refine fi 17 func170 fun Xt=>?_
 unfold zen at h;refine jp (jg [] [] [(2,kB ((decide (n>=1))&&((decide (n<=536870911))&&((decide (n<19000))|| (decide (n>19999))))))] ?_ ?_)
 ·refine (rsl 3 [] 5 (decide (n>=1)) ?_ ?_)<;>intro ul
  ·refine (rsl 4 [] 9 (decide (n<=536870911)) ?_ ?_)<;>intro up
   ·refine (rsl 3 [] 12 (decide (n<19000)) ?_ ?_)<;>intro ut
    · exact (rbl [] 2 true rfl (by grind))
    exact (rbl [] 2 (decide (n>19999)) rfl (by grind))
   exact (rbl [] 2 false rfl (by grind))
  exact (rbl [] 2 false rfl (by grind))
 cases h;exact zI lzz
theorem ziC (h:zbC sv v=some r):vy 205 [.sl vv [0] sv,kI v] [kI r]:=by
 refine fi 19 func205 fun Xt=>?_
 unfold zbC at h;refine jp (jp (zD (jb h fun q uy h=>jL uy [0,1,7] [] (fun s=>[(8,kI s)]) (fun| (.inl v_)=> .x 0 ⟨[],[]⟩| (.inr v_)=> .r ⟨[(4,kI v_)],[]⟩) ?_ lzz ?_)))
 ·clear h;intro v2 o h;unfold zat at h;refine jp (jI h ?_ ?_)<;>intro ul h
  ·refine zD (jp (jb h fun x uA h=>jr (rx 3 [0] zHm.el uA rfl rfl rf) (jI h ?_ ?_)))<;>intro up h
   ·cases h;exact jz'
   refine zaA ?_;cases h;exact jy
  cases h;exact zcc rfl lzz
 rcases q with u| u2
 ·refine zdp _ rfl ?_;cases h;exact jz
 obtain rfl:=(sj h);exact zpo lzz
theorem zkS (h:zdf c f=some r):vy 173 [.ag [kI c.size,.sl vv [0] c.kinds,.mp zv Rp.bool [0] c.names,.mp zc Rp.bool [0] c.numbers],.rc zb [0] f] [kB r]:=by
 refine fi 21 func173 fun Xt=>?_
 unfold zdf at h;refine jq [11,12] (jp (jI h ?_ ?_))<;>intro ul h
 ·refine jg [] [] [(4,kB ((decide (f.Of>=0))&&(decide (f.Of<c.size))))] ?_ ?_
  ·refine (rsl 4 [] 11 (decide (f.Of>=0)) ?_ ?_)<;>intro up
   · exact (rbl [] 4 (decide (f.Of<c.size)) rfl (by grind))
   exact (rbl [] 4 false rfl (by grind))
  cases h;exact zI lzz
 cases h;exact jz
theorem zgm (h:zdW b=some r):vy 182 [.sl Rp.byte [0] b] [kU r.1,kI r.2.1,k8 r.2.2]:=by
 refine fi 38 func182 fun Xt=>?_
 unfold zdW at h;refine jp (jb h fun v uC h=>jr (ra 4 [.sl Rp.byte [0] b,kI (if (10:Int)<(b.length:Int) then 10 else (b.length:Int))] rfl (zgE none (some (kI (if (10:Int)<(b.length:Int) then 10 else (b.length:Int)))) rfl zbd.el (zcb _ _ _) ⟨rfl,rfl⟩ ⟨rfl,rfl⟩ uC) rfl rf) (zD (jb h fun q uy h=>jL uy [11,12] [] (fun s=>[(2,kU s.1),(13,kI s.2)]) (fun| (.inl v_)=> .x 0 ⟨[],[]⟩| (.inr v_)=> .r ⟨[(2,kU v_.1),(3,kI v_.2.1),(4,k8 v_.2.2)],[]⟩) ?_ lzz ?_)))
 ·clear h;intro s o h;obtain ⟨wv,v2⟩:=s;replace h:zcA v wv v2=some o:=h;unfold zcA at h;refine jp (jI h ?_ ?_)<;>intro ul h
  ·refine zD (jb h fun x uA h=>jr (rx 1 [0] zbd.el uA rfl rfl rf) (jg [2,5,6,11,12,13] [] [(23,kB ((v2==9)&&(decide ((x.toNat:Int)>1))))] ?_ ?_))
   ·refine (rsl 3 [] 20 (v2==9) ?_ ?_)<;>intro up
    · exact (rbl [] 23 (decide ((x.toNat:Int)>1)) rfl (by grind))
    exact (rbl [] 23 false rfl (by grind))
   refine jI h ?_ ?_<;>intro ut h
   ·cases h;exact jz'
   refine jb h fun v4 uN h=>jr (ra 6 [kU (u64.wrap (andI .u8 (x.toNat:Int) 127)),kI (i64.wrap (7*v2))] rfl (zvH rfl uN) rfl rf) (jp (jI h ?_ ?_))<;>intro uw h
   ·cases h;exact jz'
   refine zaA ?_;cases h;exact jy
  cases h;exact zcc rfl lzz
 rcases q with u| u2
 ·refine zdp _ rfl ?_;cases h;exact jz
 cases h;exact zpo lzz
theorem zpL (h:zfh wire=some r):vy 209 [kI wire] [kB r]:=by
 refine fi 9 func209 fun Xt=>?_
 unfold zfh at h;refine jp (jp (zD (jp (jI h ?_ ?_))))<;>intro ul h
 ·refine jI h ?_ ?_<;>intro up h
  ·refine jp ?_;obtain rfl:=(sj h);exact zI lzz
  refine zaA (jp ?_);obtain rfl:=(sj h);exact zI lzz
 refine jp (jI h ?_ ?_)<;>intro ut h
 ·refine jI h ?_ ?_<;>intro uw h
  ·refine jp ?_;obtain rfl:=(sj h);exact zI lzz
  refine zaA (jp ?_);obtain rfl:=(sj h);exact zI lzz
 refine jp (jI h ?_ ?_)<;>intro uB h
 ·refine jI h ?_ ?_<;>intro uE h
  ·refine jp ?_;obtain rfl:=(sj h);exact zI lzz
  refine zaA (jp ?_);obtain rfl:=(sj h);exact zI lzz
 refine jp (jI h ?_ ?_)<;>intro uO h
 ·refine jp ?_;obtain rfl:=(sj h);exact zI lzz
 refine zaA (jp ?_);obtain rfl:=(sj h);exact zI lzz
theorem zqM (h:zgn f v=some r):vy 190 [.rc zb [0] f,.ep vv [0] v 0] [kB r]:=by
 refine fi 8 func190 fun Xt=>?_
 unfold zgn at h;refine jq [11] ?_;cases h;exact jz
theorem zhE (h:zeg k=some r):vy 185 [kI k] [kI r.1,k8 r.2]:=by
 refine fi 22 func185 fun Xt=>?_
 unfold zeg at h;refine jp (jp (zD (jp (jb h fun p uP h=>jn (.n ⟨[(4,kI k),(5,kB p)],[]⟩) ?_ ?_))))
 ·replace h:=uP;refine jI h ?_ ?_<;>intro ul h
  ·cases h;exact zaT lzz
  refine jp (jI h ?_ ?_)<;>intro up h
  ·cases h;exact zaT lzz
  refine jp (jI h ?_ ?_)<;>intro ut h
  ·cases h;exact zaT lzz
  refine jp (jI h ?_ ?_)<;>intro uw h
  ·cases h;exact zaT lzz
  refine jp (jI h ?_ ?_)<;>intro uB h
  ·cases h;exact zaT lzz
  refine jp (jI h ?_ ?_)<;>intro uE h
  ·cases h;exact zaT lzz
  refine jp (jI h ?_ ?_)<;>intro uO h
  ·cases h;exact zaT lzz
  cases h;exact jy
 refine zlh (jI h ?_ ?_)<;>intro uR h
 ·cases h;exact jz
 refine jp (jb h fun p2 uX h=>jn (.n ⟨[(4,kI k),(14,kB p2)],[]⟩) ?_ ?_)
 ·replace h:=uX;refine jI h ?_ ?_<;>intro uY h
  ·cases h;exact zaT lzz
  refine jp (jI h ?_ ?_)<;>intro uZ h
  ·cases h;exact zaT lzz
  cases h;exact jy
 refine zlh (jI h ?_ ?_)<;>intro u0 h
 ·cases h;exact jz
 refine jp (jI h ?_ ?_)<;>intro u9 h
 ·refine jI h ?_ ?_<;>intro va h
  ·cases h;exact jz
  refine zaA ?_;cases h;exact jz
 refine jp (jI h ?_ ?_)<;>intro vb h
 ·refine jI h ?_ ?_<;>intro vl h
  ·cases h;exact jz
  refine zaA ?_;cases h;exact jz
 refine jp (jI h ?_ ?_)<;>intro vm h
 ·cases h;exact jz
 refine zaA ?_;cases h;exact jz
theorem zmL (h:zgx wv=some r):vy 212 [kU wv] [.lf (.int .u32 r)]:=by
 refine fi 5 func212 fun Xt=>?_
 unfold zgx at h;refine jp ?_;cases h;exact jz
theorem zrv (h:zhc n=some r):vy 210 [.lf (.int .i32 n)] [kU r]:=by
 refine fi 6 func210 fun Xt=>?_
 unfold zhc at h;refine jp ?_;cases h;exact jz
theorem ztz (h:zkm wv=some r):vy 213 [kU wv] [kU r]:=by
 refine fi 5 func213 fun Xt=>?_
 unfold zkm at h;refine jp ?_;cases h;exact jz
theorem zpS (h:zjs wv=some r):vy 187 [kU wv] [kI r]:=by
 refine fi 13 func187 fun Xt=>?_
 unfold zjs at h;refine jp (jp (jr (ra 1 [kU wv,kU 7] rfl (zfX rfl rfl) rfl rf) (zD (jb h fun q uy h=>jL uy [] [] (fun s=>[(0,kU s.1),(3,kI s.2)]) (fun o=> .x 0 ⟨[(3,kI o)],[]⟩) ?_ lzz ?_))))
 ·clear h;intro s o h;obtain ⟨vI,n⟩:=s;replace h:zfy vI n=some o:=h;unfold zfy at h;refine jp (jI h ?_ ?_)<;>intro ul h
  ·refine zD (jp (zaA (jr (ra 1 [kU vI,kU 7] rfl (zfX rfl rfl) rfl rf) ?_)));cases h;exact zaT lzz
  cases h;exact zcc rfl lzz
 refine zdp _ rfl (jp ?_);obtain rfl:=(sj h);exact zI lzz
theorem zyl (h:zoO c=some r):vy 221 [k8 c] [kI r.1,.lf (.int .u32 r.2)]:=by
 refine fi 31 func221 fun Xt=>?_
 unfold zoO at h;refine jp (zD (jr (ra 1 [k8 c,kU 7] rfl (zfX rfl rfl) rfl rf) (jI h ?_ ?_)))<;>intro ul h
 ·cases h;exact jz
 refine jr (ra 1 [k8 c,kU 5] rfl (zfX rfl rfl) rfl rf) (jI h ?_ ?_)<;>intro up h
 ·cases h;exact jz
 refine jr (ra 1 [k8 c,kU 4] rfl (zfX rfl rfl) rfl rf) (jI h ?_ ?_)<;>intro ut h
 ·cases h;exact jz
 refine jr (ra 1 [k8 c,kU 3] rfl (zfX rfl rfl) rfl rf) (jI h ?_ ?_)<;>intro uw h
 ·cases h;exact jz
 refine zaA ?_;cases h;exact jz
theorem zyk (h:zkb wv=some r):vy 222 [.lf (.int .u32 wv)] [kI r]:=by
 refine fi 22 func222 fun Xt=>?_
 unfold zkb at h;refine jp (zD (jr (ra 1 [.lf (.int .u32 wv),kU 7] rfl (zfX rfl rfl) rfl rf) (jI h ?_ ?_)))<;>intro ul h
 ·cases h;exact jz
 refine jr (ra 1 [.lf (.int .u32 wv),kU 11] rfl (zfX rfl rfl) rfl rf) (jI h ?_ ?_)<;>intro up h
 ·cases h;exact jz
 refine jr (ra 1 [.lf (.int .u32 wv),kU 11] rfl (zfX rfl rfl) rfl rf) (jI h ?_ ?_)<;>intro ut h
 ·cases h;exact jz
 refine jr (ra 1 [.lf (.int .u32 wv),kU 16] rfl (zfX rfl rfl) rfl rf) (jI h ?_ ?_)<;>intro uw h
 ·cases h;exact jz
 refine jp (jI h ?_ ?_)<;>intro uB h
 ·cases h;exact jz
 refine zaA ?_;cases h;exact jz
theorem zvk (h:zjt b=some r):vy 217 [.sl Rp.byte [0] b] [kU r]:=by
 refine fi 26 func217 fun Xt=>?_
 unfold zjt at h;refine jp (jp (jb h fun v uC h=>jr (ra 4 [.sl Rp.byte [0] b,kI (if (8:Int)<(b.length:Int) then 8 else (b.length:Int))] rfl (zgE none (some (kI (if (8:Int)<(b.length:Int) then 8 else (b.length:Int)))) rfl zbd.el (zcb _ _ _) ⟨rfl,rfl⟩ ⟨rfl,rfl⟩ uC) rfl rf) (zD (jb h fun q uy h=>jL uy [10,11] [] (fun s=>[(3,kU s.1),(12,kI s.2)]) (fun o=> .x 0 ⟨[(3,kU o)],[]⟩) ?_ lzz ?_))))
 ·clear h;intro s o h;obtain ⟨wv,v2⟩:=s;replace h:zdZ v wv v2=some o:=h;unfold zdZ at h;refine jp (jI h ?_ ?_)<;>intro ul h
  ·refine zD (jb h fun x uA h=>jr (rx 1 [0] zbd.el uA rfl rfl rf) (jb h fun v3 uG h=>jr (ra 5 [kU (u64.wrap (x.toNat:Int)),kI (i64.wrap (8*v2))] rfl (zvH rfl uG) rfl rf) (zaA ?_)));cases h;exact jy
  cases h;exact zcc rfl lzz
 refine zdp _ rfl (jp ?_);obtain rfl:=(sj h);exact zI lzz
theorem zrt (h:zha wv n=some r):vy 206 [kU wv,kI n] [.own Rp.byte 5 2 [] r]:=by
 refine fi 26 func206 fun Xt=>?_
 unfold zha at h;refine jp (jb h fun v uC h=>jr (ra 3 [kI (if (8:Int)<(if n<0 then 0 else n) then 8 else (if n<0 then 0 else n)),kI (if (8:Int)<(if n<0 then 0 else n) then 8 else (if n<0 then 0 else n))] rfl (zAI 12 rfl zbd rfl uC) rfl rf) (jp (zD (jb h fun q uy h=>jL uy [0,12] [] (fun s=>[(5,.own Rp.byte 5 12 [] s.1),(13,kI s.2)]) (fun o=> .x 0 ⟨[(5,.own Rp.byte 5 12 [] o)],[]⟩) ?_ lzz ?_))))
 ·clear h;intro s o h;obtain ⟨b,v2⟩:=s;replace h:zcr v wv b v2=some o:=h;unfold zcr at h;refine jp (jI h ?_ ?_)<;>intro ul h
  ·refine zD (jp (jb h fun v3 uG h=>jb h fun x uA h=>jb h fun y2 uS h=>jr (ra 5 [kU wv,kI (i64.wrap (8*v2))] rfl (zfX rfl uG) rfl (ra 1 [.own Rp.byte 5 12 [] b,kI v2] rfl (zHP rfl zbd.el uA) rfl (rkl 0 [] ⟨[(0,kU wv),(5,.own Rp.byte 5 12 [] b),(12,kI (v.length:Int)),(13,kI v2),(22,k8 (u8.wrap v3)),(23,.ptr 12 (Int.toNat v2*Rp.byte.size))],[]⟩ (zIe (r:=Rp.byte) (e:=5) (C:=[]) (xs:=b) [5] (Int.toNat v2) 0 x y2 [] rfl rfl rfl rfl rfl rfl sizeOf5 rfl (by kernel_rfl) rfl (zFH uA) rfl (zEE uS _) rfl rf)))) (zaA ?_)));cases h;exact jy
  cases h;exact zcc rfl lzz
 refine zdp _ rfl (jp ?_);obtain rfl:=(sj h);exact zI (lks [] [(12,2)] lzz)
theorem zyb (h:zlP t=some r):vy 207 [.rc zaP [0] t] [kU r]:=by
 refine fi 11 func207 fun Xt=>?_
 unfold zlP at h;refine jq [11] (jr (ra 3 [kU (u64.wrap t.Number),kU 3] rfl (zvH rfl rfl) rfl rf) ?_);cases h;exact zI lzz
theorem zhM (h:zbo n=some r):vy 105 [kN,kI n] [.own Rp.byte 5 2 [] r]:=by
 refine fi 27 func105 fun Xt=>?_
 unfold zbo at h;refine jp (jp (jI h ?_ ?_))<;>intro ul h
 · exact absurd h nofun
 refine jr (ra 2 [kN] rfl (zup rfl underlying24) rfl rf) (jp (jI h ?_ ?_))<;>intro up h
 ·refine jb h fun v uC h=>jb h fun v2 uJ h=>jr (ra 2 [kN] rfl (zup rfl underlying24) rfl (ra 0 [kN,kI 0] rfl (zBX rfl zbd.el) rfl (ra 1 [kN,kI (i64.wrap (n - (i64.wrap (0 - 0))))] rfl (zFU 12 rfl underlying3 zbd rfl uC) rfl (ra 2 [.own Rp.byte 5 12 [] v,kI 0] rfl (zAG rfl zbd.el uJ) rfl rf)))) (jp ?_);obtain rfl:=(sj h);exact zI (lks [] [(12,2)] lzz)
 refine jp ?_;cases h;exact zI lw
theorem zHA:zGO prog 145 5:=by
  intro w s u n m i cs ds hs hu hap h1s h1u hin hlim;have hT:ElT prog 24 5 1 1:=zbd.el;have hcl:cs.length=n:=by have:=hs.1;omega
  have hdl:ds.length=m:=by have:=hu.1;omega
  obtain ⟨A,c,hsf,hnc,hcm⟩:=zvQ hs;obtain ⟨B,c2,huf,hmc,hcm2⟩:=zvQ hu;have hml:(maxLen:Nat)=9223372036854775807:=rfl;refine zyP 6 func145 rfl rfl ?_;have e0:Ev ⟨#[s,.int .i64 (i:Int),u]++Array.replicate (f145.ntmps - 3) undef,[]⟩ 95 [(0,s),(1,.int .i64 (i:Int)),(2,u)]:=Ev.three _ _ _ (95 - 3);refine zdm (zam ?_);refine wk e0 rfl rfl rfl (zeR rfl rfl) fun a e=>?_
  refine zfd (zdm (zam ?_));refine wk e rfl rfl rfl (zac rfl (e.at rfl)) fun a e=>?_
  refine wk e rfl rfl rfl (zac rfl (e.at rfl)) fun a e=>?_
  refine wk e rfl rfl rfl (zAl rfl hT ((e.at rfl).trans hsf) (e.at rfl) hin hnc) fun a e=>?_
  refine zfd (zdm (zam ?_));refine wk e rfl rfl rfl (zac rfl (e.at rfl)) fun a e=>?_
  refine wk e rfl rfl rfl (zDg rfl ((e.at rfl).trans huf) hT.u) fun a e=>?_
  refine wk e rfl rfl rfl (zeR rfl (e.at rfl)) fun a e=>?_
  refine zfd (zdm (zdm (zam ?_)));refine wk e rfl rfl rfl (zac rfl (e.at rfl)) fun a e=>?_
  refine wk e rfl rfl rfl (zAm (j:=0) rfl (e.at rfl) rfl) fun a e=>?_
  refine zfd ?_;have e:=e.pick [(0,s),(1,.int .i64 (i:Int)),(2,u),(7,.int .i64 (m:Int)),(16,.bool (decide (m=0)))] ⟨rfl,rfl,rfl,rfl,rfl,trivial⟩;rcases qI m with hm0| hm
  · refine zgp ((e.at rfl).trans (congrArg Value.bool (xK hm0))) (zdm (zam ?_));refine wk e rfl rfl rfl (zac rfl (e.at rfl)) fun a e=>?_
    refine wk e rfl rfl rfl (zeR rfl (e.at rfl)) fun a e=>?_
    refine zfd (ztq ?_);have hd0:ds=[]:=yo (by omega);refine ⟨rfl,e.defers,?_⟩;rw [show a.tmps.getD 6 undef=s from e.at rfl];refine ⟨by rw [hsf];rfl,?_,⟨rfl,rfl,rfl,xr _,fun _ _ _=>rfl⟩,.inl rfl⟩;rw [hm0,hd0,yr,xS,y7];exact hs
  refine zgY ((e.at rfl).trans (congrArg Value.bool (xR (by omega)))) (zrj ?_);refine zdm (zam ?_);refine wk e rfl rfl rfl (zac rfl (e.at rfl)) fun a e=>?_
  refine wk e rfl rfl rfl (zDg rfl ((e.at rfl).trans hsf) hT.u) fun a e=>?_
  refine wk e rfl rfl rfl (zeR rfl (e.at rfl)) fun a e=>?_
  refine zfd (zdm (zdm (zam ?_)));refine wk e rfl rfl rfl (zac rfl (e.at rfl)) fun a e=>?_
  refine wk e rfl rfl rfl (zac rfl (e.at rfl)) fun a e=>?_
  refine wk e rfl rfl rfl (zAm rfl (e.at rfl) (e.at rfl)) fun a e=>?_
  refine zfd ?_;have e:=e.pick [(0,s),(1,.int .i64 (i:Int)),(2,u),(7,.int .i64 (m:Int)),(8,.int .i64 (n:Int)),(22,.bool (decide (i=n)))] ⟨rfl,rfl,rfl,rfl,rfl,rfl,trivial⟩;by_cases hi0:i=n
  · refine zgp ((e.at rfl).trans (congrArg Value.bool (xK hi0))) (zdm (zam ?_));refine wk e rfl rfl rfl (zac rfl (e.at rfl)) fun a e=>?_
    refine wk e rfl rfl rfl (zac rfl (e.at rfl)) fun a e=>?_
    refine zHl e rfl rfl rfl (zHv rfl hT (e.at rfl) (e.at rfl) hs hu h1u hlim) fun z a hz e=>?_
    refine wk e rfl rfl rfl (zeR rfl (e.at rfl)) fun a e=>?_
    refine zfd (ztq ?_);obtain ⟨hz1,hz2,hz3⟩:=hz;refine ⟨rfl,e.defers,?_⟩;rw [show a.tmps.getD 6 undef=z.1 from e.at rfl];refine ⟨by obtain ⟨A',c',h',_⟩:=zvQ hz1;rw [h'];rfl,?_,hz2,hz3⟩;rw [hi0,<-hcl,pA,qY,xS,hcl];exact hz1
  refine zgY ((e.at rfl).trans (congrArg Value.bool (xR hi0))) (zrj ?_);have vC:i<n:=by omega
  refine zdm (zdm (zam ?_));refine wk e rfl rfl rfl (zac rfl (e.at rfl)) fun a e=>?_
  refine wk e rfl rfl rfl (zac rfl (e.at rfl)) fun a e=>?_
  refine wk e rfl rfl rfl (zmc rfl (e.at rfl) (e.at rfl) (by omega)) fun a e=>?_
  refine wk e rfl rfl rfl (zac rfl (e.at rfl)) fun a e=>?_
  refine wk e rfl rfl rfl (zHw rfl ((e.at rfl).trans hsf) hT.u) fun a e=>?_
  refine wk e rfl rfl rfl (zFB rfl (e.at rfl) (e.at rfl)) fun a e=>?_
  refine zfd ?_;have e:=e.pick [(0,s),(1,.int .i64 (i:Int)),(2,u),(7,.int .i64 (m:Int)),(8,.int .i64 (n:Int)),(31,.bool (decide (c<n+m)))] ⟨rfl,rfl,rfl,rfl,rfl,rfl,trivial⟩;obtain ⟨g,vK,vQ,hg,_,hh,_,_,hcs,htake⟩:∃g vK vQ,s= .slice (some ⟨g,0,none⟩) n vK/\0<=g/\w.heap[g]? =some (.cells vQ 5 (0,0))/\n<=vK/\vK<=maxLen/\vQ.size=vK*1/\vQ.toList.take (n*1)=cs:=by
    rcases hs.2 with ⟨_,h0⟩| h
    · omega
    · exact h
  obtain ⟨gu,cap2,cur2,hgu,_,hhu,_,_,hcs2,htake2⟩:∃g vK vQ,u= .slice (some ⟨g,0,none⟩) m vK/\0<=g/\w.heap[g]? =some (.cells vQ 5 (0,0))/\m<=vK/\vK<=maxLen/\vQ.size=vK*1/\vQ.toList.take (m*1)=ds:=by
    rcases hu.2 with ⟨_,h0⟩| h
    · omega
    · exact h
  obtain rfl:vK=c:=by rw [hsf] at hg;cases hg;rfl
  rw [yL] at hcs hcs2 htake htake2;have hglt:g<w.heap.size:=(xX.1 hh).1;have hgult:gu<w.heap.size:=(xX.1 hhu).1;have hgg:gu≠g:=fun e=>hap g (by rw [hg];rfl) (by rw [hgu,e];rfl)
  have hdr:(cs.drop i).length=n - i:=by rw [xT,hcl]
  have h1d:∀v∈cs.drop i,v.oneCell'=true:=fun v hv=>h1s v (qZ hv)
  by_cases hroom:vK<n+m
  · refine zgp ((e.at rfl).trans (congrArg Value.bool (xK hroom))) (zdm (zam ?_));refine wk e rfl rfl rfl (zac rfl (e.at rfl)) fun a e=>?_
    refine wk e rfl rfl rfl (zac rfl (e.at rfl)) fun a e=>?_
    refine wk e rfl rfl rfl (zAk rfl hT ((e.at rfl).trans hg) (e.at rfl) (by omega) hnc) fun a e=>?_
    refine wk e rfl rfl rfl (zac rfl (e.at rfl)) fun a e=>?_
    refine wk e rfl rfl rfl (zac rfl (e.at rfl)) fun a e=>?_
    refine wk e rfl rfl rfl (zmc rfl (e.at rfl) (e.at rfl) (by omega)) fun a e=>?_
    refine wk e rfl rfl rfl (zac rfl (e.at rfl)) fun a e=>?_
    refine wk e rfl rfl rfl (zFC rfl (e.at rfl) (e.at rfl) (by omega) (by omega)) fun a e=>?_
    refine zHl e rfl rfl rfl (zFA (olds:=cs.take i) rfl hT underlying3 (e.at rfl) (e.at rfl) (zoA hh (by rw [<-htake,y8,yM hin])) (by rw [xY];omega) (by omega) (by omega) (by omega)) fun z a hz e=>?_
    refine wk e rfl rfl rfl (zeR rfl (e.at rfl)) fun a e=>?_
    refine zfd ?_;obtain ⟨z1,z2,z3,z4⟩:=hz;have hnm:i+(n+m - i)=n+m:=by omega
    rw [hnm] at z1;have e:=e.pick [(0,s),(1,.int .i64 (i:Int)),(2,u),(7,.int .i64 (m:Int)),(9,.slice (some ⟨w.heap.size,0,none⟩) (n+m) z.1)] ⟨rfl,rfl,rfl,rfl,congrArg (fun k=>some (Value.slice (some ⟨w.heap.size,0,none⟩) k z.1)) hnm,trivial⟩;have hG:=yN w.drew (.cells z.2 5);have hO:∀k,k<w.heap.size->(w.drew.alloc (.cells z.2 5)).heap[k]? =w.heap[k]? :=fun k hk=>heap_alloc_old w.drew _ hk
    refine zdm (zam ?_);refine wk e rfl rfl rfl (zac rfl (e.at rfl)) fun a e=>?_
    refine wk e rfl rfl rfl (zac rfl (e.at rfl)) fun a e=>?_
    refine wk e rfl rfl rfl (zkk rfl hT (e.at rfl) (e.at rfl) (by omega) z1 (by omega)) fun a e=>?_
    refine wk e rfl rfl rfl (zac rfl (e.at rfl)) fun a e=>?_
    refine wk e rfl rfl rfl (zqT (cs:=ds) rfl hT (e.at rfl) ((e.at rfl).trans hgu) hG (by rw [hdl];simp only [Nat.min_def];split<;>omega) (fun j v hj=>by rw [xJ];exact zoA ((hO gu hgult).trans hhu) htake2 j v hj) (by omega) h1u) fun a e=>?_
    refine zfd ?_;have e:=e.pick [(0,s),(1,.int .i64 (i:Int)),(2,u),(7,.int .i64 (m:Int)),(9,.slice (some ⟨w.heap.size,0,none⟩) (n+m) z.1)] ⟨rfl,rfl,rfl,rfl,rfl,trivial⟩;rw [hdl]
    generalize hW2:(w.drew.alloc (.cells z.2 5)).setRow w.heap.size (z.2.toList.take i++ds++z.2.toList.drop (i+m)).toArray=W2
    have hG2:W2.heap[w.heap.size]? =some (.cells (z.2.toList.take i++ds++z.2.toList.drop (i+m)).toArray 5 (0,0)):=by rw [<-hW2];exact yU _ _ _ _ _ _ hG
    have hO2:∀k,k<w.heap.size->W2.heap[k]? =w.heap[k]? :=fun k hk=>by rw [<-hW2,qr _ _ _ _ (by omega)];exact hO k hk
    refine zdm (zoW [⟨[],46,.slice (some ⟨w.heap.size,0,none⟩) (n+m) z.1⟩,⟨[],47,.int .i64 (i:Int)⟩,⟨[],48,.int .i64 (m:Int)⟩,⟨[1,2],49,.int .i64 ((i+m:Nat):Int)⟩,⟨[0,3],50,.slice (some ⟨w.heap.size,i+m,none⟩) (n+m - (i+m)) (z.1 - (i+m))⟩,⟨[],51,s⟩,⟨[],52,.int .i64 (i:Int)⟩,⟨[5,6],53,.slice (some ⟨g,i,none⟩) (n - i) (vK - i)⟩] e zhj rfl rfl rfl (by kernel_rfl) (by kernel_rfl) (by kernel_rfl) (fun k p hp=>?_) ⟨_,rfl,rfl,fun a e=>?_⟩)
    · rcases k with _| _| _| _| _| _| _| _| k
      · cases hp;exact ⟨_,rfl,rfl,rfl,fun a e=>zac rfl (e.at rfl)⟩
      · cases hp;exact ⟨_,rfl,rfl,rfl,fun a e=>zac rfl (e.at rfl)⟩
      · cases hp;exact ⟨_,rfl,rfl,rfl,fun a e=>zac rfl (e.at rfl)⟩
      · cases hp;exact ⟨_,rfl,rfl,rfl,fun a e=>zmc rfl (e.at rfl) (e.at rfl) (by omega)⟩
      · cases hp;exact ⟨_,rfl,rfl,rfl,fun a e=>zkk rfl hT (e.at rfl) (e.at rfl) (by omega) z1 (by omega)⟩
      · cases hp;exact ⟨_,rfl,rfl,rfl,fun a e=>zac rfl (e.at rfl)⟩
      · cases hp;exact ⟨_,rfl,rfl,rfl,fun a e=>zac rfl (e.at rfl)⟩
      · cases hp;exact ⟨_,rfl,rfl,rfl,fun a e=>zkk rfl hT ((e.at rfl).trans hg) (e.at rfl) (by omega) hnc (by omega)⟩
      · cases hp
    have hl2:(z.2.toList.take i++ds++z.2.toList.drop (i+m)).toArray.size=z.1:=by simp only [yO,xt,xY,xT,yv];omega
    refine zuw e rfl rfl (zqT (cs:=cs.drop i) rfl hT (e.at rfl) (e.at rfl) hG2 (by rw [hdr];simp only [Nat.min_def];split<;>omega) (fun j v hj=>by rw [qt] at hj;exact zoA ((hO2 g hglt).trans hh) htake _ v hj) (by omega) h1d) fun a e=>?_
    have e:=e.pick [(9,.slice (some ⟨w.heap.size,0,none⟩) (n+m) z.1)] ⟨rfl,trivial⟩;rw [hdr];refine zdm (zam ?_);refine wk e rfl rfl rfl (zac rfl (e.at rfl)) fun a e=>?_
    refine wk e rfl rfl rfl (zeR rfl (e.at rfl)) fun a e=>?_
    refine zfd (ztq ?_);have hR:n+m<=z.2.toList.length:=by rw [yv];omega
    obtain ⟨k1,k2⟩:=zDt hR z4 hcl hdl hin;refine ⟨rfl,e.defers,?_⟩;rw [show a.tmps.getD 6 undef= .slice (some ⟨w.heap.size,0,none⟩) (n+m) z.1 from e.at rfl];refine ⟨rfl,⟨by simp only [xt,xY,xT];omega,.inr ⟨w.heap.size,z.1,_,rfl,xB _,yU {W2 with drawn:=W2.drawn+1} _ _ _ _ _ hG2,z1,z2,?_,?_⟩⟩,?_,.inr rfl⟩
    · simp only [yO];rw [k2,yv,yL];exact z3
    · rw [yL];exact k1
    · refine ⟨by rw [<-hW2];rfl,by rw [<-hW2];rfl,by rw [<-hW2];rfl,?_,fun k hk _=>?_⟩
      · have:W2.heap.size=w.heap.size+1:=by rw [<-hW2,zqp];exact Array.size_push ..
        rw [zqp];show w.heap.size<=W2.heap.size;omega
      · rw [qr _ _ _ _ (by omega)];exact hO2 k hk
  refine zgY ((e.at rfl).trans (congrArg Value.bool (xR hroom))) (zrj ?_);refine zdm (zam ?_);refine wk e rfl rfl rfl (zac rfl (e.at rfl)) fun a e=>?_
  refine wk e rfl rfl rfl (zac rfl (e.at rfl)) fun a e=>?_
  refine wk e rfl rfl rfl (zac rfl (e.at rfl)) fun a e=>?_
  refine wk e rfl rfl rfl (zmc rfl (e.at rfl) (e.at rfl) (by omega)) fun a e=>?_
  refine wk e rfl rfl rfl (zAk rfl hT ((e.at rfl).trans hg) (e.at rfl) (by omega) hnc) fun a e=>?_
  refine wk e rfl rfl rfl (zeR rfl (e.at rfl)) fun a e=>?_
  refine zfd ?_;have e:=e.pick [(0,.slice (some ⟨g,0,none⟩) (n+m) vK),(1,.int .i64 (i:Int)),(2,u),(7,.int .i64 (m:Int))] ⟨rfl,rfl,rfl,rfl,trivial⟩;have hfro:∀j,w.frozen? ⟨gu,j,none⟩=false:=fun j=>frozen_of_row w gu j cur2 5 hhu
  have hov:(callFunc 188 #[u,.slice (some ⟨g,i+m,none⟩) (n+m - (i+m)) (vK - (i+m))]).run prog w= .ok (.value (.bool false)) w:=by
    rw [run_callFunc_extern func188 (by kernel_rfl) (by kernel_rfl) (by kernel_rfl) (e:=Extern.SlicesOverlaps.overlaps #[24,24] #[4]) (by kernel_rfl),hgu,
      Lib.run_overlaps_apart w 24 4 5 hT.u 1 hT.size ⟨gu,0,none⟩ ⟨g,i+m,none⟩ m cap2 _ _ hgg 5 5 cur2.size vQ.size (zuM hhu) (zuM hh) (by omega) (hfro 0) (hfro _)]
    rfl
  refine zdm (zdm (zam ?_));refine wk e rfl rfl rfl (zac rfl (e.at rfl)) fun a e=>?_
  refine wk e rfl rfl rfl (zac rfl (e.at rfl)) fun a e=>?_
  refine wk e rfl rfl rfl (zac rfl (e.at rfl)) fun a e=>?_
  refine wk e rfl rfl rfl (zac rfl (e.at rfl)) fun a e=>?_
  refine wk e rfl rfl rfl (zmc rfl (e.at rfl) (e.at rfl) (by omega)) fun a e=>?_
  refine wk e rfl rfl rfl (zkk rfl hT (e.at rfl) (e.at rfl) (by omega) (by omega) (by omega)) fun a e=>?_
  refine wk e rfl rfl rfl (zHx rfl (e.at rfl) (e.at rfl) hov) fun a e=>?_
  refine wk e rfl rfl rfl (zHy rfl (e.at rfl)) fun a e=>?_
  refine zfd ?_;have e:=e.pick [(0,.slice (some ⟨g,0,none⟩) (n+m) vK),(1,.int .i64 (i:Int)),(2,u),(7,.int .i64 (m:Int)),(68,.bool true)] ⟨rfl,rfl,rfl,rfl,rfl,trivial⟩;refine zgp (e.at rfl) (zdm (zoW [⟨[],69,.slice (some ⟨g,0,none⟩) (n+m) vK⟩,⟨[],70,.int .i64 (i:Int)⟩,⟨[],71,.int .i64 (m:Int)⟩,⟨[1,2],72,.int .i64 ((i+m:Nat):Int)⟩,⟨[0,3],73,.slice (some ⟨g,i+m,none⟩) (n+m - (i+m)) (vK - (i+m))⟩,⟨[],74,.slice (some ⟨g,0,none⟩) (n+m) vK⟩,⟨[],75,.int .i64 (i:Int)⟩,⟨[5,6],76,.slice (some ⟨g,i,none⟩) (n+m - i) (vK - i)⟩] e zhj rfl rfl rfl (by kernel_rfl) (by kernel_rfl) (by kernel_rfl) (fun k p hp=>?_) ⟨_,rfl,rfl,fun a e=>?_⟩))
  · rcases k with _| _| _| _| _| _| _| _| k
    · cases hp;exact ⟨_,rfl,rfl,rfl,fun a e=>zac rfl (e.at rfl)⟩
    · cases hp;exact ⟨_,rfl,rfl,rfl,fun a e=>zac rfl (e.at rfl)⟩
    · cases hp;exact ⟨_,rfl,rfl,rfl,fun a e=>zac rfl (e.at rfl)⟩
    · cases hp;exact ⟨_,rfl,rfl,rfl,fun a e=>zmc rfl (e.at rfl) (e.at rfl) (by omega)⟩
    · cases hp;exact ⟨_,rfl,rfl,rfl,fun a e=>zkk rfl hT (e.at rfl) (e.at rfl) (by omega) (by omega) (by omega)⟩
    · cases hp;exact ⟨_,rfl,rfl,rfl,fun a e=>zac rfl (e.at rfl)⟩
    · cases hp;exact ⟨_,rfl,rfl,rfl,fun a e=>zac rfl (e.at rfl)⟩
    · cases hp;exact ⟨_,rfl,rfl,rfl,fun a e=>zkk rfl hT (e.at rfl) (e.at rfl) (by omega) (by omega) (by omega)⟩
    · cases hp
  have hR:n+m<=vQ.toList.length:=by rw [yv];omega
  obtain ⟨k1,k2,k3⟩:=zBM hR htake hcl hdl hin;have hh1:({w with drawn:=w.drawn+1}:World).heap[g]? =some (.cells vQ 5 (0,0)):=hh;refine zuw e rfl rfl (zqT (cs:=cs.drop i) rfl hT (e.at rfl) (e.at rfl) hh1 (by rw [hdr];simp only [Nat.min_def];split<;>omega) (fun j v hj=>by rw [qt] at hj;exact zoA hh1 htake _ v hj) (by rw [hdr,hcs];omega) h1d) fun a e=>?_
  have e:=e.pick [(0,.slice (some ⟨g,0,none⟩) (n+m) vK),(1,.int .i64 (i:Int)),(2,u)] ⟨rfl,rfl,rfl,trivial⟩;rw [hdr];have hh2:=yU ({w with drawn:=w.drawn+1}:World) g vQ (vQ.toList.take (i+m)++cs.drop i++vQ.toList.drop (i+m+(n - i))).toArray _ _ hh1;have hu2:=(qr ({w with drawn:=w.drawn+1}:World) g gu (vQ.toList.take (i+m)++cs.drop i++vQ.toList.drop (i+m+(n - i))).toArray hgg).trans hhu;refine zdm (zam ?_);refine wk e rfl rfl rfl (zac rfl (e.at rfl)) fun a e=>?_
  refine wk e rfl rfl rfl (zac rfl (e.at rfl)) fun a e=>?_
  refine wk e rfl rfl rfl (zkk rfl hT (e.at rfl) (e.at rfl) (by omega) (by omega) (by omega)) fun a e=>?_
  refine wk e rfl rfl rfl (zac rfl (e.at rfl)) fun a e=>?_
  refine wk e rfl rfl rfl (zqT (cs:=ds) rfl hT (e.at rfl) ((e.at rfl).trans hgu) hh2 (by rw [hdl];simp only [Nat.min_def];split<;>omega) (fun j v hj=>by rw [xJ];exact zoA hu2 htake2 j v hj) (by rw [yO,k3,hdl];omega) h1u) fun a e=>?_
  refine zfd ?_;have e:=e.pick [(0,.slice (some ⟨g,0,none⟩) (n+m) vK)] ⟨rfl,trivial⟩;rw [hdl];refine zdm (zam ?_);refine wk e rfl rfl rfl (zac rfl (e.at rfl)) fun a e=>?_
  refine wk e rfl rfl rfl (zeR rfl (e.at rfl)) fun a e=>?_
  refine zfd (ztq (⟨rfl,e.defers,?_⟩));rw [show a.tmps.getD 6 undef= .slice (some ⟨g,0,none⟩) (n+m) vK from e.at rfl];refine ⟨rfl,⟨by simp only [xt,xY,xT];omega,.inr ⟨g,vK,_,rfl,xB _,yU _ _ _ _ _ _ hh2,by omega,hcm,?_,?_⟩⟩,?_,.inl (by rw [hg];rfl)⟩
  · simp only [yO];rw [k2,yv,yL];exact hcs
  · rw [yL];exact k1
  · refine ⟨rfl,rfl,rfl,by simp [World.setRow],fun k hk vR=>?_⟩;have hkg:k≠g:=fun e=>vR (by rw [hg,e];rfl)
    rw [qr _ _ _ _ hkg,qr _ _ _ _ hkg]
theorem zhe (h:zdv av b=some r):vy 15 [.sl Rp.byte [0] av,.sl Rp.byte [0] b] [kB r]:=by
 refine fi 10 func15 fun Xt=>?_
 unfold zdv at h;refine jp (jr (ra 1 [.sl Rp.byte [0] av] rfl (zDV rfl underlying24 underlying5 underlying9 (zcb _ _ _)) rfl (ra 1 [.sl Rp.byte [0] b] rfl (zDV rfl underlying24 underlying5 underlying9 (zcb _ _ _)) rfl rf)) ?_);cases h;exact zI lzz
theorem zmB (h:zdL sv=some r):vy 8 [.sl ze [0] sv] [kB r]:=by
 refine fi 54 func8 fun Xt=>?_
 unfold zdL at h;refine jp (jp (jp (zD (jb h fun q2 uQ h=>jL uQ [0] [] (fun s=>[(3,kI s.1),(4,kI s.2)]) (fun o=> .x 0 ⟨[(3,kI o)],[]⟩) ?_ lzz ?_))))
 ·clear h;intro s o h;obtain ⟨n,i⟩:=s;replace h:zbg sv n i=some o:=h;unfold zbg at h;refine jp (jI h ?_ ?_)<;>intro ul h
  ·refine zD (jb h fun x uA h=>jb h fun x2 uL h=>jd [0,3,4] [] zhj (by exact (lwn 4 (di [0] znc.el uA (lwn 7 (di [0] znc.el uL (lw_e (lx (ldl ze [0] x2 1 zb x2.Fields) l0))))))) (jp (zD (jb h fun q uy h=>jL uy [0,4] [] (fun s=>[(3,kI s.1),(5,kI s.2)]) (fun o=> .X 2 [0,4] [] [(3,kI o)] []) ?_ lzz ?_))))
   ·clear h;intro s o h;obtain ⟨n3,k⟩:=s;replace h:zbh i sv n3 k=some o:=h;unfold zbh at h;refine jb h fun x3 vc h=>jr (rx 3 [0] znc.el vc rfl rfl (rc 1 rfl (ldl ze [0] x3 1 zb x3.Fields) rf)) (jI h ?_ ?_)<;>intro up h
    ·refine zD (jb h fun x4 vd h=>jb h fun x5 vn h=>jr (rx 3 [0] znc.el vd rfl rfl (rc 1 rfl (ldl ze [0] x4 1 zb x4.Fields) (rx 1 [0] zqx.el vn rfl rfl rf))) (zaA ?_));cases h;exact jy
    cases h;exact zcc rfl lzz
   refine zdp _ rfl (zaA ?_);cases h;exact jy
  cases h;exact zcc rfl lzz
 refine zdp _ rfl ?_;cases h;exact jz
end Go.Proofs.YtaglemhabeipfaaGreat

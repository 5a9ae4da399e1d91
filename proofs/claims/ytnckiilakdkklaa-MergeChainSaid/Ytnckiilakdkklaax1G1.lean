/-
  The Go functions do what the plain functions say. No condition.
-/
import Derived.Test.Ytnckiilakdkklaax1T
import Derived.Test.Ytnckiilakdkklaax1Y
set_option autoImplicit true
set_option relaxedAutoImplicit true
namespace Go.Proofs.Ytnckiilakdkklaa
open Try
open Go Go.RowKit
set_option linter.unusedVariables false
set_option maxRecDepth 100000
set_option maxHeartbeats 3200000
abbrev zwO:=(mput ([]:(List (Int×zj))) 1 (⟨[105,110,116,51,50],0⟩:zj))
abbrev zwP:=(mput zwO 2 (⟨[105,110,116,54,52],0⟩:zj))
abbrev zwQ:=(mput zwP 3 (⟨[117,105,110,116,51,50],0⟩:zj))
abbrev zwR:=(mput zwQ 4 (⟨[117,105,110,116,54,52],0⟩:zj))
abbrev zwS:=(mput zwR 5 (⟨[115,105,110,116,51,50],0⟩:zj))
abbrev zwT:=(mput zwS 6 (⟨[115,105,110,116,54,52],0⟩:zj))
abbrev zwU:=(mput zwT 7 (⟨[98,111,111,108],0⟩:zj))
abbrev zwV:=(mput zwU 8 (⟨[101,110,117,109],0⟩:zj))
abbrev zwW:=(mput zwV 9 (⟨[102,105,120,101,100,51,50],5⟩:zj))
abbrev zuh:=(mput zwW 10 (⟨[115,102,105,120,101,100,51,50],5⟩:zj))
abbrev zui:=(mput zuh 11 (⟨[102,108,111,97,116],5⟩:zj))
abbrev zuj:=(mput zui 12 (⟨[102,105,120,101,100,54,52],1⟩:zj))
abbrev zuk:=(mput zuj 13 (⟨[115,102,105,120,101,100,54,52],1⟩:zj))
abbrev zrb:=(mput zuk 14 (⟨[100,111,117,98,108,101],1⟩:zj))
theorem zir (h:zeV=some r):ur 35 [] [.om uq zM 2 [] r]:=by
 refine fi 20 func35 fun Xt=>?_
 unfold zeV at h;refine jp (jr (rc 0 rfl (zeX (rk:=uq) (rv:=zM) 12 rfl) (rc 0 rfl (zD (r:=zM) [kS [105,110,116,51,50],kI 0] [] (⟨[105,110,116,51,50],0⟩:zj) rfl zcE rfl rfl) (rms (D:=[]) 0 [] 12 [] ([]:(List (Int×zj))) 1 (⟨[105,110,116,51,50],0⟩:zj) [] zcu (zbp rfl rfl) (zaG rfl) (rc 0 rfl (zD (r:=zM) [kS [105,110,116,54,52],kI 0] [] (⟨[105,110,116,54,52],0⟩:zj) rfl zcE rfl rfl) (rms (D:=[]) 0 [] 12 [] zwO 2 (⟨[105,110,116,54,52],0⟩:zj) [] zcu (zbp rfl rfl) (zaG rfl) (rc 0 rfl (zD (r:=zM) [kS [117,105,110,116,51,50],kI 0] [] (⟨[117,105,110,116,51,50],0⟩:zj) rfl zcE rfl rfl) (rms (D:=[]) 0 [] 12 [] zwP 3 (⟨[117,105,110,116,51,50],0⟩:zj) [] zcu (zbp rfl rfl) (zaG rfl) (rc 0 rfl (zD (r:=zM) [kS [117,105,110,116,54,52],kI 0] [] (⟨[117,105,110,116,54,52],0⟩:zj) rfl zcE rfl rfl) (rms (D:=[]) 0 [] 12 [] zwQ 4 (⟨[117,105,110,116,54,52],0⟩:zj) [] zcu (zbp rfl rfl) (zaG rfl) (rc 0 rfl (zD (r:=zM) [kS [115,105,110,116,51,50],kI 0] [] (⟨[115,105,110,116,51,50],0⟩:zj) rfl zcE rfl rfl) (rms (D:=[]) 0 [] 12 [] zwR 5 (⟨[115,105,110,116,51,50],0⟩:zj) [] zcu (zbp rfl rfl) (zaG rfl) (rc 0 rfl (zD (r:=zM) [kS [115,105,110,116,54,52],kI 0] [] (⟨[115,105,110,116,54,52],0⟩:zj) rfl zcE rfl rfl) (rms (D:=[]) 0 [] 12 [] zwS 6 (⟨[115,105,110,116,54,52],0⟩:zj) [] zcu (zbp rfl rfl) (zaG rfl) (rc 0 rfl (zD (r:=zM) [kS [98,111,111,108],kI 0] [] (⟨[98,111,111,108],0⟩:zj) rfl zcE rfl rfl) (rms (D:=[]) 0 [] 12 [] zwT 7 (⟨[98,111,111,108],0⟩:zj) [] zcu (zbp rfl rfl) (zaG rfl) (rc 0 rfl (zD (r:=zM) [kS [101,110,117,109],kI 0] [] (⟨[101,110,117,109],0⟩:zj) rfl zcE rfl rfl) (rms (D:=[]) 0 [] 12 [] zwU 8 (⟨[101,110,117,109],0⟩:zj) [] zcu (zbp rfl rfl) (zaG rfl) (rc 0 rfl (zD (r:=zM) [kS [102,105,120,101,100,51,50],kI 5] [] (⟨[102,105,120,101,100,51,50],5⟩:zj) rfl zcE rfl rfl) (rms (D:=[]) 0 [] 12 [] zwV 9 (⟨[102,105,120,101,100,51,50],5⟩:zj) [] zcu (zbp rfl rfl) (zaG rfl) (rc 0 rfl (zD (r:=zM) [kS [115,102,105,120,101,100,51,50],kI 5] [] (⟨[115,102,105,120,101,100,51,50],5⟩:zj) rfl zcE rfl rfl) (rms (D:=[]) 0 [] 12 [] zwW 10 (⟨[115,102,105,120,101,100,51,50],5⟩:zj) [] zcu (zbp rfl rfl) (zaG rfl) (rc 0 rfl (zD (r:=zM) [kS [102,108,111,97,116],kI 5] [] (⟨[102,108,111,97,116],5⟩:zj) rfl zcE rfl rfl) (rms (D:=[]) 0 [] 12 [] zuh 11 (⟨[102,108,111,97,116],5⟩:zj) [] zcu (zbp rfl rfl) (zaG rfl) (rc 0 rfl (zD (r:=zM) [kS [102,105,120,101,100,54,52],kI 1] [] (⟨[102,105,120,101,100,54,52],1⟩:zj) rfl zcE rfl rfl) (rms (D:=[]) 0 [] 12 [] zui 12 (⟨[102,105,120,101,100,54,52],1⟩:zj) [] zcu (zbp rfl rfl) (zaG rfl) (rc 0 rfl (zD (r:=zM) [kS [115,102,105,120,101,100,54,52],kI 1] [] (⟨[115,102,105,120,101,100,54,52],1⟩:zj) rfl zcE rfl rfl) (rms (D:=[]) 0 [] 12 [] zuj 13 (⟨[115,102,105,120,101,100,54,52],1⟩:zj) [] zcu (zbp rfl rfl) (zaG rfl) (rc 0 rfl (zD (r:=zM) [kS [100,111,117,98,108,101],kI 1] [] (⟨[100,111,117,98,108,101],1⟩:zj) rfl zcE rfl rfl) (rms (D:=[]) 0 [] 12 [] zuk 14 (⟨[100,111,117,98,108,101],1⟩:zj) [] zcu (zbp rfl rfl) (zaG rfl) (rc 0 rfl (zD (r:=zM) [kS [115,116,114,105,110,103],kI 2] [] (⟨[115,116,114,105,110,103],2⟩:zj) rfl zcE rfl rfl) (rms (D:=[]) 0 [] 12 [] zrb 15 (⟨[115,116,114,105,110,103],2⟩:zj) [] zcu (zbp rfl rfl) (zaG rfl) (rc 0 rfl (zD (r:=zM) [kS [98,121,116,101,115],kI 2] [] (⟨[98,121,116,101,115],2⟩:zj) rfl zcE rfl rfl) (rms (D:=[]) 0 [] 12 [] (mput zrb 15 (⟨[115,116,114,105,110,103],2⟩:zj)) 16 (⟨[98,121,116,101,115],2⟩:zj) [] zcu (zbp rfl rfl) (zaG rfl) (rc 0 rfl (zD (r:=zM) [kS [109,101,115,115,97,103,101],kI 2] [] (⟨[109,101,115,115,97,103,101],2⟩:zj) rfl zcE rfl rfl) (rms (D:=[]) 0 [] 12 [] (mput (mput zrb 15 (⟨[115,116,114,105,110,103],2⟩:zj)) 16 (⟨[98,121,116,101,115],2⟩:zj)) 17 (⟨[109,101,115,115,97,103,101],2⟩:zj) [] zcu (zbp rfl rfl) (zaG rfl) rf))))))))))))))))))))))))))))))))))) ?_);cases h;exact zG (lks [] [(12,2)] lzz)
theorem zfu (h:zbQ c=some r):ur 51 [k8 c] [kB r]:=by
 refine fi 9 func51 fun Xt=>?_
 unfold zbQ at h;refine jp (jg [] [] [(2,kB ((decide (c>=48))&&(decide (c<=57))))] ?_ ?_)
 ·refine (rsl 3 [] 5 (decide (c>=48)) ?_ ?_)<;>intro ph
  · exact (rbl [] 2 (decide (c<=57)) rfl (by grind))
  exact (rbl [] 2 false rfl (by grind))
 cases h;exact zG lzz
theorem ziU (h:zcl c=some r):ur 52 [k8 c] [kB r]:=by
 refine fi 21 func52 fun Xt=>?_
 unfold zcl at h;refine jp (jg [] [] [(2,kB (if (decide (c>=97)) then ((decide (c<=122))|| (if (decide (c>=65)) then ((decide (c<=90))|| (c==95)) else (c==95))) else (if (decide (c>=65)) then ((decide (c<=90))|| (c==95)) else (c==95))))] ?_ ?_)
 ·refine (rsl 3 [] 5 (decide (c>=97)) ?_ ?_)<;>intro ph
  ·refine (rsl 4 [] 9 (decide (c<=122)) ?_ ?_)<;>intro pj
   · exact (rbl [] 2 true rfl (by grind))
   refine (rsl 3 [] 12 (decide (c>=65)) ?_ ?_)<;>intro pm
   ·refine (rsl 5 [] 17 (decide (c<=90)) ?_ ?_)<;>intro pp
    · exact (rbl [] 2 true rfl (by grind))
    exact (rbl [] 2 (c==95) rfl (by grind))
   exact (rbl [] 2 (c==95) rfl (by grind))
  refine (rsl 7 [] 12 (decide (c>=65)) ?_ ?_)<;>intro pt
  ·refine (rsl 5 [] 17 (decide (c<=90)) ?_ ?_)<;>intro pw
   · exact (rbl [] 2 true rfl (by grind))
   exact (rbl [] 2 (c==95) rfl (by grind))
  exact (rbl [] 2 (c==95) rfl (by grind))
 cases h;exact zG lzz
theorem ziV (h:zcm n=some r):ur 37 [kI n] [kB r]:=by
 refine fi 17 func37 fun Xt=>?_
 unfold zcm at h;refine jp (jg [] [] [(2,kB ((decide (n>=1))&&((decide (n<=536870911))&&((decide (n<19000))|| (decide (n>19999))))))] ?_ ?_)
 ·refine (rsl 3 [] 5 (decide (n>=1)) ?_ ?_)<;>intro ph
  ·refine (rsl 4 [] 9 (decide (n<=536870911)) ?_ ?_)<;>intro pj
   ·refine (rsl 3 [] 12 (decide (n<19000)) ?_ ?_)<;>intro pm
    · exact (rbl [] 2 true rfl (by grind))
    exact (rbl [] 2 (decide (n>19999)) rfl (by grind))
   exact (rbl [] 2 false rfl (by grind))
  exact (rbl [] 2 false rfl (by grind))
 cases h;exact zG lzz
theorem zfe (h:zaD sv v=some r):ur 53 [.sl uq [0] sv,kI v] [kI r]:=by
 refine fi 19 func53 fun Xt=>?_
 unfold zaD at h;refine jp (jp (zz (jb h fun q pq h=>jL pq [0,1,7] [] (fun s=>[(8,kI s)]) (fun| (.inl v_)=> .x 0 ⟨[],[]⟩| (.inr v_)=> .r ⟨[(4,kI v_)],[]⟩) ?_ lzz ?_)))
 ·clear h;intro v2 o h;unfold zZ at h;refine jp (jI h ?_ ?_)<;>intro ph h
  ·refine zz (jp (jb h fun x pr h=>jr (rx 3 [0] zyC.el pr rfl rfl rf) (jI h ?_ ?_)))<;>intro pj h
   ·cases h;exact jz'
   refine zaj ?_;cases h;exact jy
  cases h;exact zbq rfl lzz
 rcases q with u| u2
 ·refine zca _ rfl ?_;cases h;exact jz
 obtain rfl:=(sj h);exact zgw lzz
theorem zgX (h:zbA c f=some r):ur 40 [.ag [kI c.size,.sl uq [0] c.kinds,.mp zp Rp.bool [0] c.names,.mp zq Rp.bool [0] c.numbers],.rc zb [0] f] [kB r]:=by
 refine fi 21 func40 fun Xt=>?_
 unfold zbA at h;refine jq [11,12] (jp (jI h ?_ ?_))<;>intro ph h
 ·refine jg [] [] [(4,kB ((decide (f.Of>=0))&&(decide (f.Of<c.size))))] ?_ ?_
  ·refine (rsl 4 [] 11 (decide (f.Of>=0)) ?_ ?_)<;>intro pj
   · exact (rbl [] 4 (decide (f.Of<c.size)) rfl (by grind))
   exact (rbl [] 4 false rfl (by grind))
  cases h;exact zG lzz
 cases h;exact jz
theorem zfh (h:zcH b=some r):ur 55 [.sl Rp.byte [0] b] [kU r.1,kI r.2.1,k8 r.2.2]:=by
 refine fi 38 func55 fun Xt=>?_
 unfold zcH at h;refine jp (jb h fun v pA h=>jr (ra 4 [.sl Rp.byte [0] b,kI (if (10:Int)<(b.length:Int) then 10 else (b.length:Int))] rfl (zgz none (some (kI (if (10:Int)<(b.length:Int) then 10 else (b.length:Int)))) rfl zcW.el (zcx _ _ _) ⟨rfl,rfl⟩ ⟨rfl,rfl⟩ pA) rfl rf) (zz (jb h fun q pq h=>jL pq [11,12] [] (fun s=>[(2,kU s.1),(13,kI s.2)]) (fun| (.inl v_)=> .x 0 ⟨[],[]⟩| (.inr v_)=> .r ⟨[(2,kU v_.1),(3,kI v_.2.1),(4,k8 v_.2.2)],[]⟩) ?_ lzz ?_)))
 ·clear h;intro s o h;obtain ⟨wv,v2⟩:=s;replace h:zbj v wv v2=some o:=h;unfold zbj at h;refine jp (jI h ?_ ?_)<;>intro ph h
  ·refine zz (jb h fun x pr h=>jr (rx 1 [0] zcW.el pr rfl rfl rf) (jg [2,5,6,11,12,13] [] [(23,kB ((v2==9)&&(decide ((x.toNat:Int)>1))))] ?_ ?_))
   ·refine (rsl 3 [] 20 (v2==9) ?_ ?_)<;>intro pj
    · exact (rbl [] 23 (decide ((x.toNat:Int)>1)) rfl (by grind))
    exact (rbl [] 23 false rfl (by grind))
   refine jI h ?_ ?_<;>intro pm h
   ·cases h;exact jz'
   refine jb h fun v4 pW h=>jr (ra 6 [kU (IntKind.u64.wrap (andI .u8 (x.toNat:Int) 127)),kI (IntKind.i64.wrap (7*v2))] rfl (zuy rfl pW) rfl rf) (jp (jI h ?_ ?_))<;>intro pp h
   ·cases h;exact jz'
   refine zaj ?_;cases h;exact jy
  cases h;exact zbq rfl lzz
 rcases q with u| u2
 ·refine zca _ rfl ?_;cases h;exact jz
 cases h;exact zgw lzz
theorem zkx (h:zcT wire=some r):ur 66 [kI wire] [kB r]:=by
 refine fi 9 func66 fun Xt=>?_
 unfold zcT at h;refine jp (jp (zz (jp (jI h ?_ ?_))))<;>intro ph h
 ·refine jI h ?_ ?_<;>intro pj h
  ·refine jp ?_;obtain rfl:=(sj h);exact zG lzz
  refine zaj (jp ?_);obtain rfl:=(sj h);exact zG lzz
 refine jp (jI h ?_ ?_)<;>intro pm h
 ·refine jI h ?_ ?_<;>intro pp h
  ·refine jp ?_;obtain rfl:=(sj h);exact zG lzz
  refine zaj (jp ?_);obtain rfl:=(sj h);exact zG lzz
 refine jp (jI h ?_ ?_)<;>intro pt h
 ·refine jI h ?_ ?_<;>intro pw h
  ·refine jp ?_;obtain rfl:=(sj h);exact zG lzz
  refine zaj (jp ?_);obtain rfl:=(sj h);exact zG lzz
 refine jp (jI h ?_ ?_)<;>intro pB h
 ·refine jp ?_;obtain rfl:=(sj h);exact zG lzz
 refine zaj (jp ?_);obtain rfl:=(sj h);exact zG lzz
theorem zlf (h:zdC f v=some r):ur 59 [.rc zb [0] f,.ep uq [0] v 0] [kB r]:=by
 refine fi 8 func59 fun Xt=>?_
 unfold zdC at h;refine jq [11] ?_;cases h;exact jz
theorem zkZ (h:zdw k=some r):ur 90 [kI k] [kI r.1,k8 r.2]:=by
 refine fi 22 func90 fun Xt=>?_
 unfold zdw at h;refine jp (jp (zz (jp (jb h fun p pC h=>jn (.n ⟨[(4,kI k),(5,kB p)],[]⟩) ?_ ?_))))
 ·replace h:=pC;refine jI h ?_ ?_<;>intro ph h
  ·cases h;exact zaA lzz
  refine jp (jI h ?_ ?_)<;>intro pj h
  ·cases h;exact zaA lzz
  refine jp (jI h ?_ ?_)<;>intro pm h
  ·cases h;exact zaA lzz
  refine jp (jI h ?_ ?_)<;>intro pp h
  ·cases h;exact zaA lzz
  refine jp (jI h ?_ ?_)<;>intro pt h
  ·cases h;exact zaA lzz
  refine jp (jI h ?_ ?_)<;>intro pw h
  ·cases h;exact zaA lzz
  refine jp (jI h ?_ ?_)<;>intro pB h
  ·cases h;exact zaA lzz
  cases h;exact jy
 refine zho (jI h ?_ ?_)<;>intro pE h
 ·cases h;exact jz
 refine jp (jb h fun p2 pL h=>jn (.n ⟨[(4,kI k),(14,kB p2)],[]⟩) ?_ ?_)
 ·replace h:=pL;refine jI h ?_ ?_<;>intro pM h
  ·cases h;exact zaA lzz
  refine jp (jI h ?_ ?_)<;>intro pN h
  ·cases h;exact zaA lzz
  cases h;exact jy
 refine zho (jI h ?_ ?_)<;>intro pO h
 ·cases h;exact jz
 refine jp (jI h ?_ ?_)<;>intro pP h
 ·refine jI h ?_ ?_<;>intro pQ h
  ·cases h;exact jz
  refine zaj ?_;cases h;exact jz
 refine jp (jI h ?_ ?_)<;>intro pR h
 ·refine jI h ?_ ?_<;>intro pX h
  ·cases h;exact jz
  refine zaj ?_;cases h;exact jz
 refine jp (jI h ?_ ?_)<;>intro pY h
 ·cases h;exact jz
 refine zaj ?_;cases h;exact jz
theorem zio (h:zdK wv=some r):ur 98 [kU wv] [.lf (.int .u32 r)]:=by
 refine fi 5 func98 fun Xt=>?_
 unfold zdK at h;refine jp ?_;cases h;exact jz
theorem zlE (h:zeg n=some r):ur 96 [.lf (.int .i32 n)] [kU r]:=by
 refine fi 6 func96 fun Xt=>?_
 unfold zeg at h;refine jp ?_;cases h;exact jz
theorem zne (h:zgx wv=some r):ur 99 [kU wv] [kU r]:=by
 refine fi 5 func99 fun Xt=>?_
 unfold zgx at h;refine jp ?_;cases h;exact jz
theorem zpp (h:zhf wv=some r):ur 92 [kU wv] [kI r]:=by
 refine fi 13 func92 fun Xt=>?_
 unfold zhf at h;refine jp (jp (jr (ra 1 [kU wv,kU 7] rfl (zet rfl rfl) rfl rf) (zz (jb h fun q pq h=>jL pq [] [] (fun s=>[(0,kU s.1),(3,kI s.2)]) (fun o=> .x 0 ⟨[(3,kI o)],[]⟩) ?_ lzz ?_))))
 ·clear h;intro s o h;obtain ⟨wv2,n⟩:=s;replace h:zcA wv2 n=some o:=h;unfold zcA at h;refine jp (jI h ?_ ?_)<;>intro ph h
  ·refine zz (jp (zaj (jr (ra 1 [kU wv2,kU 7] rfl (zet rfl rfl) rfl rf) ?_)));cases h;exact zaA lzz
  cases h;exact zbq rfl lzz
 refine zca _ rfl (jp ?_);obtain rfl:=(sj h);exact zG lzz
theorem zqv (h:zjS c=some r):ur 93 [k8 c] [kI r.1,.lf (.int .u32 r.2)]:=by
 refine fi 31 func93 fun Xt=>?_
 unfold zjS at h;refine jp (zz (jr (ra 1 [k8 c,kU 7] rfl (zet rfl rfl) rfl rf) (jI h ?_ ?_)))<;>intro ph h
 ·cases h;exact jz
 refine jr (ra 1 [k8 c,kU 5] rfl (zet rfl rfl) rfl rf) (jI h ?_ ?_)<;>intro pj h
 ·cases h;exact jz
 refine jr (ra 1 [k8 c,kU 4] rfl (zet rfl rfl) rfl rf) (jI h ?_ ?_)<;>intro pm h
 ·cases h;exact jz
 refine jr (ra 1 [k8 c,kU 3] rfl (zet rfl rfl) rfl rf) (jI h ?_ ?_)<;>intro pp h
 ·cases h;exact jz
 refine zaj ?_;cases h;exact jz
theorem zqu (h:zgm wv=some r):ur 94 [.lf (.int .u32 wv)] [kI r]:=by
 refine fi 22 func94 fun Xt=>?_
 unfold zgm at h;refine jp (zz (jr (ra 1 [.lf (.int .u32 wv),kU 7] rfl (zet rfl rfl) rfl rf) (jI h ?_ ?_)))<;>intro ph h
 ·cases h;exact jz
 refine jr (ra 1 [.lf (.int .u32 wv),kU 11] rfl (zet rfl rfl) rfl rf) (jI h ?_ ?_)<;>intro pj h
 ·cases h;exact jz
 refine jr (ra 1 [.lf (.int .u32 wv),kU 11] rfl (zet rfl rfl) rfl rf) (jI h ?_ ?_)<;>intro pm h
 ·cases h;exact jz
 refine jr (ra 1 [.lf (.int .u32 wv),kU 16] rfl (zet rfl rfl) rfl rf) (jI h ?_ ?_)<;>intro pp h
 ·cases h;exact jz
 refine jp (jI h ?_ ?_)<;>intro pt h
 ·cases h;exact jz
 refine zaj ?_;cases h;exact jz
theorem zeD (h:zay n=some r):ur 17 [kN,kI n] [.own Rp.byte 5 2 [] r]:=by
 refine fi 27 func17 fun Xt=>?_
 unfold zay at h;refine jp (jp (jI h ?_ ?_))<;>intro ph h
 · exact absurd h nofun
 refine jr (ra 2 [kN] rfl (znL rfl underlying24) rfl rf) (jp (jI h ?_ ?_))<;>intro pj h
 ·refine jb h fun v pA h=>jb h fun v2 pH h=>jr (ra 2 [kN] rfl (znL rfl underlying24) rfl (ra 0 [kN,kI 0] rfl (zta rfl zcW.el) rfl (ra 1 [kN,kI (IntKind.i64.wrap (n - (IntKind.i64.wrap (0 - 0))))] rfl (zvZ 12 rfl underlying3 zcW rfl pA) rfl (ra 2 [.own Rp.byte 5 12 [] v,kI 0] rfl (zwb rfl zcW.el pH) rfl rf)))) (jp ?_);obtain rfl:=(sj h);exact zG (lks [] [(12,2)] lzz)
 refine jp ?_;cases h;exact zG lw
theorem zbc (h:zav av b=some r):ur 8 [.sl Rp.byte [0] av,.sl Rp.byte [0] b] [kB r]:=by
 refine fi 10 func8 fun Xt=>?_
 unfold zav at h;refine jp (jr (ra 1 [.sl Rp.byte [0] av] rfl (zuv rfl underlying24 underlying5 underlying9 (zcx _ _ _)) rfl (ra 1 [.sl Rp.byte [0] b] rfl (zuv rfl underlying24 underlying5 underlying9 (zcx _ _ _)) rfl rf)) ?_);cases h;exact zG lzz
theorem zii (h:zbM sv=some r):ur 5 [.sl zg [0] sv] [kB r]:=by
 refine fi 54 func5 fun Xt=>?_
 unfold zbM at h;refine jp (jp (jp (zz (jb h fun q2 pI h=>jL pI [0] [] (fun s=>[(3,kI s.1),(4,kI s.2)]) (fun o=> .x 0 ⟨[(3,kI o)],[]⟩) ?_ lzz ?_))))
 ·clear h;intro s o h;obtain ⟨n,i⟩:=s;replace h:zas sv n i=some o:=h;unfold zas at h;refine jp (jI h ?_ ?_)<;>intro ph h
  ·refine zz (jb h fun x pr h=>jb h fun x2 px h=>jd [0,3,4] [] zit (by exact (lwn 4 (di [0] ziC.el pr (lwn 7 (di [0] ziC.el px (lw_e (lx (ldl zg [0] x2 1 zb x2.Fields) l0))))))) (jp (zz (jb h fun q pq h=>jL pq [0,4] [] (fun s=>[(3,kI s.1),(5,kI s.2)]) (fun o=> .X 2 [0,4] [] [(3,kI o)] []) ?_ lzz ?_))))
   ·clear h;intro s o h;obtain ⟨n3,k⟩:=s;replace h:zat i sv n3 k=some o:=h;unfold zat at h;refine jb h fun x3 pS h=>jr (rx 3 [0] ziC.el pS rfl rfl (rc 1 rfl (ldl zg [0] x3 1 zb x3.Fields) rf)) (jI h ?_ ?_)<;>intro pj h
    ·refine zz (jb h fun x4 pZ h=>jb h fun x5 p6 h=>jr (rx 3 [0] ziC.el pZ rfl rfl (rc 1 rfl (ldl zg [0] x4 1 zb x4.Fields) (rx 1 [0] zkS.el p6 rfl rfl rf))) (zaj ?_));cases h;exact jy
    cases h;exact zbq rfl lzz
   refine zca _ rfl (zaj ?_);cases h;exact jy
  cases h;exact zbq rfl lzz
 refine zca _ rfl ?_;cases h;exact jz
theorem zpS (h:zhq=some r):ur 26 [] [.own uq 3 2 [] r]:=by
 refine fi 4 func26 fun Xt=>?_
 unfold zhq at h;refine jp (jb h fun rv pk h=>jb h fun v pA h=>jr (rl 0 [1] 11 call35 (zir pk) (rkl 0 [] ⟨[(1,.om uq zM 13 [] rv)],[]⟩ (zuQ (rv:=zM) (m:=rv) 14 zws rfl rfl rfl rfl rfl rfl call34 call33 rfl (zrV _ _ _ _ _) pA rfl rf))) ?_);obtain rfl:=(sj h);exact zG (lks [] [(14,2)] lzz)
theorem zgg (h:zcs pK=some r):ur 36 [kS pK] [kB r]:=by
 refine fi 34 func36 fun Xt=>?_
 unfold zcs at h;refine jp (jb h fun g pi h=>jg [0] [] [(15,kB g)] ?_ ?_)
 ·refine (rsI 3 6 pi ?_ ?_)<;>intro ph pi
  ·cases pi;exact rgg
  refine (rsI 5 11 pi ?_ ?_)<;>intro pj pi
  ·cases pi;exact rgg
  refine jb pi fun c p7 pi=>jb pi fun rv pk pi=>?_;cases pi;exact (ra 1 [kS pK,kI 0] rfl (zrf rfl underlying9 p7) rfl (rl 0 [1] 9 call51 (zfu pk) rgg))
 refine jI h ?_ ?_<;>intro pm h
 ·refine jp ?_;obtain rfl:=(sj h);exact zG lzz
 refine jp (zz (jb h fun q pq h=>jL pq [0,17] [] (fun s=>[(18,kI s)]) (fun| (.inl v_)=> .x 0 ⟨[],[]⟩| (.inr v_)=> .r ⟨[(2,kB false)],[]⟩) ?_ lzz ?_))
 ·clear h;intro v2 o h;unfold zaY at h;refine jp (jI h ?_ ?_)<;>intro pp h
  ·refine zz (jp (jb h fun g2 pz h=>jg [0,17,18] [] [(32,kB g2)] ?_ ?_))
   ·refine jb pz fun c2 p8 pz=>jb pz fun uv pn pz=>(ra 2 [kS pK,kI v2] rfl (zrf rfl underlying9 p8) rfl (rl 0 [1] 10 call52 (ziU pn) (rsI 2 26 pz ?_ ?_)))<;>intro pt pz
    ·refine jb pz fun c3 p9 pz=>jb pz fun uC pv pz=>?_;cases pz;exact (ra 2 [kS pK,kI v2] rfl (zrf rfl underlying9 p9) rfl (rl 0 [1] 10 call51 (zfu pv) rgg))
    cases pz;exact rgg
   refine jI h ?_ ?_<;>intro pw h
   ·cases h;exact jz'
   refine zaj ?_;cases h;exact jy
  cases h;exact zbq rfl lzz
 rcases q with u| u2
 ·refine zca _ rfl (jp ?_);obtain rfl:=(sj h);exact zG lzz
 obtain rfl:=(sj h);exact zgw lzz
theorem zeq (h:zap sv v=some r):ur 38 [.sl uq [0] sv,kI v] [kB r]:=by
 refine fi 9 func38 fun Xt=>?_
 unfold zap at h;refine jp (jb h fun rv pk h=>jr (rl 2 [0] 9 call53 (zfe pk) rf) ?_);cases h;exact zG lzz
theorem zjn (h:zeI k=some r):ur 60 [kI k] [kI r.1,k8 r.2]:=by
 refine fi 16 func60 fun Xt=>?_
 unfold zeI at h;refine jp (jb h fun rv pk h=>jr (rl 0 [1] 9 call35 (zir pk) (ra 1 [.om uq zM 11 [] rv,kI k] rfl (zkh (rk:=uq) (rv:=zM) (m:=rv) (k:=k) (.rc zM [] ((mget rv k).getD (⟨[],0⟩:zj))) rfl zcu (zbp rfl rfl) (zoE rfl)) rfl (rfl' [12]))) (jp (jI h ?_ ?_)))<;>intro ph h
 ·cases h;exact jz
 cases h;exact jz
theorem zpd (h:zgh t=some r):ur 56 [.rc zbK [0] t] [kB r]:=by
 refine fi 16 func56 fun Xt=>?_
 unfold zgh at h;refine jq [11] (jb h fun g pi h=>jg [] [] [(2,kB g)] ?_ ?_)
 ·refine (rsI 4 6 pi ?_ ?_)<;>intro ph pi
  ·refine (rsI 5 11 pi ?_ ?_)<;>intro pj pi
   ·refine jb pi fun rv pk pi=>?_;cases pi;exact (rl 2 [1] 10 call66 (zkx pk) rgg)
   cases pi;exact rgg
  cases pi;exact rgg
 obtain rfl:=(sj h);exact zG lzz
theorem zhQ (h:zdl b=some r):ur 57 [.sl Rp.byte [0] b] [kI r.1,k8 r.2]:=by
 refine fi 15 func57 fun Xt=>?_
 unfold zdl at h;refine jp (jb h fun rv pk h=>jr (rl 1 [0] 9 call55 (zfh pk) rf) ?_);cases h;exact jz
theorem zbh (h:zK sv v=some r):ur 58 [.sl zb [0] sv,.fv 59 [.ep uq [0] v 0]] [kI r]:=by
 refine fi 19 func58 fun Xt=>?_
 unfold zK at h;refine jp (jp (zz (jb h fun q pq h=>jL pq [0,1,7] [] (fun s=>[(8,kI s)]) (fun| (.inl v_)=> .x 0 ⟨[],[]⟩| (.inr v_)=> .r ⟨[(4,kI v_)],[]⟩) ?_ lzz ?_)))
 ·clear h;intro v2 o h;unfold zr at h;refine jp (jI h ?_ ?_)<;>intro ph h
  ·refine zz (jp (jb h fun x pr h=>jb h fun rv pk h=>jr (rx 3 [0] zkS.el pr rfl rfl (rc 0 rfl (lde zb [0] x zpk) (ra 0 [.fv 59 [.ep uq [0] v 0],.rc zb [0] x] rfl (zuw (args:=[.tmp 15]) [.rc zb [0] x] [0] 10 rfl (zvL _ _) call59 (zlf pk) rfl rfl rfl rfl rfl) rfl rf))) (jI h ?_ ?_)))<;>intro pj h
   ·cases h;exact jz'
   refine zaj ?_;cases h;exact jy
  cases h;exact zbq rfl lzz
 rcases q with u| u2
 ·refine zca _ rfl ?_;cases h;exact jz
 obtain rfl:=(sj h);exact zgw lzz
theorem zlD (h:zef wv=some r):ur 97 [kU wv] [.lf (.int .i32 r)]:=by
 refine fi 6 func97 fun Xt=>?_
 unfold zef at h;refine jp (jb h fun rv pk h=>jr (rl 1 [1] 9 call98 (zio pk) rf) ?_);cases h;exact zG lzz
theorem zkQ (h:zgl b=some r):ur 83 [.sl Rp.byte [0] b] [kI r]:=by
 refine fi 48 func83 fun Xt=>?_
 unfold zgl at h;refine jp (jp (jI h ?_ ?_))<;>intro ph h
 ·cases h;exact jz
 refine jb h fun x pr h=>jb h fun rv pk h=>jr (rx 1 [0] zcW.el pr rfl rfl (rl 1 [1] 9 call93 (zqv pk) rf)) (jg [0,3,4] [] [(24,kB ((rv.1==0)|| (decide (rv.1>(b.length:Int)))))] ?_ ?_)
 ·refine (rsl 3 [] 19 (rv.1==0) ?_ ?_)<;>intro pj
  · exact (rbl [] 24 true rfl (by grind))
  exact (rbl [] 24 (decide (rv.1>(b.length:Int))) rfl (by grind))
 refine jI h ?_ ?_<;>intro pm h
 ·cases h;exact jz
 refine jb h fun v2 pH h=>jr (ra 2 [.sl Rp.byte [0] b,kI 1,kI rv.1] rfl (zgz (some (kI 1)) (some (kI rv.1)) rfl zcW.el (zcx _ _ _) ⟨rfl,rfl⟩ ⟨rfl,rfl⟩ pH) rfl rf) (zz (jb h fun q pq h=>jL pq [3,27,28] [] (fun s=>[(4,.lf (.int .u32 s.1)),(29,kI s.2)]) (fun| (.inl v_)=> .X 0 [3] [] [(4,.lf (.int .u32 v_))] []| (.inr v_)=> .r ⟨[(2,kI 0)],[]⟩) ?_ lzz ?_))
 ·clear h;intro s o h;obtain ⟨wv,v3⟩:=s;replace h:zbV v2 wv v3=some o:=h;unfold zbV at h;refine jp (jI h ?_ ?_)<;>intro pp h
  ·refine zz (jb h fun x2 px h=>jr (rx 0 [0] zcW.el px rfl rfl rf) (jr (ra 1 [k8 (x2.toNat:Int),kU 6] rfl (zet rfl rfl) rfl rf) (jI h ?_ ?_)))<;>intro pt h
   ·cases h;exact jz'
   refine jr (ra 1 [.lf (.int .u32 wv),kU 6] rfl (zuy rfl rfl) rfl rf) (zaj ?_);cases h;exact jy
  cases h;exact zbq rfl lzz
 rcases q with u| u2
 ·refine zca _ rfl (jb h fun uv pn h=>jr (rl 2 [1] 10 call94 (zqu pn) rf) (jI h ?_ ?_))<;>intro pw h
  ·cases h;exact jz
  cases h;exact jz
 cases h;exact zgw lzz
theorem zbU (h:zah uH=some r):ur 10 [.sl (Rp.list Rp.byte) [0] uH] [.own Rp.byte 5 2 [] r]:=by
 refine fi 36 func10 fun Xt=>?_
 unfold zah at h;refine jp (jp (jp (zz (jb h fun q pq h=>jL pq [0,9,10] [] (fun s=>[(3,kI s.1),(11,kI s.2)]) (fun o=> .X 0 [0] [] [(3,kI o)] []) ?_ lzz ?_))))
 ·clear h;intro s o h;obtain ⟨size,v⟩:=s;replace h:zR uH size v=some o:=h;unfold zR at h;refine jp (jI h ?_ ?_)<;>intro ph h
  ·refine zz (jb h fun x pr h=>jr (rx 0 [0] zoq.el pr rfl rfl (rc 0 rfl (ldl (Rp.list Rp.byte) [0] x 0 Rp.byte x) rf)) (jp (jp (jI h ?_ ?_))))<;>intro pj h
   · exact absurd h nofun
   refine zaj ?_;cases h;exact jy
  cases h;exact zbq rfl lzz
 refine zca _ rfl (jb h fun rv pk h=>jr (rl 1 [1] 12 call17 (zeD pk) rf) (jp (zz (jb h fun q2 pI h=>jL pI [25,26] [] (fun s=>[(6,.own Rp.byte 5 14 [] s.1),(27,kI s.2)]) (fun o=> .x 2 ⟨[(6,.own Rp.byte 5 14 [] o)],[]⟩) ?_ lzz ?_))))
 ·clear h;intro s o h;obtain ⟨uJ,v2⟩:=s;replace h:zS uH uJ v2=some o:=h;unfold zS at h;refine jp (jI h ?_ ?_)<;>intro pm h
  ·refine zz (jb h fun x2 px h=>jr (rx 0 [0] zoq.el px rfl rfl (rc 0 rfl (ldl (Rp.list Rp.byte) [0] x2 0 Rp.byte x2) rf)) (jb h fun v3 pF h=>jr (rc 2 rfl (las 14 [] [0] [] zcW.el pF (.inl zrn)) rf) (zaj ?_)));cases h;exact jy
  cases h;exact zbq rfl lzz
 refine zca _ rfl (jp ?_);obtain rfl:=(sj h);exact zG (lks [] [(14,2)] lzz)
end Go.Proofs.Ytnckiilakdkklaa

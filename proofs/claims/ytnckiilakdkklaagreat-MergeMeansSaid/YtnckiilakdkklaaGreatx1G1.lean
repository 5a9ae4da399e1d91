/-
  The Go functions do what the plain functions say. No condition.
-/
import Derived.Test.YtnckiilakdkklaaGreatx1T
set_option autoImplicit true
set_option relaxedAutoImplicit true
namespace Go.Proofs.YtnckiilakdkklaaGreat
open Tryz
open Go Go.RowKit
set_option linter.unusedVariables false
set_option maxRecDepth 100000
set_option maxHeartbeats 3200000
abbrev zHV:=(mput ([]:(List (Int×zq))) 1 (⟨[105,110,116,51,50],0⟩:zq))
abbrev zHW:=(mput zHV 2 (⟨[105,110,116,54,52],0⟩:zq))
abbrev zHX:=(mput zHW 3 (⟨[117,105,110,116,51,50],0⟩:zq))
abbrev zHY:=(mput zHX 4 (⟨[117,105,110,116,54,52],0⟩:zq))
abbrev zHZ:=(mput zHY 5 (⟨[115,105,110,116,51,50],0⟩:zq))
abbrev zIa:=(mput zHZ 6 (⟨[115,105,110,116,54,52],0⟩:zq))
abbrev zIb:=(mput zIa 7 (⟨[98,111,111,108],0⟩:zq))
abbrev zIc:=(mput zIb 8 (⟨[101,110,117,109],0⟩:zq))
abbrev zId:=(mput zIc 9 (⟨[102,105,120,101,100,51,50],5⟩:zq))
abbrev zFa:=(mput zId 10 (⟨[115,102,105,120,101,100,51,50],5⟩:zq))
abbrev zFb:=(mput zFa 11 (⟨[102,108,111,97,116],5⟩:zq))
abbrev zFc:=(mput zFb 12 (⟨[102,105,120,101,100,54,52],1⟩:zq))
abbrev zFd:=(mput zFc 13 (⟨[115,102,105,120,101,100,54,52],1⟩:zq))
abbrev zBa:=(mput zFd 14 (⟨[100,111,117,98,108,101],1⟩:zq))
theorem zpF (h:zke=some r):wj 115 [] [.om wh zam 2 [] r]:=by
 refine fi 20 func115 fun Xt=>?_
 unfold zke at h;refine jp (jr (rc 0 rfl (zkh (rk:=wh) (rv:=zam) 12 rfl) (rc 0 rfl (zQ (r:=zam) [kS [105,110,116,51,50],kI 0] [] (⟨[105,110,116,51,50],0⟩:zq) rfl zgD rfl rfl) (rms (D:=[]) 0 [] 12 [] ([]:(List (Int×zq))) 1 (⟨[105,110,116,51,50],0⟩:zq) [] zex (zdw rfl rfl) (zcT rfl) (rc 0 rfl (zQ (r:=zam) [kS [105,110,116,54,52],kI 0] [] (⟨[105,110,116,54,52],0⟩:zq) rfl zgD rfl rfl) (rms (D:=[]) 0 [] 12 [] zHV 2 (⟨[105,110,116,54,52],0⟩:zq) [] zex (zdw rfl rfl) (zcT rfl) (rc 0 rfl (zQ (r:=zam) [kS [117,105,110,116,51,50],kI 0] [] (⟨[117,105,110,116,51,50],0⟩:zq) rfl zgD rfl rfl) (rms (D:=[]) 0 [] 12 [] zHW 3 (⟨[117,105,110,116,51,50],0⟩:zq) [] zex (zdw rfl rfl) (zcT rfl) (rc 0 rfl (zQ (r:=zam) [kS [117,105,110,116,54,52],kI 0] [] (⟨[117,105,110,116,54,52],0⟩:zq) rfl zgD rfl rfl) (rms (D:=[]) 0 [] 12 [] zHX 4 (⟨[117,105,110,116,54,52],0⟩:zq) [] zex (zdw rfl rfl) (zcT rfl) (rc 0 rfl (zQ (r:=zam) [kS [115,105,110,116,51,50],kI 0] [] (⟨[115,105,110,116,51,50],0⟩:zq) rfl zgD rfl rfl) (rms (D:=[]) 0 [] 12 [] zHY 5 (⟨[115,105,110,116,51,50],0⟩:zq) [] zex (zdw rfl rfl) (zcT rfl) (rc 0 rfl (zQ (r:=zam) [kS [115,105,110,116,54,52],kI 0] [] (⟨[115,105,110,116,54,52],0⟩:zq) rfl zgD rfl rfl) (rms (D:=[]) 0 [] 12 [] zHZ 6 (⟨[115,105,110,116,54,52],0⟩:zq) [] zex (zdw rfl rfl) (zcT rfl) (rc 0 rfl (zQ (r:=zam) [kS [98,111,111,108],kI 0] [] (⟨[98,111,111,108],0⟩:zq) rfl zgD rfl rfl) (rms (D:=[]) 0 [] 12 [] zIa 7 (⟨[98,111,111,108],0⟩:zq) [] zex (zdw rfl rfl) (zcT rfl) (rc 0 rfl (zQ (r:=zam) [kS [101,110,117,109],kI 0] [] (⟨[101,110,117,109],0⟩:zq) rfl zgD rfl rfl) (rms (D:=[]) 0 [] 12 [] zIb 8 (⟨[101,110,117,109],0⟩:zq) [] zex (zdw rfl rfl) (zcT rfl) (rc 0 rfl (zQ (r:=zam) [kS [102,105,120,101,100,51,50],kI 5] [] (⟨[102,105,120,101,100,51,50],5⟩:zq) rfl zgD rfl rfl) (rms (D:=[]) 0 [] 12 [] zIc 9 (⟨[102,105,120,101,100,51,50],5⟩:zq) [] zex (zdw rfl rfl) (zcT rfl) (rc 0 rfl (zQ (r:=zam) [kS [115,102,105,120,101,100,51,50],kI 5] [] (⟨[115,102,105,120,101,100,51,50],5⟩:zq) rfl zgD rfl rfl) (rms (D:=[]) 0 [] 12 [] zId 10 (⟨[115,102,105,120,101,100,51,50],5⟩:zq) [] zex (zdw rfl rfl) (zcT rfl) (rc 0 rfl (zQ (r:=zam) [kS [102,108,111,97,116],kI 5] [] (⟨[102,108,111,97,116],5⟩:zq) rfl zgD rfl rfl) (rms (D:=[]) 0 [] 12 [] zFa 11 (⟨[102,108,111,97,116],5⟩:zq) [] zex (zdw rfl rfl) (zcT rfl) (rc 0 rfl (zQ (r:=zam) [kS [102,105,120,101,100,54,52],kI 1] [] (⟨[102,105,120,101,100,54,52],1⟩:zq) rfl zgD rfl rfl) (rms (D:=[]) 0 [] 12 [] zFb 12 (⟨[102,105,120,101,100,54,52],1⟩:zq) [] zex (zdw rfl rfl) (zcT rfl) (rc 0 rfl (zQ (r:=zam) [kS [115,102,105,120,101,100,54,52],kI 1] [] (⟨[115,102,105,120,101,100,54,52],1⟩:zq) rfl zgD rfl rfl) (rms (D:=[]) 0 [] 12 [] zFc 13 (⟨[115,102,105,120,101,100,54,52],1⟩:zq) [] zex (zdw rfl rfl) (zcT rfl) (rc 0 rfl (zQ (r:=zam) [kS [100,111,117,98,108,101],kI 1] [] (⟨[100,111,117,98,108,101],1⟩:zq) rfl zgD rfl rfl) (rms (D:=[]) 0 [] 12 [] zFd 14 (⟨[100,111,117,98,108,101],1⟩:zq) [] zex (zdw rfl rfl) (zcT rfl) (rc 0 rfl (zQ (r:=zam) [kS [115,116,114,105,110,103],kI 2] [] (⟨[115,116,114,105,110,103],2⟩:zq) rfl zgD rfl rfl) (rms (D:=[]) 0 [] 12 [] zBa 15 (⟨[115,116,114,105,110,103],2⟩:zq) [] zex (zdw rfl rfl) (zcT rfl) (rc 0 rfl (zQ (r:=zam) [kS [98,121,116,101,115],kI 2] [] (⟨[98,121,116,101,115],2⟩:zq) rfl zgD rfl rfl) (rms (D:=[]) 0 [] 12 [] (mput zBa 15 (⟨[115,116,114,105,110,103],2⟩:zq)) 16 (⟨[98,121,116,101,115],2⟩:zq) [] zex (zdw rfl rfl) (zcT rfl) (rc 0 rfl (zQ (r:=zam) [kS [109,101,115,115,97,103,101],kI 2] [] (⟨[109,101,115,115,97,103,101],2⟩:zq) rfl zgD rfl rfl) (rms (D:=[]) 0 [] 12 [] (mput (mput zBa 15 (⟨[115,116,114,105,110,103],2⟩:zq)) 16 (⟨[98,121,116,101,115],2⟩:zq)) 17 (⟨[109,101,115,115,97,103,101],2⟩:zq) [] zex (zdw rfl rfl) (zcT rfl) rf))))))))))))))))))))))))))))))))))) ?_);cases h;exact zz (lks [] [(12,2)] lzz)
theorem zlc (h:zfw c=some r):wj 142 [k8 c] [kB r]:=by
 refine fi 9 func142 fun Xt=>?_
 unfold zfw at h;refine jp (jg [] [] [(2,kB ((decide (c>=48))&&(decide (c<=57))))] ?_ ?_)
 ·refine (rsl 3 [] 5 (decide (c>=48)) ?_ ?_)<;>intro uf
  · exact (rbl [] 2 (decide (c<=57)) rfl (by grind))
  exact (rbl [] 2 false rfl (by grind))
 cases h;exact zz lzz
theorem zql (h:zfU c=some r):wj 143 [k8 c] [kB r]:=by
 refine fi 21 func143 fun Xt=>?_
 unfold zfU at h;refine jp (jg [] [] [(2,kB (if (decide (c>=97)) then ((decide (c<=122))|| (if (decide (c>=65)) then ((decide (c<=90))|| (c==95)) else (c==95))) else (if (decide (c>=65)) then ((decide (c<=90))|| (c==95)) else (c==95))))] ?_ ?_)
 ·refine (rsl 3 [] 5 (decide (c>=97)) ?_ ?_)<;>intro uf
  ·refine (rsl 4 [] 9 (decide (c<=122)) ?_ ?_)<;>intro ug
   · exact (rbl [] 2 true rfl (by grind))
   refine (rsl 3 [] 12 (decide (c>=65)) ?_ ?_)<;>intro uj
   ·refine (rsl 5 [] 17 (decide (c<=90)) ?_ ?_)<;>intro uk
    · exact (rbl [] 2 true rfl (by grind))
    exact (rbl [] 2 (c==95) rfl (by grind))
   exact (rbl [] 2 (c==95) rfl (by grind))
  refine (rsl 7 [] 12 (decide (c>=65)) ?_ ?_)<;>intro uq
  ·refine (rsl 5 [] 17 (decide (c<=90)) ?_ ?_)<;>intro ur
   · exact (rbl [] 2 true rfl (by grind))
   exact (rbl [] 2 (c==95) rfl (by grind))
  exact (rbl [] 2 (c==95) rfl (by grind))
 cases h;exact zz lzz
theorem zqm (h:zfV n=some r):wj 117 [kI n] [kB r]:=by
 refine fi 17 func117 fun Xt=>?_
 unfold zfV at h;refine jp (jg [] [] [(2,kB ((decide (n>=1))&&((decide (n<=536870911))&&((decide (n<19000))|| (decide (n>19999))))))] ?_ ?_)
 ·refine (rsl 3 [] 5 (decide (n>=1)) ?_ ?_)<;>intro uf
  ·refine (rsl 4 [] 9 (decide (n<=536870911)) ?_ ?_)<;>intro ug
   ·refine (rsl 3 [] 12 (decide (n<19000)) ?_ ?_)<;>intro uj
    · exact (rbl [] 2 true rfl (by grind))
    exact (rbl [] 2 (decide (n>19999)) rfl (by grind))
   exact (rbl [] 2 false rfl (by grind))
  exact (rbl [] 2 false rfl (by grind))
 cases h;exact zz lzz
theorem zks (h:zcO sv v=some r):wj 144 [.sl wh [0] sv,kI v] [kI r]:=by
 refine fi 19 func144 fun Xt=>?_
 unfold zcO at h;refine jp (jp (zp (jb h fun q ul h=>jL ul [0,1,7] [] (fun s=>[(8,kI s)]) (fun| (.inl v_)=> .x 0 ⟨[],[]⟩| (.inr v_)=> .r ⟨[(4,kI v_)],[]⟩) ?_ lzz ?_)))
 ·clear h;intro v2 o h;unfold zaA at h;refine jp (jI h ?_ ?_)<;>intro uf h
  ·refine zp (jp (jb h fun x ut h=>jr (rx 3 [0] zin.el ut rfl rfl rf) (jI h ?_ ?_)))<;>intro ug h
   ·cases h;exact jz'
   refine zJ ?_;cases h;exact jy
  cases h;exact zad rfl lzz
 rcases q with u| u2
 ·refine zao _ rfl ?_;cases h;exact jz
 obtain rfl:=(sj h);exact zer lzz
theorem znz (h:zev c f=some r):wj 120 [.ag [kI c.size,.sl wh [0] c.kinds,.mp zB Rp.bool [0] c.names,.mp zC Rp.bool [0] c.numbers],.rc zf [0] f] [kB r]:=by
 refine fi 21 func120 fun Xt=>?_
 unfold zev at h;refine jq [11,12] (jp (jI h ?_ ?_))<;>intro uf h
 ·refine jg [] [] [(4,kB ((decide (f.Of>=0))&&(decide (f.Of<c.size))))] ?_ ?_
  ·refine (rsl 4 [] 11 (decide (f.Of>=0)) ?_ ?_)<;>intro ug
   · exact (rbl [] 4 (decide (f.Of<c.size)) rfl (by grind))
   exact (rbl [] 4 false rfl (by grind))
  cases h;exact zz lzz
 cases h;exact jz
theorem zic (h:zfF b=some r):wj 123 [.sl Rp.byte [0] b] [kU r.1,kI r.2.1,k8 r.2.2]:=by
 refine fi 38 func123 fun Xt=>?_
 unfold zfF at h;refine jp (jb h fun v uG h=>jr (ra 4 [.sl Rp.byte [0] b,kI (if (10:Int)<(b.length:Int) then 10 else (b.length:Int))] rfl (zeD none (some (kI (if (10:Int)<(b.length:Int) then 10 else (b.length:Int)))) rfl zcr.el (zbq _ _ _) ⟨rfl,rfl⟩ ⟨rfl,rfl⟩ uG) rfl rf) (zp (jb h fun q ul h=>jL ul [11,12] [] (fun s=>[(2,kU s.1),(13,kI s.2)]) (fun| (.inl v_)=> .x 0 ⟨[],[]⟩| (.inr v_)=> .r ⟨[(2,kU v_.1),(3,kI v_.2.1),(4,k8 v_.2.2)],[]⟩) ?_ lzz ?_)))
 ·clear h;intro s o h;obtain ⟨wv,v2⟩:=s;replace h:zdN v wv v2=some o:=h;unfold zdN at h;refine jp (jI h ?_ ?_)<;>intro uf h
  ·refine zp (jb h fun x ut h=>jr (rx 1 [0] zcr.el ut rfl rfl rf) (jg [2,5,6,11,12,13] [] [(23,kB ((v2==9)&&(decide ((x.toNat:Int)>1))))] ?_ ?_))
   ·refine (rsl 3 [] 20 (v2==9) ?_ ?_)<;>intro ug
    · exact (rbl [] 23 (decide ((x.toNat:Int)>1)) rfl (by grind))
    exact (rbl [] 23 false rfl (by grind))
   refine jI h ?_ ?_<;>intro uj h
   ·cases h;exact jz'
   refine jb h fun v4 uX h=>jr (ra 6 [kU (IntKind.u64.wrap (andI .u8 (x.toNat:Int) 127)),kI (IntKind.i64.wrap (7*v2))] rfl (zBk rfl uX) rfl rf) (jp (jI h ?_ ?_))<;>intro uk h
   ·cases h;exact jz'
   refine zJ ?_;cases h;exact jy
  cases h;exact zad rfl lzz
 rcases q with u| u2
 ·refine zao _ rfl ?_;cases h;exact jz
 cases h;exact zer lzz
theorem zsp (h:zhh wire=some r):wj 146 [kI wire] [kB r]:=by
 refine fi 9 func146 fun Xt=>?_
 unfold zhh at h;refine jp (jp (zp (jp (jI h ?_ ?_))))<;>intro uf h
 ·refine jI h ?_ ?_<;>intro ug h
  ·refine jp ?_;obtain rfl:=(sj h);exact zz lzz
  refine zJ (jp ?_);obtain rfl:=(sj h);exact zz lzz
 refine jp (jI h ?_ ?_)<;>intro uj h
 ·refine jI h ?_ ?_<;>intro uk h
  ·refine jp ?_;obtain rfl:=(sj h);exact zz lzz
  refine zJ (jp ?_);obtain rfl:=(sj h);exact zz lzz
 refine jp (jI h ?_ ?_)<;>intro uq h
 ·refine jI h ?_ ?_<;>intro ur h
  ·refine jp ?_;obtain rfl:=(sj h);exact zz lzz
  refine zJ (jp ?_);obtain rfl:=(sj h);exact zz lzz
 refine jp (jI h ?_ ?_)<;>intro uy h
 ·refine jp ?_;obtain rfl:=(sj h);exact zz lzz
 refine zJ (jp ?_);obtain rfl:=(sj h);exact zz lzz
theorem ztr (h:zid f v=some r):wj 127 [.rc zf [0] f,.ep wh [0] v 0] [kB r]:=by
 refine fi 8 func127 fun Xt=>?_
 unfold zid at h;refine jq [11] ?_;cases h;exact jz
theorem zng (h:zgP k=some r):wj 149 [kI k] [kI r.1,k8 r.2]:=by
 refine fi 22 func149 fun Xt=>?_
 unfold zgP at h;refine jp (jp (zp (jp (jb h fun p uH h=>jn (.n ⟨[(4,kI k),(5,kB p)],[]⟩) ?_ ?_))))
 ·replace h:=uH;refine jI h ?_ ?_<;>intro uf h
  ·cases h;exact zL lzz
  refine jp (jI h ?_ ?_)<;>intro ug h
  ·cases h;exact zL lzz
  refine jp (jI h ?_ ?_)<;>intro uj h
  ·cases h;exact zL lzz
  refine jp (jI h ?_ ?_)<;>intro uk h
  ·cases h;exact zL lzz
  refine jp (jI h ?_ ?_)<;>intro uq h
  ·cases h;exact zL lzz
  refine jp (jI h ?_ ?_)<;>intro ur h
  ·cases h;exact zL lzz
  refine jp (jI h ?_ ?_)<;>intro uy h
  ·cases h;exact zL lzz
  cases h;exact jy
 refine zcQ (jI h ?_ ?_)<;>intro uC h
 ·cases h;exact jz
 refine jp (jb h fun p2 uR h=>jn (.n ⟨[(4,kI k),(14,kB p2)],[]⟩) ?_ ?_)
 ·replace h:=uR;refine jI h ?_ ?_<;>intro uF h
  ·cases h;exact zL lzz
  refine jp (jI h ?_ ?_)<;>intro uI h
  ·cases h;exact zL lzz
  cases h;exact jy
 refine zcQ (jI h ?_ ?_)<;>intro uS h
 ·cases h;exact jz
 refine jp (jI h ?_ ?_)<;>intro uN h
 ·refine jI h ?_ ?_<;>intro uQ h
  ·cases h;exact jz
  refine zJ ?_;cases h;exact jz
 refine jp (jI h ?_ ?_)<;>intro uT h
 ·refine jI h ?_ ?_<;>intro uO h
  ·cases h;exact jz
  refine zJ ?_;cases h;exact jz
 refine jp (jI h ?_ ?_)<;>intro uY h
 ·cases h;exact jz
 refine zJ ?_;cases h;exact jz
theorem zpA (h:zir wv=some r):wj 154 [kU wv] [.lf (.int .u32 r)]:=by
 refine fi 5 func154 fun Xt=>?_
 unfold zir at h;refine jp ?_;cases h;exact jz
theorem ztT (h:ziR n=some r):wj 152 [.lf (.int .i32 n)] [kU r]:=by
 refine fi 6 func152 fun Xt=>?_
 unfold ziR at h;refine jp ?_;cases h;exact jz
theorem zvQ (h:zmI wv=some r):wj 155 [kU wv] [kU r]:=by
 refine fi 5 func155 fun Xt=>?_
 unfold zmI at h;refine jp ?_;cases h;exact jz
theorem zyU (h:znK wv=some r):wj 157 [kU wv] [kI r]:=by
 refine fi 13 func157 fun Xt=>?_
 unfold znK at h;refine jp (jp (jr (ra 1 [kU wv,kU 7] rfl (zjo rfl rfl) rfl rf) (zp (jb h fun q ul h=>jL ul [] [] (fun s=>[(0,kU s.1),(3,kI s.2)]) (fun o=> .x 0 ⟨[(3,kI o)],[]⟩) ?_ lzz ?_))))
 ·clear h;intro s o h;obtain ⟨wv2,n⟩:=s;replace h:zgt wv2 n=some o:=h;unfold zgt at h;refine jp (jI h ?_ ?_)<;>intro uf h
  ·refine zp (jp (zJ (jr (ra 1 [kU wv2,kU 7] rfl (zjo rfl rfl) rfl rf) ?_)));cases h;exact zL lzz
  cases h;exact zad rfl lzz
 refine zao _ rfl (jp ?_);obtain rfl:=(sj h);exact zz lzz
theorem zAq (h:zrx c=some r):wj 159 [k8 c] [kI r.1,.lf (.int .u32 r.2)]:=by
 refine fi 31 func159 fun Xt=>?_
 unfold zrx at h;refine jp (zp (jr (ra 1 [k8 c,kU 7] rfl (zjo rfl rfl) rfl rf) (jI h ?_ ?_)))<;>intro uf h
 ·cases h;exact jz
 refine jr (ra 1 [k8 c,kU 5] rfl (zjo rfl rfl) rfl rf) (jI h ?_ ?_)<;>intro ug h
 ·cases h;exact jz
 refine jr (ra 1 [k8 c,kU 4] rfl (zjo rfl rfl) rfl rf) (jI h ?_ ?_)<;>intro uj h
 ·cases h;exact jz
 refine jr (ra 1 [k8 c,kU 3] rfl (zjo rfl rfl) rfl rf) (jI h ?_ ?_)<;>intro uk h
 ·cases h;exact jz
 refine zJ ?_;cases h;exact jz
theorem zAp (h:zml wv=some r):wj 160 [.lf (.int .u32 wv)] [kI r]:=by
 refine fi 22 func160 fun Xt=>?_
 unfold zml at h;refine jp (zp (jr (ra 1 [.lf (.int .u32 wv),kU 7] rfl (zjo rfl rfl) rfl rf) (jI h ?_ ?_)))<;>intro uf h
 ·cases h;exact jz
 refine jr (ra 1 [.lf (.int .u32 wv),kU 11] rfl (zjo rfl rfl) rfl rf) (jI h ?_ ?_)<;>intro ug h
 ·cases h;exact jz
 refine jr (ra 1 [.lf (.int .u32 wv),kU 11] rfl (zjo rfl rfl) rfl rf) (jI h ?_ ?_)<;>intro uj h
 ·cases h;exact jz
 refine jr (ra 1 [.lf (.int .u32 wv),kU 16] rfl (zjo rfl rfl) rfl rf) (jI h ?_ ?_)<;>intro uk h
 ·cases h;exact jz
 refine jp (jI h ?_ ?_)<;>intro uq h
 ·cases h;exact jz
 refine zJ ?_;cases h;exact jz
theorem zjH (h:zcq n=some r):wj 45 [kN,kI n] [.own Rp.byte 5 2 [] r]:=by
 refine fi 27 func45 fun Xt=>?_
 unfold zcq at h;refine jp (jp (jI h ?_ ?_))<;>intro uf h
 · exact absurd h nofun
 refine jr (ra 2 [kN] rfl (zwK rfl underlying24) rfl rf) (jp (jI h ?_ ?_))<;>intro ug h
 ·refine jb h fun v uG h=>jb h fun v2 uJ h=>jr (ra 2 [kN] rfl (zwK rfl underlying24) rfl (ra 0 [kN,kI 0] rfl (zDD rfl zcr.el) rfl (ra 1 [kN,kI (IntKind.i64.wrap (n - (IntKind.i64.wrap (0 - 0))))] rfl (zHb 12 rfl underlying3 zcr rfl uG) rfl (ra 2 [.own Rp.byte 5 12 [] v,kI 0] rfl (zHd rfl zcr.el uJ) rfl rf)))) (jp ?_);obtain rfl:=(sj h);exact zz (lks [] [(12,2)] lzz)
 refine jp ?_;cases h;exact zz lw
theorem znN (h:zgo av b=some r):wj 18 [.sl Rp.byte [0] av,.sl Rp.byte [0] b] [kB r]:=by
 refine fi 10 func18 fun Xt=>?_
 unfold zgo at h;refine jp (jr (ra 1 [.sl Rp.byte [0] av] rfl (zog rfl underlying24 underlying5 underlying9 (zbq _ _ _)) rfl (ra 1 [.sl Rp.byte [0] b] rfl (zog rfl underlying24 underlying5 underlying9 (zbq _ _ _)) rfl rf)) ?_);cases h;exact zz lzz
theorem zpm (h:zfm sv=some r):wj 7 [.sl zi [0] sv] [kB r]:=by
 refine fi 54 func7 fun Xt=>?_
 unfold zfm at h;refine jp (jp (jp (zp (jb h fun q2 uK h=>jL uK [0] [] (fun s=>[(3,kI s.1),(4,kI s.2)]) (fun o=> .x 0 ⟨[(3,kI o)],[]⟩) ?_ lzz ?_))))
 ·clear h;intro s o h;obtain ⟨n,i⟩:=s;replace h:zcc sv n i=some o:=h;unfold zcc at h;refine jp (jI h ?_ ?_)<;>intro uf h
  ·refine zp (jb h fun x ut h=>jb h fun x2 uw h=>jd [0,3,4] [] zbo (by exact (lwn 4 (di [0] zfZ.el ut (lwn 7 (di [0] zfZ.el uw (lw_e (lx (ldl zi [0] x2 1 zf x2.Fields) l0))))))) (jp (zp (jb h fun q ul h=>jL ul [0,4] [] (fun s=>[(3,kI s.1),(5,kI s.2)]) (fun o=> .X 2 [0,4] [] [(3,kI o)] []) ?_ lzz ?_))))
   ·clear h;intro s o h;obtain ⟨n3,k⟩:=s;replace h:zcd i sv n3 k=some o:=h;unfold zcd at h;refine jb h fun x3 uE h=>jr (rx 3 [0] zfZ.el uE rfl rfl (rc 1 rfl (ldl zi [0] x3 1 zf x3.Fields) rf)) (jI h ?_ ?_)<;>intro ug h
    ·refine zp (jb h fun x4 uL h=>jb h fun x5 uU h=>jr (rx 3 [0] zfZ.el uL rfl rfl (rc 1 rfl (ldl zi [0] x4 1 zf x4.Fields) (rx 1 [0] zif.el uU rfl rfl rf))) (zJ ?_));cases h;exact jy
    cases h;exact zad rfl lzz
   refine zao _ rfl (zJ ?_);cases h;exact jy
  cases h;exact zad rfl lzz
 refine zao _ rfl ?_;cases h;exact jz
theorem ziT (h:zdP sv=some r):wj 77 [kS sv] [kB r]:=by
 refine fi 55 func77 fun Xt=>?_
 unfold zdP at h;refine jp (jp (zp (jb h fun q ul h=>jL ul [0] [] (fun s=>[(3,kI s)]) (fun| (.inl v_)=> .x 0 ⟨[(0,kS sv)],[]⟩| (.inr v_)=> .r ⟨[(2,kB false)],[]⟩) ?_ lzz ?_)))
 ·clear h;intro i o h;unfold zbI at h;refine jp (jI h ?_ ?_)<;>intro uf h
  ·refine zp (jb h fun c vk h=>jr (ra 2 [kS sv,kI i] rfl (zxZ rfl underlying9 vk) rfl rf) (jg [0,3] [] [(5,kB (if (decide ((c.toNat:Int)>=65)) then ((decide ((c.toNat:Int)<=90))|| (if (decide ((c.toNat:Int)>=97)) then ((decide ((c.toNat:Int)<=122))|| (((c.toNat:Int)==95)|| ((decide (i>0))&&((decide ((c.toNat:Int)>=48))&&(decide ((c.toNat:Int)<=57)))))) else (((c.toNat:Int)==95)|| ((decide (i>0))&&((decide ((c.toNat:Int)>=48))&&(decide ((c.toNat:Int)<=57))))))) else (if (decide ((c.toNat:Int)>=97)) then ((decide ((c.toNat:Int)<=122))|| (((c.toNat:Int)==95)|| ((decide (i>0))&&((decide ((c.toNat:Int)>=48))&&(decide ((c.toNat:Int)<=57)))))) else (((c.toNat:Int)==95)|| ((decide (i>0))&&((decide ((c.toNat:Int)>=48))&&(decide ((c.toNat:Int)<=57))))))))] ?_ ?_))
   ·refine (rsl 3 [] 17 (decide ((c.toNat:Int)>=65)) ?_ ?_)<;>intro ug
    ·refine (rsl 4 [] 21 (decide ((c.toNat:Int)<=90)) ?_ ?_)<;>intro uj
     · exact (rbl [] 5 true rfl (by grind))
     refine (rsl 3 [] 24 (decide ((c.toNat:Int)>=97)) ?_ ?_)<;>intro uk
     ·refine (rsl 5 [] 29 (decide ((c.toNat:Int)<=122)) ?_ ?_)<;>intro uq
      · exact (rbl [] 5 true rfl (by grind))
      refine (rsl 4 [] 33 ((c.toNat:Int)==95) ?_ ?_)<;>intro ur
      · exact (rbl [] 5 true rfl (by grind))
      refine (rsl 3 [] 36 (decide (i>0)) ?_ ?_)<;>intro uy
      ·refine (rsl 4 [] 40 (decide ((c.toNat:Int)>=48)) ?_ ?_)<;>intro uC
       · exact (rbl [] 5 (decide ((c.toNat:Int)<=57)) rfl (by grind))
       exact (rbl [] 5 false rfl (by grind))
      exact (rbl [] 5 false rfl (by grind))
     refine (rsl 9 [] 33 ((c.toNat:Int)==95) ?_ ?_)<;>intro uF
     · exact (rbl [] 5 true rfl (by grind))
     refine (rsl 3 [] 36 (decide (i>0)) ?_ ?_)<;>intro uI
     ·refine (rsl 4 [] 40 (decide ((c.toNat:Int)>=48)) ?_ ?_)<;>intro uS
      · exact (rbl [] 5 (decide ((c.toNat:Int)<=57)) rfl (by grind))
      exact (rbl [] 5 false rfl (by grind))
     exact (rbl [] 5 false rfl (by grind))
    refine (rsl 7 [] 24 (decide ((c.toNat:Int)>=97)) ?_ ?_)<;>intro uN
    ·refine (rsl 5 [] 29 (decide ((c.toNat:Int)<=122)) ?_ ?_)<;>intro uQ
     · exact (rbl [] 5 true rfl (by grind))
     refine (rsl 4 [] 33 ((c.toNat:Int)==95) ?_ ?_)<;>intro uT
     · exact (rbl [] 5 true rfl (by grind))
     refine (rsl 3 [] 36 (decide (i>0)) ?_ ?_)<;>intro uO
     ·refine (rsl 4 [] 40 (decide ((c.toNat:Int)>=48)) ?_ ?_)<;>intro uY
      · exact (rbl [] 5 (decide ((c.toNat:Int)<=57)) rfl (by grind))
      exact (rbl [] 5 false rfl (by grind))
     exact (rbl [] 5 false rfl (by grind))
    refine (rsl 9 [] 33 ((c.toNat:Int)==95) ?_ ?_)<;>intro u0
    · exact (rbl [] 5 true rfl (by grind))
    refine (rsl 3 [] 36 (decide (i>0)) ?_ ?_)<;>intro u9
    ·refine (rsl 4 [] 40 (decide ((c.toNat:Int)>=48)) ?_ ?_)<;>intro va
     · exact (rbl [] 5 (decide ((c.toNat:Int)<=57)) rfl (by grind))
     exact (rbl [] 5 false rfl (by grind))
    exact (rbl [] 5 false rfl (by grind))
   refine jp (jI h ?_ ?_)<;>intro vl h
   ·cases h;exact jz'
   refine zJ ?_;cases h;exact jy
  cases h;exact zad rfl lzz
 rcases q with u| u2
 ·refine zao _ rfl (jg [] [] [(2,kB ((decide ((sv.length:Int)>=1))&&(decide ((sv.length:Int)<=60))))] ?_ ?_)
  ·refine (rsl 4 [] 50 (decide ((sv.length:Int)>=1)) ?_ ?_)<;>intro vm
   · exact (rbl [] 2 (decide ((sv.length:Int)<=60)) rfl (by grind))
   exact (rbl [] 2 false rfl (by grind))
  cases h;exact zz lzz
 obtain rfl:=(sj h);exact zer lzz
theorem zgk (h:zdz k=some r):wj 64 [kI k] [kB r]:=by
 refine fi 9 func64 fun Xt=>?_
 unfold zdz at h;refine jp (jg [] [] [(2,kB ((decide (k>=1))&&(decide (k<=17))))] ?_ ?_)
 ·refine (rsl 3 [] 5 (decide (k>=1)) ?_ ?_)<;>intro uf
  · exact (rbl [] 2 (decide (k<=17)) rfl (by grind))
  exact (rbl [] 2 false rfl (by grind))
 cases h;exact zz lzz
theorem zcX (h:zba k=some r):wj 36 [kI k] [kB r]:=by
 refine fi 9 func36 fun Xt=>?_
 unfold zba at h;refine jp (jg [] [] [(2,kB ((decide (k>=1))&&(decide (k<=14))))] ?_ ?_)
 ·refine (rsl 3 [] 5 (decide (k>=1)) ?_ ?_)<;>intro uf
  · exact (rbl [] 2 (decide (k<=14)) rfl (by grind))
  exact (rbl [] 2 false rfl (by grind))
 cases h;exact zz lzz
theorem zcF (h:zax b wu=some r):wj 59 [.sl Rp.byte [0] b,kI wu] [kU r.1,kI r.2.1,kI r.2.2]:=by
 refine fi 69 func59 fun Xt=>?_
 unfold zax at h;refine jp (jp (zp (jb h fun q ul h=>jL ul [0,1] [] (fun s=>[(7,kI s)]) (fun o=> .X 0 [0,1] [] [(7,kI o)] []) ?_ lzz ?_)))
 ·clear h;intro n o h;unfold zbg at h;refine jb h fun g uh h=>jg [0,1,7] [] [(28,kB g)] ?_ ?_
  ·refine (rsI 7 16 uh ?_ ?_)<;>intro uf uh
   ·refine (rsI 4 20 uh ?_ ?_)<;>intro ug uh
    ·refine jb uh fun x ut uh=>?_;cases uh;exact (rx 4 [0] zcr.el ut rfl rfl rgg)
    cases uh;exact rgg
   cases uh;exact rgg
  refine jI h ?_ ?_<;>intro uj h
  ·refine zp (jp (zJ ?_));cases h;exact zL lzz
  cases h;exact zad rfl lzz
 refine zao _ rfl (jp (jI h ?_ ?_))<;>intro uk h
 ·cases h;exact jz
 refine jp (jI h ?_ ?_)<;>intro uq h
 ·cases h;exact jz
 refine jb h fun g2 uA h=>jg [0,1,7] [] [(49,kB g2)] ?_ ?_
 ·refine (rsI 3 41 uA ?_ ?_)<;>intro ur uA
  ·refine jb uA fun x2 uw uA=>?_;cases uA;exact (rx 4 [0] zcr.el uw rfl rfl rgg)
  cases uA;exact rgg
 refine jI h ?_ ?_<;>intro uy h
 ·cases h;exact jz
 refine jp (jp (zp (jb h fun q2 uK h=>jL uK [0,1,7] [] (fun s=>[(8,kU s.1),(9,kI s.2)]) (fun o=> .x 2 ⟨[(7,kI q),(8,kU o)],[]⟩) ?_ lzz ?_)))
 ·clear h;intro s o h;obtain ⟨wv,i⟩:=s;replace h:zbG wu b wv i=some o:=h;unfold zbG at h;refine jp (jI h ?_ ?_)<;>intro uC h
  ·refine zp (jb h fun x3 uE h=>jr (rx 6 [0] zcr.el uE rfl rfl rf) (zJ ?_));cases h;exact jy
  cases h;exact zad rfl lzz
 refine zao _ rfl ?_;cases h;exact jz
theorem znn (h:zel uP wire=some r):wj 92 [kI uP,kI wire] [kB r]:=by
 refine fi 27 func92 fun Xt=>?_
 unfold zel at h;refine jp (jg [] [] [(4,kB ((decide (uP>=1))&&((decide (uP<=536870911))&&((wire==0)|| ((wire==1)|| ((wire==2)|| (wire==5)))))))] ?_ ?_)
 ·refine (rsl 3 [] 7 (decide (uP>=1)) ?_ ?_)<;>intro uf
  ·refine (rsl 4 [] 11 (decide (uP<=536870911)) ?_ ?_)<;>intro ug
   ·refine (rsl 3 [] 14 (wire==0) ?_ ?_)<;>intro uj
    · exact (rbl [] 4 true rfl (by grind))
    refine (rsl 4 [] 18 (wire==1) ?_ ?_)<;>intro uk
    · exact (rbl [] 4 true rfl (by grind))
    refine (rsl 4 [] 22 (wire==2) ?_ ?_)<;>intro uq
    · exact (rbl [] 4 true rfl (by grind))
    exact (rbl [] 4 (wire==5) rfl (by grind))
   exact (rbl [] 4 false rfl (by grind))
  exact (rbl [] 4 false rfl (by grind))
 cases h;exact zz lzz
theorem zih (h:zdA m uP=some r):wj 30 [.rc zi [0] m,kI uP] [kI r]:=by
 refine fi 22 func30 fun Xt=>?_
 unfold zdA at h;refine jr (ra 0 [.rc zi [0] m] rfl (zhT 11 (zK [0] m) [0] rfl rfl rfl rfl rfl) rfl rf) (jp (zp (jb h fun q ul h=>jL ul [1,2] [11] (fun s=>[(5,kI s)]) (fun| (.inl v_)=> .x 0 ⟨[],[]⟩| (.inr v_)=> .r ⟨[(4,kI v_)],[]⟩) ?_ lzz ?_)))
 ·clear h;intro i o h;unfold zby at h;refine jp (jI h ?_ ?_)<;>intro uf h
  ·refine zp (jb h fun x ut h=>jr (rx 3 [0] zif.el ut rfl rfl rf) (jI h ?_ ?_))<;>intro ug h
   ·cases h;exact jz'
   refine zJ ?_;cases h;exact jy
  cases h;exact zad rfl lzz
 rcases q with u| u2
 ·refine zao _ rfl ?_;cases h;exact jz
 obtain rfl:=(sj h);exact zer lzz
theorem zgu (h:zcY k=some r):wj 57 [kI k] [kI r]:=by
 refine fi 9 func57 fun Xt=>?_
 unfold zcY at h;refine jp (jp (jI h ?_ ?_))<;>intro uf h
 ·cases h;exact jz
 refine jp (jI h ?_ ?_)<;>intro ug h
 ·cases h;exact jz
 refine jp (jI h ?_ ?_)<;>intro uj h
 ·cases h;exact jz
 cases h;exact jz
theorem zpo (h:zfn rv=some r):wj 93 [kI rv] [.own Rp.byte 5 2 [] r]:=by
 refine fi 68 func93 fun Xt=>?_
 unfold zfn at h;refine jp (jg [0] [] [(16,kB ((decide (rv<0))|| ((decide (rv>1114111))|| ((decide (rv>=55296))&&(decide (rv<=57343))))))] ?_ ?_)
 ·refine (rsl 3 [] 5 (decide (rv<0)) ?_ ?_)<;>intro uf
  · exact (rbl [] 16 true rfl (by grind))
  refine (rsl 4 [] 9 (decide (rv>1114111)) ?_ ?_)<;>intro ug
  · exact (rbl [] 16 true rfl (by grind))
  refine (rsl 3 [] 12 (decide (rv>=55296)) ?_ ?_)<;>intro uj
  · exact (rbl [] 16 (decide (rv<=57343)) rfl (by grind))
  exact (rbl [] 16 false rfl (by grind))
 refine jI h ?_ ?_<;>intro uk h
 ·refine jp ?_;cases h;exact zz lw
 refine jp (jI h ?_ ?_)<;>intro uq h
 ·refine jb h fun y vn h=>jr (rc 2 rfl (zx.lw (zdE [.lf (.int .u8 (y.toNat:Int))] 12 [] [y] rfl zcr rfl rfl rfl rfl) (.l (ziM vn))) rf) ?_;cases h;exact zz (lks [] [(12,2)] lzz)
 refine jp (jI h ?_ ?_)<;>intro ur h
 ·refine jb h fun y2 vp h=>jb h fun y3 vH h=>jr (rc 8 rfl (zx.lw (zdE [.lf (.int .u8 (y2.toNat:Int)),.lf (.int .u8 (y3.toNat:Int))] 13 [] [y2,y3] rfl zcr rfl rfl rfl rfl) (.c (ziM vp) (.l (ziM vH)))) rf) ?_;cases h;exact zz (lks [] [(13,2)] lzz)
 refine jp (jI h ?_ ?_)<;>intro uy h
 ·refine jb h fun y4 vI h=>jb h fun y5 vJ h=>jb h fun y6 vK h=>jr (rc 13 rfl (zx.lw (zdE [.lf (.int .u8 (y4.toNat:Int)),.lf (.int .u8 (y5.toNat:Int)),.lf (.int .u8 (y6.toNat:Int))] 14 [] [y4,y5,y6] rfl zcr rfl rfl rfl rfl) (.c (ziM vI) (.c (ziM vJ) (.l (ziM vK))))) rf) ?_;cases h;exact zz (lks [] [(14,2)] lzz)
 refine jb h fun y7 vL h=>jb h fun y8 vM h=>jb h fun y9 vN h=>jb h fun y10 vO h=>jr (rc 18 rfl (zx.lw (zdE [.lf (.int .u8 (y7.toNat:Int)),.lf (.int .u8 (y8.toNat:Int)),.lf (.int .u8 (y9.toNat:Int)),.lf (.int .u8 (y10.toNat:Int))] 15 [] [y7,y8,y9,y10] rfl zcr rfl rfl rfl rfl) (.c (ziM vL) (.c (ziM vM) (.c (ziM vN) (.l (ziM vO)))))) rf) ?_;cases h;exact zz (lks [] [(15,2)] lzz)
theorem zvZ (h:zku b l=some r):wj 72 [.sl Rp.byte [0] b,.sl zg [0] l] [.own Rp.str 9 2 [] r]:=by
 refine fi 32 func72 fun Xt=>?_
 unfold zku at h;refine jp (jb h fun v uG h=>jr (ra 2 [kI (l.length:Int),kI (l.length:Int)] rfl (zya 12 rfl zhI rfl uG) rfl rf) (jp (zp (jb h fun q ul h=>jL ul [0,11,12] [] (fun s=>[(5,.own Rp.str 9 12 [] s.1),(13,kI s.2)]) (fun o=> .x 0 ⟨[(5,.own Rp.str 9 12 [] o)],[]⟩) ?_ lzz ?_))))
 ·clear h;intro s o h;obtain ⟨all,v2⟩:=s;replace h:zfg b l all v2=some o:=h;unfold zfg at h;refine jp (jI h ?_ ?_)<;>intro uf h
  ·refine zp (jb h fun x ut h=>jr (rx 1 [0] zjs.el ut rfl rfl (rc 0 rfl (lde zg [0] x zli) (rfl' [14]))) (jb h fun v3 uD h=>jb h fun x2 uw h=>jr (ra 9 [.sl Rp.byte [0] b,kI x.Record.At,kI x.Record.To] rfl (zeD (some (kI x.Record.At)) (some (kI x.Record.To)) rfl zcr.el (zbq _ _ _) ⟨rfl,rfl⟩ ⟨rfl,rfl⟩ uD) rfl (ra 0 [.sl Rp.byte [0] v3] rfl (zog rfl underlying24 underlying5 underlying9 (zbq _ _ _)) rfl (ra 0 [.own Rp.str 9 12 [] all,kI v2] rfl (zBh rfl zhI.el uw) rfl (rkl 0 [] ⟨[(0,.sl Rp.byte [0] b),(5,.own Rp.str 9 12 [] all),(11,.sl zg [0] l),(12,kI (l.length:Int)),(13,kI v2),(28,kS v3),(29,.ptr 12 (Int.toNat v2*Rp.str.size))],[]⟩ (zBD (r:=Rp.str) (e:=9) (C:=[]) (xs:=all) [5] (Int.toNat v2) 0 x2 v3 [] rfl rfl rfl rfl rfl rfl sizeOf9 rfl (by kernel_rfl) rfl (zxS uw) rfl (zyu rfl _) rfl rf))))) (zJ ?_)));cases h;exact jy
  cases h;exact zad rfl lzz
 refine zao _ rfl (jp ?_);obtain rfl:=(sj h);exact zz (lks [] [(12,2)] lzz)
theorem zxA (h:zlI b=some r):wj 151 [.sl Rp.byte [0] b] [kU r]:=by
 refine fi 26 func151 fun Xt=>?_
 unfold zlI at h;refine jp (jp (jb h fun v uG h=>jr (ra 4 [.sl Rp.byte [0] b,kI (if (8:Int)<(b.length:Int) then 8 else (b.length:Int))] rfl (zeD none (some (kI (if (8:Int)<(b.length:Int) then 8 else (b.length:Int)))) rfl zcr.el (zbq _ _ _) ⟨rfl,rfl⟩ ⟨rfl,rfl⟩ uG) rfl rf) (zp (jb h fun q ul h=>jL ul [10,11] [] (fun s=>[(3,kU s.1),(12,kI s.2)]) (fun o=> .x 0 ⟨[(3,kU o)],[]⟩) ?_ lzz ?_))))
 ·clear h;intro s o h;obtain ⟨wv,v2⟩:=s;replace h:zfG v wv v2=some o:=h;unfold zfG at h;refine jp (jI h ?_ ?_)<;>intro uf h
  ·refine zp (jb h fun x ut h=>jr (rx 1 [0] zcr.el ut rfl rfl rf) (jb h fun v3 uD h=>jr (ra 5 [kU (IntKind.u64.wrap (x.toNat:Int)),kI (IntKind.i64.wrap (8*v2))] rfl (zBk rfl uD) rfl rf) (zJ ?_)));cases h;exact jy
  cases h;exact zad rfl lzz
 refine zao _ rfl (jp ?_);obtain rfl:=(sj h);exact zz lzz
theorem zoF (h:zeW v=some r):wj 55 [.rc zh [0] v] [kI r]:=by
 refine fi 14 func55 fun Xt=>?_
 unfold zeW at h;refine jr (rc 0 rfl (lbx 11 [0] (zbc [0] v)) rf) ?_;cases h;exact jz
theorem zmA (h:zdY m=some r):wj 34 [.rc zi [0] m] [.own wh 3 2 [] r]:=by
 refine fi 53 func34 fun Xt=>?_
 unfold zdY at h;refine jr (ra 0 [.rc zi [0] m] rfl (zhT 15 (zK [0] m) [0] rfl rfl rfl rfl rfl) rfl rf) (jp (jp (zp (jb h fun q2 uK h=>jL uK [1] [15] (fun s=>[(3,.own wh 3 18 [] s.1),(4,kI s.2)]) (fun o=> .x 0 ⟨[(3,.own wh 3 18 [] o)],[]⟩) ?_ lw ?_))))
 ·clear h;intro s o h;obtain ⟨out,i⟩:=s;replace h:zbk m out i=some o:=h;unfold zbk at h;refine jp (jI h ?_ ?_)<;>intro uf h
  ·refine zp (jp (zp (jb h fun q ul h=>jL ul [1,3,4] [15] (fun s=>[(5,kI s)]) (fun o=> .X 2 [1,3,4] [15] [(5,kI o)] []) ?_ lzz ?_)))
   ·clear h;intro k o h;unfold zbl at h;refine jb h fun g uh h=>jn (.N [1,3,4,5] [15] [(35,kB g)] []) ?_ (zcQ ?_)
    ·rcases zgx uh with ⟨ug,uh⟩| ⟨ug,uh⟩
     ·refine jb uh fun x ut uh=>jb uh fun x2 uw uh=>jb uh fun x3 uE uh=>?_;cases uh;exact jd [1,3,4,5,35] [15] zbo (by exact (lwn 4 (dg 17 ug (lwn 4 (ly [.own wh 3 18 [] out,kI k] (zhw rfl zin.el (zaS _ _ _ _ _) ut) rfl (lw_e (di [0] zif.el uw (lwn 5 (di [0] zif.el uE l0))))))))) (zL lzz)
     cases uh;exact jd [1,3,4,5,35] [15] zbo (by exact (lwn 4 (dg 17 ug l0))) (zL lzz)
    refine jI h ?_ ?_<;>intro uj h
    ·refine zp (jp (zJ ?_));cases h;exact zL lzz
    cases h;exact zad rfl lzz
   refine zao _ rfl (jb h fun v2 uJ h=>jb h fun v3 uD h=>jr (rc 0 rfl (zdE [] 20 [] ([]:(List Int)) rfl zin rfl rfl rfl rfl) (ra 2 [.own wh 3 18 [] out,kI q] rfl (zeD none (some (kI q)) rfl zin.el (zaS _ _ _ _ _) ⟨rfl,rfl⟩ ⟨rfl,rfl⟩ uJ) rfl (rc 0 rfl (las 20 [] [18] [] zin.el uD (.inl (zfu _))) rf))) (jb h fun v4 uX h=>jr (rc 2 rfl (zdE [kI i] 21 [] ([i]:(List Int)) rfl zin rfl rfl rfl rfl) (rc 0 rfl (lao 20 [] 3 21 [] [] zin.el uX (.inl (zfu _))) rf)) (jb h fun v5 uV h=>jb h fun v6 vf h=>jr (ra 3 [.own wh 3 18 [] out,kI q] rfl (zeD (some (kI q)) none rfl zin.el (zaS _ _ _ _ _) ⟨rfl,rfl⟩ ⟨rfl,rfl⟩ uV) rfl (rc 0 rfl (las 20 [] [18] [] zin.el vf (.inl (zfu _))) rf)) (zJ (jp ?_)))));cases h;exact zL (lks [15] [(20,18)] lzz)
  cases h;exact zad rfl lzz
 refine zao _ rfl (jp ?_);obtain rfl:=(sj h);exact zz (lks [] [(18,2)] lzz)
theorem znP (h:zeN b=some r):wj 58 [.sl Rp.byte [0] b] [kU r]:=by
 refine fi 28 func58 fun Xt=>?_
 unfold zeN at h;refine jp (jp (jp (zp (jb h fun q ul h=>jL ul [0] [] (fun s=>[(3,kU s.1),(4,kU s.2.1),(5,kI s.2.2)]) (fun o=> .x 0 ⟨[(3,kU o)],[]⟩) ?_ lzz ?_))))
 ·clear h;intro s o h;obtain ⟨wv,place,i⟩:=s;replace h:zbF b wv place i=some o:=h;unfold zbF at h;refine jg [0,3,4,5] [] [(13,kB ((decide (i<(b.length:Int)))&&(decide (i<8))))] ?_ ?_
  ·refine (rsl 5 [] 10 (decide (i<(b.length:Int))) ?_ ?_)<;>intro uf
   · exact (rbl [] 13 (decide (i<8)) rfl (by grind))
   exact (rbl [] 13 false rfl (by grind))
  refine jI h ?_ ?_<;>intro ug h
  ·refine zp (jb h fun x ut h=>jr (rx 3 [0] zcr.el ut rfl rfl rf) (jp (zJ ?_)));cases h;exact jy
  cases h;exact zad rfl lzz
 refine zao _ rfl (jp ?_);obtain rfl:=(sj h);exact zz lzz
theorem zmz (h:zdX wv=some r):wj 75 [kU wv] [kI r]:=by
 refine fi 12 func75 fun Xt=>?_
 unfold zdX at h;refine jp (jp (jp (jI h ?_ ?_)))<;>intro uf h
 ·refine jp ?_;cases h;exact jz
 cases h;exact jz
theorem znO (h:zeM n=some r):wj 74 [kI n] [kU r]:=by
 refine fi 12 func74 fun Xt=>?_
 unfold zeM at h;refine jp (jp (jI h ?_ ?_))<;>intro uf h
 ·cases h;exact jz
 cases h;exact jz
theorem ziX (h:zdT v=some r):wj 38 [.rc zh [0] v] [kI r]:=by
 refine fi 14 func38 fun Xt=>?_
 unfold zdT at h;refine jr (rc 0 rfl (lbx 11 [0] (zbc [0] v)) rf) ?_;cases h;exact jz
theorem zpq (h:zfq x uP=some r):wj 31 [.rc zn [0] x,kI uP] [kI r]:=by
 refine fi 22 func31 fun Xt=>?_
 unfold zfq at h;refine jr (rc 0 rfl (lbx 11 [0] (zcU [0] x)) rf) (jp (zp (jb h fun q ul h=>jL ul [1,2] [11] (fun s=>[(5,kI s)]) (fun| (.inl v_)=> .x 0 ⟨[],[]⟩| (.inr v_)=> .r ⟨[(4,kI v_)],[]⟩) ?_ lzz ?_)))
 ·clear h;intro i o h;unfold zcf at h;refine jp (jI h ?_ ?_)<;>intro uf h
  ·refine zp (jb h fun x2 uw h=>jr (rx 3 [0] zim.el uw rfl rfl (ra 1 [.ep zh [0] x2 0] rfl (zBj (.int .i64 x2.Number) rfl rfl (by rw [zI]<;>rfl) rfl) rfl rf)) (jI h ?_ ?_))<;>intro ug h
   ·cases h;exact jz'
   refine zJ ?_;cases h;exact jy
  cases h;exact zad rfl lzz
 rcases q with u| u2
 ·refine zao _ rfl ?_;cases h;exact jz
 obtain rfl:=(sj h);exact zer lzz
theorem znv (vy:∀{av:zb} {b:zb} {r:Bool},xg av b=some r->wj 14 [.rc zn [0] av,.rc zn [0] b] [kB r]) (vz:∀{av:za} {b:za} {r:Bool},xh av b=some r->wj 39 [.rc zh [0] av,.rc zh [0] b] [kB r]) (h:zdZ xg xh av b=some r):wj 14 [.rc zn [0] av,.rc zn [0] b] [kB r]:=by
 refine fi 60 func14 fun Xt=>?_
 unfold zdZ at h;refine jr (rc 0 rfl (lbx 11 [0] (zcU [0] av)) (rc 0 rfl (lbx 12 [0] (zcU [0] b)) rf)) (jg [2,3] [11,12] [(22,kB (((av.Values.length:Int) !=(b.Values.length:Int))|| ((av.Unknown.length:Int) !=(b.Unknown.length:Int))))] ?_ ?_)
 ·refine (rsl 8 [] 14 ((av.Values.length:Int) !=(b.Values.length:Int)) ?_ ?_)<;>intro uf
  · exact (rbl [] 22 true rfl (by grind))
  exact (rbl [] 22 ((av.Unknown.length:Int) !=(b.Unknown.length:Int)) rfl (by grind))
 refine jI h ?_ ?_<;>intro ug h
 ·refine jp ?_;obtain rfl:=(sj h);exact zz lzz
 refine jp (zp (jb h fun q ul h=>jL ul [2,3] [11,12] (fun s=>[(5,kI s)]) (fun| (.inl v_)=> .X 0 [2,3] [11,12] [] []| (.inr v_)=> .r ⟨[(4,kB false)],[]⟩) ?_ lzz ?_))
 ·clear h;intro i o h;unfold zbN at h;refine jp (jI h ?_ ?_)<;>intro uj h
  ·refine zp (jb h fun x ut h=>jb h fun x2 uw h=>jb h fun rv ui h=>jd [2,3,5,41] [11,12] zbo (by exact (lwn 3 (di [0] zim.el ut (lx (lde zh [0] x zwm) (lwn 3 (di [0] zim.el uw (lx (lde zh [0] x2 zwm) (lx (lf1 39 (lc0 12 call39 (vz ui))) l0)))))))) (jI h ?_ ?_))<;>intro uk h
   ·cases h;exact jz'
   refine zJ ?_;cases h;exact jy
  cases h;exact zad rfl lzz
 rcases q with u| u4
 ·refine zao _ rfl (jp (zp (jb h fun q2 uK h=>jL uK [2,3] [11,12] (fun s=>[(6,kI s)]) (fun| (.inl v_)=> .x 2 ⟨[],[]⟩| (.inr v_)=> .r ⟨[(4,kB false)],[]⟩) ?_ lzz ?_)))
  ·clear h;intro i2 o h;unfold zbO at h;refine jp (jI h ?_ ?_)<;>intro uq h
   ·refine zp (jb h fun x3 uE h=>jb h fun x4 uL h=>jd [2,3,6,59] [11,12] zbo (by exact (lwn 3 (di [0] zhI.el uE (lwn 4 (di [0] zhI.el uL l0))))) (jI h ?_ ?_))<;>intro ur h
    ·cases h;exact jz'
    refine zJ ?_;cases h;exact jy
   cases h;exact zad rfl lzz
  rcases q2 with u2| u3
  ·refine zao _ rfl (jp ?_);obtain rfl:=(sj h);exact zz lzz
  obtain rfl:=(sj h);exact zer lzz
 obtain rfl:=(sj h);exact zer lzz
theorem zjW (vy:∀{av:zb} {b:zb} {r:Bool},xg av b=some r->wj 14 [.rc zn [0] av,.rc zn [0] b] [kB r]) (vz:∀{av:za} {b:za} {r:Bool},xh av b=some r->wj 39 [.rc zh [0] av,.rc zh [0] b] [kB r]) (h:zcn xg xh av b=some r):wj 39 [.rc zh [0] av,.rc zh [0] b] [kB r]:=by
 refine fi 95 func39 fun Xt=>?_
 unfold zcn at h;refine jr (rc 0 rfl (lbx 11 [0] (zbc [0] av)) (rc 0 rfl (lbx 12 [0] (zbc [0] b)) rf)) (jg [2,3] [11,12] [(39,kB ((av.Number !=b.Number)|| (((av.Words.length:Int) !=(b.Words.length:Int))|| (((av.Texts.length:Int) !=(b.Texts.length:Int))|| ((av.Subs.length:Int) !=(b.Subs.length:Int))))))] ?_ ?_)
 ·refine (rsl 6 [] 13 (av.Number !=b.Number) ?_ ?_)<;>intro uf
  · exact (rbl [] 39 true rfl (by grind))
  refine (rsl 9 [] 22 ((av.Words.length:Int) !=(b.Words.length:Int)) ?_ ?_)<;>intro ug
  · exact (rbl [] 39 true rfl (by grind))
  refine (rsl 9 [] 31 ((av.Texts.length:Int) !=(b.Texts.length:Int)) ?_ ?_)<;>intro uj
  · exact (rbl [] 39 true rfl (by grind))
  exact (rbl [] 39 ((av.Subs.length:Int) !=(b.Subs.length:Int)) rfl (by grind))
 refine jI h ?_ ?_<;>intro uk h
 ·refine jp ?_;obtain rfl:=(sj h);exact zz lzz
 refine jp (zp (jb h fun q ul h=>jL ul [2,3] [11,12] (fun s=>[(5,kI s)]) (fun| (.inl v_)=> .X 0 [2,3] [11,12] [] []| (.inr v_)=> .r ⟨[(4,kB false)],[]⟩) ?_ lzz ?_))
 ·clear h;intro i o h;unfold zaL at h;refine jp (jI h ?_ ?_)<;>intro uq h
  ·refine zp (jb h fun x ut h=>jb h fun x2 uw h=>jd [2,3,5,57] [11,12] zbo (by exact (lwn 3 (di [0] zmq.el ut (lwn 4 (di [0] zmq.el uw l0))))) (jI h ?_ ?_))<;>intro ur h
   ·cases h;exact jz'
   refine zJ ?_;cases h;exact jy
  cases h;exact zad rfl lzz
 rcases q with u| u6
 ·refine zao _ rfl (jp (zp (jb h fun q2 uK h=>jL uK [2,3] [11,12] (fun s=>[(6,kI s)]) (fun| (.inl v_)=> .X 2 [2,3] [11,12] [] []| (.inr v_)=> .r ⟨[(4,kB false)],[]⟩) ?_ lzz ?_)))
  ·clear h;intro i2 o h;unfold zaM at h;refine jp (jI h ?_ ?_)<;>intro uy h
   ·refine zp (jb h fun x3 uE h=>jb h fun x4 uL h=>jd [2,3,6,75] [11,12] zbo (by exact (lwn 3 (di [0] zhI.el uE (lwn 4 (di [0] zhI.el uL l0))))) (jI h ?_ ?_))<;>intro uC h
    ·cases h;exact jz'
    refine zJ ?_;cases h;exact jy
   cases h;exact zad rfl lzz
  rcases q2 with u2| u5
  ·refine zao _ rfl (jp (zp (jb h fun q3 vg h=>jL vg [2,3] [11,12] (fun s=>[(7,kI s)]) (fun| (.inl v_)=> .x 4 ⟨[],[]⟩| (.inr v_)=> .r ⟨[(4,kB false)],[]⟩) ?_ lzz ?_)))
   ·clear h;intro i3 o h;unfold zaN at h;refine jp (jI h ?_ ?_)<;>intro uF h
    ·refine zp (jb h fun x5 uU h=>jb h fun x6 vb h=>jb h fun rv ui h=>jd [2,3,7,94] [11,12] zbo (by exact (lwn 3 (di [0] zmr.el uU (lx (lde zn [0] x5 znH) (lwn 3 (di [0] zmr.el vb (lx (lde zn [0] x6 znH) (lx (lf1 14 (lc0 14 call14 (vy ui))) l0)))))))) (jI h ?_ ?_))<;>intro uI h
     ·cases h;exact jz'
     refine zJ ?_;cases h;exact jy
    cases h;exact zad rfl lzz
   rcases q3 with u3| u4
   ·refine zao _ rfl (jp ?_);obtain rfl:=(sj h);exact zz lzz
   obtain rfl:=(sj h);exact zer lzz
  obtain rfl:=(sj h);exact zer lzz
 obtain rfl:=(sj h);exact zer lzz
theorem zeT (uz:Nat):(∀{av:zb} {b:zb} {r:Bool},zaR uz av b=some r->wj 14 [.rc zn [0] av,.rc zn [0] b] [kB r])/\(∀{av:za} {b:za} {r:Bool},zbm uz av b=some r->wj 39 [.rc zh [0] av,.rc zh [0] b] [kB r]):=by
  induction uz with
  | zero=>exact ⟨fun h=>absurd h nofun,fun h=>absurd h nofun⟩
  | succ uz ih=>exact ⟨fun h=>znv (fun hh=>ih.1 hh) (fun hh=>ih.2 hh) h,fun h=>zjW (fun hh=>ih.1 hh) (fun hh=>ih.2 hh) h⟩
theorem zgw (h:zaR uz av b=some r):wj 14 [.rc zn [0] av,.rc zn [0] b] [kB r]:=(zeT uz).1 h
theorem zpn (vA:∀{x:zb} {r:zb},xd x=some r->wj 15 [.rc zn [0] x] [.ag (zG 3 [4,0] 5 [] r)]) (vB:∀{v:za} {r:za},xe v=some r->wj 40 [.rc zh [0] v] [.ag (zap [0] [0] 3 [4,0] r)]) (h:zeL xd xe x=some r):wj 15 [.rc zn [0] x] [.ag (zG 3 [4,0] 5 [] r)]:=by
 refine fj ⟨[(2,.ptr 2 0)],[⟨2,40,(zG 3 [4,0] 5 [] r)⟩]⟩ 29 func15 ⟨⟨_,_,rfl,rfl,rfl,znH⟩,trivial⟩ fun Xt=>?_
 unfold zeL at h;refine jr (rc 0 rfl (lbx 21 [0] (zcU [0] x)) (rfl' [22])) (jb h fun v uG h=>jr (rc 0 rfl (zdE [] 23 [] ([]:(List Str)) rfl zhI rfl rfl rfl rfl) (rc 2 rfl (las 23 [] [0] [] zhI.el uG (.inl zhA)) (ra 0 [.own Rp.str 9 23 [] v] rfl (zhv [.own Rp.str 9 23 [] v] [kN,.own Rp.str 9 23 [] v] rfl zIl rfl) rfl (rfl' [24])))) (jp (zp (jb h fun q ul h=>jl ul [1,2,3] [21,22] (fun s=>[(4,kI s.1)]) (fun s=>[⟨24,40,[.own zh 74 30 [25,0] s.2,.own Rp.str 9 23 [] v]⟩]) (fun o=> .X 0 [2,3] [22] [] [⟨24,40,[.own zh 74 30 [25,0] o,.own Rp.str 9 23 [] v]⟩]) ?_ lw ?_))))
 ·clear h;intro s o h;obtain ⟨i,f⟩:=s;replace h:zcw xe x i f=some o:=h;unfold zcw at h;refine jp (jI h ?_ ?_)<;>intro uf h
  ·refine zp (jb h fun x2 uw h=>jb h fun rv ui h=>jb h fun v2 uJ h=>jd [1,2,3,4] [21,22,24] zbo (by exact (lwn 5 (di [0] zGA.el uw (lx (lde zh [0] x2 zHP) (lx (lf1 40 (lc0 33 call40 (vB ui))) (lx (zx.lw (lbs1 38 [0,36,37] rv zim) (.l (zgM zh [0,36,37] rv (zap [0] [0] 36 [37,0] rv) (by rw [zI]<;>rfl) rfl))) (ly [.own zh 74 30 [25,0] f,.own zh 74 38 [0,36,37] ([rv]:(List za))] (zx.withBx (zof 30 [25,0,38,36,37] rfl zim.el rfl (zhs _ _ _ _ _) (zaS _ _ _ _ _) uJ (.inr rfl) rfl) ⟨24,40,[.own zh 74 30 [25,0] f,.own Rp.str 9 23 [] v]⟩ rfl rfl) rfl (lw_e (ly [.ptr 24 0,.own zh 74 30 [25,0,38,36,37] v2] (zoh (b:=⟨24,40,[.any,.own Rp.str 9 23 [] v]⟩) (off:=0) rfl sizeOf38 rfl rfl rfl) rfl l0))))))))) (zJ (jp ?_)));cases h;exact zL (lks [21,22,24] [(38,25),(36,25),(37,25)] lw)
  cases h;exact zad rfl lzz
 refine zao _ rfl (jp ?_);cases h;exact zz (lks [22] [(22,2),(30,3),(23,5),(25,4)] lzz)
theorem zlk (vA:∀{x:zb} {r:zb},xd x=some r->wj 15 [.rc zn [0] x] [.ag (zG 3 [4,0] 5 [] r)]) (vB:∀{v:za} {r:za},xe v=some r->wj 40 [.rc zh [0] v] [.ag (zap [0] [0] 3 [4,0] r)]) (h:zcW xd xe v=some r):wj 40 [.rc zh [0] v] [.ag (zap [0] [0] 3 [4,0] r)]:=by
 refine fj ⟨[(2,.ptr 2 0)],[⟨2,74,(zap [0] [0] 3 [4,0] r)⟩]⟩ 31 func40 ⟨⟨_,_,rfl,rfl,rfl,zwm⟩,trivial⟩ fun Xt=>?_
 unfold zcW at h;refine jr (rc 0 rfl (lbx 21 [0] (zbc [0] v)) (rfl' [22])) (jr (ra 6 [kI v.Number,.sl wi [0] v.Words,.sl Rp.str [0] v.Texts] rfl (zhv [kI v.Number,.sl wi [0] v.Words,.sl Rp.str [0] v.Texts] (zit [0] [0] v) rfl zCV rfl) rfl (rfl' [23])) (jp (zp (jb h fun q ul h=>jl ul [1,2,3] [21,22] (fun s=>[(4,kI s.1)]) (fun s=>[⟨23,74,[kI v.Number,.sl wi [0] v.Words,.sl Rp.str [0] v.Texts,.own zn 40 30 [24,0] s.2]⟩]) (fun o=> .X 0 [2,3] [22] [] [⟨23,74,[kI v.Number,.sl wi [0] v.Words,.sl Rp.str [0] v.Texts,.own zn 40 30 [24,0] o]⟩]) ?_ lw ?_))))
 ·clear h;intro s o h;obtain ⟨i,f⟩:=s;replace h:zbd xd v i f=some o:=h;unfold zbd at h;refine jp (jI h ?_ ?_)<;>intro uf h
  ·refine zp (jb h fun x ut h=>jb h fun rv ui h=>jb h fun v2 uJ h=>jd [1,2,3,4] [21,22,23] zbo (by exact (lwn 5 (di [0] zGB.el ut (lx (lde zn [0] x zBV) (lx (lf1 15 (lc0 34 call15 (vA ui))) (lx (zx.lw (lbs1 40 [37,38,0,39] rv zmr) (.l (zgM zn [37,38,0,39] rv (zG 37 [38,0] 39 [] rv) (by rw [zT]<;>rfl) rfl))) (ly [.own zn 40 30 [24,0] f,.own zn 40 40 [37,38,0,39] ([rv]:(List zb))] (zx.withBx (zof 30 [24,0,40,37,38,39] rfl zmr.el rfl (zhs _ _ _ _ _) (zaS _ _ _ _ _) uJ (.inr rfl) rfl) ⟨23,74,[kI v.Number,.sl wi [0] v.Words,.sl Rp.str [0] v.Texts,.own zn 40 30 [24,0] f]⟩ rfl rfl) rfl (lw_e (ly [.ptr 23 3,.own zn 40 30 [24,0,40,37,38,39] v2] (zoh (b:=⟨23,74,[kI v.Number,.sl wi [0] v.Words,.sl Rp.str [0] v.Texts,.any]⟩) (off:=3) rfl sizeOf72 rfl rfl rfl) rfl l0))))))))) (zJ (jp ?_)));cases h;exact zL (lks [21,22,23] [(40,24),(37,24),(38,24),(39,24)] lw)
  cases h;exact zad rfl lzz
 refine zao _ rfl (jp ?_);cases h;exact zz (lks [22] [(22,2),(30,3),(24,4)] lzz)
theorem zfz (uz:Nat):(∀{x:zb} {r:zb},zcs uz x=some r->wj 15 [.rc zn [0] x] [.ag (zG 3 [4,0] 5 [] r)])/\(∀{v:za} {r:za},zcA uz v=some r->wj 40 [.rc zh [0] v] [.ag (zap [0] [0] 3 [4,0] r)]):=by
  induction uz with
  | zero=>exact ⟨fun h=>absurd h nofun,fun h=>absurd h nofun⟩
  | succ uz ih=>exact ⟨fun h=>zpn (fun hh=>ih.1 hh) (fun hh=>ih.2 hh) h,fun h=>zlk (fun hh=>ih.1 hh) (fun hh=>ih.2 hh) h⟩
theorem zpS (h:zcs uz x=some r):wj 15 [.rc zn [0] x] [.ag (zG 3 [4,0] 5 [] r)]:=(zfz uz).1 h
end Go.Proofs.YtnckiilakdkklaaGreat

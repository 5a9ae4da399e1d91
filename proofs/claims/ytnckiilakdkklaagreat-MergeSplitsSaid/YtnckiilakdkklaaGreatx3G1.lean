/-
  The Go functions do what the plain functions say. No condition.
-/
import Derived.Test.YtnckiilakdkklaaGreatx3T
set_option autoImplicit true
set_option relaxedAutoImplicit true
namespace Go.Proofs.YtnckiilakdkklaaGreat
open Tryz
open Go Go.RowKit
set_option linter.unusedVariables false
set_option maxRecDepth 100000
set_option maxHeartbeats 3200000
abbrev zAm:=(mput ([]:(List (Int×zj))) 1 (⟨[105,110,116,51,50],0⟩:zj))
abbrev zAn:=(mput zAm 2 (⟨[105,110,116,54,52],0⟩:zj))
abbrev zAo:=(mput zAn 3 (⟨[117,105,110,116,51,50],0⟩:zj))
abbrev zAp:=(mput zAo 4 (⟨[117,105,110,116,54,52],0⟩:zj))
abbrev zAq:=(mput zAp 5 (⟨[115,105,110,116,51,50],0⟩:zj))
abbrev zAr:=(mput zAq 6 (⟨[115,105,110,116,54,52],0⟩:zj))
abbrev zAs:=(mput zAr 7 (⟨[98,111,111,108],0⟩:zj))
abbrev zAt:=(mput zAs 8 (⟨[101,110,117,109],0⟩:zj))
abbrev zAu:=(mput zAt 9 (⟨[102,105,120,101,100,51,50],5⟩:zj))
abbrev zxP:=(mput zAu 10 (⟨[115,102,105,120,101,100,51,50],5⟩:zj))
abbrev zxQ:=(mput zxP 11 (⟨[102,108,111,97,116],5⟩:zj))
abbrev zxR:=(mput zxQ 12 (⟨[102,105,120,101,100,54,52],1⟩:zj))
abbrev zxS:=(mput zxR 13 (⟨[115,102,105,120,101,100,54,52],1⟩:zj))
abbrev zux:=(mput zxS 14 (⟨[100,111,117,98,108,101],1⟩:zj))
theorem zkT (h:zgP=some r):uV 115 [] [.om uU zQ 2 [] r]:=by
 refine fi 20 func115 fun Xt=>?_
 unfold zgP at h;refine jp (jr (rc 0 rfl (zgS (rk:=uU) (rv:=zQ) 12 rfl) (rc 0 rfl (zA (r:=zQ) [kS [105,110,116,51,50],kI 0] [] (⟨[105,110,116,51,50],0⟩:zj) rfl zeb rfl rfl) (rms (D:=[]) 0 [] 12 [] ([]:(List (Int×zj))) 1 (⟨[105,110,116,51,50],0⟩:zj) [] zcH (zcp rfl rfl) (zbx rfl) (rc 0 rfl (zA (r:=zQ) [kS [105,110,116,54,52],kI 0] [] (⟨[105,110,116,54,52],0⟩:zj) rfl zeb rfl rfl) (rms (D:=[]) 0 [] 12 [] zAm 2 (⟨[105,110,116,54,52],0⟩:zj) [] zcH (zcp rfl rfl) (zbx rfl) (rc 0 rfl (zA (r:=zQ) [kS [117,105,110,116,51,50],kI 0] [] (⟨[117,105,110,116,51,50],0⟩:zj) rfl zeb rfl rfl) (rms (D:=[]) 0 [] 12 [] zAn 3 (⟨[117,105,110,116,51,50],0⟩:zj) [] zcH (zcp rfl rfl) (zbx rfl) (rc 0 rfl (zA (r:=zQ) [kS [117,105,110,116,54,52],kI 0] [] (⟨[117,105,110,116,54,52],0⟩:zj) rfl zeb rfl rfl) (rms (D:=[]) 0 [] 12 [] zAo 4 (⟨[117,105,110,116,54,52],0⟩:zj) [] zcH (zcp rfl rfl) (zbx rfl) (rc 0 rfl (zA (r:=zQ) [kS [115,105,110,116,51,50],kI 0] [] (⟨[115,105,110,116,51,50],0⟩:zj) rfl zeb rfl rfl) (rms (D:=[]) 0 [] 12 [] zAp 5 (⟨[115,105,110,116,51,50],0⟩:zj) [] zcH (zcp rfl rfl) (zbx rfl) (rc 0 rfl (zA (r:=zQ) [kS [115,105,110,116,54,52],kI 0] [] (⟨[115,105,110,116,54,52],0⟩:zj) rfl zeb rfl rfl) (rms (D:=[]) 0 [] 12 [] zAq 6 (⟨[115,105,110,116,54,52],0⟩:zj) [] zcH (zcp rfl rfl) (zbx rfl) (rc 0 rfl (zA (r:=zQ) [kS [98,111,111,108],kI 0] [] (⟨[98,111,111,108],0⟩:zj) rfl zeb rfl rfl) (rms (D:=[]) 0 [] 12 [] zAr 7 (⟨[98,111,111,108],0⟩:zj) [] zcH (zcp rfl rfl) (zbx rfl) (rc 0 rfl (zA (r:=zQ) [kS [101,110,117,109],kI 0] [] (⟨[101,110,117,109],0⟩:zj) rfl zeb rfl rfl) (rms (D:=[]) 0 [] 12 [] zAs 8 (⟨[101,110,117,109],0⟩:zj) [] zcH (zcp rfl rfl) (zbx rfl) (rc 0 rfl (zA (r:=zQ) [kS [102,105,120,101,100,51,50],kI 5] [] (⟨[102,105,120,101,100,51,50],5⟩:zj) rfl zeb rfl rfl) (rms (D:=[]) 0 [] 12 [] zAt 9 (⟨[102,105,120,101,100,51,50],5⟩:zj) [] zcH (zcp rfl rfl) (zbx rfl) (rc 0 rfl (zA (r:=zQ) [kS [115,102,105,120,101,100,51,50],kI 5] [] (⟨[115,102,105,120,101,100,51,50],5⟩:zj) rfl zeb rfl rfl) (rms (D:=[]) 0 [] 12 [] zAu 10 (⟨[115,102,105,120,101,100,51,50],5⟩:zj) [] zcH (zcp rfl rfl) (zbx rfl) (rc 0 rfl (zA (r:=zQ) [kS [102,108,111,97,116],kI 5] [] (⟨[102,108,111,97,116],5⟩:zj) rfl zeb rfl rfl) (rms (D:=[]) 0 [] 12 [] zxP 11 (⟨[102,108,111,97,116],5⟩:zj) [] zcH (zcp rfl rfl) (zbx rfl) (rc 0 rfl (zA (r:=zQ) [kS [102,105,120,101,100,54,52],kI 1] [] (⟨[102,105,120,101,100,54,52],1⟩:zj) rfl zeb rfl rfl) (rms (D:=[]) 0 [] 12 [] zxQ 12 (⟨[102,105,120,101,100,54,52],1⟩:zj) [] zcH (zcp rfl rfl) (zbx rfl) (rc 0 rfl (zA (r:=zQ) [kS [115,102,105,120,101,100,54,52],kI 1] [] (⟨[115,102,105,120,101,100,54,52],1⟩:zj) rfl zeb rfl rfl) (rms (D:=[]) 0 [] 12 [] zxR 13 (⟨[115,102,105,120,101,100,54,52],1⟩:zj) [] zcH (zcp rfl rfl) (zbx rfl) (rc 0 rfl (zA (r:=zQ) [kS [100,111,117,98,108,101],kI 1] [] (⟨[100,111,117,98,108,101],1⟩:zj) rfl zeb rfl rfl) (rms (D:=[]) 0 [] 12 [] zxS 14 (⟨[100,111,117,98,108,101],1⟩:zj) [] zcH (zcp rfl rfl) (zbx rfl) (rc 0 rfl (zA (r:=zQ) [kS [115,116,114,105,110,103],kI 2] [] (⟨[115,116,114,105,110,103],2⟩:zj) rfl zeb rfl rfl) (rms (D:=[]) 0 [] 12 [] zux 15 (⟨[115,116,114,105,110,103],2⟩:zj) [] zcH (zcp rfl rfl) (zbx rfl) (rc 0 rfl (zA (r:=zQ) [kS [98,121,116,101,115],kI 2] [] (⟨[98,121,116,101,115],2⟩:zj) rfl zeb rfl rfl) (rms (D:=[]) 0 [] 12 [] (mput zux 15 (⟨[115,116,114,105,110,103],2⟩:zj)) 16 (⟨[98,121,116,101,115],2⟩:zj) [] zcH (zcp rfl rfl) (zbx rfl) (rc 0 rfl (zA (r:=zQ) [kS [109,101,115,115,97,103,101],kI 2] [] (⟨[109,101,115,115,97,103,101],2⟩:zj) rfl zeb rfl rfl) (rms (D:=[]) 0 [] 12 [] (mput (mput zux 15 (⟨[115,116,114,105,110,103],2⟩:zj)) 16 (⟨[98,121,116,101,115],2⟩:zj)) 17 (⟨[109,101,115,115,97,103,101],2⟩:zj) [] zcH (zcp rfl rfl) (zbx rfl) rf))))))))))))))))))))))))))))))))))) ?_);cases h;exact zw (lks [] [(12,2)] lzz)
theorem zhz (h:zdk c=some r):uV 142 [k8 c] [kB r]:=by
 refine fi 9 func142 fun Xt=>?_
 unfold zdk at h;refine jp (jg [] [] [(2,kB ((decide (c>=48))&&(decide (c<=57))))] ?_ ?_)
 ·refine (rsl 3 [] 5 (decide (c>=48)) ?_ ?_)<;>intro py
  · exact (rbl [] 2 (decide (c<=57)) rfl (by grind))
  exact (rbl [] 2 false rfl (by grind))
 cases h;exact zw lzz
theorem zlw (h:zdC c=some r):uV 143 [k8 c] [kB r]:=by
 refine fi 21 func143 fun Xt=>?_
 unfold zdC at h;refine jp (jg [] [] [(2,kB (if (decide (c>=97)) then ((decide (c<=122))|| (if (decide (c>=65)) then ((decide (c<=90))|| (c==95)) else (c==95))) else (if (decide (c>=65)) then ((decide (c<=90))|| (c==95)) else (c==95))))] ?_ ?_)
 ·refine (rsl 3 [] 5 (decide (c>=97)) ?_ ?_)<;>intro py
  ·refine (rsl 4 [] 9 (decide (c<=122)) ?_ ?_)<;>intro pz
   · exact (rbl [] 2 true rfl (by grind))
   refine (rsl 3 [] 12 (decide (c>=65)) ?_ ?_)<;>intro pC
   ·refine (rsl 5 [] 17 (decide (c<=90)) ?_ ?_)<;>intro pD
    · exact (rbl [] 2 true rfl (by grind))
    exact (rbl [] 2 (c==95) rfl (by grind))
   exact (rbl [] 2 (c==95) rfl (by grind))
  refine (rsl 7 [] 12 (decide (c>=65)) ?_ ?_)<;>intro pG
  ·refine (rsl 5 [] 17 (decide (c<=90)) ?_ ?_)<;>intro pJ
   · exact (rbl [] 2 true rfl (by grind))
   exact (rbl [] 2 (c==95) rfl (by grind))
  exact (rbl [] 2 (c==95) rfl (by grind))
 cases h;exact zw lzz
theorem zlx (h:zdD n=some r):uV 117 [kI n] [kB r]:=by
 refine fi 17 func117 fun Xt=>?_
 unfold zdD at h;refine jp (jg [] [] [(2,kB ((decide (n>=1))&&((decide (n<=536870911))&&((decide (n<19000))|| (decide (n>19999))))))] ?_ ?_)
 ·refine (rsl 3 [] 5 (decide (n>=1)) ?_ ?_)<;>intro py
  ·refine (rsl 4 [] 9 (decide (n<=536870911)) ?_ ?_)<;>intro pz
   ·refine (rsl 3 [] 12 (decide (n<19000)) ?_ ?_)<;>intro pC
    · exact (rbl [] 2 true rfl (by grind))
    exact (rbl [] 2 (decide (n>19999)) rfl (by grind))
   exact (rbl [] 2 false rfl (by grind))
  exact (rbl [] 2 false rfl (by grind))
 cases h;exact zw lzz
theorem zgY (h:zbw sv v=some r):uV 144 [.sl uU [0] sv,kI v] [kI r]:=by
 refine fi 19 func144 fun Xt=>?_
 unfold zbw at h;refine jp (jp (zr (jb h fun q pI h=>jL pI [0,1,7] [] (fun s=>[(8,kI s)]) (fun| (.inl v_)=> .x 0 ⟨[],[]⟩| (.inr v_)=> .r ⟨[(4,kI v_)],[]⟩) ?_ lzz ?_)))
 ·clear h;intro v2 o h;unfold zag at h;refine jp (jI h ?_ ?_)<;>intro py h
  ·refine zr (jp (jb h fun x pL h=>jr (rx 3 [0] zhf.el pL rfl rfl rf) (jI h ?_ ?_)))<;>intro pz h
   ·cases h;exact jz'
   refine zP ?_;cases h;exact jy
  cases h;exact zap rfl lzz
 rcases q with u| u2
 ·refine zaV _ rfl ?_;cases h;exact jz
 obtain rfl:=(sj h);exact zdO lzz
theorem zjo (h:zcF c f=some r):uV 120 [.ag [kI c.size,.sl uU [0] c.kinds,.mp zt Rp.bool [0] c.names,.mp zu Rp.bool [0] c.numbers],.rc zb [0] f] [kB r]:=by
 refine fi 21 func120 fun Xt=>?_
 unfold zcF at h;refine jq [11,12] (jp (jI h ?_ ?_))<;>intro py h
 ·refine jg [] [] [(4,kB ((decide (f.Of>=0))&&(decide (f.Of<c.size))))] ?_ ?_
  ·refine (rsl 4 [] 11 (decide (f.Of>=0)) ?_ ?_)<;>intro pz
   · exact (rbl [] 4 (decide (f.Of<c.size)) rfl (by grind))
   exact (rbl [] 4 false rfl (by grind))
  cases h;exact zw lzz
 cases h;exact jz
theorem zhc (h:zef b=some r):uV 123 [.sl Rp.byte [0] b] [kU r.1,kI r.2.1,k8 r.2.2]:=by
 refine fi 38 func123 fun Xt=>?_
 unfold zef at h;refine jp (jb h fun v p7 h=>jr (ra 4 [.sl Rp.byte [0] b,kI (if (10:Int)<(b.length:Int) then 10 else (b.length:Int))] rfl (zeZ none (some (kI (if (10:Int)<(b.length:Int) then 10 else (b.length:Int)))) rfl zcd.el (zci _ _ _) ⟨rfl,rfl⟩ ⟨rfl,rfl⟩ p7) rfl rf) (zr (jb h fun q pI h=>jL pI [11,12] [] (fun s=>[(2,kU s.1),(13,kI s.2)]) (fun| (.inl v_)=> .x 0 ⟨[],[]⟩| (.inr v_)=> .r ⟨[(2,kU v_.1),(3,kI v_.2.1),(4,k8 v_.2.2)],[]⟩) ?_ lzz ?_)))
 ·clear h;intro s o h;obtain ⟨wv,v2⟩:=s;replace h:zcc v wv v2=some o:=h;unfold zcc at h;refine jp (jI h ?_ ?_)<;>intro py h
  ·refine zr (jb h fun x pL h=>jr (rx 1 [0] zcd.el pL rfl rfl rf) (jg [2,5,6,11,12,13] [] [(23,kB ((v2==9)&&(decide ((x.toNat:Int)>1))))] ?_ ?_))
   ·refine (rsl 3 [] 20 (v2==9) ?_ ?_)<;>intro pz
    · exact (rbl [] 23 (decide ((x.toNat:Int)>1)) rfl (by grind))
    exact (rbl [] 23 false rfl (by grind))
   refine jI h ?_ ?_<;>intro pC h
   ·cases h;exact jz'
   refine jb h fun v4 ul h=>jr (ra 6 [kU (IntKind.u64.wrap (andI .u8 (x.toNat:Int) 127)),kI (IntKind.i64.wrap (7*v2))] rfl (zye rfl ul) rfl rf) (jp (jI h ?_ ?_))<;>intro pD h
   ·cases h;exact jz'
   refine zP ?_;cases h;exact jy
  cases h;exact zap rfl lzz
 rcases q with u| u2
 ·refine zaV _ rfl ?_;cases h;exact jz
 cases h;exact zdO lzz
theorem znm (h:zez wire=some r):uV 146 [kI wire] [kB r]:=by
 refine fi 9 func146 fun Xt=>?_
 unfold zez at h;refine jp (jp (zr (jp (jI h ?_ ?_))))<;>intro py h
 ·refine jI h ?_ ?_<;>intro pz h
  ·refine jp ?_;obtain rfl:=(sj h);exact zw lzz
  refine zP (jp ?_);obtain rfl:=(sj h);exact zw lzz
 refine jp (jI h ?_ ?_)<;>intro pC h
 ·refine jI h ?_ ?_<;>intro pD h
  ·refine jp ?_;obtain rfl:=(sj h);exact zw lzz
  refine zP (jp ?_);obtain rfl:=(sj h);exact zw lzz
 refine jp (jI h ?_ ?_)<;>intro pG h
 ·refine jI h ?_ ?_<;>intro pJ h
  ·refine jp ?_;obtain rfl:=(sj h);exact zw lzz
  refine zP (jp ?_);obtain rfl:=(sj h);exact zw lzz
 refine jp (jI h ?_ ?_)<;>intro pN h
 ·refine jp ?_;obtain rfl:=(sj h);exact zw lzz
 refine zP (jp ?_);obtain rfl:=(sj h);exact zw lzz
theorem znS (h:zfh f v=some r):uV 127 [.rc zb [0] f,.ep uU [0] v 0] [kB r]:=by
 refine fi 8 func127 fun Xt=>?_
 unfold zfh at h;refine jq [11] ?_;cases h;exact jz
theorem znM (h:zfc k=some r):uV 149 [kI k] [kI r.1,k8 r.2]:=by
 refine fi 22 func149 fun Xt=>?_
 unfold zfc at h;refine jp (jp (zr (jp (jb h fun p pY h=>jn (.n ⟨[(4,kI k),(5,kB p)],[]⟩) ?_ ?_))))
 ·replace h:=pY;refine jI h ?_ ?_<;>intro py h
  ·cases h;exact zU lzz
  refine jp (jI h ?_ ?_)<;>intro pz h
  ·cases h;exact zU lzz
  refine jp (jI h ?_ ?_)<;>intro pC h
  ·cases h;exact zU lzz
  refine jp (jI h ?_ ?_)<;>intro pD h
  ·cases h;exact zU lzz
  refine jp (jI h ?_ ?_)<;>intro pG h
  ·cases h;exact zU lzz
  refine jp (jI h ?_ ?_)<;>intro pJ h
  ·cases h;exact zU lzz
  refine jp (jI h ?_ ?_)<;>intro pN h
  ·cases h;exact zU lzz
  cases h;exact jy
 refine zdW (jI h ?_ ?_)<;>intro pQ h
 ·cases h;exact jz
 refine jp (jb h fun p2 ug h=>jn (.n ⟨[(4,kI k),(14,kB p2)],[]⟩) ?_ ?_)
 ·replace h:=ug;refine jI h ?_ ?_<;>intro pS h
  ·cases h;exact zU lzz
  refine jp (jI h ?_ ?_)<;>intro pT h
  ·cases h;exact zU lzz
  cases h;exact jy
 refine zdW (jI h ?_ ?_)<;>intro p8 h
 ·cases h;exact jz
 refine jp (jI h ?_ ?_)<;>intro pU h
 ·refine jI h ?_ ?_<;>intro p6 h
  ·cases h;exact jz
  refine zP ?_;cases h;exact jz
 refine jp (jI h ?_ ?_)<;>intro p9 h
 ·refine jI h ?_ ?_<;>intro pW h
  ·cases h;exact jz
  refine zP ?_;cases h;exact jz
 refine jp (jI h ?_ ?_)<;>intro uc h
 ·cases h;exact jz
 refine zP ?_;cases h;exact jz
theorem zkR (h:zfv wv=some r):uV 154 [kU wv] [.lf (.int .u32 r)]:=by
 refine fi 5 func154 fun Xt=>?_
 unfold zfv at h;refine jp ?_;cases h;exact jz
theorem zos (h:zfV n=some r):uV 152 [.lf (.int .i32 n)] [kU r]:=by
 refine fi 6 func152 fun Xt=>?_
 unfold zfV at h;refine jp ?_;cases h;exact jz
theorem zqc (h:ziG wv=some r):uV 155 [kU wv] [kU r]:=by
 refine fi 5 func155 fun Xt=>?_
 unfold ziG at h;refine jp ?_;cases h;exact jz
theorem zsB (h:zjw wv=some r):uV 157 [kU wv] [kI r]:=by
 refine fi 13 func157 fun Xt=>?_
 unfold zjw at h;refine jp (jp (jr (ra 1 [kU wv,kU 7] rfl (zgm rfl rfl) rfl rf) (zr (jb h fun q pI h=>jL pI [] [] (fun s=>[(0,kU s.1),(3,kI s.2)]) (fun o=> .x 0 ⟨[(3,kI o)],[]⟩) ?_ lzz ?_))))
 ·clear h;intro s o h;obtain ⟨wv2,n⟩:=s;replace h:zdU wv2 n=some o:=h;unfold zdU at h;refine jp (jI h ?_ ?_)<;>intro py h
  ·refine zr (jp (zP (jr (ra 1 [kU wv2,kU 7] rfl (zgm rfl rfl) rfl rf) ?_)));cases h;exact zU lzz
  cases h;exact zap rfl lzz
 refine zaV _ rfl (jp ?_);obtain rfl:=(sj h);exact zw lzz
theorem ztP (h:zmC c=some r):uV 159 [k8 c] [kI r.1,.lf (.int .u32 r.2)]:=by
 refine fi 31 func159 fun Xt=>?_
 unfold zmC at h;refine jp (zr (jr (ra 1 [k8 c,kU 7] rfl (zgm rfl rfl) rfl rf) (jI h ?_ ?_)))<;>intro py h
 ·cases h;exact jz
 refine jr (ra 1 [k8 c,kU 5] rfl (zgm rfl rfl) rfl rf) (jI h ?_ ?_)<;>intro pz h
 ·cases h;exact jz
 refine jr (ra 1 [k8 c,kU 4] rfl (zgm rfl rfl) rfl rf) (jI h ?_ ?_)<;>intro pC h
 ·cases h;exact jz
 refine jr (ra 1 [k8 c,kU 3] rfl (zgm rfl rfl) rfl rf) (jI h ?_ ?_)<;>intro pD h
 ·cases h;exact jz
 refine zP ?_;cases h;exact jz
theorem ztO (h:ziv wv=some r):uV 160 [.lf (.int .u32 wv)] [kI r]:=by
 refine fi 22 func160 fun Xt=>?_
 unfold ziv at h;refine jp (zr (jr (ra 1 [.lf (.int .u32 wv),kU 7] rfl (zgm rfl rfl) rfl rf) (jI h ?_ ?_)))<;>intro py h
 ·cases h;exact jz
 refine jr (ra 1 [.lf (.int .u32 wv),kU 11] rfl (zgm rfl rfl) rfl rf) (jI h ?_ ?_)<;>intro pz h
 ·cases h;exact jz
 refine jr (ra 1 [.lf (.int .u32 wv),kU 11] rfl (zgm rfl rfl) rfl rf) (jI h ?_ ?_)<;>intro pC h
 ·cases h;exact jz
 refine jr (ra 1 [.lf (.int .u32 wv),kU 16] rfl (zgm rfl rfl) rfl rf) (jI h ?_ ?_)<;>intro pD h
 ·cases h;exact jz
 refine jp (jI h ?_ ?_)<;>intro pG h
 ·cases h;exact jz
 refine zP ?_;cases h;exact jz
theorem zgw (h:zbn n=some r):uV 45 [kN,kI n] [.own Rp.byte 5 2 [] r]:=by
 refine fi 27 func45 fun Xt=>?_
 unfold zbn at h;refine jp (jp (jI h ?_ ?_))<;>intro py h
 · exact absurd h nofun
 refine jr (ra 2 [kN] rfl (zqO rfl underlying24) rfl rf) (jp (jI h ?_ ?_))<;>intro pz h
 ·refine jb h fun v p7 h=>jb h fun v2 uh h=>jr (ra 2 [kN] rfl (zqO rfl underlying24) rfl (ra 0 [kN,kI 0] rfl (zwD rfl zcd.el) rfl (ra 1 [kN,kI (IntKind.i64.wrap (n - (IntKind.i64.wrap (0 - 0))))] rfl (zzA 12 rfl underlying3 zcd rfl p7) rfl (ra 2 [.own Rp.byte 5 12 [] v,kI 0] rfl (zzC rfl zcd.el uh) rfl rf)))) (jp ?_);obtain rfl:=(sj h);exact zw (lks [] [(12,2)] lzz)
 refine jp ?_;cases h;exact zw lw
theorem zfW (h:zcP av b=some r):uV 18 [.sl Rp.byte [0] av,.sl Rp.byte [0] b] [kB r]:=by
 refine fi 10 func18 fun Xt=>?_
 unfold zcP at h;refine jp (jr (ra 1 [.sl Rp.byte [0] av] rfl (zrQ rfl underlying24 underlying5 underlying9 (zci _ _ _)) rfl (ra 1 [.sl Rp.byte [0] b] rfl (zrQ rfl underlying24 underlying5 underlying9 (zci _ _ _)) rfl rf)) ?_);cases h;exact zw lzz
theorem zkG (h:zdf sv=some r):uV 7 [.sl zf [0] sv] [kB r]:=by
 refine fi 54 func7 fun Xt=>?_
 unfold zdf at h;refine jp (jp (jp (zr (jb h fun q2 pZ h=>jL pZ [0] [] (fun s=>[(3,kI s.1),(4,kI s.2)]) (fun o=> .x 0 ⟨[(3,kI o)],[]⟩) ?_ lzz ?_))))
 ·clear h;intro s o h;obtain ⟨n,i⟩:=s;replace h:zba sv n i=some o:=h;unfold zba at h;refine jp (jI h ?_ ?_)<;>intro py h
  ·refine zr (jb h fun x pL h=>jb h fun x2 pO h=>jd [0,3,4] [] zeq (by exact (lwn 4 (di [0] zeQ.el pL (lwn 7 (di [0] zeQ.el pO (lw_e (lx (ldl zf [0] x2 1 zb x2.Fields) l0))))))) (jp (zr (jb h fun q pI h=>jL pI [0,4] [] (fun s=>[(3,kI s.1),(5,kI s.2)]) (fun o=> .X 2 [0,4] [] [(3,kI o)] []) ?_ lzz ?_))))
   ·clear h;intro s o h;obtain ⟨n3,k⟩:=s;replace h:zbb i sv n3 k=some o:=h;unfold zbb at h;refine jb h fun x3 p4 h=>jr (rx 3 [0] zeQ.el p4 rfl rfl (rc 1 rfl (ldl zf [0] x3 1 zb x3.Fields) rf)) (jI h ?_ ?_)<;>intro pz h
    ·refine zr (jb h fun x4 uo h=>jb h fun x5 up h=>jr (rx 3 [0] zeQ.el uo rfl rfl (rc 1 rfl (ldl zf [0] x4 1 zb x4.Fields) (rx 1 [0] zhD.el up rfl rfl rf))) (zP ?_));cases h;exact jy
    cases h;exact zap rfl lzz
   refine zaV _ rfl (zP ?_);cases h;exact jy
  cases h;exact zap rfl lzz
 refine zaV _ rfl ?_;cases h;exact jz
theorem zfX (h:zcf sv=some r):uV 77 [kS sv] [kB r]:=by
 refine fi 55 func77 fun Xt=>?_
 unfold zcf at h;refine jp (jp (zr (jb h fun q pI h=>jL pI [0] [] (fun s=>[(3,kI s)]) (fun| (.inl v_)=> .x 0 ⟨[(0,kS sv)],[]⟩| (.inr v_)=> .r ⟨[(2,kB false)],[]⟩) ?_ lzz ?_)))
 ·clear h;intro i o h;unfold zaS at h;refine jp (jI h ?_ ?_)<;>intro py h
  ·refine zr (jb h fun c ur h=>jr (ra 2 [kS sv,kI i] rfl (zrR rfl underlying9 ur) rfl rf) (jg [0,3] [] [(5,kB (if (decide ((c.toNat:Int)>=65)) then ((decide ((c.toNat:Int)<=90))|| (if (decide ((c.toNat:Int)>=97)) then ((decide ((c.toNat:Int)<=122))|| (((c.toNat:Int)==95)|| ((decide (i>0))&&((decide ((c.toNat:Int)>=48))&&(decide ((c.toNat:Int)<=57)))))) else (((c.toNat:Int)==95)|| ((decide (i>0))&&((decide ((c.toNat:Int)>=48))&&(decide ((c.toNat:Int)<=57))))))) else (if (decide ((c.toNat:Int)>=97)) then ((decide ((c.toNat:Int)<=122))|| (((c.toNat:Int)==95)|| ((decide (i>0))&&((decide ((c.toNat:Int)>=48))&&(decide ((c.toNat:Int)<=57)))))) else (((c.toNat:Int)==95)|| ((decide (i>0))&&((decide ((c.toNat:Int)>=48))&&(decide ((c.toNat:Int)<=57))))))))] ?_ ?_))
   ·refine (rsl 3 [] 17 (decide ((c.toNat:Int)>=65)) ?_ ?_)<;>intro pz
    ·refine (rsl 4 [] 21 (decide ((c.toNat:Int)<=90)) ?_ ?_)<;>intro pC
     · exact (rbl [] 5 true rfl (by grind))
     refine (rsl 3 [] 24 (decide ((c.toNat:Int)>=97)) ?_ ?_)<;>intro pD
     ·refine (rsl 5 [] 29 (decide ((c.toNat:Int)<=122)) ?_ ?_)<;>intro pG
      · exact (rbl [] 5 true rfl (by grind))
      refine (rsl 4 [] 33 ((c.toNat:Int)==95) ?_ ?_)<;>intro pJ
      · exact (rbl [] 5 true rfl (by grind))
      refine (rsl 3 [] 36 (decide (i>0)) ?_ ?_)<;>intro pN
      ·refine (rsl 4 [] 40 (decide ((c.toNat:Int)>=48)) ?_ ?_)<;>intro pQ
       · exact (rbl [] 5 (decide ((c.toNat:Int)<=57)) rfl (by grind))
       exact (rbl [] 5 false rfl (by grind))
      exact (rbl [] 5 false rfl (by grind))
     refine (rsl 9 [] 33 ((c.toNat:Int)==95) ?_ ?_)<;>intro pS
     · exact (rbl [] 5 true rfl (by grind))
     refine (rsl 3 [] 36 (decide (i>0)) ?_ ?_)<;>intro pT
     ·refine (rsl 4 [] 40 (decide ((c.toNat:Int)>=48)) ?_ ?_)<;>intro p8
      · exact (rbl [] 5 (decide ((c.toNat:Int)<=57)) rfl (by grind))
      exact (rbl [] 5 false rfl (by grind))
     exact (rbl [] 5 false rfl (by grind))
    refine (rsl 7 [] 24 (decide ((c.toNat:Int)>=97)) ?_ ?_)<;>intro pU
    ·refine (rsl 5 [] 29 (decide ((c.toNat:Int)<=122)) ?_ ?_)<;>intro p6
     · exact (rbl [] 5 true rfl (by grind))
     refine (rsl 4 [] 33 ((c.toNat:Int)==95) ?_ ?_)<;>intro p9
     · exact (rbl [] 5 true rfl (by grind))
     refine (rsl 3 [] 36 (decide (i>0)) ?_ ?_)<;>intro pW
     ·refine (rsl 4 [] 40 (decide ((c.toNat:Int)>=48)) ?_ ?_)<;>intro uc
      · exact (rbl [] 5 (decide ((c.toNat:Int)<=57)) rfl (by grind))
      exact (rbl [] 5 false rfl (by grind))
     exact (rbl [] 5 false rfl (by grind))
    refine (rsl 9 [] 33 ((c.toNat:Int)==95) ?_ ?_)<;>intro ue
    · exact (rbl [] 5 true rfl (by grind))
    refine (rsl 3 [] 36 (decide (i>0)) ?_ ?_)<;>intro uf
    ·refine (rsl 4 [] 40 (decide ((c.toNat:Int)>=48)) ?_ ?_)<;>intro ui
     · exact (rbl [] 5 (decide ((c.toNat:Int)<=57)) rfl (by grind))
     exact (rbl [] 5 false rfl (by grind))
    exact (rbl [] 5 false rfl (by grind))
   refine jp (jI h ?_ ?_)<;>intro ut h
   ·cases h;exact jz'
   refine zP ?_;cases h;exact jy
  cases h;exact zap rfl lzz
 rcases q with u| u2
 ·refine zaV _ rfl (jg [] [] [(2,kB ((decide ((sv.length:Int)>=1))&&(decide ((sv.length:Int)<=60))))] ?_ ?_)
  ·refine (rsl 4 [] 50 (decide ((sv.length:Int)>=1)) ?_ ?_)<;>intro uu
   · exact (rbl [] 2 (decide ((sv.length:Int)<=60)) rfl (by grind))
   exact (rbl [] 2 false rfl (by grind))
  cases h;exact zw lzz
 obtain rfl:=(sj h);exact zdO lzz
theorem zdN (h:zbQ k=some r):uV 64 [kI k] [kB r]:=by
 refine fi 9 func64 fun Xt=>?_
 unfold zbQ at h;refine jp (jg [] [] [(2,kB ((decide (k>=1))&&(decide (k<=17))))] ?_ ?_)
 ·refine (rsl 3 [] 5 (decide (k>=1)) ?_ ?_)<;>intro py
  · exact (rbl [] 2 (decide (k<=17)) rfl (by grind))
  exact (rbl [] 2 false rfl (by grind))
 cases h;exact zw lzz
theorem zdp (h:zbc k=some r):uV 36 [kI k] [kB r]:=by
 refine fi 9 func36 fun Xt=>?_
 unfold zbc at h;refine jp (jg [] [] [(2,kB ((decide (k>=1))&&(decide (k<=14))))] ?_ ?_)
 ·refine (rsl 3 [] 5 (decide (k>=1)) ?_ ?_)<;>intro py
  · exact (rbl [] 2 (decide (k<=14)) rfl (by grind))
  exact (rbl [] 2 false rfl (by grind))
 cases h;exact zw lzz
theorem zcQ (h:zbd b u0=some r):uV 59 [.sl Rp.byte [0] b,kI u0] [kU r.1,kI r.2.1,kI r.2.2]:=by
 refine fi 69 func59 fun Xt=>?_
 unfold zbd at h;refine jp (jp (zr (jb h fun q pI h=>jL pI [0,1] [] (fun s=>[(7,kI s)]) (fun o=> .X 0 [0,1] [] [(7,kI o)] []) ?_ lzz ?_)))
 ·clear h;intro n o h;unfold zaC at h;refine jb h fun g pA h=>jg [0,1,7] [] [(28,kB g)] ?_ ?_
  ·refine (rsI 7 16 pA ?_ ?_)<;>intro py pA
   ·refine (rsI 4 20 pA ?_ ?_)<;>intro pz pA
    ·refine jb pA fun x pL pA=>?_;cases pA;exact (rx 4 [0] zcd.el pL rfl rfl rgg)
    cases pA;exact rgg
   cases pA;exact rgg
  refine jI h ?_ ?_<;>intro pC h
  ·refine zr (jp (zP ?_));cases h;exact zU lzz
  cases h;exact zap rfl lzz
 refine zaV _ rfl (jp (jI h ?_ ?_))<;>intro pD h
 ·cases h;exact jz
 refine jp (jI h ?_ ?_)<;>intro pG h
 ·cases h;exact jz
 refine jb h fun g2 pK h=>jg [0,1,7] [] [(49,kB g2)] ?_ ?_
 ·refine (rsI 3 41 pK ?_ ?_)<;>intro pJ pK
  ·refine jb pK fun x2 pO pK=>?_;cases pK;exact (rx 4 [0] zcd.el pO rfl rfl rgg)
  cases pK;exact rgg
 refine jI h ?_ ?_<;>intro pN h
 ·cases h;exact jz
 refine jp (jp (zr (jb h fun q2 pZ h=>jL pZ [0,1,7] [] (fun s=>[(8,kU s.1),(9,kI s.2)]) (fun o=> .x 2 ⟨[(7,kI q),(8,kU o)],[]⟩) ?_ lzz ?_)))
 ·clear h;intro s o h;obtain ⟨wv,i⟩:=s;replace h:zaQ u0 b wv i=some o:=h;unfold zaQ at h;refine jp (jI h ?_ ?_)<;>intro pQ h
  ·refine zr (jb h fun x3 p4 h=>jr (rx 6 [0] zcd.el p4 rfl rfl rf) (zP ?_));cases h;exact jy
  cases h;exact zap rfl lzz
 refine zaV _ rfl ?_;cases h;exact jz
theorem zje (h:zcw p5 wire=some r):uV 92 [kI p5,kI wire] [kB r]:=by
 refine fi 27 func92 fun Xt=>?_
 unfold zcw at h;refine jp (jg [] [] [(4,kB ((decide (p5>=1))&&((decide (p5<=536870911))&&((wire==0)|| ((wire==1)|| ((wire==2)|| (wire==5)))))))] ?_ ?_)
 ·refine (rsl 3 [] 7 (decide (p5>=1)) ?_ ?_)<;>intro py
  ·refine (rsl 4 [] 11 (decide (p5<=536870911)) ?_ ?_)<;>intro pz
   ·refine (rsl 3 [] 14 (wire==0) ?_ ?_)<;>intro pC
    · exact (rbl [] 4 true rfl (by grind))
    refine (rsl 4 [] 18 (wire==1) ?_ ?_)<;>intro pD
    · exact (rbl [] 4 true rfl (by grind))
    refine (rsl 4 [] 22 (wire==2) ?_ ?_)<;>intro pG
    · exact (rbl [] 4 true rfl (by grind))
    exact (rbl [] 4 (wire==5) rfl (by grind))
   exact (rbl [] 4 false rfl (by grind))
  exact (rbl [] 4 false rfl (by grind))
 cases h;exact zw lzz
theorem zjj (h:zcA m p5=some r):uV 30 [.rc zf [0] m,kI p5] [kI r]:=by
 refine fi 22 func30 fun Xt=>?_
 unfold zcA at h;refine jr (ra 0 [.rc zf [0] m] rfl (zgR 11 (zD [0] m) [0] rfl rfl rfl rfl rfl) rfl rf) (jp (zr (jb h fun q pI h=>jL pI [1,2] [11] (fun s=>[(5,kI s)]) (fun| (.inl v_)=> .x 0 ⟨[],[]⟩| (.inr v_)=> .r ⟨[(4,kI v_)],[]⟩) ?_ lzz ?_)))
 ·clear h;intro i o h;unfold zaM at h;refine jp (jI h ?_ ?_)<;>intro py h
  ·refine zr (jb h fun x pL h=>jr (rx 3 [0] zhD.el pL rfl rfl rf) (jI h ?_ ?_))<;>intro pz h
   ·cases h;exact jz'
   refine zP ?_;cases h;exact jy
  cases h;exact zap rfl lzz
 rcases q with u| u2
 ·refine zaV _ rfl ?_;cases h;exact jz
 obtain rfl:=(sj h);exact zdO lzz
theorem zjD (h:zcT k=some r):uV 57 [kI k] [kI r]:=by
 refine fi 9 func57 fun Xt=>?_
 unfold zcT at h;refine jp (jp (jI h ?_ ?_))<;>intro py h
 ·cases h;exact jz
 refine jp (jI h ?_ ?_)<;>intro pz h
 ·cases h;exact jz
 refine jp (jI h ?_ ?_)<;>intro pC h
 ·cases h;exact jz
 cases h;exact jz
theorem zkI (h:zdh rv=some r):uV 93 [kI rv] [.own Rp.byte 5 2 [] r]:=by
 refine fi 68 func93 fun Xt=>?_
 unfold zdh at h;refine jp (jg [0] [] [(16,kB ((decide (rv<0))|| ((decide (rv>1114111))|| ((decide (rv>=55296))&&(decide (rv<=57343))))))] ?_ ?_)
 ·refine (rsl 3 [] 5 (decide (rv<0)) ?_ ?_)<;>intro py
  · exact (rbl [] 16 true rfl (by grind))
  refine (rsl 4 [] 9 (decide (rv>1114111)) ?_ ?_)<;>intro pz
  · exact (rbl [] 16 true rfl (by grind))
  refine (rsl 3 [] 12 (decide (rv>=55296)) ?_ ?_)<;>intro pC
  · exact (rbl [] 16 (decide (rv<=57343)) rfl (by grind))
  exact (rbl [] 16 false rfl (by grind))
 refine jI h ?_ ?_<;>intro pD h
 ·refine jp ?_;cases h;exact zw lw
 refine jp (jI h ?_ ?_)<;>intro pG h
 ·refine jb h fun y uv h=>jr (rc 2 rfl (zC.lw (zdX [.lf (.int .u8 (y.toNat:Int))] 12 [] [y] rfl zcd rfl rfl rfl rfl) (.l (zfO uv))) rf) ?_;cases h;exact zw (lks [] [(12,2)] lzz)
 refine jp (jI h ?_ ?_)<;>intro pJ h
 ·refine jb h fun y2 uw h=>jb h fun y3 uC h=>jr (rc 8 rfl (zC.lw (zdX [.lf (.int .u8 (y2.toNat:Int)),.lf (.int .u8 (y3.toNat:Int))] 13 [] [y2,y3] rfl zcd rfl rfl rfl rfl) (.c (zfO uw) (.l (zfO uC)))) rf) ?_;cases h;exact zw (lks [] [(13,2)] lzz)
 refine jp (jI h ?_ ?_)<;>intro pN h
 ·refine jb h fun y4 uD h=>jb h fun y5 uE h=>jb h fun y6 uF h=>jr (rc 13 rfl (zC.lw (zdX [.lf (.int .u8 (y4.toNat:Int)),.lf (.int .u8 (y5.toNat:Int)),.lf (.int .u8 (y6.toNat:Int))] 14 [] [y4,y5,y6] rfl zcd rfl rfl rfl rfl) (.c (zfO uD) (.c (zfO uE) (.l (zfO uF))))) rf) ?_;cases h;exact zw (lks [] [(14,2)] lzz)
 refine jb h fun y7 uG h=>jb h fun y8 uH h=>jb h fun y9 uI h=>jb h fun y10 uJ h=>jr (rc 18 rfl (zC.lw (zdX [.lf (.int .u8 (y7.toNat:Int)),.lf (.int .u8 (y8.toNat:Int)),.lf (.int .u8 (y9.toNat:Int)),.lf (.int .u8 (y10.toNat:Int))] 15 [] [y7,y8,y9,y10] rfl zcd rfl rfl rfl rfl) (.c (zfO uG) (.c (zfO uH) (.c (zfO uI) (.l (zfO uJ)))))) rf) ?_;cases h;exact zw (lks [] [(15,2)] lzz)
theorem zhL (h:zbj av b=some r):uV 23 [.sl uU [0] av,.sl uU [0] b] [kB r]:=by
 refine fi 26 func23 fun Xt=>?_
 unfold zbj at h;refine jp (jp (jI h ?_ ?_))<;>intro py h
 ·refine jp ?_;obtain rfl:=(sj h);exact zw lzz
 refine jp (zr (jb h fun q pI h=>jL pI [0,1] [] (fun s=>[(5,kI s)]) (fun| (.inl v_)=> .x 0 ⟨[],[]⟩| (.inr v_)=> .r ⟨[(4,kB false)],[]⟩) ?_ lzz ?_))
 ·clear h;intro i o h;unfold zar at h;refine jp (jI h ?_ ?_)<;>intro pz h
  ·refine zr (jb h fun x pL h=>jb h fun x2 pO h=>jd [0,1,5,25] [] zeq (by exact (lwn 2 (di [0] zhf.el pL (lwn 3 (di [0] zhf.el pO l0))))) (jI h ?_ ?_))<;>intro pC h
   ·cases h;exact jz'
   refine zP ?_;cases h;exact jy
  cases h;exact zap rfl lzz
 rcases q with u| u2
 ·refine zaV _ rfl (jp ?_);obtain rfl:=(sj h);exact zw lzz
 obtain rfl:=(sj h);exact zdO lzz
end Go.Proofs.YtnckiilakdkklaaGreat

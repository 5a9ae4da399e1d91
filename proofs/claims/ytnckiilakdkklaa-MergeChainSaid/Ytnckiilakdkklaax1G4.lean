/-
  The Go functions do what the plain functions say. No condition.
-/
import Derived.Test.Ytnckiilakdkklaax1G3
set_option autoImplicit true
set_option relaxedAutoImplicit true
namespace Go.Proofs.Ytnckiilakdkklaa
open Try
open Go Go.RowKit
set_option linter.unusedVariables false
set_option maxRecDepth 100000
set_option maxHeartbeats 3200000
theorem zni (h:zfg py sv pu b d=some r):ur 18 [.sl zg [0] sv,kI pu,.sl Rp.byte [0] b,kI d] [.rc zL [] r]:=by
 refine fj ⟨[(8,.ptr 2 0)],[⟨2,57,(zdM r)⟩]⟩ 29 func18 ⟨⟨_,_,rfl,rfl,rfl,rfl,ztE⟩,trivial⟩ fun Xt=>?_
 unfold zfg at h;refine jq [12] (jb h fun rv pk h=>jr (rl 3 [0] 11 call12 (ziz pk) rf) (jp (jI h ?_ ?_)))<;>intro ph h
 ·refine jr (rc 1 rfl (zD (r:=zL) [k8 rv] [] (⟨0,0,rv⟩:zn) rfl zog rfl rfl) rf) ?_;cases h;exact zG (lks [12] [(12,2)] lzz)
 refine jr (rc 2 rfl (zeX (rk:=zf) (rv:=zc) 13 rfl) (rc 0 rfl (lbd [.sl zg [0] sv,.sl Rp.byte [0] b,.om zf zc 13 [] ([]:(List (ze×za)))] zyw) (rfl' [14]))) (jb h fun uC pv h=>jr (rkl 5 [] ⟨[(8,.ptr 12 0),(23,.ag [.sl zg [0] sv,.sl Rp.byte [0] b,.om zf zc 13 [] ([]:(List (ze×za)))]),(24,kI pu),(26,kI (b.length:Int)),(27,kI d)],[⟨12,57,[kI 0,kI 0,k8 0]⟩]⟩ (zft ⟨[(8,.ptr 12 0),(23,.ag [.sl zg [0] sv,.sl Rp.byte [0] b,.om zf zc 13 [0] uC.2]),(24,kI pu),(26,kI (b.length:Int)),(27,kI d)],[⟨12,57,[kI 0,kI 0,k8 0]⟩]⟩ (zfw [.ag [.sl zg [0] sv,.sl Rp.byte [0] b,.om zf zc 13 [] ([]:(List (ze×za)))],kI pu,kI 0,kI (b.length:Int),kI d] [(13,2)] [0] 14 [] rfl call21 (zgY pv) rfl rfl (by kernel_rfl) rfl rfl rfl) rfl (by kernel_rfl) (by kernel_rfl) ⟨⟨_,rfl,zo rfl⟩,⟨_,rfl,ziy ⟨zo rfl,zo rfl,zcU 0 rfl,trivial⟩⟩,⟨_,rfl,zo rfl⟩,⟨_,rfl,zo rfl⟩,⟨_,rfl,zo rfl⟩,trivial⟩ ⟨⟨_,rfl,rfl,rfl,⟨zo rfl,zo rfl,zo rfl,trivial⟩⟩,trivial⟩ rf)) ?_);cases h;exact zG (lks [12] [(12,2)] lzz)
theorem zdB (h:zbW py sv pu b d=some r):ur 11 [.sl zg [0] sv,kI pu,.sl Rp.byte [0] b,kI d] [kI r.1,k8 r.2]:=by
 refine fi 20 func11 fun Xt=>?_
 unfold zbW at h;refine jp (jb h fun rv pk h=>jr (rl 4 [0] 9 call18 (zni pk) (rfl' [11])) (jd [8,9] [] zit (by exact l0) ?_));cases h;exact zG lzz
theorem zhv (h:zdg py sv pu av b d=some r):ur 14 [.sl zg [0] sv,kI pu,.sl Rp.byte [0] av,.sl Rp.byte [0] b,kI d] [k8 r]:=by
 refine fi 35 func14 fun Xt=>?_
 unfold zdg at h;refine jp (jb h fun rv pk h=>jr (rl 4 [0] 9 call11 (zdB pk) rf) (jp (jI h ?_ ?_)))<;>intro ph h
 ·cases h;exact jz
 refine jb h fun uv pn h=>jr (rl 4 [0] 9 call11 (zdB pn) rf) ?_;cases h;exact jz
theorem zoP (h:zfV py sv pu l d=some r):ur 6 [.sl zg [0] sv,kI pu,.sl (Rp.list Rp.byte) [0] l,kI d] [.own Rp.byte 5 2 [] r.1,kI r.2.1,k8 r.2.2]:=by
 refine fi 61 func6 fun Xt=>?_
 unfold zfV at h;refine jp (jb h fun rv pk h=>jr (rl 1 [0] 10 call10 (zbU pk) rf) (jb h fun uv pn h=>jr (rl 4 [0,12] 11 call11 (zdB pn) rf) (jp (jb h fun p pC h=>jn (match p with| (.inl v_)=> .N [0,1,2,3,11] [] [(12,kI v_)] []| (.inr v_)=> .r ⟨[(8,kN),(9,kI 0),(10,k8 v_)],[]⟩) ?_ ?_))))
 ·replace h:=pC;refine jI h ?_ ?_<;>intro ph h
  ·cases h;exact jy
  refine jb h fun uC pv h=>jr (rl 3 [0] 11 call12 (ziz pv) rf) (jp (jI h ?_ ?_))<;>intro pj h
  ·cases h;exact jz
  cases h;exact zaA lzz
 rcases p with u| u2
 ·refine zho (jb h fun x pr h=>jb h fun rv4 pD h=>jr (rx 2 [0] ziC.el pr rfl rfl (rc 0 rfl (lde zg [0] x zrG) (rl 2 [0] 11 call13 (zmj pD) rf))) (jp (jI h ?_ ?_)))<;>intro pm h
  ·refine jb h fun x2 px h=>jb h fun rv5 pG h=>jr (rx 4 [0] zoq.el px rfl rfl (rc 0 rfl (ldl (Rp.list Rp.byte) [0] x2 0 Rp.byte x2) (rl 1 [0] 11 call11 (zdB pG) rf))) (jp ?_);cases h;exact zG lw
  refine jp ?_;cases h;exact zG (lks [] [(12,2)] lzz)
 cases h;exact zgw lw
theorem zcd (h:zbE py sv pu av b d=some r):ur 7 [.sl zg [0] sv,kI pu,.sl Rp.byte [0] av,.sl Rp.byte [0] b,kI d] [.own Rp.byte 5 2 [] r.1,k8 r.2]:=by
 refine fi 26 func7 fun Xt=>?_
 unfold zbE at h;refine jp (jb h fun rv pk h=>jr (rl 5 [0] 11 call14 (zhv pk) rf) (jp (jI h ?_ ?_)))<;>intro ph h
 ·refine jp ?_;cases h;exact zG lw
 refine jb h fun uv pn h=>jr (rc 2 rfl (zht [.sl Rp.byte [0] av,.sl Rp.byte [0] b] 13 [0] ([av,b]:(List (List UInt8))) rfl zoq rfl rfl rfl rfl) (rl 0 [13,0] 12 call10 (zbU pn) rf)) ?_;cases h;exact zG (lks [] [(14,2)] lzz)
theorem znf (h:zdS py sv pu av b d=some r):ur 9 [.sl zg [0] sv,kI pu,.sl Rp.byte [0] av,.sl Rp.byte [0] b,kI d] [kI r.1,k8 r.2]:=by
 refine fi 48 func9 fun Xt=>?_
 unfold zdS at h;refine jp (jb h fun rv pk h=>jr (rl 5 [0] 9 call14 (zhv pk) rf) (jp (jI h ?_ ?_)))<;>intro ph h
 ·cases h;exact jz
 refine jb h fun x pr h=>jr (rx 2 [0] ziC.el pr rfl rfl (rc 0 rfl (lde zg [0] x zrG) (ral 1 [11] [.ptr 11 0,.rc zg [0] x] rfl (zki (r:=zg) (b:=⟨11,39,[kS [],kN]⟩) (off:=0) (zx [0] x) rfl sizeOf39 rfl rfl rfl rfl) rfl rf))) (jb h fun uv pn h=>jr (rl 2 [0] 10 call15 (zjw pn) rf) (jb h fun uC pv h=>jr (rl 2 [0] 11 call16 (zhw pv) rf) (zz (jb h fun q pq h=>jL pq [13,34,35] [] (fun s=>[(10,kI s.1),(36,kI s.2)]) (fun o=> .x 0 ⟨[(10,kI o)],[]⟩) ?_ lzz ?_))))
 ·clear h;intro s o h;obtain ⟨gone,v⟩:=s;replace h:zbs uv uC gone v=some o:=h;unfold zbs at h;refine jp (jI h ?_ ?_)<;>intro pj h
  ·refine zz (jb h fun x2 px h=>jr (ra 0 [.own zc 54 13 [] uC,kI v] rfl (zsf rfl zsE.el (zlW _ _ _ _ _) px) rfl (rc 0 rfl (lde zc [13] x2 zpl) (rfl' [15]))) (jr (ra 3 [.om uq Rp.bool 12 [] uv,kI x2.Field] rfl (zju (rk:=uq) (rv:=Rp.bool) (m:=uv) (k:=x2.Field) (kB ((mget uv x2.Field).getD false)) rfl zuz (zbp rfl rfl) (zlj rfl rfl rfl)) rfl rf) (jI h ?_ ?_)))<;>intro pm h
   ·refine jp (zaj ?_);cases h;exact jy
   refine zaj ?_;cases h;exact jy
  cases h;exact zbq rfl lzz
 refine zca _ rfl ?_;cases h;exact jz
theorem zgU (h:zbw py=some r):ur 4 [] [kB r]:=by
 refine fi 39 func4 fun Xt=>?_
 unfold zbw at h;refine jp (jr (rc 0 rfl (zD (r:=zb) [kS [97],kI 1,kI 3] [] (⟨[97],1,3,false,false,0⟩:zd) rfl zyy rfl rfl) (rc 0 rfl (lbs1 11 [] (⟨[97],1,3,false,false,0⟩:zd) zkS) (rc 0 rfl (lbd [kS [109],.own zb 36 11 [] ([(⟨[97],1,3,false,false,0⟩:zd)]:(List zd))] zyv) (rc 0 rfl (zy.lw (lbs1 12 [11] (⟨[109],([(⟨[97],1,3,false,false,0⟩:zd)]:(List zd))⟩:zh) ziC) (.l (zhY zg [11] (⟨[109],([(⟨[97],1,3,false,false,0⟩:zd)]:(List zd))⟩:zh) [kS [109],.own zb 36 11 [] ([(⟨[97],1,3,false,false,0⟩:zd)]:(List zd))] rfl rfl))) rf)))) (jb h fun rv pk h=>jr (rc 1 rfl (zht [.lf (.int .u8 8),.lf (.int .u8 1)] 13 [] [(8:UInt8),(1:UInt8)] rfl zcW rfl rfl rfl rfl) (rc 0 rfl (zht [.lf (.int .u8 8),.lf (.int .u8 2)] 14 [] [(8:UInt8),(2:UInt8)] rfl zcW rfl rfl rfl rfl) (rl 0 [12,11,13,14] 13 call7 (zcd pk) rf))) (jb h fun uv pn h=>jr (rc 1 rfl (zht [.lf (.int .u8 8),.lf (.int .u8 1)] 16 [] [(8:UInt8),(1:UInt8)] rfl zcW rfl rfl rfl rfl) (rc 0 rfl (zht [.lf (.int .u8 8),.lf (.int .u8 2)] 17 [] [(8:UInt8),(2:UInt8)] rfl zcW rfl rfl rfl rfl) (rl 0 [12,11,16,17] 16 call9 (znf pn) rf))) (jb h fun g pi h=>jg [] [] [(0,kB g)] ?_ ?_))))
 ·refine (rsI 7 30 pi ?_ ?_)<;>intro ph pi
  ·refine (rsI 4 34 pi ?_ ?_)<;>intro pj pi
   ·refine jb pi fun uC pv pi=>?_;cases pi;exact (rc 1 rfl (zht [.lf (.int .u8 8),.lf (.int .u8 1),.lf (.int .u8 8),.lf (.int .u8 2)] 18 [] [(8:UInt8),(1:UInt8),(8:UInt8),(2:UInt8)] rfl zcW rfl rfl rfl rfl) (rl 0 [15,18] 17 call8 (zbc pv) rgg))
   cases pi;exact rgg
  cases pi;exact rgg
 obtain rfl:=(sj h);exact zG lzz
theorem zeR (h:zaC py sv pu av b c d=some r):ur 3 [.sl zg [0] sv,kI pu,.sl Rp.byte [0] av,.sl Rp.byte [0] b,.sl Rp.byte [0] c,kI d] [kB r]:=by
 refine fi 152 func3 fun Xt=>?_
 unfold zaC at h;refine jp (jb h fun rv pk h=>jr (rl 0 [1] 9 call4 (zgU pk) rf) (jI h ?_ ?_))<;>intro ph h
 ·refine jp ?_;obtain rfl:=(sj h);exact zG lzz
 refine jb h fun uv pn h=>jg [0,1,2,3,4,5] [] [(43,kB ((!uv)|| (decide ((IntKind.i64.wrap ((IntKind.i64.wrap ((av.length:Int)+(b.length:Int)))+(c.length:Int)))>1500))))] ?_ ?_
 ·refine (rl 1 [0] 9 call5 (zii pn) (rsl 2 [] 33 (!uv) ?_ ?_))<;>intro pj
  · exact (rbl [] 43 true rfl (by grind))
  exact (rbl [] 43 (decide ((IntKind.i64.wrap ((IntKind.i64.wrap ((av.length:Int)+(b.length:Int)))+(c.length:Int)))>1500)) rfl (by grind))
 refine jI h ?_ ?_<;>intro pm h
 ·refine jp ?_;obtain rfl:=(sj h);exact zG lzz
 refine jb h fun uC pv h=>jr (rc 5 rfl (zht [.sl Rp.byte [0] av,.sl Rp.byte [0] b,.sl Rp.byte [0] c] 11 [0] ([av,b,c]:(List (List UInt8))) rfl zoq rfl rfl rfl rfl) (rl 1 [0,11] 10 call6 (zoP pv) rf)) (jp (jI h ?_ ?_))<;>intro pp h
 ·cases h;exact jz
 refine jb h fun rv4 pD h=>jr (rl 5 [0] 11 call7 (zcd pD) rf) (jb h fun rv5 pG h=>jr (rl 5 [0] 12 call7 (zcd pG) rf) (jb h fun rv6 ug h=>jr (rl 5 [0,13] 13 call7 (zcd ug) rf) (jb h fun rv7 uh h=>jr (rl 5 [0,14] 14 call7 (zcd uh) rf) (jb h fun rv8 ui h=>jr (rl 4 [0] 15 call7 (FnOk.le (ins':=[.sl zg [0] sv,kI pu,.sl Rp.byte [0] av,kN,kI d]) (zcd ui) ⟨ut _,ut _,ut _,zfU _ _,ut _,trivial⟩) rf) (jb h fun rv9 uj h=>jr (rl 4 [0] 16 call7 (FnOk.le (ins':=[.sl zg [0] sv,kI pu,kN,.sl Rp.byte [0] av,kI d]) (zcd uj) ⟨ut _,ut _,zfU _ _,ut _,ut _,trivial⟩) rf) (jb h fun g pi h=>jg [] [] [(12,kB g)] ?_ ?_))))))
 ·refine (rsI 19 132 pi ?_ ?_)<;>intro pt pi
  ·refine jb pi fun rv10 uk pi=>(rl 2 [15,12] 17 call8 (zbc uk) (rsI 2 137 pi ?_ ?_))<;>intro pw pi
   ·refine jb pi fun rv11 ul pi=>(rl 2 [16,12] 17 call8 (zbc ul) (rsI 2 142 pi ?_ ?_))<;>intro pB pi
    ·refine jb pi fun rv12 uo pi=>(rl 2 [17,0] 17 call8 (zbc uo) (rsI 2 147 pi ?_ ?_))<;>intro pE pi
     ·refine jb pi fun rv13 up pi=>?_;cases pi;exact (rl 2 [18,0] 17 call8 (zbc up) rgg)
     cases pi;exact rgg
    cases pi;exact rgg
   cases pi;exact rgg
  cases pi;exact rgg
 obtain rfl:=(sj h);exact zG lzz
end Go.Proofs.Ytnckiilakdkklaa

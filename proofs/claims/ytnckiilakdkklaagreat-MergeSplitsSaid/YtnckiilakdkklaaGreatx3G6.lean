/-
  The Go functions do what the plain functions say. No condition.
-/
import Derived.Test.YtnckiilakdkklaaGreatx3G5
set_option autoImplicit true
set_option relaxedAutoImplicit true
namespace Go.Proofs.YtnckiilakdkklaaGreat
open Tryz
open Go Go.RowKit
set_option linter.unusedVariables false
set_option maxRecDepth 100000
set_option maxHeartbeats 3200000
theorem zql (h:zhb pR sv pM b d=some r):uV 50 [.sl zf [0] sv,kI pM,.sl Rp.byte [0] b,kI d] [.rc zO [] r]:=by
 refine fj ⟨[(8,.ptr 2 0)],[⟨2,114,(zfx r)⟩]⟩ 29 func50 ⟨⟨_,_,rfl,rfl,rfl,rfl,zue⟩,trivial⟩ fun Xt=>?_
 unfold zhb at h;refine jq [12] (jb h fun rv pB h=>jr (rl 3 [0] 11 call41 (zqk pB) rf) (jp (jI h ?_ ?_)))<;>intro py h
 ·refine jr (rc 1 rfl (zA (r:=zO) [k8 rv] [] (⟨0,0,rv⟩:zn) rfl znk rfl rfl) rf) ?_;cases h;exact zw (lks [12] [(12,2)] lzz)
 refine jr (rc 2 rfl (zgS (rk:=zi) (rv:=ze) 13 rfl) (rc 0 rfl (lbd [.sl zf [0] sv,.sl Rp.byte [0] b,.om zi ze 13 [] ([]:(List (zg×za)))] zBr) (rfl' [14]))) (jb h fun u9 pP h=>jr (rkl 5 [] ⟨[(8,.ptr 12 0),(23,.ag [.sl zf [0] sv,.sl Rp.byte [0] b,.om zi ze 13 [] ([]:(List (zg×za)))]),(24,kI pM),(26,kI (b.length:Int)),(27,kI d)],[⟨12,114,[kI 0,kI 0,k8 0]⟩]⟩ (zhy ⟨[(8,.ptr 12 0),(23,.ag [.sl zf [0] sv,.sl Rp.byte [0] b,.om zi ze 13 [0] u9.2]),(24,kI pM),(26,kI (b.length:Int)),(27,kI d)],[⟨12,114,[kI 0,kI 0,k8 0]⟩]⟩ (zhA [.ag [.sl zf [0] sv,.sl Rp.byte [0] b,.om zi ze 13 [] ([]:(List (zg×za)))],kI pM,kI 0,kI (b.length:Int),kI d] [(13,2)] [0] 14 [] rfl call66 (zjp pP) rfl rfl (by kernel_rfl) rfl rfl rfl) rfl (by kernel_rfl) (by kernel_rfl) ⟨⟨_,rfl,zo rfl⟩,⟨_,rfl,zla ⟨zo rfl,zo rfl,zeA 0 rfl,trivial⟩⟩,⟨_,rfl,zo rfl⟩,⟨_,rfl,zo rfl⟩,⟨_,rfl,zo rfl⟩,trivial⟩ ⟨⟨_,rfl,rfl,rfl,⟨zo rfl,zo rfl,zo rfl,trivial⟩⟩,trivial⟩ rf)) ?_);cases h;exact zw (lks [12] [(12,2)] lzz)
theorem zha (h:zee pR sv pM b d=some r):uV 28 [.sl zf [0] sv,kI pM,.sl Rp.byte [0] b,kI d] [kI r.1,k8 r.2]:=by
 refine fi 20 func28 fun Xt=>?_
 unfold zee at h;refine jp (jb h fun rv pB h=>jr (rl 4 [0] 9 call50 (zql pB) (rfl' [11])) (jd [8,9] [] zeq (by exact l0) ?_));cases h;exact zw lzz
theorem zjS (h:zeK pR sv pM av b d=some r):uV 24 [.sl zf [0] sv,kI pM,.sl Rp.byte [0] av,.sl Rp.byte [0] b,kI d] [k8 r]:=by
 refine fi 35 func24 fun Xt=>?_
 unfold zeK at h;refine jp (jb h fun rv pB h=>jr (rl 4 [0] 9 call28 (zha pB) rf) (jp (jI h ?_ ?_)))<;>intro py h
 ·cases h;exact jz
 refine jb h fun uX pF h=>jr (rl 4 [0] 9 call28 (zha pF) rf) ?_;cases h;exact jz
theorem znJ (h:zfa pR sv pM b d=some r):uV 21 [.sl zf [0] sv,kI pM,.sl Rp.byte [0] b,kI d] [.own uU 3 2 [] r.1,k8 r.2]:=by
 refine fi 46 func21 fun Xt=>?_
 unfold zfa at h;refine jp (jb h fun rv pB h=>jr (rl 4 [0] 10 call28 (zha pB) rf) (jp (jI h ?_ ?_)))<;>intro py h
 ·refine jp ?_;cases h;exact zw lw
 refine jr (rc 0 rfl (zdX [kI 0] 12 [] ([0]:(List Int)) rfl zhf rfl rfl rfl rfl) rf) (jb h fun x pL h=>jb h fun uX pF h=>jr (rx 2 [0] zeQ.el pL rfl rfl (rc 0 rfl (lde zf [0] x zsx) (rl 1 [0] 11 call44 (zgT pF) rf))) (zr (jb h fun q pI h=>jL pI [32,33] [] (fun s=>[(12,.own uU 3 12 [] s.1),(34,kI s.2)]) (fun o=> .x 0 ⟨[(12,.own uU 3 12 [] o)],[]⟩) ?_ lzz ?_)))
 ·clear h;intro s o h;obtain ⟨l,v⟩:=s;replace h:zck uX l v=some o:=h;unfold zck at h;refine jp (jI h ?_ ?_)<;>intro pz h
  ·refine zr (jb h fun x2 pO h=>jr (ra 0 [.own ze 106 13 [] uX,kI v] rfl (znx rfl zpU.el (zgb _ _ _ _ _) pO) rfl (rc 0 rfl (lde ze [13] x2 zmJ) (rfl' [15]))) (jb h fun v2 uh h=>jr (rc 4 rfl (zdX [kI x2.Record.To] 16 [] ([x2.Record.To]:(List Int)) rfl zhf rfl rfl rfl rfl) (rc 0 rfl (lao 12 [] 3 16 [] [] zhf.el uh (.inl (znb _))) rf)) (zP ?_)));cases h;exact jy
  cases h;exact zap rfl lzz
 refine zaV _ rfl (jp ?_);cases h;exact zw (lks [] [(12,2)] lzz)
theorem zmb (h:zgC pR sv pM av b d=some r):uV 8 [.sl zf [0] sv,kI pM,.sl Rp.byte [0] av,.sl Rp.byte [0] b,kI d] [.own Rp.byte 5 2 [] r.1,k8 r.2]:=by
 refine fi 26 func8 fun Xt=>?_
 unfold zgC at h;refine jp (jb h fun rv pB h=>jr (rl 5 [0] 11 call24 (zjS pB) rf) (jp (jI h ?_ ?_)))<;>intro py h
 ·refine jp ?_;cases h;exact zw lw
 refine jb h fun uX pF h=>jr (rc 2 rfl (zdX [.sl Rp.byte [0] av,.sl Rp.byte [0] b] 13 [0] ([av,b]:(List (List UInt8))) rfl zza rfl rfl rfl rfl) (rl 0 [13,0] 12 call25 (zgg pF) rf)) ?_;cases h;exact zw (lks [] [(14,2)] lzz)
theorem zqd (h:zfD pR sv pM av b d=some r):uV 19 [.sl zf [0] sv,kI pM,.sl Rp.byte [0] av,.sl Rp.byte [0] b,kI d] [kI r.1,k8 r.2]:=by
 refine fi 48 func19 fun Xt=>?_
 unfold zfD at h;refine jp (jb h fun rv pB h=>jr (rl 5 [0] 9 call24 (zjS pB) rf) (jp (jI h ?_ ?_)))<;>intro py h
 ·cases h;exact jz
 refine jb h fun x pL h=>jr (rx 2 [0] zeQ.el pL rfl rfl (rc 0 rfl (lde zf [0] x zsx) (ral 1 [11] [.ptr 11 0,.rc zf [0] x] rfl (zlk (r:=zf) (b:=⟨11,65,[kS [],kN]⟩) (off:=0) (zD [0] x) rfl sizeOf65 rfl rfl rfl rfl) rfl rf))) (jb h fun uX pF h=>jr (rl 2 [0] 10 call43 (zmc pF) rf) (jb h fun u9 pP h=>jr (rl 2 [0] 11 call44 (zgT pP) rf) (zr (jb h fun q pI h=>jL pI [13,34,35] [] (fun s=>[(10,kI s.1),(36,kI s.2)]) (fun o=> .x 0 ⟨[(10,kI o)],[]⟩) ?_ lzz ?_))))
 ·clear h;intro s o h;obtain ⟨gone,v⟩:=s;replace h:zcr uX u9 gone v=some o:=h;unfold zcr at h;refine jp (jI h ?_ ?_)<;>intro pz h
  ·refine zr (jb h fun x2 pO h=>jr (ra 0 [.own ze 106 13 [] u9,kI v] rfl (znx rfl zpU.el (zgb _ _ _ _ _) pO) rfl (rc 0 rfl (lde ze [13] x2 zmJ) (rfl' [15]))) (jr (ra 3 [.om uU Rp.bool 12 [] uX,kI x2.Field] rfl (zlZ (rk:=uU) (rv:=Rp.bool) (m:=uX) (k:=x2.Field) (kB ((mget uX x2.Field).getD false)) rfl zvK (zcp rfl rfl) (znW rfl rfl rfl)) rfl rf) (jI h ?_ ?_)))<;>intro pC h
   ·refine jp (zP ?_);cases h;exact jy
   refine zP ?_;cases h;exact jy
  cases h;exact zap rfl lzz
 refine zaV _ rfl ?_;cases h;exact jz
theorem zjd (h:zcv pR=some r):uV 6 [] [kB r]:=by
 refine fi 39 func6 fun Xt=>?_
 unfold zcv at h;refine jp (jr (rc 0 rfl (zA (r:=zb) [kS [97],kI 1,kI 3] [] (⟨[97],1,3,false,false,0⟩:zd) rfl zCa rfl rfl) (rc 0 rfl (lbs1 11 [] (⟨[97],1,3,false,false,0⟩:zd) zhD) (rc 0 rfl (lbd [kS [109],.own zb 62 11 [] ([(⟨[97],1,3,false,false,0⟩:zd)]:(List zd))] zBZ) (rc 0 rfl (zC.lw (lbs1 12 [11] (⟨[109],([(⟨[97],1,3,false,false,0⟩:zd)]:(List zd))⟩:zc) zeQ) (.l (zky zf [11] (⟨[109],([(⟨[97],1,3,false,false,0⟩:zd)]:(List zd))⟩:zc) [kS [109],.own zb 62 11 [] ([(⟨[97],1,3,false,false,0⟩:zd)]:(List zd))] rfl rfl))) rf)))) (jb h fun rv pB h=>jr (rc 1 rfl (zdX [.lf (.int .u8 8),.lf (.int .u8 1)] 13 [] [(8:UInt8),(1:UInt8)] rfl zcd rfl rfl rfl rfl) (rc 0 rfl (zdX [.lf (.int .u8 8),.lf (.int .u8 2)] 14 [] [(8:UInt8),(2:UInt8)] rfl zcd rfl rfl rfl rfl) (rl 0 [12,11,13,14] 13 call8 (zmb pB) rf))) (jb h fun uX pF h=>jr (rc 1 rfl (zdX [.lf (.int .u8 8),.lf (.int .u8 1)] 16 [] [(8:UInt8),(1:UInt8)] rfl zcd rfl rfl rfl rfl) (rc 0 rfl (zdX [.lf (.int .u8 8),.lf (.int .u8 2)] 17 [] [(8:UInt8),(2:UInt8)] rfl zcd rfl rfl rfl rfl) (rl 0 [12,11,16,17] 16 call19 (zqd pF) rf))) (jb h fun g pA h=>jg [] [] [(0,kB g)] ?_ ?_))))
 ·refine (rsI 7 30 pA ?_ ?_)<;>intro py pA
  ·refine (rsI 4 34 pA ?_ ?_)<;>intro pz pA
   ·refine jb pA fun u9 pP pA=>?_;cases pA;exact (rc 1 rfl (zdX [.lf (.int .u8 8),.lf (.int .u8 1),.lf (.int .u8 8),.lf (.int .u8 2)] 18 [] [(8:UInt8),(1:UInt8),(8:UInt8),(2:UInt8)] rfl zcd rfl rfl rfl rfl) (rl 0 [15,18] 17 call18 (zfW pP) rgg))
   cases pA;exact rgg
  cases pA;exact rgg
 obtain rfl:=(sj h);exact zw lzz
theorem zgt (h:zbk pR sv pM b d=some r):uV 5 [.sl zf [0] sv,kI pM,.sl Rp.byte [0] b,kI d] [kB r]:=by
 refine fi 121 func5 fun Xt=>?_
 unfold zbk at h;refine jp (jb h fun rv pB h=>jr (rl 0 [1] 9 call6 (zjd pB) rf) (jI h ?_ ?_))<;>intro py h
 ·refine jp ?_;obtain rfl:=(sj h);exact zw lzz
 refine jb h fun uX pF h=>jg [0,1,2,3] [] [(28,kB ((!uX)|| (decide ((b.length:Int)>300))))] ?_ ?_
 ·refine (rl 1 [0] 9 call7 (zkG pF) (rsl 2 [] 24 (!uX) ?_ ?_))<;>intro pz
  · exact (rbl [] 28 true rfl (by grind))
  exact (rbl [] 28 (decide ((b.length:Int)>300)) rfl (by grind))
 refine jI h ?_ ?_<;>intro pC h
 ·refine jp ?_;obtain rfl:=(sj h);exact zw lzz
 refine jb h fun u9 pP h=>jr (rl 4 [0] 9 call21 (znJ pP) rf) (jb h fun rv4 pX h=>jr (rl 4 [0] 10 call9 (zfo pX) rf) (jp (jI h ?_ ?_)))<;>intro pD h
 ·refine jg [] [] [(8,kB (((IntKind.i64.wrap u9.2)==rv4.2)&&((u9.1.length:Int)==0)))] ?_ ?_
  ·refine (rsl 5 [] 51 ((IntKind.i64.wrap u9.2)==rv4.2) ?_ ?_)<;>intro pG
   · exact (rbl [] 8 ((u9.1.length:Int)==0) rfl (by grind))
   exact (rbl [] 8 false rfl (by grind))
  cases h;exact zw lzz
 refine jr (rc 0 rfl (zdX [kI 0] 12 [] ([0]:(List Int)) rfl zhf rfl rfl rfl rfl) rf) (jp (zr (jb h fun q2 pZ h=>jL pZ [0,1,2,3,9,10] [] (fun s=>[(13,.own uU 3 12 [] s.1),(14,kI s.2)]) (fun o=> .X 0 [0,1,2,3,9,10] [] [(13,.own uU 3 12 [] o)] []) ?_ lzz ?_)))
 ·clear h;intro s o h;obtain ⟨want,u0⟩:=s;replace h:zab pR b d pM sv want u0=some o:=h;unfold zab at h;refine jp (jI h ?_ ?_)<;>intro pJ h
  ·refine zr (jp (zr (jb h fun q pI h=>jL pI [0,1,2,3,9,10,13] [] (fun s=>[(14,kI s.1),(15,kI s.2)]) (fun o=> .X 2 [0,1,2,3,9,10,13] [] [(14,kI o)] []) ?_ lzz ?_)))
   ·clear h;intro s o h;obtain ⟨atv2,tov⟩:=s;replace h:zac pR b d pM sv atv2 tov=some o:=h;unfold zac at h;refine zr (jb h fun v3 pV h=>jb h fun rv5 uj h=>jr (ra 5 [.sl Rp.byte [0] b,kI atv2,kI tov] rfl (zeZ (some (kI atv2)) (some (kI tov)) rfl zcd.el (zci _ _ _) ⟨rfl,rfl⟩ ⟨rfl,rfl⟩ pV) rfl (rl 1 [0] 13 call22 (zkH uj) rf)) (jI h ?_ ?_))<;>intro pN h
    ·refine jp ?_;cases h;exact zap rfl lzz
    refine zP ?_;cases h;exact jy
   refine zaV _ rfl (jb h fun v4 ul h=>jr (rc 2 rfl (zdX [kI q] 15 [] ([q]:(List Int)) rfl zhf rfl rfl rfl rfl) (rc 0 rfl (lao 12 [] 3 15 [] [] zhf.el ul (.inl (znb _))) rf)) (zP ?_));cases h;exact zU lzz
  cases h;exact zap rfl lzz
 refine zaV _ rfl (jb h fun g pA h=>jg [0,1,2,3,9] [] [(86,kB g)] ?_ ?_)
 ·refine (rsI 4 81 pA ?_ ?_)<;>intro pQ pA
  ·cases pA;exact rgg
  refine jb pA fun rv6 uP pA=>?_;cases pA;exact (rl 2 [11,12] 14 call23 (zhL uP) rgg)
 refine jI h ?_ ?_<;>intro pS h
 ·refine jp ?_;obtain rfl:=(sj h);exact zw lzz
 refine jp (zr (jb h fun q3 uz h=>jL uz [0,1,2,3,9] [] (fun s=>[(16,kI s)]) (fun| (.inl v_)=> .x 4 ⟨[],[]⟩| (.inr v_)=> .r ⟨[(8,kB false)],[]⟩) ?_ lzz ?_))
 ·clear h;intro i o h;unfold zat at h;refine jp (jI h ?_ ?_)<;>intro pT h
  ·refine zr (jb h fun x pL h=>jb h fun v6 uQ h=>jb h fun x2 pO h=>jb h fun v7 uR h=>jb h fun rv7 uS h=>jd [0,1,2,3,9,16,17,18] [] zeq (by exact (lwn 5 (ly [.own uU 3 11 [] u9.1,kI i] (znx rfl zhf.el (zgb _ _ _ _ _) pL) rfl (lw_e (ly [.sl Rp.byte [0] b,kI x] (zeZ none (some (kI x)) rfl zcd.el (zci _ _ _) ⟨rfl,rfl⟩ ⟨rfl,rfl⟩ uQ) rfl (lwn 3 (ly [.own uU 3 11 [] u9.1,kI i] (znx rfl zhf.el (zgb _ _ _ _ _) pO) rfl (lw_e (ly [.sl Rp.byte [0] b,kI x2] (zeZ (some (kI x2)) none rfl zcd.el (zci _ _ _) ⟨rfl,rfl⟩ ⟨rfl,rfl⟩ uR) rfl (lw_e (lx (lf1 8 (lc0 15 call8 (zmb uS))) l0))))))))))) (jb h fun g2 pK h=>jg [0,1,2,3,9,16] [] [(120,kB g2)] ?_ ?_))
   ·refine (rsI 4 115 pK ?_ ?_)<;>intro p8 pK
    ·cases pK;exact rgg
    refine jb pK fun rv8 uT pK=>?_;cases pK;exact (rl 2 [17,0] 16 call18 (zfW uT) rgg)
   refine jI h ?_ ?_<;>intro pU h
   ·cases h;exact jz'
   refine zP ?_;cases h;exact jy
  cases h;exact zap rfl lzz
 rcases q3 with u| u2
 ·refine zaV _ rfl (jp ?_);obtain rfl:=(sj h);exact zw lzz
 obtain rfl:=(sj h);exact zdO lzz
end Go.Proofs.YtnckiilakdkklaaGreat

/-
  The Go functions do what the plain functions say. No condition.
-/
import Derived.Test.YtnckiilakdkklaaGreatx1G5
set_option autoImplicit true
set_option relaxedAutoImplicit true
namespace Go.Proofs.YtnckiilakdkklaaGreat
open Tryz
open Go Go.RowKit
set_option linter.unusedVariables false
set_option maxRecDepth 100000
set_option maxHeartbeats 3200000
theorem zwc (h:zky uz sv uv b d=some r):wj 50 [.sl zi [0] sv,kI uv,.sl Rp.byte [0] b,kI d] [.rc zaj [] r]:=by
 refine fj ⟨[(8,.ptr 2 0)],[⟨2,114,(ziu r)⟩]⟩ 29 func50 ⟨⟨_,_,rfl,rfl,rfl,rfl,zAD⟩,trivial⟩ fun Xt=>?_
 unfold zky at h;refine jq [12] (jb h fun rv ui h=>jr (rl 3 [0] 11 call41 (zwb ui) rf) (jp (jI h ?_ ?_)))<;>intro uf h
 ·refine jr (rc 1 rfl (zQ (r:=zaj) [k8 rv] [] (⟨0,0,rv⟩:zu) rfl zsn rfl rfl) rf) ?_;cases h;exact zz (lks [12] [(12,2)] lzz)
 refine jr (rc 2 rfl (zkh (rk:=zm) (rv:=zg) 13 rfl) (rc 0 rfl (lbd [.sl zi [0] sv,.sl Rp.byte [0] b,.om zm zg 13 [] ([]:(List (zk×zc)))] zJa) (rfl' [14]))) (jb h fun wy uB h=>jr (rkl 5 [] ⟨[(8,.ptr 12 0),(23,.ag [.sl zi [0] sv,.sl Rp.byte [0] b,.om zm zg 13 [] ([]:(List (zk×zc)))]),(24,kI uv),(26,kI (b.length:Int)),(27,kI d)],[⟨12,114,[kI 0,kI 0,k8 0]⟩]⟩ (zla ⟨[(8,.ptr 12 0),(23,.ag [.sl zi [0] sv,.sl Rp.byte [0] b,.om zm zg 13 [0] wy.2]),(24,kI uv),(26,kI (b.length:Int)),(27,kI d)],[⟨12,114,[kI 0,kI 0,k8 0]⟩]⟩ (zld [.ag [.sl zi [0] sv,.sl Rp.byte [0] b,.om zm zg 13 [] ([]:(List (zk×zc)))],kI uv,kI 0,kI (b.length:Int),kI d] [(13,2)] [0] 14 [] rfl call66 (znA uB) rfl rfl (by kernel_rfl) rfl rfl rfl) rfl (by kernel_rfl) (by kernel_rfl) ⟨⟨_,rfl,zv rfl⟩,⟨_,rfl,zpN ⟨zv rfl,zv rfl,zhi 0 rfl,trivial⟩⟩,⟨_,rfl,zv rfl⟩,⟨_,rfl,zv rfl⟩,⟨_,rfl,zv rfl⟩,trivial⟩ ⟨⟨_,rfl,rfl,rfl,⟨zv rfl,zv rfl,zv rfl,trivial⟩⟩,trivial⟩ rf)) ?_);cases h;exact zz (lks [12] [(12,2)] lzz)
theorem zkx (h:zgH uz sv uv b d=some r):wj 28 [.sl zi [0] sv,kI uv,.sl Rp.byte [0] b,kI d] [kI r.1,k8 r.2]:=by
 refine fi 20 func28 fun Xt=>?_
 unfold zgH at h;refine jp (jb h fun rv ui h=>jr (rl 4 [0] 9 call50 (zwc ui) (rfl' [11])) (jd [8,9] [] zbo (by exact l0) ?_));cases h;exact zz lzz
theorem zoj (h:zhx uz sv uv av b d=some r):wj 24 [.sl zi [0] sv,kI uv,.sl Rp.byte [0] av,.sl Rp.byte [0] b,kI d] [k8 r]:=by
 refine fi 35 func24 fun Xt=>?_
 unfold zhx at h;refine jp (jb h fun rv ui h=>jr (rl 4 [0] 9 call28 (zkx ui) rf) (jp (jI h ?_ ?_)))<;>intro uf h
 ·cases h;exact jz
 refine jb h fun wo uo h=>jr (rl 4 [0] 9 call28 (zkx uo) rf) ?_;cases h;exact jz
theorem zBM (h:zrs uz sv uv b d=some r):wj 10 [.sl zi [0] sv,kI uv,.sl Rp.byte [0] b,kI d] [.ag (zY 3 [4] 5 [] r.1),k8 r.2]:=by
 refine fj ⟨[(8,.ptr 2 0),(9,k8 r.2)],[⟨2,35,(zY 3 [4] 5 [] r.1)⟩]⟩ 28 func10 ⟨⟨_,_,rfl,rfl,rfl,zBV⟩,rfl,trivial⟩ fun Xt=>?_
 unfold zrs at h;refine jq [16] (jb h fun rv ui h=>jr (rl 4 [0] 15 call28 (zkx ui) rf) (jp (jI h ?_ ?_)))<;>intro uf h
 ·refine jr (ra 0 [] rfl (zhv [] [kN,kN] rfl zJT rfl) rfl rf) ?_;cases h;exact zz (lks [16] [(16,2)] lw)
 refine jb h fun wo uo h=>jr (rl 3 [0] 15 call29 (ztn uo) rf) ?_;cases h;exact zz (lks [16] [(16,2),(18,3),(20,5),(19,4)] lzz)
theorem zqT (h:zjO uz sv uv av b d=some r):wj 8 [.sl zi [0] sv,kI uv,.sl Rp.byte [0] av,.sl Rp.byte [0] b,kI d] [.own Rp.byte 5 2 [] r.1,k8 r.2]:=by
 refine fi 26 func8 fun Xt=>?_
 unfold zjO at h;refine jp (jb h fun rv ui h=>jr (rl 5 [0] 11 call24 (zoj ui) rf) (jp (jI h ?_ ?_)))<;>intro uf h
 ·refine jp ?_;cases h;exact zz lw
 refine jb h fun wo uo h=>jr (rc 2 rfl (zdE [.sl Rp.byte [0] av,.sl Rp.byte [0] b] 13 [0] ([av,b]:(List (List UInt8))) rfl zvK rfl rfl rfl rfl) (rl 0 [13,0] 12 call25 (zfD uo) rf)) ?_;cases h;exact zz (lks [] [(14,2)] lzz)
theorem zvR (h:ziA uz sv uv av b d=some r):wj 19 [.sl zi [0] sv,kI uv,.sl Rp.byte [0] av,.sl Rp.byte [0] b,kI d] [kI r.1,k8 r.2]:=by
 refine fi 48 func19 fun Xt=>?_
 unfold ziA at h;refine jp (jb h fun rv ui h=>jr (rl 5 [0] 9 call24 (zoj ui) rf) (jp (jI h ?_ ?_)))<;>intro uf h
 ·cases h;exact jz
 refine jb h fun x ut h=>jr (rx 2 [0] zfZ.el ut rfl rfl (rc 0 rfl (lde zi [0] x zsC) (ral 1 [11] [.ptr 11 0,.rc zi [0] x] rfl (zjp (r:=zi) (b:=⟨11,65,[kS [],kN]⟩) (off:=0) (zK [0] x) rfl sizeOf65 rfl rfl rfl rfl) rfl rf))) (jb h fun wo uo h=>jr (rl 2 [0] 10 call43 (zqU uo) rf) (jb h fun wy uB h=>jr (rl 2 [0] 11 call44 (zol uB) rf) (zp (jb h fun q ul h=>jL ul [13,34,35] [] (fun s=>[(10,kI s.1),(36,kI s.2)]) (fun o=> .x 0 ⟨[(10,kI o)],[]⟩) ?_ lzz ?_))))
 ·clear h;intro s o h;obtain ⟨gone,v⟩:=s;replace h:zeg wo wy gone v=some o:=h;unfold zeg at h;refine jp (jI h ?_ ?_)<;>intro ug h
  ·refine zp (jb h fun x2 uw h=>jr (ra 0 [.own zg 106 13 [] wy,kI v] rfl (zhw rfl zjs.el (zaS _ _ _ _ _) uw) rfl (rc 0 rfl (lde zg [13] x2 zli) (rfl' [15]))) (jr (ra 3 [.om wh Rp.bool 12 [] wo,kI x2.Field] rfl (zqR (rk:=wh) (rv:=Rp.bool) (m:=wo) (k:=x2.Field) (kB ((mget wo x2.Field).getD false)) rfl zCB (zdw rfl rfl) (ztw rfl rfl rfl)) rfl rf) (jI h ?_ ?_)))<;>intro uj h
   ·refine jp (zJ ?_);cases h;exact jy
   refine zJ ?_;cases h;exact jy
  cases h;exact zad rfl lzz
 refine zao _ rfl ?_;cases h;exact jz
theorem znm (h:zek uz=some r):wj 6 [] [kB r]:=by
 refine fi 39 func6 fun Xt=>?_
 unfold zek at h;refine jp (jr (rc 0 rfl (zQ (r:=zf) [kS [97],kI 1,kI 3] [] (⟨[97],1,3,false,false,0⟩:zd) rfl zJW rfl rfl) (rc 0 rfl (lbs1 11 [] (⟨[97],1,3,false,false,0⟩:zd) zif) (rc 0 rfl (lbd [kS [109],.own zf 62 11 [] ([(⟨[97],1,3,false,false,0⟩:zd)]:(List zd))] zJU) (rc 0 rfl (zx.lw (lbs1 12 [11] (⟨[109],([(⟨[97],1,3,false,false,0⟩:zd)]:(List zd))⟩:ze) zfZ) (.l (zgM zi [11] (⟨[109],([(⟨[97],1,3,false,false,0⟩:zd)]:(List zd))⟩:ze) [kS [109],.own zf 62 11 [] ([(⟨[97],1,3,false,false,0⟩:zd)]:(List zd))] rfl rfl))) rf)))) (jb h fun rv ui h=>jr (rc 1 rfl (zdE [.lf (.int .u8 8),.lf (.int .u8 1)] 13 [] [(8:UInt8),(1:UInt8)] rfl zcr rfl rfl rfl rfl) (rc 0 rfl (zdE [.lf (.int .u8 8),.lf (.int .u8 2)] 14 [] [(8:UInt8),(2:UInt8)] rfl zcr rfl rfl rfl rfl) (rl 0 [12,11,13,14] 13 call8 (zqT ui) rf))) (jb h fun wo uo h=>jr (rc 1 rfl (zdE [.lf (.int .u8 8),.lf (.int .u8 1)] 16 [] [(8:UInt8),(1:UInt8)] rfl zcr rfl rfl rfl rfl) (rc 0 rfl (zdE [.lf (.int .u8 8),.lf (.int .u8 2)] 17 [] [(8:UInt8),(2:UInt8)] rfl zcr rfl rfl rfl rfl) (rl 0 [12,11,16,17] 16 call19 (zvR uo) rf))) (jb h fun g uh h=>jg [] [] [(0,kB g)] ?_ ?_))))
 ·refine (rsI 7 30 uh ?_ ?_)<;>intro uf uh
  ·refine (rsI 4 34 uh ?_ ?_)<;>intro ug uh
   ·refine jb uh fun wy uB uh=>?_;cases uh;exact (rc 1 rfl (zdE [.lf (.int .u8 8),.lf (.int .u8 1),.lf (.int .u8 8),.lf (.int .u8 2)] 18 [] [(8:UInt8),(1:UInt8),(8:UInt8),(2:UInt8)] rfl zcr rfl rfl rfl rfl) (rl 0 [15,18] 17 call18 (znN uB) rgg))
   cases uh;exact rgg
  cases uh;exact rgg
 obtain rfl:=(sj h);exact zz lzz
theorem zjS (h:zcB uz sv uv av b d=some r):wj 3 [.sl zi [0] sv,kI uv,.sl Rp.byte [0] av,.sl Rp.byte [0] b,kI d] [kB r]:=by
 refine fi 125 func3 fun Xt=>?_
 unfold zcB at h;refine jp (jb h fun rv ui h=>jr (rl 0 [1] 9 call6 (znm ui) rf) (jI h ?_ ?_))<;>intro uf h
 ·refine jp ?_;obtain rfl:=(sj h);exact zz lzz
 refine jb h fun wo uo h=>jg [0,1,2,3,4] [] [(30,kB ((!wo)|| (decide ((IntKind.i64.wrap ((av.length:Int)+(b.length:Int)))>1500))))] ?_ ?_
 ·refine (rl 1 [0] 9 call7 (zpm uo) (rsl 2 [] 23 (!wo) ?_ ?_))<;>intro ug
  · exact (rbl [] 30 true rfl (by grind))
  exact (rbl [] 30 (decide ((IntKind.i64.wrap ((av.length:Int)+(b.length:Int)))>1500)) rfl (by grind))
 refine jI h ?_ ?_<;>intro uj h
 ·refine jp ?_;obtain rfl:=(sj h);exact zz lzz
 refine jb h fun wy uB h=>jr (rl 5 [0] 9 call8 (zqT uB) rf) (jb h fun rv4 uM h=>jr (rl 4 [0] 10 call9 (zgl uM) rf) (jp (jb h fun p uH h=>jn (.N [0,1,2,3,4,11,12] [] [(14,kI p)] []) ?_ ?_)))
 ·replace h:=uH;refine jI h ?_ ?_<;>intro uk h
  ·refine jb h fun rv5 uW h=>jr (rl 4 [0] 10 call9 (zgl uW) rf) ?_;cases h;exact zL lzz
  cases h;exact zL lzz
 refine zcQ (jp (jI h ?_ ?_))<;>intro uq h
 ·refine jg [] [] [(10,kB (((IntKind.i64.wrap wy.2)==p)&&((wy.1.length:Int)==0)))] ?_ ?_
  ·refine (rsl 5 [] 64 ((IntKind.i64.wrap wy.2)==p) ?_ ?_)<;>intro ur
   · exact (rbl [] 10 ((wy.1.length:Int)==0) rfl (by grind))
   exact (rbl [] 10 false rfl (by grind))
  cases h;exact zz lzz
 refine jb h fun rv6 vc h=>jr (rl 4 [0,11] 10 call10 (zBM vc) (rfl' [16])) (jb h fun rv7 vd h=>jb h fun rv8 vh h=>jb h fun rv9 wd h=>jr (rl 5 [0] 15 call12 (zfH vd) (rl 3 [0] 19 call12 (zfH vh) (rc 0 rfl (lcz [.sl zi [0] sv,kI uv,.ag (zG 18 [19] 20 [] rv7),.ag (zG 22 [23] 24 [] rv8)] 23 call11 (znV wd) (.k (.k (.c (zT _) (.c (zT _) .n))))) (rfl' [28])))) (jb h fun g uh h=>jn (.n ⟨[(10,kB g)],[]⟩) ?_ (zcQ ?_)))
 ·rcases zgx uh with ⟨uy,uh⟩| ⟨uy,uh⟩
  ·rcases zgx uh with ⟨uC,uh⟩| ⟨uC,uh⟩
   ·refine jb uh fun rv10 vx uh=>?_;rcases zgx uh with ⟨uF,uh⟩| ⟨uF,uh⟩
    ·refine jb uh fun rv11 vF uh=>jb uh fun rv12 vG uh=>?_;rcases zgx uh with ⟨uI,uh⟩| ⟨uI,uh⟩
     ·refine jb uh fun rv13 we uh=>jb uh fun rv14 wg uh=>?_;cases uh;exact jd [10] [] zbo (by exact (lwn 6 (dg 93 uy (lwn 9 (dg 103 uC (lwn 4 (lx (lf1 13 (lcd [.sl zi [0] sv,kI uv,.own Rp.byte 5 11 [] wy.1,kI d] 27 call13 (zhl vx))) (lw_e (dg 110 uF (lwn 3 (lx (lf1 12 (lcd [.sl zi [0] sv,kI uv,.own Rp.byte 5 11 [] wy.1] 27 call12 (zfH vF))) (lx (ldw 28 40 (zak [0,18,19,20,22,23,24,26] 27 [] rv9) znH) (lx (lf1 14 (lcz [.ag (zG 30 [31] 32 [] rv11),.ag (zak [0,18,19,20,22,23,24,26] 27 [] rv9)] 31 call14 (zgw vG) (.c (zT _) (.c (zT _) .n)))) (lw_e (dg 118 uI (lx (ldw 16 35 (zY 13 [14] 15 [] rv6.1) zBV) (lx (lf1 15 (lcz [.ag (zY 13 [14] 15 [] rv6.1)] 31 call15 (zpS we) (.c (zT _) .n))) (lx (ldw 28 40 (zak [0,18,19,20,22,23,24,26] 27 [] rv9) znH) (lx (lf1 14 (lcz [.ag (zG 34 [35,13,14,15] 36 [] rv13),.ag (zak [0,18,19,20,22,23,24,26] 27 [] rv9)] 35 call14 (zgw wg) (.c (zT _) (.c (zT _) .n)))) l0))))))))))))))))))) (zL lzz)
     cases uh;exact jd [10] [] zbo (by exact (lwn 6 (dg 93 uy (lwn 9 (dg 103 uC (lwn 4 (lx (lf1 13 (lcd [.sl zi [0] sv,kI uv,.own Rp.byte 5 11 [] wy.1,kI d] 27 call13 (zhl vx))) (lw_e (dg 110 uF (lwn 3 (lx (lf1 12 (lcd [.sl zi [0] sv,kI uv,.own Rp.byte 5 11 [] wy.1] 27 call12 (zfH vF))) (lx (ldw 28 40 (zak [0,18,19,20,22,23,24,26] 27 [] rv9) znH) (lx (lf1 14 (lcz [.ag (zG 30 [31] 32 [] rv11),.ag (zak [0,18,19,20,22,23,24,26] 27 [] rv9)] 31 call14 (zgw vG) (.c (zT _) (.c (zT _) .n)))) (lw_e (dg 118 uI l0))))))))))))))) (zL lzz)
    cases uh;exact jd [10] [] zbo (by exact (lwn 6 (dg 93 uy (lwn 9 (dg 103 uC (lwn 4 (lx (lf1 13 (lcd [.sl zi [0] sv,kI uv,.own Rp.byte 5 11 [] wy.1,kI d] 27 call13 (zhl vx))) (lw_e (dg 110 uF l0))))))))) (zL lzz)
   cases uh;exact jd [10] [] zbo (by exact (lwn 6 (dg 93 uy (lwn 9 (dg 103 uC l0))))) (zL lzz)
  cases uh;exact jd [10] [] zbo (by exact (lwn 6 (dg 93 uy l0))) (zL lzz)
 obtain rfl:=(sj h);exact zz lzz
end Go.Proofs.YtnckiilakdkklaaGreat

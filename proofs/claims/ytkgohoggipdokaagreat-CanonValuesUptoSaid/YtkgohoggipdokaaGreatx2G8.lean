/-
  The Go functions do what the plain functions say. No condition.
-/
import Derived.Test.YtkgohoggipdokaaGreatx2G7
set_option autoImplicit true
set_option relaxedAutoImplicit true
namespace Go.Proofs.YtkgohoggipdokaaGreat
open Tryz
open Go Go.RowKit
set_option linter.unusedVariables false
set_option maxRecDepth 100000
set_option maxHeartbeats 3200000
theorem zsa (h:zhL ug sv uo x=some r):vT 12 [.sl zh [0] sv,kI uo,.rc zi [0] x] [.own Rp.byte 5 2 [] r.1,k8 r.2]:=by
 refine fi 22 func12 fun Xt=>?_
 unfold zhL at h;refine jr (rc 0 rfl (lbx 16 [0] (zaM [0] x)) rf) (jb h fun rv pY h=>jr (rc 3 rfl (lw0 15 call30 (zux pY) (.k (.k (.l (zbh [0] x))))) rf) (jp (jI h ?_ ?_)))<;>intro pV h
 ·refine jp ?_;cases h;exact zz lw
 refine jq [17] (jb h fun vV ud h=>jr (rc 3 rfl (zv.le (ins':=[(.tmp 9,.ptr 17 0),(.tmp 17,.sl zh [0] sv),(.tmp 18,kI uo),(.tmp 19,.ag (zbC [0] x))]) (zv.leB (bx2:=[⟨17,76,[kN,kI 0]⟩]) (zgh (args:=[.tmp 9,.tmp 17,.tmp 18,.tmp 19]) [.ptr 17 0,.sl zh [0] sv,kI uo,.rc zi [0] x] [⟨17,76,[.own (Rp.list Rp.byte) 35 18 [] [],kI 0]⟩] [(17,800000),(18,800001)] [0] 17 [18] rfl call31 (zlM ud) rfl rfl rfl rfl rfl rfl rfl rfl) ⟨⟨rfl,rfl,⟨zpq (Rp.list Rp.byte) 35 18 [] rfl,vU _,trivial⟩⟩,trivial⟩) ⟨⟨rfl,vU _⟩,⟨rfl,vU _⟩,⟨rfl,vU _⟩,⟨rfl,zbh [0] x⟩,trivial⟩) rf) (jb h fun v8 uj h=>jr (rc 0 rfl (zv.conv (ins:=[(.tmp 9,.ptr 17 0)]) (zv.boxes (bxs:=[⟨17,76,(zj 18 [0,19] vV)⟩]) (lcd (args:=[.tmp 9]) [.qp zfv [17,18,0,19] (some vV)] 18 call32 (zib uj))) ⟨⟨rfl,zFm zfv [17,18,0,19] vV ⟨17,76,(zj 18 [0,19] vV)⟩ xy rfl rfl⟩,trivial⟩) rf) ?_));cases h;exact zz (lks [] [(20,2)] lzz)
theorem znc (h:zeH ug=some r):vT 8 [] [kB r]:=by
 refine fi 25 func8 fun Xt=>?_
 unfold zeH at h;refine jp (jr (rc 0 rfl (zak (r:=zd) [kS [97],kI 1,kI 3,kB true] [] (⟨[97],1,3,true,false,0⟩:zb) rfl zHn rfl rfl) (rc 0 rfl (lbs1 11 [] (⟨[97],1,3,true,false,0⟩:zb) zmr) (rc 0 rfl (lbd [kS [109],.own zd 47 11 [] ([(⟨[97],1,3,true,false,0⟩:zb)]:(List zb))] zHm) (rc 0 rfl (zv.lw (lbs1 12 [11] (⟨[109],([(⟨[97],1,3,true,false,0⟩:zb)]:(List zb))⟩:ze) zgU) (.l (zmD zh [11] (⟨[109],([(⟨[97],1,3,true,false,0⟩:zb)]:(List zb))⟩:ze) [kS [109],.own zd 47 11 [] ([(⟨[97],1,3,true,false,0⟩:zb)]:(List zb))] rfl rfl))) rf)))) (jb h fun rv pY h=>jr (rc 1 rfl (zgv [kU 1,kU 300] 13 [] ([1,300]:(List Int)) rfl zuq rfl rfl rfl rfl) (ra 0 [kI 1,.own vS 72 13 [] ([1,300]:(List Int))] rfl (zjJ [kI 1,.own vS 72 13 [] ([1,300]:(List Int))] [kI 1,.own vS 72 13 [] ([1,300]:(List Int)),kN,kN] rfl zHk rfl) rfl (rc 0 rfl (zv.lw (ys:=[.ag [kI 1,.own vS 72 13 [] ([1,300]:(List Int)),kN,kN]]) (lbs1 14 [13] (⟨1,([1,300]:(List Int)),[],[]⟩:za) zup) (.l (zFC (b:= .ag [kI 1,.own vS 72 13 [] ([1,300]:(List Int)),.sl Rp.str [] [],.sl zi [] []]) (zCK ⟨vU _,vU _,zgm _ _,zgm _ _,trivial⟩) (zmD zf [13] (⟨1,([1,300]:(List Int)),[],[]⟩:za) [kI 1,.own vS 72 13 [] ([1,300]:(List Int)),.sl Rp.str [] [],.sl zi [] []] (by rw [zt]<;>rfl) rfl)))) (ra 0 [.own zf 51 14 [13] ([(⟨1,([1,300]:(List Int)),[],[]⟩:za)]:(List za))] rfl (zjJ [.own zf 51 14 [13] ([(⟨1,([1,300]:(List Int)),[],[]⟩:za)]:(List za))] [.own zf 51 14 [13] ([(⟨1,([1,300]:(List Int)),[],[]⟩:za)]:(List za)),kN] rfl zFK rfl) rfl (rc 0 rfl (lcz [.own zh 71 12 [11] ([(⟨[109],([(⟨[97],1,3,true,false,0⟩:zb)]:(List zb))⟩:ze)]:(List ze)),kI 0,.ag [.own zf 51 14 [13] ([(⟨1,([1,300]:(List Int)),[],[]⟩:za)]:(List za)),kN]] 13 call12 (zsa pY) (.k (.k (.c (zbu _) .n)))) rf))))) (jb h fun g pW h=>jg [] [] [(0,kB g)] ?_ ?_)))
 ·refine (rsI 4 20 pW ?_ ?_)<;>intro pV pW
  ·refine jb pW fun vV ud pW=>?_;cases pW;exact (rc 1 rfl (zgv [.lf (.int .u8 10),.lf (.int .u8 3),.lf (.int .u8 1),.lf (.int .u8 172),.lf (.int .u8 2)] 16 [] [(10:UInt8),(3:UInt8),(1:UInt8),(172:UInt8),(2:UInt8)] rfl zcd rfl rfl rfl rfl) (rl 0 [15,16] 15 call16 (ziO ud) rgg))
  cases pW;exact rgg
 obtain rfl:=(sj h);exact zz lzz
theorem zjx (h:zcH ug sv f v=some r):vT 4 [.sl zh [0] sv,.rc zd [0] f,.rc zf [0] v] [kB r]:=by
 refine fi 74 func4 fun Xt=>?_
 unfold zcH at h;refine jr (ral 1 [11] [.rc zf [0] v] rfl (zhl 12 (zB [0] v) [0] rfl rfl rfl (by rw [zt]<;>rfl) rfl) rfl rf) (jb h fun rv pY h=>jr (rl 0 [1] 11 call8 (znc pY) rf) (jI h ?_ ?_))<;>intro pV h
 ·refine jp ?_;obtain rfl:=(sj h);exact zz lzz
 refine jb h fun g pW h=>jg [0,4,5] [11,12] [(19,kB g)] ?_ ?_
 ·refine jb pW fun vV ud pW=>(rl 1 [0] 11 call9 (zoR ud) (rsI 2 15 pW ?_ ?_))<;>intro pX pW
  ·cases pW;exact (rel [] lzz)
  refine jb pW fun v8 uj pW=>?_;cases pW;exact (rc 1 rfl (lw0 11 call17 (zkF uj) (.c (zam [0] v) (.k .n))) (rel [] lzz))
 refine jI h ?_ ?_<;>intro pZ h
 ·refine jp ?_;obtain rfl:=(sj h);exact zz lzz
 refine jb h fun rv4 uA h=>jr (lb 1 zd [] f (rc 1 rfl (lcz [.sl zh [0] sv,.rc zd [] f,.ag (zB [0] v)] 11 call18 (zsP uA) (.k (.k (.c (zt _) .n)))) rf)) (jb h fun rv5 uK h=>jr (rc 1 rfl (lw0 12 call19 (zlS uK) (.l (zam [0] v))) (rfl' [17])) (jb h fun rv6 uY h=>jr (rl 1 [0] 16 call20 (zni uY) rf) (jI h ?_ ?_)))<;>intro p9 h
 ·refine jg [] [] [(6,kB (((IntKind.i64.wrap rv4.2)==9)&&((rv4.1.length:Int)==0)))] ?_ ?_
  ·refine (rsl 4 [] 35 ((IntKind.i64.wrap rv4.2)==9) ?_ ?_)<;>intro uh
   · exact (rbl [] 6 ((rv4.1.length:Int)==0) rfl (by grind))
   exact (rbl [] 6 false rfl (by grind))
  cases h;exact zz lzz
 refine jb h fun g2 uc h=>jg [0,4,7,8,9] [11,17] [(54,kB g2)] ?_ ?_
 ·refine (rsI 4 43 uc ?_ ?_)<;>intro ui uc
  ·cases uc;exact (rel [] lzz)
  refine (rsI 5 48 uc ?_ ?_)<;>intro uq uc
  ·cases uc;exact (rel [] lzz)
  refine jb uc fun rv7 uZ uc=>?_;cases uc;exact (lb 1 zd [] f (rc 1 rfl (lcz [.sl zh [0] sv,.rc zd [] f,.ag (zP [0] [0] 15 [16,0] rv5)] 16 call21 (znF uZ) (.k (.k (.c (zt _) .n)))) (rel [] lzz)))
 refine jI h ?_ ?_<;>intro uv h
 ·refine jg [] [] [(6,kB (((IntKind.i64.wrap rv4.2)==12)&&((rv4.1.length:Int)==0)))] ?_ ?_
  ·refine (rsl 4 [] 58 ((IntKind.i64.wrap rv4.2)==12) ?_ ?_)<;>intro ut
   · exact (rbl [] 6 ((rv4.1.length:Int)==0) rfl (by grind))
   exact (rbl [] 6 false rfl (by grind))
  cases h;exact zz lzz
 refine jb h fun g3 uk h=>jg [] [] [(6,kB g3)] ?_ ?_
 ·refine (rsI 4 66 uk ?_ ?_)<;>intro uC uk
  ·refine jb uk fun rv8 u0 uk=>jb uk fun rv9 vg uk=>?_;cases uk;exact (lb 2 zd [] f (rc 1 rfl (lcz [.sl zh [0] sv,.rc zd [] f,.ag (zP [0] [0] 15 [16,0] rv5)] 16 call22 (znk u0) (.k (.k (.c (zt _) .n)))) (rl 0 [13,18] 17 call16 (ziO vg) rgg)))
  cases uk;exact rgg
 obtain rfl:=(sj h);exact zz lzz
end Go.Proofs.YtkgohoggipdokaaGreat

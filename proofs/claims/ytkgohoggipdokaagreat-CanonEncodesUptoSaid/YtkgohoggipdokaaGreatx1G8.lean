/-
  The Go functions do what the plain functions say. No condition.
-/
import Derived.Test.YtkgohoggipdokaaGreatx1G7
set_option autoImplicit true
set_option relaxedAutoImplicit true
namespace Go.Proofs.YtkgohoggipdokaaGreat
open Tryz
open Go Go.RowKit
set_option linter.unusedVariables false
set_option maxRecDepth 100000
set_option maxHeartbeats 3200000
theorem zmR (h:zgI uh sv ui x=some r):vT 12 [.sl zi [0] sv,kI ui,.rc zh [0] x] [.own Rp.byte 5 2 [] r.1,k8 r.2]:=by
 refine fi 22 func12 fun Xt=>?_
 unfold zgI at h;refine jr (rc 0 rfl (lbx 16 [0] (zas [0] x)) rf) (jb h fun rv pY h=>jr (rc 3 rfl (lw0 15 call30 (zpe pY) (.k (.k (.l (zZ [0] x))))) rf) (jp (jI h ?_ ?_)))<;>intro pV h
 ·refine jp ?_;cases h;exact zz lw
 refine jq [17] (jb h fun vV ud h=>jr (rc 3 rfl (zu.le (ins':=[(.tmp 9,.ptr 17 0),(.tmp 17,.sl zi [0] sv),(.tmp 18,kI ui),(.tmp 19,.ag (zbk [0] x))]) (zu.leB (bx2:=[⟨17,76,[kN,kI 0]⟩]) (zgg (args:=[.tmp 9,.tmp 17,.tmp 18,.tmp 19]) [.ptr 17 0,.sl zi [0] sv,kI ui,.rc zh [0] x] [⟨17,76,[.own (Rp.list Rp.byte) 35 18 [] [],kI 0]⟩] [(17,800000),(18,800001)] [0] 17 [18] rfl call31 (zhw ud) rfl rfl rfl rfl rfl rfl rfl rfl) ⟨⟨rfl,rfl,⟨zpw (Rp.list Rp.byte) 35 18 [] rfl,vU _,trivial⟩⟩,trivial⟩) ⟨⟨rfl,vU _⟩,⟨rfl,vU _⟩,⟨rfl,vU _⟩,⟨rfl,zZ [0] x⟩,trivial⟩) rf) (jb h fun wa ul h=>jr (rc 0 rfl (zu.conv (ins:=[(.tmp 9,.ptr 17 0)]) (zu.boxes (bxs:=[⟨17,76,(zj 18 [0,19] vV)⟩]) (lcd (args:=[.tmp 9]) [.qp zhd [17,18,0,19] (some vV)] 18 call32 (znc ul))) ⟨⟨rfl,zGR zhd [17,18,0,19] vV ⟨17,76,(zj 18 [0,19] vV)⟩ xy rfl rfl⟩,trivial⟩) rf) ?_));cases h;exact zz (lks [] [(20,2)] lzz)
theorem zuC (h:zjV uh sv ui x=some r):vT 13 [.sl zi [0] sv,kI ui,.rc zh [0] x] [kI r.1,k8 r.2]:=by
 refine fi 23 func13 fun Xt=>?_
 unfold zjV at h;refine jr (rc 0 rfl (lbx 11 [0] (zas [0] x)) rf) (jb h fun rv pY h=>jr (rc 3 rfl (lw0 10 call30 (zpe pY) (.k (.k (.l (zZ [0] x))))) rf) (jp (jI h ?_ ?_)))<;>intro pV h
 ·cases h;exact jz
 refine jq [12] (jb h fun vV ud h=>jr (rc 3 rfl (zu.le (ins':=[(.tmp 9,.ptr 12 0),(.tmp 17,.sl zi [0] sv),(.tmp 18,kI ui),(.tmp 19,.ag (zbk [0] x))]) (zu.leB (bx2:=[⟨12,76,[kN,kI 0]⟩]) (zgg (args:=[.tmp 9,.tmp 17,.tmp 18,.tmp 19]) [.ptr 12 0,.sl zi [0] sv,kI ui,.rc zh [0] x] [⟨12,76,[.own (Rp.list Rp.byte) 35 13 [] [],kI 0]⟩] [(12,800000),(13,800001)] [0] 12 [13] rfl call31 (zhw ud) rfl rfl rfl rfl rfl rfl rfl rfl) ⟨⟨rfl,rfl,⟨zpw (Rp.list Rp.byte) 35 13 [] rfl,vU _,trivial⟩⟩,trivial⟩) ⟨⟨rfl,vU _⟩,⟨rfl,vU _⟩,⟨rfl,vU _⟩,⟨rfl,zZ [0] x⟩,trivial⟩) rf) ?_);cases h;exact jz
theorem zng (h:zeH uh=some r):vT 8 [] [kB r]:=by
 refine fi 25 func8 fun Xt=>?_
 unfold zeH at h;refine jp (jr (rc 0 rfl (zai (r:=ze) [kS [97],kI 1,kI 3,kB true] [] (⟨[97],1,3,true,false,0⟩:zb) rfl zHu rfl rfl) (rc 0 rfl (lbs1 11 [] (⟨[97],1,3,true,false,0⟩:zb) zms) (rc 0 rfl (lbd [kS [109],.own ze 47 11 [] ([(⟨[97],1,3,true,false,0⟩:zb)]:(List zb))] zHt) (rc 0 rfl (zu.lw (lbs1 12 [11] (⟨[109],([(⟨[97],1,3,true,false,0⟩:zb)]:(List zb))⟩:zd) zgU) (.l (zlb zi [11] (⟨[109],([(⟨[97],1,3,true,false,0⟩:zb)]:(List zb))⟩:zd) [kS [109],.own ze 47 11 [] ([(⟨[97],1,3,true,false,0⟩:zb)]:(List zb))] rfl rfl))) rf)))) (jb h fun rv pY h=>jr (rc 1 rfl (zgt [kU 1,kU 300] 13 [] ([1,300]:(List Int)) rfl zuv rfl rfl rfl rfl) (ra 0 [kI 1,.own vS 72 13 [] ([1,300]:(List Int))] rfl (zmc [kI 1,.own vS 72 13 [] ([1,300]:(List Int))] [kI 1,.own vS 72 13 [] ([1,300]:(List Int)),kN,kN] rfl zHr rfl) rfl (rc 0 rfl (zu.lw (ys:=[.ag [kI 1,.own vS 72 13 [] ([1,300]:(List Int)),kN,kN]]) (lbs1 14 [13] (⟨1,([1,300]:(List Int)),[],[]⟩:za) zwc) (.l (zFI (b:= .ag [kI 1,.own vS 72 13 [] ([1,300]:(List Int)),.sl Rp.str [] [],.sl zh [] []]) (zCR ⟨vU _,vU _,zgl _ _,zgl _ _,trivial⟩) (zlb zf [13] (⟨1,([1,300]:(List Int)),[],[]⟩:za) [kI 1,.own vS 72 13 [] ([1,300]:(List Int)),.sl Rp.str [] [],.sl zh [] []] (by rw [zF]<;>rfl) rfl)))) (ra 0 [.own zf 51 14 [13] ([(⟨1,([1,300]:(List Int)),[],[]⟩:za)]:(List za))] rfl (zmc [.own zf 51 14 [13] ([(⟨1,([1,300]:(List Int)),[],[]⟩:za)]:(List za))] [.own zf 51 14 [13] ([(⟨1,([1,300]:(List Int)),[],[]⟩:za)]:(List za)),kN] rfl zHp rfl) rfl (rc 0 rfl (lcz [.own zi 71 12 [11] ([(⟨[109],([(⟨[97],1,3,true,false,0⟩:zb)]:(List zb))⟩:zd)]:(List zd)),kI 0,.ag [.own zf 51 14 [13] ([(⟨1,([1,300]:(List Int)),[],[]⟩:za)]:(List za)),kN]] 13 call12 (zmR pY) (.k (.k (.c (zaQ _) .n)))) rf))))) (jb h fun g pW h=>jg [] [] [(0,kB g)] ?_ ?_)))
 ·refine (rsI 4 20 pW ?_ ?_)<;>intro pV pW
  ·refine jb pW fun vV ud pW=>?_;cases pW;exact (rc 1 rfl (zgt [.lf (.int .u8 10),.lf (.int .u8 3),.lf (.int .u8 1),.lf (.int .u8 172),.lf (.int .u8 2)] 16 [] [(10:UInt8),(3:UInt8),(1:UInt8),(172:UInt8),(2:UInt8)] rfl zcd rfl rfl rfl rfl) (rl 0 [15,16] 15 call16 (ziR ud) rgg))
  cases pW;exact rgg
 obtain rfl:=(sj h);exact zz lzz
theorem zjl (h:zcl uh sv ui x=some r):vT 3 [.sl zi [0] sv,kI ui,.rc zh [0] x] [kB r]:=by
 refine fi 87 func3 fun Xt=>?_
 unfold zcl at h;refine jr (rc 0 rfl (lbx 11 [0] (zas [0] x)) rf) (jb h fun rv pY h=>jr (rl 0 [1] 10 call8 (zng pY) rf) (jI h ?_ ?_))<;>intro pV h
 ·refine jp ?_;obtain rfl:=(sj h);exact zz lzz
 refine jb h fun g pW h=>jg [0,1,5] [11] [(23,kB g)] ?_ ?_
 ·refine jb pW fun vV ud pW=>(rl 1 [0] 10 call9 (zoV ud) (rsI 2 19 pW ?_ ?_))<;>intro pX pW
  ·cases pW;exact (rel [] lzz)
  refine jb pW fun wa ul pW=>?_;cases pW;exact (rc 1 rfl (lw0 10 call10 (znB ul) (.c (zZ [0] x) (.k .n))) (rel [] lzz))
 refine jI h ?_ ?_<;>intro pZ h
 ·refine jp ?_;obtain rfl:=(sj h);exact zz lzz
 refine jb h fun rv4 uB h=>jr (rc 1 rfl (lw0 10 call11 (zpr uB) (.l (zZ [0] x))) (rfl' [16])) (jb h fun rv5 uK h=>jr (rc 3 rfl (lw0 15 call12 (zmR uK) (.k (.k (.l (zZ [0] x))))) rf) (jb h fun rv6 uY h=>jr (rc 3 rfl (lw0 16 call13 (zuC uY) (.k (.k (.l (zZ [0] x))))) rf) (jb h fun rv7 uZ h=>jr (rc 3 rfl (zu.lw (lbs1 18 [13,14,0,15] rv4 zwd) (.l (zlb zh [13,14,0,15] rv4 (zaq 13 [14,0] 15 [] rv4) (by rw [zaQ]<;>rfl) rfl))) (rl 0 [0,18,13,14,15] 17 call14 (zoZ uZ) rf)) (jp (jI h ?_ ?_)))))<;>intro p9 h
 ·refine jg [] [] [(6,kB (((IntKind.i64.wrap rv5.2)==rv7)&&(((IntKind.i64.wrap rv6.2)==rv7)&&(((rv5.1.length:Int)==0)&&(rv6.1==0)))))] ?_ ?_
  ·refine (rsl 5 [] 51 ((IntKind.i64.wrap rv5.2)==rv7) ?_ ?_)<;>intro ug
   ·refine (rsl 6 [] 57 ((IntKind.i64.wrap rv6.2)==rv7) ?_ ?_)<;>intro uj
    ·refine (rsl 5 [] 62 ((rv5.1.length:Int)==0) ?_ ?_)<;>intro up
     · exact (rbl [] 6 (rv6.1==0) rfl (by grind))
     exact (rbl [] 6 false rfl (by grind))
    exact (rbl [] 6 false rfl (by grind))
   exact (rbl [] 6 false rfl (by grind))
  cases h;exact zz lzz
 refine jb h fun rv8 u0 h=>jr (rc 3 rfl (lcz [.sl zi [0] sv,kI ui,.ag (zaq 13 [14,0] 15 [] rv4)] 17 call15 (zmA u0) (.k (.k (.c (zaQ _) .n)))) rf) (jb h fun g2 uc h=>jg [] [] [(6,kB g2)] ?_ ?_)
 ·refine (rsI 7 76 uc ?_ ?_)<;>intro uu uc
  ·refine jb uc fun rv9 vg uc=>(rl 2 [17,19] 18 call16 (ziR vg) (rsI 2 81 uc ?_ ?_))<;>intro uv uc
   ·cases uc;exact rgg
   cases uc;exact rgg
  cases uc;exact rgg
 obtain rfl:=(sj h);exact zz lzz
end Go.Proofs.YtkgohoggipdokaaGreat

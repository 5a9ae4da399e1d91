/-
  The Go functions do what the plain functions say. No condition.
-/
import Derived.Test.YtcbkcblkecmjnaaGreatx1G13
namespace Go.Proofs.YtcbkcblkecmjnaaGreat
open Go Go.RowKit
set_option linter.unusedVariables false
set_option maxRecDepth 100000
set_option maxHeartbeats 3200000
theorem zlx {fuel:Nat} {sv:(List zh)} {root:Int} {b:(List UInt8)} {d:Int} {r:Bool} (h:zdT fuel sv root b d=some r):FnOk Tryz.prog 3 [.sl zi [0] sv,kI root,.sl Rp.byte [0] b,kI d] [kB r]:=by
 refine zB (E:=⟨[(8,kB r)],[]⟩) 72 Tryz.func3 rfl rfl rfl ⟨rfl,trivial⟩ (fun Xt=>?_)
 refine zr ?_
 unfold zdT at h
 refine jp ?_
 obtain ⟨rv,h_rv,h⟩:=bnd h
 refine jr (rl 0 [1] 9 Tryz.call7 (zmf h_rv) rf) ?_
 rcases zn h with ⟨hc1,h⟩| ⟨hc1,h⟩
 ·
  refine jT hc1 ?_
  refine jp ?_
  obtain rfl:=sj h
  exact zx lzz
 refine jF hc1 ?_
 obtain ⟨rv2,h_rv2,h⟩:=bnd h
 refine zS ⟨[(0,.sl zi [0] sv),(1,kI root),(2,.sl Rp.byte [0] b),(3,kI d),(23,kB ((!rv2)|| (decide ((b.length:Int)>1500))))],[]⟩ ?_ ?_
 ·
  refine (rl 1 [0] 9 Tryz.call8 (znP h_rv2) (rsl 2 [] 19 (!rv2) (fun hc2=>?_) (fun hc2=>?_)))
  · exact (rbl [] 23 true ((!rv2)|| (decide ((b.length:Int)>1500))) (by rw [hc2]<;>rfl))
  exact (rbl [] 23 (decide ((b.length:Int)>1500)) ((!rv2)|| (decide ((b.length:Int)>1500))) (by rw [hc2]<;>rfl))
 rcases zn h with ⟨hc3,h⟩| ⟨hc3,h⟩
 ·
  refine jT hc3 ?_
  refine jp ?_
  obtain rfl:=sj h
  exact zx lzz
 refine jF hc3 ?_
 obtain ⟨rv3,h_rv3,h⟩:=bnd h
 refine jr (rl 4 [0] 9 Tryz.call9 (zoM h_rv3) (rfl' [15])) ?_
 obtain ⟨rv4,h_rv4,h⟩:=bnd h
 refine jr (rl 4 [0] 14 Tryz.call10 (zmo h_rv4) rf) ?_
 refine jp ?_
 rcases zn h with ⟨hc4,h⟩| ⟨hc4,h⟩
 ·
  refine jT hc4 ?_
  obtain ⟨g,h_g,h⟩:=bnd h
  refine zS ⟨[(8,kB g)],[]⟩ ?_ ?_
  ·
   refine (rsl 5 [] 46 ((IntKind.i64.wrap rv3.2)==rv4.2) (fun hc5=>?_) (fun hc5=>?_))
   ·
    replace h_g:=iteT h_g hc5
    obtain ⟨rv5,h_rv5,h_g⟩:=bnd h_g
    obtain ⟨rv6,h_rv6,h_g⟩:=bnd h_g
    obtain rfl:=sj h_g
    exact (rc 1 rfl (zH.le (ins':=[(.tmp 47,.ag [.own zd 50 12 [13] rv3.1.Values,.own Rp.str 9 14 [] rv3.1.Unknown])]) (zce (args:=[.tmp 47]) [.rc zj [12,13,14] rv3.1] [12,13,14] 14 rfl Tryz.call12 (zgS h_rv5) rfl rfl rfl rfl rfl) ⟨⟨rfl,zcw zj [12,13,14] rv3.1 [.own zd 50 12 [13] rv3.1.Values,.own Rp.str 9 14 [] rv3.1.Unknown] (by rw [zO]<;>rfl) rfl⟩,trivial⟩) (ra 0 [] rfl (zgx [] [kN,kN] rfl zFj rfl) rfl (rc 0 rfl (zH.le (ins':=[(.tmp 48,.ag [.own zd 56 17 [18,12,13,14] rv5.Values,.own Rp.str 9 19 [] rv5.Unknown]),(.tmp 49,.ag [kN,kN])]) (zce (args:=[.tmp 48,.tmp 49]) [.rc zj [17,18,12,13,14,19] rv5,.rc zj [] (⟨[],[]⟩:ze)] [17,18,12,13,14,19] 18 rfl Tryz.call11 (zgm h_rv6) rfl rfl rfl rfl rfl) ⟨⟨rfl,zcw zj [17,18,12,13,14,19] rv5 [.own zd 56 17 [18,12,13,14] rv5.Values,.own Rp.str 9 19 [] rv5.Unknown] (by rw [zO]<;>rfl) rfl⟩,⟨rfl,zGm (b:= .ag [.sl zd [] [],.sl Rp.str [] []]) (zgn ⟨zqg _ _,zqg _ _,trivial⟩) (zcw zj [] (⟨[],[]⟩:ze) [.sl zd [] [],.sl Rp.str [] []] (by rw [zO]<;>rfl) rfl)⟩,trivial⟩) rgg)))
   replace h_g:=iteF h_g hc5
   obtain rfl:=sj h_g
   exact rgg
  obtain rfl:=sj h
  exact zx lzz
 refine jF hc4 ?_
 obtain ⟨rv7,h_rv7,h⟩:=bnd h
 refine jr (rl 3 [0] 18 Tryz.call13 (zor h_rv7) (rfl' [24])) ?_
 obtain ⟨g2,h_g2,h⟩:=bnd h
 refine zbV (R:=fun e a w=>e= .normal∧Sx ⟨⟨72,[]⟩,Xt,false,#[]⟩ ⟨[(8,kB g2)],[]⟩ a w) ?_ (zdw ?_)
 ·
  refine zr ?_
  rcases Bool.eq_false_or_eq_true ((IntKind.i64.wrap rv3.2)==0) with hc6| hc6
  ·
   replace h_g2:=iteT h_g2 hc6
   obtain ⟨rv8,h_rv8,h_g2⟩:=bnd h_g2
   obtain ⟨rv9,h_rv9,h_g2⟩:=bnd h_g2
   rcases Bool.eq_false_or_eq_true rv9 with hc7| hc7
   ·
    replace h_g2:=iteT h_g2 hc7
    obtain ⟨rv10,h_rv10,h_g2⟩:=bnd h_g2
    obtain ⟨rv11,h_rv11,h_g2⟩:=bnd h_g2
    obtain rfl:=sj h_g2
    refine jd [8] [] zcy (by exact (lw_e (lw_e (lw_e (lx (zgT ⟨[(58,kB ((IntKind.i64.wrap rv3.2)==0))],[]⟩ (by kernel_rfl) hc6) (ly [.ptr 15 0] (zlJ (b:=⟨15,30,[.own zd 50 12 [13] rv3.1.Values,.own Rp.str 9 14 [] rv3.1.Unknown]⟩) [.own zd 50 12 [13] rv3.1.Values,.own Rp.str 9 14 [] rv3.1.Unknown] rfl ⟨Tryz.isAgg30,Tryz.sizeOf30⟩ rfl rfl) rfl (lx (lf1 12 (zH.le (ins':=[(.tmp 60,.ag [.own zd 50 12 [13] rv3.1.Values,.own Rp.str 9 14 [] rv3.1.Unknown])]) (zce (args:=[.tmp 60]) [.rc zj [12,13,14] rv3.1] [12,13,14] 23 rfl Tryz.call12 (zgS h_rv8) rfl rfl rfl rfl rfl) ⟨⟨rfl,zcw zj [12,13,14] rv3.1 [.own zd 50 12 [13] rv3.1.Values,.own Rp.str 9 14 [] rv3.1.Unknown] (by rw [zO]<;>rfl) rfl⟩,trivial⟩)) (ly [.ptr 24 0] (zlJ (b:=⟨24,39,[.own zd 56 21 [22] rv7.Values,.own Rp.str 9 23 [] rv7.Unknown]⟩) [.own zd 56 21 [22] rv7.Values,.own Rp.str 9 23 [] rv7.Unknown] rfl ⟨Tryz.isAgg39,Tryz.sizeOf39⟩ rfl rfl) rfl (lx (lf1 11 (zH.le (ins':=[(.tmp 61,.ag [.own zd 56 26 [27,12,13,14] rv8.Values,.own Rp.str 9 28 [] rv8.Unknown]),(.tmp 62,.ag [.own zd 56 21 [22] rv7.Values,.own Rp.str 9 23 [] rv7.Unknown])]) (zce (args:=[.tmp 61,.tmp 62]) [.rc zj [26,27,12,13,14,28] rv8,.rc zj [21,22,23] rv7] [26,27,12,13,14,28,21,22,23] 27 rfl Tryz.call11 (zgm h_rv9) rfl rfl rfl rfl rfl) ⟨⟨rfl,zcw zj [26,27,12,13,14,28] rv8 [.own zd 56 26 [27,12,13,14] rv8.Values,.own Rp.str 9 28 [] rv8.Unknown] (by rw [zO]<;>rfl) rfl⟩,⟨rfl,zcw zj [21,22,23] rv7 [.own zd 56 21 [22] rv7.Values,.own Rp.str 9 23 [] rv7.Unknown] (by rw [zO]<;>rfl) rfl⟩,trivial⟩)) (lw_e (lx (zgT ⟨[(64,kB rv9)],[]⟩ (by kernel_rfl) hc7) (ly [.ptr 15 0] (zlJ (b:=⟨15,30,[.own zd 50 12 [13] rv3.1.Values,.own Rp.str 9 14 [] rv3.1.Unknown]⟩) [.own zd 50 12 [13] rv3.1.Values,.own Rp.str 9 14 [] rv3.1.Unknown] rfl ⟨Tryz.isAgg30,Tryz.sizeOf30⟩ rfl rfl) rfl (lx (lf1 14 (zH.le (ins':=[(.tmp 66,.ag [.own zd 50 12 [13] rv3.1.Values,.own Rp.str 9 14 [] rv3.1.Unknown])]) (zce (args:=[.tmp 66]) [.rc zj [12,13,14] rv3.1] [12,13,14] 27 rfl Tryz.call14 (ztX h_rv10) rfl rfl rfl rfl rfl) ⟨⟨rfl,zcw zj [12,13,14] rv3.1 [.own zd 50 12 [13] rv3.1.Values,.own Rp.str 9 14 [] rv3.1.Unknown] (by rw [zO]<;>rfl) rfl⟩,trivial⟩)) (ly [.ptr 24 0] (zlJ (b:=⟨24,39,[.own zd 56 21 [22] rv7.Values,.own Rp.str 9 23 [] rv7.Unknown]⟩) [.own zd 56 21 [22] rv7.Values,.own Rp.str 9 23 [] rv7.Unknown] rfl ⟨Tryz.isAgg39,Tryz.sizeOf39⟩ rfl rfl) rfl (lx (lf1 15 (zH.le (ins':=[(.tmp 68,.ag [.own zd 56 21 [22] rv7.Values,.own Rp.str 9 23 [] rv7.Unknown])]) (zce (args:=[.tmp 68]) [.rc zj [21,22,23] rv7] [21,22,23] 27 rfl Tryz.call15 (zmq h_rv11) rfl rfl rfl rfl rfl) ⟨⟨rfl,zcw zj [21,22,23] rv7 [.own zd 56 21 [22] rv7.Values,.own Rp.str 9 23 [] rv7.Unknown] (by rw [zO]<;>rfl) rfl⟩,trivial⟩)) l0))))))))))))))) ?_
    exact zE lzz
   replace h_g2:=iteF h_g2 hc7
   obtain rfl:=sj h_g2
   refine jd [8] [] zcy (by exact (lw_e (lw_e (lw_e (lx (zgT ⟨[(58,kB ((IntKind.i64.wrap rv3.2)==0))],[]⟩ (by kernel_rfl) hc6) (ly [.ptr 15 0] (zlJ (b:=⟨15,30,[.own zd 50 12 [13] rv3.1.Values,.own Rp.str 9 14 [] rv3.1.Unknown]⟩) [.own zd 50 12 [13] rv3.1.Values,.own Rp.str 9 14 [] rv3.1.Unknown] rfl ⟨Tryz.isAgg30,Tryz.sizeOf30⟩ rfl rfl) rfl (lx (lf1 12 (zH.le (ins':=[(.tmp 60,.ag [.own zd 50 12 [13] rv3.1.Values,.own Rp.str 9 14 [] rv3.1.Unknown])]) (zce (args:=[.tmp 60]) [.rc zj [12,13,14] rv3.1] [12,13,14] 23 rfl Tryz.call12 (zgS h_rv8) rfl rfl rfl rfl rfl) ⟨⟨rfl,zcw zj [12,13,14] rv3.1 [.own zd 50 12 [13] rv3.1.Values,.own Rp.str 9 14 [] rv3.1.Unknown] (by rw [zO]<;>rfl) rfl⟩,trivial⟩)) (ly [.ptr 24 0] (zlJ (b:=⟨24,39,[.own zd 56 21 [22] rv7.Values,.own Rp.str 9 23 [] rv7.Unknown]⟩) [.own zd 56 21 [22] rv7.Values,.own Rp.str 9 23 [] rv7.Unknown] rfl ⟨Tryz.isAgg39,Tryz.sizeOf39⟩ rfl rfl) rfl (lx (lf1 11 (zH.le (ins':=[(.tmp 61,.ag [.own zd 56 26 [27,12,13,14] rv8.Values,.own Rp.str 9 28 [] rv8.Unknown]),(.tmp 62,.ag [.own zd 56 21 [22] rv7.Values,.own Rp.str 9 23 [] rv7.Unknown])]) (zce (args:=[.tmp 61,.tmp 62]) [.rc zj [26,27,12,13,14,28] rv8,.rc zj [21,22,23] rv7] [26,27,12,13,14,28,21,22,23] 27 rfl Tryz.call11 (zgm h_rv9) rfl rfl rfl rfl rfl) ⟨⟨rfl,zcw zj [26,27,12,13,14,28] rv8 [.own zd 56 26 [27,12,13,14] rv8.Values,.own Rp.str 9 28 [] rv8.Unknown] (by rw [zO]<;>rfl) rfl⟩,⟨rfl,zcw zj [21,22,23] rv7 [.own zd 56 21 [22] rv7.Values,.own Rp.str 9 23 [] rv7.Unknown] (by rw [zO]<;>rfl) rfl⟩,trivial⟩)) (lw_e (lx (zgT ⟨[(64,kB rv9)],[]⟩ (by kernel_rfl) hc7) l0))))))))))) ?_
   exact zE lzz
  replace h_g2:=iteF h_g2 hc6
  obtain rfl:=sj h_g2
  refine jd [8] [] zcy (by exact (lw_e (lw_e (lw_e (lx (zgT ⟨[(58,kB ((IntKind.i64.wrap rv3.2)==0))],[]⟩ (by kernel_rfl) hc6) l0))))) ?_
  exact zE lzz
 obtain rfl:=sj h
 exact zx lzz
end Go.Proofs.YtcbkcblkecmjnaaGreat

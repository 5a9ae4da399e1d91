/-
  The Go functions do what the plain functions say. No condition.
-/
import Derived.Test.YtnfembipjdohcaaGreatG8
namespace Go.Proofs.YtnfembipjdohcaaGreat
open Go Go.RowKit
set_option linter.unusedVariables false
set_option maxRecDepth 100000
set_option maxHeartbeats 3200000
theorem zja {fuel : Nat} {sv : (List zh)} {root : Int} {b : (List UInt8)} {d : Int} {r : zt} (h : zeI fuel sv root b d = some r) : FnOk Tryz.prog 14 [.sl zd [0] sv, kI root, .sl Rp.byte [0] b, kI d] [.rc zS [] r] := by
 refine zx (E := ⟨[(8, .ptr 2 0)], [⟨2, 44, [kI r.depth, kI r.place, k8 r.e]⟩]⟩) 29 Tryz.func14 rfl rfl rfl ⟨⟨_, _, rfl, rfl, rfl, rfl, ⟨Tryz.isAgg44, Tryz.sizeOf44⟩⟩, trivial⟩ (fun Xt => ?_)
 refine zr ?_
 unfold zeI at h
 refine jq [12] ?_
 obtain ⟨rv, h_rv, h⟩ := bnd h
 refine jr (rl 3 [0] 11 Tryz.call10 (ziZ h_rv) rf) ?_
 refine jp ?_
 rcases zm h with ⟨hc1, h⟩ | ⟨hc1, h⟩
 ·
  refine jT hc1 ?_
  refine jr (rc 1 rfl (zC (r := zS) [k8 rv] [] (⟨0, 0, rv⟩ : zt) rfl zoc rfl rfl) rf) ?_
  obtain rfl := sj h
  refine zv ?_
  refine lk [8] [12] 12 2 ?_
  exact lzz
 refine jF hc1 ?_
 refine jr (rc 2 rfl (zij (rk := ze) (rv := zf) 13 rfl) (ra 0 [.sl zd [0] sv, .sl Rp.byte [0] b, .om ze zf 13 [] ([] : (List (zg × zb)))] rfl (zkx [.sl zd [0] sv, .sl Rp.byte [0] b, .om ze zf 13 [] ([] : (List (zg × zb)))] [.sl zd [0] sv, .sl Rp.byte [0] b, .om ze zf 13 [] ([] : (List (zg × zb)))] rfl zwL rfl) rfl (rfl' [14]))) ?_
 obtain ⟨rv3, h_rv3, h⟩ := bnd h
 refine jr (rkl 5 [] ⟨[(8, .ptr 12 0), (23, .ag [.sl zd [0] sv, .sl Rp.byte [0] b, .om ze zf 13 [] ([] : (List (zg × zb)))]), (24, kI root), (26, kI (b.length : Int)), (27, kI d)], [⟨12, 44, [kI 0, kI 0, k8 0]⟩]⟩ (zdU ⟨[(8, .ptr 12 0), (23, .ag [.sl zd [0] sv, .sl Rp.byte [0] b, .om ze zf 13 [0] rv3.2]), (24, kI root), (26, kI (b.length : Int)), (27, kI d)], [⟨12, 44, [kI 0, kI 0, k8 0]⟩]⟩ (zht [.ag [.sl zd [0] sv, .sl Rp.byte [0] b, .om ze zf 13 [] ([] : (List (zg × zb)))], kI root, kI 0, kI (b.length : Int), kI d] [(13, 2)] [0] 14 [] rfl Tryz.call19 (zhP h_rv3) rfl rfl (by kernel_rfl) rfl rfl rfl) rfl (by kernel_rfl) (by kernel_rfl) ⟨⟨_, rfl, zq rfl⟩, ⟨_, rfl, zgU ⟨zq rfl, zq rfl, zcB 0 rfl, trivial⟩⟩, ⟨_, rfl, zq rfl⟩, ⟨_, rfl, zq rfl⟩, ⟨_, rfl, zq rfl⟩, trivial⟩ ⟨⟨_, rfl, rfl, rfl, ⟨zq rfl, zq rfl, zq rfl, trivial⟩⟩, trivial⟩ rf)) ?_
 obtain rfl := sj h
 refine zv ?_
 refine lk [8] [12] 12 2 ?_
 exact lzz
theorem zix {fuel : Nat} {sv : (List zh)} {root : Int} {b : (List UInt8)} {d : Int} {r : (Int × Int)} (h : zeg fuel sv root b d = some r) : FnOk Tryz.prog 7 [.sl zd [0] sv, kI root, .sl Rp.byte [0] b, kI d] [kI r.1, k8 r.2] := by
 refine zx (E := ⟨[(8, kI r.1), (9, k8 r.2)], []⟩) 20 Tryz.func7 rfl rfl rfl ⟨rfl, rfl, trivial⟩ (fun Xt => ?_)
 refine zr ?_
 unfold zeg at h
 refine jp ?_
 obtain ⟨rv, h_rv, h⟩ := bnd h
 refine jr (rl 4 [0] 9 Tryz.call14 (zja h_rv) (rfl' [11])) ?_
 refine jd [8, 9] [] zdQ (by exact l0) ?_
 obtain rfl := sj h
 exact zv lzz
theorem zmW {fuel : Nat} {sv : (List zh)} {root : Int} {b : (List UInt8)} {r : (Int × Int)} (h : zeY fuel sv root b = some r) : FnOk Tryz.prog 12 [.sl zd [0] sv, kI root, .sl Rp.byte [0] b] [kI r.1, k8 r.2] := by
 refine zx (E := ⟨[(6, kI r.1), (7, k8 r.2)], []⟩) 20 Tryz.func12 rfl rfl rfl ⟨rfl, rfl, trivial⟩ (fun Xt => ?_)
 refine zr ?_
 unfold zeY at h
 refine jp ?_
 obtain ⟨rv, h_rv, h⟩ := bnd h
 refine jr (rl 3 [0] 9 Tryz.call14 (zja h_rv) (rfl' [11])) ?_
 refine jp ?_
 rcases zm h with ⟨hc1, h⟩ | ⟨hc1, h⟩
 ·
  refine jT hc1 ?_
  refine jd [6, 7] [] zdQ (by exact l0) ?_
  obtain rfl := sj h
  exact zv lzz
 refine jF hc1 ?_
 refine jp ?_
 obtain rfl := sj h
 exact zv lzz
theorem ziy {fuel : Nat} {sv : (List zh)} {root : Int} {b : (List UInt8)} {d : Int} {r : Bool} (h : zfI fuel sv root b d = some r) : FnOk Tryz.prog 9 [.sl zd [0] sv, kI root, .sl Rp.byte [0] b, kI d] [kB r] := by
 refine zx (E := ⟨[(8, kB r)], []⟩) 21 Tryz.func9 rfl rfl rfl ⟨rfl, trivial⟩ (fun Xt => ?_)
 refine zr ?_
 unfold zfI at h
 refine jp ?_
 obtain ⟨rv, h_rv, h⟩ := bnd h
 refine jr (rl 4 [0] 9 Tryz.call7 (zix h_rv) rf) ?_
 refine jp ?_
 obtain rfl := sj h
 exact zv lzz
theorem zep {fuel : Nat}  {r : Bool} (h : zbB fuel = some r) : FnOk Tryz.prog 5 [] [kB r] := by
 refine zx (E := ⟨[(0, kB r)], []⟩) 15 Tryz.func5 rfl rfl rfl ⟨rfl, trivial⟩ (fun Xt => ?_)
 refine zr ?_
 unfold zbB at h
 refine jp ?_
 refine jr (rc 0 rfl (zC (r := za) [kS [97], kI 1, kI 17] [] (⟨[97], 1, 17, false, false, 0⟩ : zc) rfl zwN rfl rfl) (rc 0 rfl (zgq [.rc za [] (⟨[97], 1, 17, false, false, 0⟩ : zc)] 11 [] ([(⟨[97], 1, 17, false, false, 0⟩ : zc)] : (List zc)) rfl zhD rfl rfl rfl rfl) (ra 0 [kS [109], .own za 39 11 [] ([(⟨[97], 1, 17, false, false, 0⟩ : zc)] : (List zc))] rfl (zkx [kS [109], .own za 39 11 [] ([(⟨[97], 1, 17, false, false, 0⟩ : zc)] : (List zc))] [kS [109], .own za 39 11 [] ([(⟨[97], 1, 17, false, false, 0⟩ : zc)] : (List zc))] rfl zwK rfl) rfl (rc 0 rfl (zL.le (ins' := [(.tmp 4, .ag [kS [109], .own za 39 11 [] ([(⟨[97], 1, 17, false, false, 0⟩ : zc)] : (List zc))])]) (zgq [.rc zd [11] (⟨[109], ([(⟨[97], 1, 17, false, false, 0⟩ : zc)] : (List zc))⟩ : zh)] 12 [11] ([(⟨[109], ([(⟨[97], 1, 17, false, false, 0⟩ : zc)] : (List zc))⟩ : zh)] : (List zh)) rfl zet rfl rfl rfl rfl) ⟨⟨rfl, zls zd [11] (⟨[109], ([(⟨[97], 1, 17, false, false, 0⟩ : zc)] : (List zc))⟩ : zh) [kS [109], .own za 39 11 [] ([(⟨[97], 1, 17, false, false, 0⟩ : zc)] : (List zc))] rfl rfl⟩, trivial⟩) rf)))) ?_
 obtain ⟨g, h_g, h⟩ := bnd h
 refine zE ⟨[(0, kB g)], []⟩ ?_ ?_
 ·
  obtain ⟨rv, h_rv, h_g⟩ := bnd h_g
  refine (rc 1 rfl (zgq [.lf (.int .u8 10), .lf (.int .u8 2), .lf (.int .u8 10), .lf (.int .u8 0)] 13 [] [(10 : UInt8), (2 : UInt8), (10 : UInt8), (0 : UInt8)] rfl zde rfl rfl rfl rfl) (rl 0 [12, 11, 13] 12 Tryz.call9 (ziy h_rv) (rsl 1 [] 9 rv (fun hc1 => ?_) (fun hc1 => ?_))))
  ·
   replace h_g := iteT h_g hc1
   obtain ⟨rv2, h_rv2, h_g⟩ := bnd h_g
   obtain rfl := sj h_g
   exact (rc 1 rfl (zgq [.lf (.int .u8 10), .lf (.int .u8 2), .lf (.int .u8 10), .lf (.int .u8 0)] 14 [] [(10 : UInt8), (2 : UInt8), (10 : UInt8), (0 : UInt8)] rfl zde rfl rfl rfl rfl) (rl 0 [12, 11, 14] 13 Tryz.call9 (ziy h_rv2) rgg))
  replace h_g := iteF h_g hc1
  obtain rfl := sj h_g
  exact rgg
 obtain rfl := sj h
 exact zv lzz
theorem zfj {fuel : Nat} {sv : (List zh)} {root : Int} {b : (List UInt8)} {d : Int} {r : Bool} (h : zbF fuel sv root b d = some r) : FnOk Tryz.prog 3 [.sl zd [0] sv, kI root, .sl Rp.byte [0] b, kI d] [kB r] := by
 refine zx (E := ⟨[(8, kB r)], []⟩) 70 Tryz.func3 rfl rfl rfl ⟨rfl, trivial⟩ (fun Xt => ?_)
 refine zr ?_
 unfold zbF at h
 refine jp ?_
 obtain ⟨rv, h_rv, h⟩ := bnd h
 refine jr (rl 0 [1] 9 Tryz.call5 (zep h_rv) rf) ?_
 rcases zm h with ⟨hc1, h⟩ | ⟨hc1, h⟩
 ·
  refine jT hc1 ?_
  refine jp ?_
  obtain rfl := sj h
  exact zv lzz
 refine jF hc1 ?_
 obtain ⟨rv2, h_rv2, h⟩ := bnd h
 refine zE ⟨[(0, .sl zd [0] sv), (1, kI root), (2, .sl Rp.byte [0] b), (3, kI d), (22, kB ((!rv2) || (decide ((b.length : Int) > 1500))))], []⟩ ?_ ?_
 ·
  refine (rl 1 [0] 9 Tryz.call6 (zfg h_rv2) (rsl 2 [] 18 (!rv2) (fun hc2 => ?_) (fun hc2 => ?_)))
  · exact (rbl [] 22 true ((!rv2) || (decide ((b.length : Int) > 1500))) (by rw [hc2] <;> rfl))
  exact (rbl [] 22 (decide ((b.length : Int) > 1500)) ((!rv2) || (decide ((b.length : Int) > 1500))) (by rw [hc2] <;> rfl))
 rcases zm h with ⟨hc3, h⟩ | ⟨hc3, h⟩
 ·
  refine jT hc3 ?_
  refine jp ?_
  obtain rfl := sj h
  exact zv lzz
 refine jF hc3 ?_
 obtain ⟨rv3, h_rv3, h⟩ := bnd h
 refine jr (rl 4 [0] 9 Tryz.call7 (zix h_rv3) rf) ?_
 obtain ⟨rv4, h_rv4, h⟩ := bnd h
 refine jr (rl 4 [0] 9 Tryz.call8 (zdk h_rv4) rf) ?_
 obtain ⟨g, h_g, h⟩ := bnd h
 refine zE ⟨[(8, kB g)], []⟩ ?_ ?_
 ·
  refine (rsl 4 [] 42 (rv3.1 == rv4.1) (fun hc4 => ?_) (fun hc4 => ?_))
  ·
   replace h_g := iteT h_g hc4
   refine (rsl 6 [] 48 ((IntKind.i64.wrap rv3.2) == rv4.2) (fun hc5 => ?_) (fun hc5 => ?_))
   ·
    replace h_g := iteT h_g hc5
    obtain ⟨rv5, h_rv5, h_g⟩ := bnd h_g
    refine (rl 4 [0] 9 Tryz.call9 (ziy h_rv5) (rsl 5 [] 58 (rv5 == (rv4.2 == 0)) (fun hc6 => ?_) (fun hc6 => ?_)))
    ·
     replace h_g := iteT h_g hc6
     obtain ⟨rv6, h_rv6, h_g⟩ := bnd h_g
     obtain ⟨rv7, h_rv7, h_g⟩ := bnd h_g
     obtain rfl := sj h_g
     exact (rl 3 [0] 9 Tryz.call10 (ziZ h_rv6) (rl 4 [0] 9 Tryz.call11 (zeQ h_rv7) rgg))
    replace h_g := iteF h_g hc6
    obtain rfl := sj h_g
    exact rgg
   replace h_g := iteF h_g hc5
   obtain rfl := sj h_g
   exact rgg
  replace h_g := iteF h_g hc4
  obtain rfl := sj h_g
  exact rgg
 obtain rfl := sj h
 exact zv lzz
theorem zfk {fuel : Nat} {sv : (List zh)} {root : Int} {b : (List UInt8)} {r : Bool} (h : zbG fuel sv root b = some r) : FnOk Tryz.prog 4 [.sl zd [0] sv, kI root, .sl Rp.byte [0] b] [kB r] := by
 refine zx (E := ⟨[(6, kB r)], []⟩) 56 Tryz.func4 rfl rfl rfl ⟨rfl, trivial⟩ (fun Xt => ?_)
 refine zr ?_
 unfold zbG at h
 refine jp ?_
 obtain ⟨rv, h_rv, h⟩ := bnd h
 refine jr (rl 0 [1] 9 Tryz.call5 (zep h_rv) rf) ?_
 rcases zm h with ⟨hc1, h⟩ | ⟨hc1, h⟩
 ·
  refine jT hc1 ?_
  refine jp ?_
  obtain rfl := sj h
  exact zv lzz
 refine jF hc1 ?_
 obtain ⟨rv2, h_rv2, h⟩ := bnd h
 refine zE ⟨[(0, .sl zd [0] sv), (1, kI root), (2, .sl Rp.byte [0] b), (20, kB ((!rv2) || (decide ((b.length : Int) > 700))))], []⟩ ?_ ?_
 ·
  refine (rl 1 [0] 9 Tryz.call6 (zfg h_rv2) (rsl 2 [] 16 (!rv2) (fun hc2 => ?_) (fun hc2 => ?_)))
  · exact (rbl [] 20 true ((!rv2) || (decide ((b.length : Int) > 700))) (by rw [hc2] <;> rfl))
  exact (rbl [] 20 (decide ((b.length : Int) > 700)) ((!rv2) || (decide ((b.length : Int) > 700))) (by rw [hc2] <;> rfl))
 rcases zm h with ⟨hc3, h⟩ | ⟨hc3, h⟩
 ·
  refine jT hc3 ?_
  refine jp ?_
  obtain rfl := sj h
  exact zv lzz
 refine jF hc3 ?_
 obtain ⟨rv3, h_rv3, h⟩ := bnd h
 refine jr (rl 3 [0] 9 Tryz.call12 (zmW h_rv3) rf) ?_
 obtain ⟨rv4, h_rv4, h⟩ := bnd h
 refine jr (rl 3 [0] 9 Tryz.call8 (zdk h_rv4) rf) ?_
 refine jp ?_
 rcases zm h with ⟨hc4, h⟩ | ⟨hc4, h⟩
 ·
  refine jT hc4 ?_
  refine zE ⟨[(6, kB ((rv3.1 == 0) && ((IntKind.i64.wrap rv3.2) == rv4.2)))], []⟩ ?_ ?_
  ·
   refine (rsl 3 [] 39 (rv3.1 == 0) (fun hc5 => ?_) (fun hc5 => ?_))
   · exact (rbl [] 6 ((IntKind.i64.wrap rv3.2) == rv4.2) ((rv3.1 == 0) && ((IntKind.i64.wrap rv3.2) == rv4.2)) (by rw [hc5] <;> rfl))
   exact (rbl [] 6 false ((rv3.1 == 0) && ((IntKind.i64.wrap rv3.2) == rv4.2)) (by rw [hc5] <;> rfl))
  obtain rfl := sj h
  exact zv lzz
 refine jF hc4 ?_
 obtain ⟨g, h_g, h⟩ := bnd h
 refine zE ⟨[(6, kB g)], []⟩ ?_ ?_
 ·
  refine (rsl 4 [] 48 ((IntKind.i64.wrap rv3.2) == 0) (fun hc6 => ?_) (fun hc6 => ?_))
  ·
   replace h_g := iteT h_g hc6
   obtain ⟨rv5, h_rv5, h_g⟩ := bnd h_g
   obtain rfl := sj h_g
   exact (rl 4 [0] 9 Tryz.call13 (zhL h_rv5) rgg)
  replace h_g := iteF h_g hc6
  obtain rfl := sj h_g
  exact rgg
 obtain rfl := sj h
 exact zv lzz
end Go.Proofs.YtnfembipjdohcaaGreat

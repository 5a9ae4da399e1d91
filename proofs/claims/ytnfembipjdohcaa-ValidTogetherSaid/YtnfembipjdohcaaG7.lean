/-
  The Go functions do what the plain functions say. No condition.
-/
import Derived.Test.YtnfembipjdohcaaG6
namespace Go.Proofs.Ytnfembipjdohcaa
open Go Go.RowKit
set_option linter.unusedVariables false
set_option maxRecDepth 100000
set_option maxHeartbeats 3200000
theorem zgB {fuel : Nat} {sv : (List zr)} {root : Int} {b : (List UInt8)} {d : Int} {r : zp} (h : zdg fuel sv root b d = some r) : FnOk Try.prog 9 [.sl zi [0] sv, kI root, .sl Rp.byte [0] b, kI d] [.rc zM [] r] := by
 refine zx (E := ⟨[(8, .ptr 2 0)], [⟨2, 39, [kI r.depth, kI r.place, k8 r.e]⟩]⟩) 29 Try.func9 rfl rfl rfl ⟨⟨_, _, rfl, rfl, rfl, rfl, ⟨Try.isAgg39, Try.sizeOf39⟩⟩, trivial⟩ (fun Xt => ?_)
 refine zv ?_
 unfold zdg at h
 refine jq [12] ?_
 obtain ⟨rv, h_rv, h⟩ := bnd h
 refine jr (rl 3 [0] 11 Try.call10 (zkM h_rv) rf) ?_
 refine jp ?_
 rcases zq h with ⟨hc1, h⟩ | ⟨hc1, h⟩
 ·
  refine jT hc1 ?_
  refine jr (rc 1 rfl (zB (r := zM) [k8 rv] [] (⟨0, 0, rv⟩ : zp) rfl zlw rfl rfl) rf) ?_
  obtain rfl := sj h
  refine zw ?_
  refine lk [8] [12] 12 2 ?_
  exact lzz
 refine jF hc1 ?_
 refine jr (rc 2 rfl (zfL (rk := zc) (rv := zd) 13 rfl) (ra 0 [.sl zi [0] sv, .sl Rp.byte [0] b, .om zc zd 13 [] ([] : (List (zf × zb)))] rfl (zhY [.sl zi [0] sv, .sl Rp.byte [0] b, .om zc zd 13 [] ([] : (List (zf × zb)))] [.sl zi [0] sv, .sl Rp.byte [0] b, .om zc zd 13 [] ([] : (List (zf × zb)))] rfl ztN rfl) rfl (rfl' [14]))) ?_
 obtain ⟨rv3, h_rv3, h⟩ := bnd h
 refine jr (rkl 5 [] ⟨[(8, .ptr 12 0), (23, .ag [.sl zi [0] sv, .sl Rp.byte [0] b, .om zc zd 13 [] ([] : (List (zf × zb)))]), (24, kI root), (26, kI (b.length : Int)), (27, kI d)], [⟨12, 39, [kI 0, kI 0, k8 0]⟩]⟩ (zct ⟨[(8, .ptr 12 0), (23, .ag [.sl zi [0] sv, .sl Rp.byte [0] b, .om zc zd 13 [0] rv3.2]), (24, kI root), (26, kI (b.length : Int)), (27, kI d)], [⟨12, 39, [kI 0, kI 0, k8 0]⟩]⟩ (zfm [.ag [.sl zi [0] sv, .sl Rp.byte [0] b, .om zc zd 13 [] ([] : (List (zf × zb)))], kI root, kI 0, kI (b.length : Int), kI d] [(13, 2)] [0] 14 [] rfl Try.call11 (zfy h_rv3) rfl rfl (by kernel_rfl) rfl rfl rfl) rfl (by kernel_rfl) (by kernel_rfl) ⟨⟨_, rfl, zn rfl⟩, ⟨_, rfl, zeP ⟨zn rfl, zn rfl, zbr 0 rfl, trivial⟩⟩, ⟨_, rfl, zn rfl⟩, ⟨_, rfl, zn rfl⟩, ⟨_, rfl, zn rfl⟩, trivial⟩ ⟨⟨_, rfl, rfl, rfl, ⟨zn rfl, zn rfl, zn rfl, trivial⟩⟩, trivial⟩ rf)) ?_
 obtain rfl := sj h
 refine zw ?_
 refine lk [8] [12] 12 2 ?_
 exact lzz
theorem zkx {fuel : Nat} {sv : (List zr)} {root : Int} {b : (List UInt8)} {d : Int} {r : (Int × Int)} (h : zdx fuel sv root b d = some r) : FnOk Try.prog 8 [.sl zi [0] sv, kI root, .sl Rp.byte [0] b, kI d] [kI r.1, k8 r.2] := by
 refine zx (E := ⟨[(8, kI r.1), (9, k8 r.2)], []⟩) 20 Try.func8 rfl rfl rfl ⟨rfl, rfl, trivial⟩ (fun Xt => ?_)
 refine zv ?_
 unfold zdx at h
 refine jp ?_
 obtain ⟨rv, h_rv, h⟩ := bnd h
 refine jr (rl 4 [0] 9 Try.call9 (zgB h_rv) (rfl' [11])) ?_
 refine jd [8, 9] [] zfN (by exact l0) ?_
 obtain rfl := sj h
 exact zw lzz
theorem zed {fuel : Nat} {sv : (List zr)} {root : Int} {b : (List UInt8)} {r : (Int × Int)} (h : zca fuel sv root b = some r) : FnOk Try.prog 7 [.sl zi [0] sv, kI root, .sl Rp.byte [0] b] [kI r.1, k8 r.2] := by
 refine zx (E := ⟨[(6, kI r.1), (7, k8 r.2)], []⟩) 20 Try.func7 rfl rfl rfl ⟨rfl, rfl, trivial⟩ (fun Xt => ?_)
 refine zv ?_
 unfold zca at h
 refine jp ?_
 obtain ⟨rv, h_rv, h⟩ := bnd h
 refine jr (rl 3 [0] 9 Try.call9 (zgB h_rv) (rfl' [11])) ?_
 refine jp ?_
 rcases zq h with ⟨hc1, h⟩ | ⟨hc1, h⟩
 ·
  refine jT hc1 ?_
  refine jd [6, 7] [] zfN (by exact l0) ?_
  obtain rfl := sj h
  exact zw lzz
 refine jF hc1 ?_
 refine jp ?_
 obtain rfl := sj h
 exact zw lzz
theorem zau {fuel : Nat} {sv : (List zr)} {root : Int} {b : (List UInt8)} {d : Int} {r : Bool} (h : zaD fuel sv root b d = some r) : FnOk Try.prog 6 [.sl zi [0] sv, kI root, .sl Rp.byte [0] b, kI d] [kB r] := by
 refine zx (E := ⟨[(8, kB r)], []⟩) 21 Try.func6 rfl rfl rfl ⟨rfl, trivial⟩ (fun Xt => ?_)
 refine zv ?_
 unfold zaD at h
 refine jp ?_
 obtain ⟨rv, h_rv, h⟩ := bnd h
 refine jr (rl 4 [0] 9 Try.call8 (zkx h_rv) rf) ?_
 refine jp ?_
 obtain rfl := sj h
 exact zw lzz
theorem zfv {fuel : Nat}  {r : Bool} (h : zbf fuel = some r) : FnOk Try.prog 4 [] [kB r] := by
 refine zx (E := ⟨[(0, kB r)], []⟩) 15 Try.func4 rfl rfl rfl ⟨rfl, trivial⟩ (fun Xt => ?_)
 refine zv ?_
 unfold zbf at h
 refine jp ?_
 refine jr (rc 0 rfl (zB (r := za) [kS [97], kI 1, kI 17] [] (⟨[97], 1, 17, false, false, 0⟩ : ze) rfl ztP rfl rfl) (rc 0 rfl (zjQ [.rc za [] (⟨[97], 1, 17, false, false, 0⟩ : ze)] 11 [] ([(⟨[97], 1, 17, false, false, 0⟩ : ze)] : (List ze)) rfl zlB rfl rfl rfl rfl) (ra 0 [kS [109], .own za 33 11 [] ([(⟨[97], 1, 17, false, false, 0⟩ : ze)] : (List ze))] rfl (zhY [kS [109], .own za 33 11 [] ([(⟨[97], 1, 17, false, false, 0⟩ : ze)] : (List ze))] [kS [109], .own za 33 11 [] ([(⟨[97], 1, 17, false, false, 0⟩ : ze)] : (List ze))] rfl ztM rfl) rfl (rc 0 rfl (zL.le (ins' := [(.tmp 4, .ag [kS [109], .own za 33 11 [] ([(⟨[97], 1, 17, false, false, 0⟩ : ze)] : (List ze))])]) (zjQ [.rc zi [11] (⟨[109], ([(⟨[97], 1, 17, false, false, 0⟩ : ze)] : (List ze))⟩ : zr)] 12 [11] ([(⟨[109], ([(⟨[97], 1, 17, false, false, 0⟩ : ze)] : (List ze))⟩ : zr)] : (List zr)) rfl ziG rfl rfl rfl rfl) ⟨⟨rfl, ziW zi [11] (⟨[109], ([(⟨[97], 1, 17, false, false, 0⟩ : ze)] : (List ze))⟩ : zr) [kS [109], .own za 33 11 [] ([(⟨[97], 1, 17, false, false, 0⟩ : ze)] : (List ze))] rfl rfl⟩, trivial⟩) rf)))) ?_
 obtain ⟨g, h_g, h⟩ := bnd h
 refine zU ⟨[(0, kB g)], []⟩ ?_ ?_
 ·
  obtain ⟨rv, h_rv, h_g⟩ := bnd h_g
  refine (rc 1 rfl (zjQ [.lf (.int .u8 10), .lf (.int .u8 2), .lf (.int .u8 10), .lf (.int .u8 0)] 13 [] [(10 : UInt8), (2 : UInt8), (10 : UInt8), (0 : UInt8)] rfl zdz rfl rfl rfl rfl) (rl 0 [12, 11, 13] 12 Try.call6 (zau h_rv) (rsl 1 [] 9 rv (fun hc1 => ?_) (fun hc1 => ?_))))
  ·
   replace h_g := iteT h_g hc1
   obtain ⟨rv2, h_rv2, h_g⟩ := bnd h_g
   obtain rfl := sj h_g
   exact (rc 1 rfl (zjQ [.lf (.int .u8 10), .lf (.int .u8 2), .lf (.int .u8 10), .lf (.int .u8 0)] 14 [] [(10 : UInt8), (2 : UInt8), (10 : UInt8), (0 : UInt8)] rfl zdz rfl rfl rfl rfl) (rl 0 [12, 11, 14] 13 Try.call6 (zau h_rv2) rgg))
  replace h_g := iteF h_g hc1
  obtain rfl := sj h_g
  exact rgg
 obtain rfl := sj h
 exact zw lzz
theorem zdo {fuel : Nat} {sv : (List zr)} {root : Int} {av : (List UInt8)} {b : (List UInt8)} {d : Int} {r : Bool} (h : zaA fuel sv root av b d = some r) : FnOk Try.prog 3 [.sl zi [0] sv, kI root, .sl Rp.byte [0] av, .sl Rp.byte [0] b, kI d] [kB r] := by
 refine zx (E := ⟨[(10, kB r)], []⟩) 152 Try.func3 rfl rfl rfl ⟨rfl, trivial⟩ (fun Xt => ?_)
 refine zv ?_
 unfold zaA at h
 refine jp ?_
 obtain ⟨rv, h_rv, h⟩ := bnd h
 refine jr (rl 0 [1] 9 Try.call4 (zfv h_rv) rf) ?_
 rcases zq h with ⟨hc1, h⟩ | ⟨hc1, h⟩
 ·
  refine jT hc1 ?_
  refine jp ?_
  obtain rfl := sj h
  exact zw lzz
 refine jF hc1 ?_
 obtain ⟨rv2, h_rv2, h⟩ := bnd h
 refine zU ⟨[(0, .sl zi [0] sv), (1, kI root), (2, .sl Rp.byte [0] av), (3, .sl Rp.byte [0] b), (4, kI d), (33, kB ((!rv2) || (decide ((IntKind.i64.wrap ((av.length : Int) + (b.length : Int))) > 1500))))], []⟩ ?_ ?_
 ·
  refine (rl 1 [0] 9 Try.call5 (zgp h_rv2) (rsl 2 [] 26 (!rv2) (fun hc2 => ?_) (fun hc2 => ?_)))
  · exact (rbl [] 33 true ((!rv2) || (decide ((IntKind.i64.wrap ((av.length : Int) + (b.length : Int))) > 1500))) (by rw [hc2] <;> rfl))
  exact (rbl [] 33 (decide ((IntKind.i64.wrap ((av.length : Int) + (b.length : Int))) > 1500)) ((!rv2) || (decide ((IntKind.i64.wrap ((av.length : Int) + (b.length : Int))) > 1500))) (by rw [hc2] <;> rfl))
 rcases zq h with ⟨hc3, h⟩ | ⟨hc3, h⟩
 ·
  refine jT hc3 ?_
  refine jp ?_
  obtain rfl := sj h
  exact zw lzz
 refine jF hc3 ?_
 obtain ⟨v2, h_v2, h⟩ := bnd h
 obtain ⟨v3, h_v3, h⟩ := bnd h
 refine jr (rc 0 rfl (zjQ [] 11 [] ([] : (List UInt8)) rfl zdz rfl rfl rfl rfl) (ra 1 [.own Rp.byte 5 11 [] ([] : (List UInt8)), .sl Rp.byte [0] av] rfl (zqS 11 [] rfl zdz.el rfl (zlh _ _ _ _ _) (zas _ _ _) h_v2 (.inl zkh) rfl) rfl (ra 1 [.own Rp.byte 5 11 [] v2, .sl Rp.byte [0] b] rfl (zqS 11 [] rfl zdz.el rfl (zlh _ _ _ _ _) (zas _ _ _) h_v3 (.inl zkh) rfl) rfl rf))) ?_
 obtain ⟨rv3, h_rv3, h⟩ := bnd h
 obtain ⟨rv4, h_rv4, h⟩ := bnd h
 obtain ⟨rv5, h_rv5, h⟩ := bnd h
 refine jr (rl 4 [0] 10 Try.call6 (zau h_rv3) (rl 4 [0] 10 Try.call6 (zau h_rv4) (rl 4 [0, 11] 10 Try.call6 (zau h_rv5) rf))) ?_
 obtain ⟨g, h_g, h⟩ := bnd h
 refine zU ⟨[(0, .sl zi [0] sv), (1, kI root), (2, .sl Rp.byte [0] av), (3, .sl Rp.byte [0] b), (4, kI d), (11, .own Rp.byte 5 11 [] v3), (12, kB rv3), (13, kB rv4), (90, kB g)], []⟩ ?_ ?_
 ·
  refine (rsl 2 [] 55 rv3 (fun hc4 => ?_) (fun hc4 => ?_))
  ·
   replace h_g := iteT h_g hc4
   refine (rsl 5 [] 60 (!(rv4 == rv5)) (fun hc5 => ?_) (fun hc5 => ?_))
   ·
    replace h_g := iteT h_g hc5
    obtain rfl := sj h_g
    exact rgg
   replace h_g := iteF h_g hc5
   refine (rsl 3 [] 63 (!rv3) (fun hc6 => ?_) (fun hc6 => ?_))
   ·
    replace h_g := iteT h_g hc6
    refine (rsl 3 [] 66 rv5 (fun hc7 => ?_) (fun hc7 => ?_))
    ·
     replace h_g := iteT h_g hc7
     refine (rsl 3 [] 69 rv4 (fun hc8 => ?_) (fun hc8 => ?_))
     ·
      replace h_g := iteT h_g hc8
      refine (rsl 6 [] 75 ((av.length : Int) == 0) (fun hc9 => ?_) (fun hc9 => ?_))
      ·
       replace h_g := iteT h_g hc9
       obtain rfl := sj h_g
       exact rgg
      replace h_g := iteF h_g hc9
      refine (rsl 2 [] 77 rv3 (fun hc10 => ?_) (fun hc10 => ?_))
      ·
       replace h_g := iteT h_g hc10
       refine (rsl 4 [] 81 (decide (d < 64)) (fun hc11 => ?_) (fun hc11 => ?_))
       ·
        replace h_g := iteT h_g hc11
        obtain ⟨rv6, h_rv6, h_g⟩ := bnd h_g
        obtain rfl := sj h_g
        exact (rl 5 [0] 10 Try.call6 (zau h_rv6) rgg)
       replace h_g := iteF h_g hc11
       obtain rfl := sj h_g
       exact rgg
      replace h_g := iteF h_g hc10
      obtain rfl := sj h_g
      exact rgg
     replace h_g := iteF h_g hc8
     refine (rsl 8 [] 77 rv3 (fun hc12 => ?_) (fun hc12 => ?_))
     ·
      replace h_g := iteT h_g hc12
      refine (rsl 4 [] 81 (decide (d < 64)) (fun hc13 => ?_) (fun hc13 => ?_))
      ·
       replace h_g := iteT h_g hc13
       obtain ⟨rv7, h_rv7, h_g⟩ := bnd h_g
       obtain rfl := sj h_g
       exact (rl 5 [0] 10 Try.call6 (zau h_rv7) rgg)
      replace h_g := iteF h_g hc13
      obtain rfl := sj h_g
      exact rgg
     replace h_g := iteF h_g hc12
     obtain rfl := sj h_g
     exact rgg
    replace h_g := iteF h_g hc7
    refine (rsl 11 [] 77 rv3 (fun hc14 => ?_) (fun hc14 => ?_))
    ·
     replace h_g := iteT h_g hc14
     refine (rsl 4 [] 81 (decide (d < 64)) (fun hc15 => ?_) (fun hc15 => ?_))
     ·
      replace h_g := iteT h_g hc15
      obtain ⟨rv8, h_rv8, h_g⟩ := bnd h_g
      obtain rfl := sj h_g
      exact (rl 5 [0] 10 Try.call6 (zau h_rv8) rgg)
     replace h_g := iteF h_g hc15
     obtain rfl := sj h_g
     exact rgg
    replace h_g := iteF h_g hc14
    obtain rfl := sj h_g
    exact rgg
   replace h_g := iteF h_g hc6
   refine (rsl 14 [] 77 rv3 (fun hc16 => ?_) (fun hc16 => ?_))
   ·
    replace h_g := iteT h_g hc16
    refine (rsl 4 [] 81 (decide (d < 64)) (fun hc17 => ?_) (fun hc17 => ?_))
    ·
     replace h_g := iteT h_g hc17
     obtain ⟨rv9, h_rv9, h_g⟩ := bnd h_g
     obtain rfl := sj h_g
     exact (rl 5 [0] 10 Try.call6 (zau h_rv9) rgg)
    replace h_g := iteF h_g hc17
    obtain rfl := sj h_g
    exact rgg
   replace h_g := iteF h_g hc16
   obtain rfl := sj h_g
   exact rgg
  replace h_g := iteF h_g hc4
  refine (rsl 8 [] 63 (!rv3) (fun hc18 => ?_) (fun hc18 => ?_))
  ·
   replace h_g := iteT h_g hc18
   refine (rsl 3 [] 66 rv5 (fun hc19 => ?_) (fun hc19 => ?_))
   ·
    replace h_g := iteT h_g hc19
    refine (rsl 3 [] 69 rv4 (fun hc20 => ?_) (fun hc20 => ?_))
    ·
     replace h_g := iteT h_g hc20
     refine (rsl 6 [] 75 ((av.length : Int) == 0) (fun hc21 => ?_) (fun hc21 => ?_))
     ·
      replace h_g := iteT h_g hc21
      obtain rfl := sj h_g
      exact rgg
     replace h_g := iteF h_g hc21
     refine (rsl 2 [] 77 rv3 (fun hc22 => ?_) (fun hc22 => ?_))
     ·
      replace h_g := iteT h_g hc22
      refine (rsl 4 [] 81 (decide (d < 64)) (fun hc23 => ?_) (fun hc23 => ?_))
      ·
       replace h_g := iteT h_g hc23
       obtain ⟨rv10, h_rv10, h_g⟩ := bnd h_g
       obtain rfl := sj h_g
       exact (rl 5 [0] 10 Try.call6 (zau h_rv10) rgg)
      replace h_g := iteF h_g hc23
      obtain rfl := sj h_g
      exact rgg
     replace h_g := iteF h_g hc22
     obtain rfl := sj h_g
     exact rgg
    replace h_g := iteF h_g hc20
    refine (rsl 8 [] 77 rv3 (fun hc24 => ?_) (fun hc24 => ?_))
    ·
     replace h_g := iteT h_g hc24
     refine (rsl 4 [] 81 (decide (d < 64)) (fun hc25 => ?_) (fun hc25 => ?_))
     ·
      replace h_g := iteT h_g hc25
      obtain ⟨rv11, h_rv11, h_g⟩ := bnd h_g
      obtain rfl := sj h_g
      exact (rl 5 [0] 10 Try.call6 (zau h_rv11) rgg)
     replace h_g := iteF h_g hc25
     obtain rfl := sj h_g
     exact rgg
    replace h_g := iteF h_g hc24
    obtain rfl := sj h_g
    exact rgg
   replace h_g := iteF h_g hc19
   refine (rsl 11 [] 77 rv3 (fun hc26 => ?_) (fun hc26 => ?_))
   ·
    replace h_g := iteT h_g hc26
    refine (rsl 4 [] 81 (decide (d < 64)) (fun hc27 => ?_) (fun hc27 => ?_))
    ·
     replace h_g := iteT h_g hc27
     obtain ⟨rv12, h_rv12, h_g⟩ := bnd h_g
     obtain rfl := sj h_g
     exact (rl 5 [0] 10 Try.call6 (zau h_rv12) rgg)
    replace h_g := iteF h_g hc27
    obtain rfl := sj h_g
    exact rgg
   replace h_g := iteF h_g hc26
   obtain rfl := sj h_g
   exact rgg
  replace h_g := iteF h_g hc18
  refine (rsl 14 [] 77 rv3 (fun hc28 => ?_) (fun hc28 => ?_))
  ·
   replace h_g := iteT h_g hc28
   refine (rsl 4 [] 81 (decide (d < 64)) (fun hc29 => ?_) (fun hc29 => ?_))
   ·
    replace h_g := iteT h_g hc29
    obtain ⟨rv13, h_rv13, h_g⟩ := bnd h_g
    obtain rfl := sj h_g
    exact (rl 5 [0] 10 Try.call6 (zau h_rv13) rgg)
   replace h_g := iteF h_g hc29
   obtain rfl := sj h_g
   exact rgg
  replace h_g := iteF h_g hc28
  obtain rfl := sj h_g
  exact rgg
 rcases zq h with ⟨hc30, h⟩ | ⟨hc30, h⟩
 ·
  refine jT hc30 ?_
  refine jp ?_
  obtain rfl := sj h
  exact zw lzz
 refine jF hc30 ?_
 refine zU ⟨[(0, .sl zi [0] sv), (1, kI root), (2, .sl Rp.byte [0] av), (3, .sl Rp.byte [0] b), (4, kI d), (11, .own Rp.byte 5 11 [] v3), (96, kB ((!rv3) || (!rv4)))], []⟩ ?_ ?_
 ·
  refine (rsl 3 [] 93 (!rv3) (fun hc31 => ?_) (fun hc31 => ?_))
  · exact (rbl [] 96 true ((!rv3) || (!rv4)) (by rw [hc31] <;> rfl))
  exact (rbl [] 96 (!rv4) ((!rv3) || (!rv4)) (by rw [hc31] <;> rfl))
 rcases zq h with ⟨hc32, h⟩ | ⟨hc32, h⟩
 ·
  refine jT hc32 ?_
  refine jp ?_
  obtain rfl := sj h
  exact zw lzz
 refine jF hc32 ?_
 obtain ⟨rv14, h_rv14, h⟩ := bnd h
 refine jr (rl 3 [0] 10 Try.call7 (zed h_rv14) rf) ?_
 obtain ⟨rv15, h_rv15, h⟩ := bnd h
 refine jr (rl 3 [0] 10 Try.call7 (zed h_rv15) rf) ?_
 obtain ⟨rv16, h_rv16, h⟩ := bnd h
 refine jr (rl 3 [0, 11] 10 Try.call7 (zed h_rv16) rf) ?_
 obtain ⟨g2, h_g2, h⟩ := bnd h
 refine zU ⟨[(10, kB g2)], []⟩ ?_ ?_
 ·
  refine (rsl 10 [] 127 ((IntKind.i64.wrap ((IntKind.i64.wrap ((IntKind.i64.wrap rv14.2) + (IntKind.i64.wrap rv15.2))) + (IntKind.i64.wrap rv16.2))) == 0) (fun hc33 => ?_) (fun hc33 => ?_))
  ·
   replace h_g2 := iteT h_g2 hc33
   refine (rsl 7 [] 134 (rv16.1 == (if rv14.1 < rv15.1 then rv15.1 else rv14.1)) (fun hc34 => ?_) (fun hc34 => ?_))
   ·
    replace h_g2 := iteT h_g2 hc34
    refine (rsl 5 [] 139 (decide (rv16.1 ≤ d)) (fun hc35 => ?_) (fun hc35 => ?_))
    ·
     replace h_g2 := iteT h_g2 hc35
     refine (rsl 3 [] 142 (rv16.1 == 0) (fun hc36 => ?_) (fun hc36 => ?_))
     ·
      replace h_g2 := iteT h_g2 hc36
      obtain rfl := sj h_g2
      exact rgg
     replace h_g2 := iteF h_g2 hc36
     obtain ⟨rv17, h_rv17, h_g2⟩ := bnd h_g2
     obtain rfl := sj h_g2
     exact (rl 5 [0, 11] 10 Try.call6 (zau h_rv17) rgg)
    replace h_g2 := iteF h_g2 hc35
    obtain rfl := sj h_g2
    exact rgg
   replace h_g2 := iteF h_g2 hc34
   obtain rfl := sj h_g2
   exact rgg
  replace h_g2 := iteF h_g2 hc33
  obtain rfl := sj h_g2
  exact rgg
 obtain rfl := sj h
 exact zw lzz
end Go.Proofs.Ytnfembipjdohcaa

/-
  The Go functions do what the plain functions say. No condition.
-/
import Derived.Test.YtnfembipjdohcaaGreatG6
namespace Go.Proofs.YtnfembipjdohcaaGreat
open Go Go.RowKit
set_option linter.unusedVariables false
set_option maxRecDepth 100000
set_option maxHeartbeats 3200000
theorem zlg {sv : (List zh)} {r : Bool} (h : zen sv = some r) : FnOk Tryz.prog 16 [.sl zd [0] sv] [kB r] := by
 refine zx (E := ⟨[(2, kB r)], []⟩) 12 Tryz.func16 rfl rfl rfl ⟨rfl, trivial⟩ (fun Xt => ?_)
 refine zr ?_
 unfold zen at h
 refine jp ?_
 obtain ⟨rv, h_rv, h⟩ := bnd h
 refine jr (rl 1 [0] 9 Tryz.call23 (zlf h_rv) (rfl' [11])) ?_
 refine jp ?_
 obtain rfl := sj h
 exact zv lzz
theorem zoZ {m : zh} {b : (List UInt8)} {fromv : Int} {r : (zb × Int)} (h : zgZ m b fromv = some r) : FnOk Tryz.prog 40 [.rc zd [0] m, .sl Rp.byte [0] b, kI fromv] [.rc zf [] r.1, k8 r.2] := by
 refine zx (E := ⟨[(6, .ptr 2 0), (7, k8 r.2)], [⟨2, 68, [kI r.1.Record.Number, kI r.1.Record.Wire, kI r.1.Record.From, kI r.1.Record.At, kI r.1.Record.To, kI r.1.Field, kB r.1.Run]⟩]⟩) 15 Tryz.func40 rfl rfl rfl ⟨⟨_, _, rfl, rfl, rfl, rfl, ⟨Tryz.isAgg68, Tryz.sizeOf68⟩⟩, rfl, trivial⟩ (fun Xt => ?_)
 refine zr ?_
 unfold zgZ at h
 refine jr (ra 0 [.rc zd [0] m] rfl (zih 13 [kS m.Name, .sl za [0] m.Fields] [0] rfl rfl rfl rfl rfl) rfl (rfl' [14])) ?_
 obtain ⟨rv2, h_rv2, h⟩ := bnd h
 refine jr (rc 3 rfl (zij (rk := zG) (rv := zI) 15 rfl) (rkl 0 [] ⟨[(6, .ptr 14 0), (8, .ag [kS m.Name, .sl za [0] m.Fields]), (9, .sl Rp.byte [0] b), (10, kI fromv), (11, .om zG zI 15 [] ([] : (List (zD × zJ))))], [⟨14, 68, [kI 0, kI 0, kI 0, kI 0, kI 0, kI 0, kB false]⟩]⟩ (zdU ⟨[(6, .ptr 14 0), (8, .ag [kS m.Name, .sl za [0] m.Fields]), (9, .sl Rp.byte [0] b), (10, kI fromv), (11, .om zG zI 15 [0] rv2.2.2)], [⟨14, 68, [kI 0, kI 0, kI 0, kI 0, kI 0, kI 0, kB false]⟩]⟩ (zjA.le (ins' := [(.tmp 8, .ag [kS m.Name, .sl za [0] m.Fields]), (.tmp 9, .sl Rp.byte [0] b), (.tmp 10, kI fromv), (.tmp 11, .om zG zI 15 [] ([] : (List (zD × zJ))))]) (zht (args := [.tmp 8, .tmp 9, .tmp 10, .tmp 11]) [.rc zd [0] m, .sl Rp.byte [0] b, kI fromv, .om zG zI 15 [] ([] : (List (zD × zJ)))] [(15, 2)] [0] 15 [] rfl Tryz.call54 (zpb h_rv2) rfl rfl (by kernel_rfl) rfl rfl rfl) ⟨⟨rfl, zls zd [0] m [kS m.Name, .sl za [0] m.Fields] rfl rfl⟩, ⟨rfl, AV.le_refl _⟩, ⟨rfl, AV.le_refl _⟩, ⟨rfl, AV.le_refl _⟩, trivial⟩) rfl (by kernel_rfl) (by kernel_rfl) ⟨⟨_, rfl, zq rfl⟩, ⟨_, rfl, zq rfl⟩, ⟨_, rfl, zq rfl⟩, ⟨_, rfl, zq rfl⟩, ⟨_, rfl, zcB 0 rfl⟩, trivial⟩ ⟨⟨_, rfl, rfl, rfl, ⟨zq rfl, zq rfl, zq rfl, zq rfl, zq rfl, zq rfl, zq rfl, trivial⟩⟩, trivial⟩ rf))) ?_
 obtain rfl := sj h
 refine zv ?_
 refine lk [6, 7] [14] 14 2 ?_
 exact lzz
theorem zno {k : Int} {b : (List UInt8)} {r : (Int × (List UInt8))} (h : zhs k b = some r) : FnOk Tryz.prog 70 [kI k, .sl Rp.byte [0] b] [.fv 80 [.bp (Rp.int .i64) 3 908000 [] r.1, .bp (Rp.list Rp.byte) 24 908001 [0] r.2]] := by
 refine zx (E := ⟨[(4, .fv 80 [.bp (Rp.int .i64) 3 908000 [] r.1, .bp (Rp.list Rp.byte) 24 908001 [0] r.2])], []⟩) 6 Tryz.func70 rfl rfl rfl ⟨rfl, trivial⟩ (fun Xt => ?_)
 refine zr ?_
 unfold zhs at h
 refine jq [908000, 908001] ?_
 refine jr (ra 0 [.ptr 908000 0, .ptr 908001 0] rfl (zvi (g := 80) [.tmp 2, .tmp 3] [⟨908000, 3, [kI k]⟩, ⟨908001, 24, [.sl Rp.byte [0] b]⟩] [.bp (Rp.int .i64) 3 908000 [] k, .bp (Rp.list Rp.byte) 24 908001 [0] b] rfl ⟨⟨rfl, rfl, rfl, rfl⟩, ⟨rfl, rfl, rfl, rfl⟩, trivial⟩ rfl) rfl rf) ?_
 obtain rfl := sj h
 exact zv lzz
theorem zjf {fuel : Nat} {sv : (List zh)} {root : Int} {b : (List UInt8)} {d : Int} {r : Bool} (h : zcZ fuel sv root b d = some r) : FnOk Tryz.prog 18 [.sl zd [0] sv, kI root, .sl Rp.byte [0] b, kI d] [kB r] := by
 refine zx (E := ⟨[(8, kB r)], []⟩) 21 Tryz.func18 rfl rfl rfl ⟨rfl, trivial⟩ (fun Xt => ?_)
 refine zr ?_
 unfold zcZ at h
 refine jp ?_
 obtain ⟨rv, h_rv, h⟩ := bnd h
 refine jr (rl 4 [0] 9 Tryz.call8 (zdk h_rv) rf) ?_
 refine jp ?_
 obtain rfl := sj h
 exact zv lzz
theorem ziZ {sv : (List zh)} {root : Int} {d : Int} {r : Int} (h : zeH sv root d = some r) : FnOk Tryz.prog 10 [.sl zd [0] sv, kI root, kI d] [k8 r] := by
 refine zx (E := ⟨[(6, k8 r)], []⟩) 28 Tryz.func10 rfl rfl rfl ⟨rfl, trivial⟩ (fun Xt => ?_)
 refine zr ?_
 unfold zeH at h
 refine jp ?_
 refine zA ?_
 obtain ⟨rv, h_rv, h⟩ := bnd h
 refine jr (rl 1 [0] 9 Tryz.call16 (zlg h_rv) rf) ?_
 rcases zm h with ⟨hc1, h⟩ | ⟨hc1, h⟩
 ·
  refine jT hc1 ?_
  refine jp ?_
  obtain rfl := sj h
  exact zv lzz
 refine jF hc1 ?_
 refine zE ⟨[(11, kB ((decide (root < 0)) || ((decide (root ≥ (sv.length : Int))) || ((decide (d < 0)) || (decide (d > 64))))))], []⟩ ?_ ?_
 ·
  refine (rsl 3 [] 14 (decide (root < 0)) (fun hc2 => ?_) (fun hc2 => ?_))
  · exact (rbl [] 11 true ((decide (root < 0)) || ((decide (root ≥ (sv.length : Int))) || ((decide (d < 0)) || (decide (d > 64))))) (by rw [hc2] <;> rfl))
  refine (rsl 6 [] 20 (decide (root ≥ (sv.length : Int))) (fun hc3 => ?_) (fun hc3 => ?_))
  · exact (rbl [] 11 true ((decide (root < 0)) || ((decide (root ≥ (sv.length : Int))) || ((decide (d < 0)) || (decide (d > 64))))) (by rw [hc2, hc3] <;> rfl))
  refine (rsl 4 [] 24 (decide (d < 0)) (fun hc4 => ?_) (fun hc4 => ?_))
  · exact (rbl [] 11 true ((decide (root < 0)) || ((decide (root ≥ (sv.length : Int))) || ((decide (d < 0)) || (decide (d > 64))))) (by rw [hc2, hc3, hc4] <;> rfl))
  exact (rbl [] 11 (decide (d > 64)) ((decide (root < 0)) || ((decide (root ≥ (sv.length : Int))) || ((decide (d < 0)) || (decide (d > 64))))) (by rw [hc2, hc3, hc4] <;> rfl))
 rcases zm h with ⟨hc5, h⟩ | ⟨hc5, h⟩
 ·
  refine jT hc5 ?_
  refine jp ?_
  obtain rfl := sj h
  exact zv lzz
 refine jF hc5 ?_
 refine zap ?_
 refine jp ?_
 obtain rfl := sj h
 exact zv lzz
theorem zjw {wv : zN} {message : Int} {fromv : Int} {tov : Int} {r : (zb × Int × (List (zg × zb)))} (h : zdd wv message fromv tov = some r) : zej Tryz.prog 25 [.ag [.sl zd [0] wv.s, .sl Rp.byte [0] wv.b, .om ze zf 2 [0] wv.met], kI message, kI fromv, kI tov] [.rc zf [] r.1, k8 r.2.1] [.ag [.any, .any, .om ze zf 2 [0] r.2.2], .any, .any, .any] := by
 refine zfq (E := ⟨[(0, .ag [.any, .any, .om ze zf 2 [0] r.2.2]), (8, .ptr 3 0), (9, k8 r.2.1)], [⟨3, 68, [kI r.1.Record.Number, kI r.1.Record.Wire, kI r.1.Record.From, kI r.1.Record.At, kI r.1.Record.To, kI r.1.Field, kB r.1.Run]⟩]⟩) 67 [0] Tryz.func25 rfl rfl rfl ⟨⟨_, _, rfl, rfl, rfl, rfl, ⟨Tryz.isAgg68, Tryz.sizeOf68⟩⟩, rfl, trivial⟩ ⟨.inr ⟨rfl, rfl⟩, .inl rfl, .inl rfl, .inl rfl, trivial⟩ rfl (fun Xt old => ?_)
 refine zr ?_
 unfold zdd at h
 refine jq [13, 14] ?_
 obtain ⟨v, h_v, h⟩ := bnd h
 refine jr (ra 3 [.sl Rp.byte [0] wv.b, kI tov] rfl (zfD none (some (kI tov)) rfl zde.el (zR _ _ _) ⟨rfl, rfl⟩ ⟨rfl, rfl⟩ h_v) rfl rf) ?_
 obtain ⟨rv, h_rv, h⟩ := bnd h
 refine jr (rl 2 [0] 13 Tryz.call39 (zis h_rv) (rfl' [15])) ?_
 refine jp ?_
 rcases zm h with ⟨hc1, h⟩ | ⟨hc1, h⟩
 ·
  refine jT hc1 ?_
  refine jr (rc 0 rfl (zC (r := zf) [] [] (⟨(⟨0, 0, 0, 0, 0⟩ : zj), 0, false⟩ : zb) rfl zqe rfl rfl) rf) ?_
  obtain rfl := sj h
  refine zdp ?_
  refine lk [0, 8, 9] [14] 14 3 ?_
  refine zcK ⟨[(0, .ag [.sl zd [0] wv.s, .sl Rp.byte [0] wv.b, .om ze zf 2 [0] wv.met]), (8, .ptr 3 0), (9, k8 rv.2)], [⟨3, 68, [kI 0, kI 0, kI 0, kI 0, kI 0, kI 0, kB false]⟩]⟩ (by kernel_rfl) ?_
  refine zcQ 0 (.ag [.any, .any, .om ze zf 2 [0] (((⟨(⟨0, 0, 0, 0, 0⟩ : zj), 0, false⟩ : zb), rv.2, wv.met) : (zb × Int × (List (zg × zb)))).2.2]) rfl (zdG ⟨zaw _, zaw _, AV.le_refl _, trivial⟩) ?_
  exact lzz
 refine jF hc1 ?_
 refine jr (rc 5 rfl (zC (r := ze) [kI message, kI rv.1.Number, kI rv.1.Wire] [] (⟨message, rv.1.Number, rv.1.Wire⟩ : zg) rfl zwO rfl rfl) (rfl' [16])) ?_
 refine jr (lb 2 ze [] (⟨message, rv.1.Number, rv.1.Wire⟩ : zg) (ra 0 [.om ze zf 2 [0] wv.met, .rc ze [] (⟨message, rv.1.Number, rv.1.Wire⟩ : zg)] rfl (zml (rk := ze) (rv := zf) (m := wv.met) (k := (⟨message, rv.1.Number, rv.1.Wire⟩ : zg)) (.rc zf [2, 0] ((mget wv.met (⟨message, rv.1.Number, rv.1.Wire⟩ : zg)).getD (⟨(⟨0, 0, 0, 0, 0⟩ : zj), 0, false⟩ : zb))) rfl zua (zhf _ _ _ _ _) (zbo rfl) (zou rfl)) rfl (rfl' [17]))) ?_
 refine jp ?_
 rcases zm h with ⟨hc2, h⟩ | ⟨hc2, h⟩
 ·
  refine jT hc2 ?_
  obtain ⟨x, h_x, h⟩ := bnd h
  obtain ⟨rv2, h_rv2, h⟩ := bnd h
  refine jr (ra 3 [.sl zd [0] wv.s, kI message] rfl (zbx rfl zet.el (zR _ _ _) h_x) rfl (ra 0 [.ep zd [0] x 0] rfl (zgr rfl ⟨Tryz.isAgg42, Tryz.sizeOf42⟩) rfl (rl 2 [0] 16 Tryz.call40 (zoZ h_rv2) rf))) ?_
  refine jp ?_
  rcases zm h with ⟨hc3, h⟩ | ⟨hc3, h⟩
  ·
   refine jT hc3 ?_
   refine jr (rc 0 rfl (zC (r := zf) [] [] (⟨(⟨0, 0, 0, 0, 0⟩ : zj), 0, false⟩ : zb) rfl zqe rfl rfl) rf) ?_
   obtain rfl := sj h
   refine zdp ?_
   refine lk [0, 8, 9] [14] 14 3 ?_
   refine zcK ⟨[(0, .ag [.sl zd [0] wv.s, .sl Rp.byte [0] wv.b, .om ze zf 2 [0] wv.met]), (8, .ptr 3 0), (9, k8 rv2.2)], [⟨3, 68, [kI 0, kI 0, kI 0, kI 0, kI 0, kI 0, kB false]⟩]⟩ (by kernel_rfl) ?_
   refine zcQ 0 (.ag [.any, .any, .om ze zf 2 [0] (((⟨(⟨0, 0, 0, 0, 0⟩ : zj), 0, false⟩ : zb), rv2.2, wv.met) : (zb × Int × (List (zg × zb)))).2.2]) rfl (zdG ⟨zaw _, zaw _, AV.le_refl _, trivial⟩) ?_
   exact lzz
  refine jF hc3 ?_
  refine jr (lb 2 ze [] (⟨message, rv.1.Number, rv.1.Wire⟩ : zg) (lb 0 zf [] rv2.1 (rkl 0 [] ⟨[(0, .ag [.sl zd [0] wv.s, .sl Rp.byte [0] wv.b, .om ze zf 2 [0] wv.met]), (8, .ptr 14 0), (11, .ptr 15 0), (14, .ptr 17 0), (61, .om ze zf 2 [0] wv.met), (62, .rc ze [] (⟨message, rv.1.Number, rv.1.Wire⟩ : zg)), (63, .rc zf [] rv2.1)], [⟨14, 68, [kI 0, kI 0, kI 0, kI 0, kI 0, kI 0, kB false]⟩, ⟨15, 66, [kI rv.1.Number, kI rv.1.Wire, kI rv.1.From, kI rv.1.At, kI rv.1.To]⟩, ⟨17, 68, [kI rv2.1.Record.Number, kI rv2.1.Record.Wire, kI rv2.1.Record.From, kI rv2.1.Record.At, kI rv2.1.Record.To, kI rv2.1.Field, kB rv2.1.Run]⟩]⟩ (zdU ⟨[(0, .ag [.sl zd [0] wv.s, .sl Rp.byte [0] wv.b, .om ze zf 2 [0] (mput wv.met (⟨message, rv.1.Number, rv.1.Wire⟩ : zg) rv2.1)]), (8, .ptr 14 0), (11, .ptr 15 0), (14, .ptr 17 0), (61, .om ze zf 2 [0] (mput wv.met (⟨message, rv.1.Number, rv.1.Wire⟩ : zg) rv2.1)), (62, .rc ze [] (⟨message, rv.1.Number, rv.1.Wire⟩ : zg)), (63, .rc zf [] rv2.1)], [⟨14, 68, [kI 0, kI 0, kI 0, kI 0, kI 0, kI 0, kB false]⟩, ⟨15, 66, [kI rv.1.Number, kI rv.1.Wire, kI rv.1.From, kI rv.1.At, kI rv.1.To]⟩, ⟨17, 68, [kI rv2.1.Record.Number, kI rv2.1.Record.Wire, kI rv2.1.Record.From, kI rv2.1.Record.At, kI rv2.1.Record.To, kI rv2.1.Field, kB rv2.1.Run]⟩]⟩ (zki (rk := ze) (rv := zf) (m := wv.met) (ℓ := 2) (C := [0]) (C1 := []) (D := []) (⟨message, rv.1.Number, rv.1.Wire⟩ : zg) rv2.1 [0] zua (.inl rfl) (zbo rfl) (zbo rfl) rfl) rfl (by kernel_rfl) (by kernel_rfl) ⟨⟨_, rfl, zgU ⟨zq rfl, zq rfl, zcB 0 rfl, trivial⟩⟩, ⟨_, rfl, zq rfl⟩, ⟨_, rfl, zq rfl⟩, ⟨_, rfl, zq rfl⟩, ⟨_, rfl, zcB 0 rfl⟩, ⟨_, rfl, zq rfl⟩, ⟨_, rfl, zq rfl⟩, trivial⟩ ⟨⟨_, rfl, rfl, rfl, ⟨zq rfl, zq rfl, zq rfl, zq rfl, zq rfl, zq rfl, zq rfl, trivial⟩⟩, ⟨_, rfl, rfl, rfl, ⟨zq rfl, zq rfl, zq rfl, zq rfl, zq rfl, trivial⟩⟩, ⟨_, rfl, rfl, rfl, ⟨zq rfl, zq rfl, zq rfl, zq rfl, zq rfl, zq rfl, zq rfl, trivial⟩⟩, trivial⟩ rf)))) ?_
  refine jr (lb 0 zy [] rv.1 rf) ?_
  refine jr (lb 0 zf [] (⟨rv.1, rv2.1.Field, rv2.1.Run⟩ : zb) rf) ?_
  obtain rfl := sj h
  refine zdp ?_
  refine lk [0, 8, 9] [14] 14 3 ?_
  refine zcK ⟨[(0, .ag [.sl zd [0] wv.s, .sl Rp.byte [0] wv.b, .om ze zf 2 [0] (mput wv.met (⟨message, rv.1.Number, rv.1.Wire⟩ : zg) rv2.1)]), (8, .ptr 3 0), (9, k8 0)], [⟨3, 68, [kI rv.1.Number, kI rv.1.Wire, kI rv.1.From, kI rv.1.At, kI rv.1.To, kI rv2.1.Field, kB rv2.1.Run]⟩]⟩ (by kernel_rfl) ?_
  refine zcQ 0 (.ag [.any, .any, .om ze zf 2 [0] (((⟨rv.1, rv2.1.Field, rv2.1.Run⟩ : zb), 0, (mput wv.met (⟨message, rv.1.Number, rv.1.Wire⟩ : zg) rv2.1)) : (zb × Int × (List (zg × zb)))).2.2]) rfl (zdG ⟨zaw _, zaw _, AV.le_refl _, trivial⟩) ?_
  exact lzz
 refine jF hc2 ?_
 refine jr (lb 0 zy [] rv.1 rf) ?_
 refine jr (lb 0 zf [] (⟨rv.1, ((mget wv.met (⟨message, rv.1.Number, rv.1.Wire⟩ : zg)).getD (⟨(⟨0, 0, 0, 0, 0⟩ : zj), 0, false⟩ : zb)).Field, ((mget wv.met (⟨message, rv.1.Number, rv.1.Wire⟩ : zg)).getD (⟨(⟨0, 0, 0, 0, 0⟩ : zj), 0, false⟩ : zb)).Run⟩ : zb) rf) ?_
 obtain rfl := sj h
 refine zdp ?_
 refine lk [0, 8, 9] [14] 14 3 ?_
 refine zcK ⟨[(0, .ag [.sl zd [0] wv.s, .sl Rp.byte [0] wv.b, .om ze zf 2 [0] wv.met]), (8, .ptr 3 0), (9, k8 0)], [⟨3, 68, [kI rv.1.Number, kI rv.1.Wire, kI rv.1.From, kI rv.1.At, kI rv.1.To, kI (((mget wv.met (⟨message, rv.1.Number, rv.1.Wire⟩ : zg)).getD (⟨(⟨0, 0, 0, 0, 0⟩ : zj), 0, false⟩ : zb)).Field), kB (((mget wv.met (⟨message, rv.1.Number, rv.1.Wire⟩ : zg)).getD (⟨(⟨0, 0, 0, 0, 0⟩ : zj), 0, false⟩ : zb)).Run)]⟩]⟩ (by kernel_rfl) ?_
 refine zcQ 0 (.ag [.any, .any, .om ze zf 2 [0] (((⟨rv.1, (((mget wv.met (⟨message, rv.1.Number, rv.1.Wire⟩ : zg)).getD (⟨(⟨0, 0, 0, 0, 0⟩ : zj), 0, false⟩ : zb)).Field), (((mget wv.met (⟨message, rv.1.Number, rv.1.Wire⟩ : zg)).getD (⟨(⟨0, 0, 0, 0, 0⟩ : zj), 0, false⟩ : zb)).Run)⟩ : zb), 0, wv.met) : (zb × Int × (List (zg × zb)))).2.2]) rfl (zdG ⟨zaw _, zaw _, AV.le_refl _, trivial⟩) ?_
 exact lzz
theorem zoO {k : Int} {b : (List UInt8)} {r : (Int × Int)} (h : zgN k b = some r) : FnOk Tryz.prog 55 [kI k, .sl Rp.byte [0] b] [kI r.1, k8 r.2] := by
 refine zsf (E := ⟨[(4, .ptr 2 0), (5, .ptr 3 0)], [⟨2, 3, [kI r.1]⟩, ⟨3, 27, [k8 r.2]⟩]⟩) 20 Tryz.func55 rfl rfl rfl ⟨⟨_, _, rfl, rfl, rfl, rfl⟩, ⟨_, _, rfl, rfl, rfl, rfl⟩, trivial⟩ rfl rfl (fun Xt => ?_)
 refine zr ?_
 unfold zgN at h
 refine jq [13, 14] ?_
 refine jq [15] ?_
 obtain ⟨rv, h_rv, h⟩ := bnd h
 refine jr (rl 2 [0] 0 Tryz.call70 (zno h_rv) rf) ?_
 refine zA ?_
 obtain ⟨q, h_q, h⟩ := bnd h
 refine znM (E' := ⟨[(4, .ptr 13 0), (5, .ptr 14 0), (6, .ptr 15 0), (11, .fv 80 [.bp (Rp.int .i64) 3 908000 [] rv.1, .bp (Rp.list Rp.byte) 24 908001 [0] rv.2])], [⟨13, 3, [kI 0]⟩, ⟨14, 27, [k8 0]⟩, ⟨15, 3, [kI 0]⟩]⟩) ?_ ?_
 · exact lzz
 refine ztB (it := fun {σ : Type} (kf : Rnd σ ((List UInt8) × Int)) (sg : σ) => zcW rv.1 rv.2 kf sg) (zld rv.1 rv.2) [908000, 908001] [4, 5, 6] [13, 14, 15] [(4, .ptr 13 0), (5, .ptr 14 0), (6, .ptr 15 0)] (fun s : Int => [⟨13, 3, [kI 0]⟩, ⟨14, 27, [k8 0]⟩, ⟨15, 3, [kI s]⟩]) (fun o : (Int × Int) => [⟨13, 3, [kI 0]⟩, ⟨14, 27, [k8 o.1]⟩, ⟨15, 3, [kI o.2]⟩]) (fun o : (Int × Int) => .ret) (fun (s : Int) (x : ((List UInt8) × Int)) => zcA s x.1 x.2) (fun (s : Int) (x : ((List UInt8) × Int)) => ⟨[(4, .ptr 13 0), (5, .ptr 14 0), (6, .ptr 15 0), (8, k8 x.2)], [⟨13, 3, [kI 0]⟩, ⟨14, 27, [k8 0]⟩, ⟨15, 3, [kI s]⟩]⟩) rfl rfl Tryz.call80 rfl rfl rfl rfl rfl rfl (fun _ => rfl) (fun o => rfl) rfl rfl (fun _ => rfl) ?_ (fun _ _ => ⟨rfl, rfl⟩) ?_ h_q ?_
 ·
  clear h
  intro Xr old f x
  obtain ⟨x, x2⟩ := x
  refine zr ?_
  refine znM (E' := ⟨[(13, k8 x2), (12, .sl Rp.byte [0] x), (4, .ptr 13 0), (5, .ptr 14 0), (6, .ptr 15 0)], [⟨13, 3, [kI 0]⟩, ⟨14, 27, [k8 0]⟩, ⟨15, 3, [kI f]⟩]⟩) (fun _ _ _ hs => hs) ?_
  refine jp ?_
  exact zF lzz
 ·
  clear h
  intro Xr old f x o h
  obtain ⟨x, x2⟩ := x
  refine zr ?_
  refine znM (E' := ⟨[(4, .ptr 13 0), (5, .ptr 14 0), (6, .ptr 15 0), (8, k8 x2)], [⟨13, 3, [kI 0]⟩, ⟨14, 27, [k8 0]⟩, ⟨15, 3, [kI f]⟩]⟩) (fun _ _ _ hs => hs) ?_
  replace h : zcA f x x2 = some o := h
  unfold zcA at h
  refine zA ?_
  refine jp ?_
  rcases zm h with ⟨hc1, h⟩ | ⟨hc1, h⟩
  ·
   refine jT hc1 ?_
   refine jp ?_
   obtain rfl := sj h
   exact zuW lzz
  refine jF hc1 ?_
  refine jp ?_
  refine zap ?_
  obtain rfl := sj h
  exact zF lzz
 rcases q with u | j
 ·
  refine znM (E' := ⟨[(4, .ptr 13 0), (5, .ptr 14 0), (6, .ptr 15 0)], [⟨13, 3, [kI 0]⟩, ⟨14, 27, [k8 0]⟩, ⟨15, 3, [kI u]⟩]⟩) (fun _ _ _ hs => hs) ?_
  refine zap ?_
  refine jp ?_
  obtain rfl := sj h
  refine zv ?_
  refine lk [4, 5] [13, 14] 13 2 ?_
  refine lk [4, 5] [2, 14] 14 3 ?_
  exact lzz
 refine znM (E' := ⟨[(4, .ptr 13 0), (5, .ptr 14 0), (6, .ptr 15 0)], [⟨13, 3, [kI 0]⟩, ⟨14, 27, [k8 j.1]⟩, ⟨15, 3, [kI j.2]⟩]⟩) (fun _ _ _ hs => hs) ?_
 obtain rfl := sj h
 refine zv ?_
 refine lk [4, 5] [13, 14] 13 2 ?_
 refine lk [4, 5] [2, 14] 14 3 ?_
 exact lzz
theorem zhL {fuel : Nat} {sv : (List zh)} {root : Int} {b : (List UInt8)} {r : Int} (h : zcf fuel sv root b = some r) : FnOk Tryz.prog 13 [.sl zd [0] sv, kI root, .sl Rp.byte [0] b] [kI r] := by
 refine zx (E := ⟨[(6, kI r)], []⟩) 18 Tryz.func13 rfl rfl rfl ⟨rfl, trivial⟩ (fun Xt => ?_)
 refine zr ?_
 unfold zcf at h
 refine jp ?_
 refine jp ?_
 refine zA ?_
 obtain ⟨q, h_q, h⟩ := bnd h
 refine zaW (fun s : Int => zZ fuel b root sv s) (fun s => ⟨[(0, .sl zd [0] sv), (1, kI root), (2, .sl Rp.byte [0] b), (7, kI s)], []⟩) (fun o e a w => match o with | (.inl v_) => e = .exit 0 ∧ Sx ⟨⟨18, []⟩, Xt, false, #[]⟩ ⟨[], []⟩ a w | (.inr v_) => e = .ret ∧ Sx ⟨⟨18, []⟩, Xt, false, #[]⟩ ⟨[(6, kI v_)], []⟩ a w) ?_ h_q lzz ?_
 ·
  clear h
  intro d o h
  refine zr ?_
  replace h : zZ fuel b root sv d = some o := h
  unfold zZ at h
  refine jp ?_
  rcases zm h with ⟨hc1, h⟩ | ⟨hc1, h⟩
  ·
   refine jT hc1 ?_
   refine zA ?_
   obtain ⟨rv, h_rv, h⟩ := bnd h
   refine jr (rl 4 [0] 10 Tryz.call18 (zjf h_rv) rf) ?_
   rcases zm h with ⟨hc2, h⟩ | ⟨hc2, h⟩
   ·
    refine jT hc2 ?_
    refine jp ?_
    obtain rfl := sj h
    exact zaY lzz
   refine jF hc2 ?_
   refine zap ?_
   refine jp ?_
   obtain rfl := sj h
   exact zF lzz
  refine jF hc1 ?_
  obtain rfl := sj h
  exact zaX rfl lzz
 rcases q with u | u2
 ·
  refine zbI _ rfl ?_
  refine jp ?_
  obtain rfl := sj h
  exact zv lzz
 obtain rfl := sj h
 exact zdI lzz
end Go.Proofs.YtnfembipjdohcaaGreat

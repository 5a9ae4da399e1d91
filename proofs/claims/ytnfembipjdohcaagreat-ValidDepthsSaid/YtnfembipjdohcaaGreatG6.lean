/-
  The Go functions do what the plain functions say. No condition.
-/
import Derived.Test.YtnfembipjdohcaaGreatG5
namespace Go.Proofs.YtnfembipjdohcaaGreat
open Go Go.RowKit
set_option linter.unusedVariables false
set_option maxRecDepth 100000
set_option maxHeartbeats 3200000
theorem zlf {sv : (List zh)} {r : (zal × Int)} (h : zem sv = some r) : FnOk Tryz.prog 23 [.sl zd [0] sv] [.rc zbH [] r.1, k8 r.2] := by
 refine zx (E := ⟨[(2, .ptr 2 0), (3, k8 r.2)], [⟨2, 61, [kI r.1.Message, kI r.1.Field, kI r.1.What]⟩]⟩) 62 Tryz.func23 rfl rfl rfl ⟨⟨_, _, rfl, rfl, rfl, rfl, ⟨Tryz.isAgg61, Tryz.sizeOf61⟩⟩, rfl, trivial⟩ (fun Xt => ?_)
 refine zr ?_
 unfold zem at h
 refine jq [12] ?_
 refine zE ⟨[(0, .sl zd [0] sv), (2, .ptr 12 0), (18, kB ((decide ((sv.length : Int) < 1)) || (decide ((sv.length : Int) > 100))))], [⟨12, 61, [kI 0, kI 0, kI 0]⟩]⟩ ?_ ?_
 ·
  refine (rsl 4 [] 14 (decide ((sv.length : Int) < 1)) (fun hc1 => ?_) (fun hc1 => ?_))
  · exact (rbl [] 18 true ((decide ((sv.length : Int) < 1)) || (decide ((sv.length : Int) > 100))) (by rw [hc1] <;> rfl))
  exact (rbl [] 18 (decide ((sv.length : Int) > 100)) ((decide ((sv.length : Int) < 1)) || (decide ((sv.length : Int) > 100))) (by rw [hc1] <;> rfl))
 rcases zm h with ⟨hc2, h⟩ | ⟨hc2, h⟩
 ·
  refine jT hc2 ?_
  refine jr (rc 0 rfl (zC (r := zbH) [kI (-1), kI (-1), kI 1] [] (⟨(-1), (-1), 1⟩ : zal) rfl zrU rfl rfl) rf) ?_
  obtain rfl := sj h
  refine zv ?_
  refine lk [2, 3] [12] 12 2 ?_
  exact lzz
 refine jF hc2 ?_
 obtain ⟨rv, h_rv, h⟩ := bnd h
 refine jr (rl 2 [1] 11 Tryz.call34 (zpG h_rv) (rc 0 rfl (zij (rk := zo) (rv := Rp.bool) 14 rfl) (rc 0 rfl (zij (rk := zn) (rv := Rp.bool) 15 rfl) (ra 0 [kI (sv.length : Int), .own (Rp.int .i64) 3 13 [] rv, .om zo Rp.bool 14 [] ([] : (List (zi × Bool))), .om zn Rp.bool 15 [] ([] : (List (zk × Bool)))] rfl (zkx [kI (sv.length : Int), .own (Rp.int .i64) 3 13 [] rv, .om zo Rp.bool 14 [] ([] : (List (zi × Bool))), .om zn Rp.bool 15 [] ([] : (List (zk × Bool)))] [kI (sv.length : Int), .own (Rp.int .i64) 3 13 [] rv, .om zo Rp.bool 14 [] ([] : (List (zi × Bool))), .om zn Rp.bool 15 [] ([] : (List (zk × Bool)))] rfl zwM rfl) rfl (rfl' [16]))))) ?_
 refine jp ?_
 refine zA ?_
 obtain ⟨q2, h_q2, h⟩ := bnd h
 refine zaW (fun s : (Int × (List (zi × Bool)) × (List (zk × Bool))) => zaj rv sv s.1 s.2.1 s.2.2) (fun s => ⟨[(2, .ptr 12 0), (4, .ptr 16 0), (26, .sl zd [0] sv), (27, kI (sv.length : Int)), (28, kI s.1)], [⟨12, 61, [kI 0, kI 0, kI 0]⟩, ⟨16, 85, [kI (sv.length : Int), .own (Rp.int .i64) 3 13 [] rv, .om zo Rp.bool 14 [13, 0] s.2.1, .om zn Rp.bool 15 [13, 0] s.2.2]⟩]⟩) (fun o e a w => match o with | (.inl v_) => e = .exit 0 ∧ Sx ⟨⟨62, []⟩, Xt, false, #[]⟩ ⟨[(2, .ptr 12 0)], [⟨12, 61, [kI 0, kI 0, kI 0]⟩]⟩ a w | (.inr v_) => e = .ret ∧ Sx ⟨⟨62, []⟩, Xt, false, #[]⟩ ⟨[(2, .ptr 12 0), (3, k8 9)], [⟨12, 61, [kI v_.1, kI v_.2.1, kI v_.2.2]⟩]⟩ a w) ?_ h_q2 ?_ ?_
 ·
  clear h
  intro s o h
  obtain ⟨v2, f, f2⟩ := s
  refine zr ?_
  replace h : zaj rv sv v2 f f2 = some o := h
  unfold zaj at h
  refine jp ?_
  rcases zm h with ⟨hc3, h⟩ | ⟨hc3, h⟩
  ·
   refine jT hc3 ?_
   refine zA ?_
   obtain ⟨x, h_x, h⟩ := bnd h
   refine jr (ra 1 [.sl zd [0] sv, kI v2] rfl (zbx rfl zet.el (zR _ _ _) h_x) rfl (ra 0 [.ep zd [0] x 0] rfl (zgr rfl ⟨Tryz.isAgg42, Tryz.sizeOf42⟩) rfl (ral 2 [18] [.ptr 18 0, .rc zd [0] x] rfl (zky (r := zd) (b := ⟨18, 42, [kS [], kN]⟩) (off := 0) [kS x.Name, .sl za [0] x.Fields] rfl Tryz.sizeOf42 rfl rfl rfl rfl) rfl rf))) ?_
   obtain ⟨rv3, h_rv3, h⟩ := bnd h
   refine jr (rkl 2 [] ⟨[(2, .ptr 12 0), (4, .ptr 16 0), (5, kI v2), (6, .ptr 18 0), (26, .sl zd [0] sv), (27, kI (sv.length : Int)), (28, kI v2), (33, .ag [kI (sv.length : Int), .own (Rp.int .i64) 3 13 [] rv, .om zo Rp.bool 14 [13, 0] f, .om zn Rp.bool 15 [13, 0] f2]), (34, .ag [kS x.Name, .sl za [0] x.Fields])], [⟨12, 61, [kI 0, kI 0, kI 0]⟩, ⟨16, 85, [kI (sv.length : Int), .own (Rp.int .i64) 3 13 [] rv, .om zo Rp.bool 14 [13, 0] f, .om zn Rp.bool 15 [13, 0] f2]⟩, ⟨18, 42, [kS x.Name, .sl za [0] x.Fields]⟩]⟩ (zdU ⟨[(2, .ptr 12 0), (4, .ptr 16 0), (5, kI v2), (6, .ptr 18 0), (26, .sl zd [0] sv), (27, kI (sv.length : Int)), (28, kI v2), (33, .ag [kI (sv.length : Int), .own (Rp.int .i64) 3 13 [] rv, .om zo Rp.bool 14 [13, 0] rv3.2.1, .om zn Rp.bool 15 [13, 0] rv3.2.2]), (34, .ag [kS x.Name, .sl za [0] x.Fields])], [⟨12, 61, [kI 0, kI 0, kI 0]⟩, ⟨16, 85, [kI (sv.length : Int), .own (Rp.int .i64) 3 13 [] rv, .om zo Rp.bool 14 [13, 0] rv3.2.1, .om zn Rp.bool 15 [13, 0] rv3.2.2]⟩, ⟨18, 42, [kS x.Name, .sl za [0] x.Fields]⟩]⟩ (zjA.le (ins' := [(.tmp 33, .ag [kI (sv.length : Int), .own (Rp.int .i64) 3 13 [] rv, .om zo Rp.bool 14 [13, 0] f, .om zn Rp.bool 15 [13, 0] f2]), (.tmp 34, .ag [kS x.Name, .sl za [0] x.Fields])]) (zht (args := [.tmp 33, .tmp 34]) [.ag [kI (sv.length : Int), .own (Rp.int .i64) 3 13 [] rv, .om zo Rp.bool 14 [13, 0] f, .om zn Rp.bool 15 [13, 0] f2], .rc zd [0] x] [(14, 2), (15, 3)] [13, 0] 19 [] rfl Tryz.call35 (zgQ h_rv3) rfl rfl (by kernel_rfl) rfl rfl rfl) ⟨⟨rfl, AV.le_refl _⟩, ⟨rfl, zls zd [0] x [kS x.Name, .sl za [0] x.Fields] rfl rfl⟩, trivial⟩) rfl (by kernel_rfl) (by kernel_rfl) ⟨⟨_, rfl, zq rfl⟩, ⟨_, rfl, zq rfl⟩, ⟨_, rfl, zq rfl⟩, ⟨_, rfl, zq rfl⟩, ⟨_, rfl, zq rfl⟩, ⟨_, rfl, zq rfl⟩, ⟨_, rfl, zq rfl⟩, ⟨_, rfl, zgU ⟨zq rfl, zq rfl, zcB 0 rfl, zcB 1 rfl, trivial⟩⟩, ⟨_, rfl, zq rfl⟩, trivial⟩ ⟨⟨_, rfl, rfl, rfl, ⟨zq rfl, zq rfl, zq rfl, trivial⟩⟩, ⟨_, rfl, rfl, rfl, ⟨zq rfl, zq rfl, zcB 0 rfl, zcB 1 rfl, trivial⟩⟩, ⟨_, rfl, rfl, rfl, ⟨zq rfl, zq rfl, trivial⟩⟩, trivial⟩ rf)) ?_
   refine jp ?_
   rcases zm h with ⟨hc4, h⟩ | ⟨hc4, h⟩
   ·
    refine jT hc4 ?_
    refine jr (rc 2 rfl (zC (r := zbH) [kI v2, kI (-1), kI rv3.1] [] (⟨v2, (-1), rv3.1⟩ : zal) rfl zrU rfl rfl) rf) ?_
    obtain rfl := sj h
    exact zaY lzz
   refine jF hc4 ?_
   refine jp ?_
   refine zA ?_
   obtain ⟨q, h_q, h⟩ := bnd h
   refine zaW (fun s : (Int × (List (zi × Bool)) × (List (zk × Bool))) => zaB rv sv v2 x s.1 s.2.1 s.2.2) (fun s => ⟨[(2, .ptr 12 0), (4, .ptr 16 0), (5, kI v2), (26, .sl zd [0] sv), (27, kI (sv.length : Int)), (28, kI v2), (42, .sl za [0] x.Fields), (43, kI (x.Fields.length : Int)), (44, kI s.1)], [⟨12, 61, [kI 0, kI 0, kI 0]⟩, ⟨16, 85, [kI (sv.length : Int), .own (Rp.int .i64) 3 13 [] rv, .om zo Rp.bool 14 [13, 0] s.2.1, .om zn Rp.bool 15 [13, 0] s.2.2]⟩]⟩) (fun o e a w => match o with | (.inl v_) => e = .exit 2 ∧ Sx ⟨⟨62, []⟩, Xt, false, #[]⟩ ⟨[(2, .ptr 12 0), (4, .ptr 16 0), (26, .sl zd [0] sv), (27, kI (sv.length : Int)), (28, kI v2)], [⟨12, 61, [kI 0, kI 0, kI 0]⟩, ⟨16, 85, [kI (sv.length : Int), .own (Rp.int .i64) 3 13 [] rv, .om zo Rp.bool 14 [13, 0] v_.1, .om zn Rp.bool 15 [13, 0] v_.2]⟩]⟩ a w | (.inr v_) => e = .ret ∧ Sx ⟨⟨62, []⟩, Xt, false, #[]⟩ ⟨[(2, .ptr 12 0), (3, k8 9)], [⟨12, 61, [kI v2, kI v_.1, kI v_.2]⟩]⟩ a w) ?_ h_q lzz ?_
   ·
    clear h
    intro s o h
    obtain ⟨v3, f6, f7⟩ := s
    refine zr ?_
    replace h : zaB rv sv v2 x v3 f6 f7 = some o := h
    unfold zaB at h
    refine jp ?_
    rcases zm h with ⟨hc5, h⟩ | ⟨hc5, h⟩
    ·
     refine jT hc5 ?_
     refine zA ?_
     obtain ⟨x2, h_x2, h⟩ := bnd h
     refine jr (ra 1 [.sl za [0] x.Fields, kI v3] rfl (zbx rfl zhD.el (zR _ _ _) h_x2) rfl (ra 0 [.ep za [0] x2 0] rfl (zgr rfl ⟨Tryz.isAgg39, Tryz.sizeOf39⟩) rfl (rfl' [24]))) ?_
     obtain ⟨rv5, h_rv5, h⟩ := bnd h
     refine jr (lb 2 za [] x2 (rkl 0 [] ⟨[(2, .ptr 12 0), (4, .ptr 16 0), (5, kI v2), (8, kI v3), (26, .sl zd [0] sv), (27, kI (sv.length : Int)), (28, kI v2), (42, .sl za [0] x.Fields), (43, kI (x.Fields.length : Int)), (44, kI v3), (49, .ag [kI (sv.length : Int), .own (Rp.int .i64) 3 13 [] rv, .om zo Rp.bool 14 [13, 0] f6, .om zn Rp.bool 15 [13, 0] f7]), (50, kI v2), (51, .rc za [] x2)], [⟨12, 61, [kI 0, kI 0, kI 0]⟩, ⟨16, 85, [kI (sv.length : Int), .own (Rp.int .i64) 3 13 [] rv, .om zo Rp.bool 14 [13, 0] f6, .om zn Rp.bool 15 [13, 0] f7]⟩]⟩ (zdU ⟨[(2, .ptr 12 0), (4, .ptr 16 0), (5, kI v2), (8, kI v3), (26, .sl zd [0] sv), (27, kI (sv.length : Int)), (28, kI v2), (42, .sl za [0] x.Fields), (43, kI (x.Fields.length : Int)), (44, kI v3), (49, .ag [kI (sv.length : Int), .own (Rp.int .i64) 3 13 [] rv, .om zo Rp.bool 14 [13, 0] rv5.2.1, .om zn Rp.bool 15 [13, 0] rv5.2.2]), (50, kI v2), (51, .rc za [] x2)], [⟨12, 61, [kI 0, kI 0, kI 0]⟩, ⟨16, 85, [kI (sv.length : Int), .own (Rp.int .i64) 3 13 [] rv, .om zo Rp.bool 14 [13, 0] rv5.2.1, .om zn Rp.bool 15 [13, 0] rv5.2.2]⟩]⟩ (zht [.ag [kI (sv.length : Int), .own (Rp.int .i64) 3 13 [] rv, .om zo Rp.bool 14 [13, 0] f6, .om zn Rp.bool 15 [13, 0] f7], kI v2, .rc za [] x2] [(14, 2), (15, 3)] [13, 0] 25 [] rfl Tryz.call36 (zhN h_rv5) rfl rfl (by kernel_rfl) rfl rfl rfl) rfl (by kernel_rfl) (by kernel_rfl) ⟨⟨_, rfl, zq rfl⟩, ⟨_, rfl, zq rfl⟩, ⟨_, rfl, zq rfl⟩, ⟨_, rfl, zq rfl⟩, ⟨_, rfl, zq rfl⟩, ⟨_, rfl, zq rfl⟩, ⟨_, rfl, zq rfl⟩, ⟨_, rfl, zq rfl⟩, ⟨_, rfl, zq rfl⟩, ⟨_, rfl, zq rfl⟩, ⟨_, rfl, zgU ⟨zq rfl, zq rfl, zcB 0 rfl, zcB 1 rfl, trivial⟩⟩, ⟨_, rfl, zq rfl⟩, ⟨_, rfl, zq rfl⟩, trivial⟩ ⟨⟨_, rfl, rfl, rfl, ⟨zq rfl, zq rfl, zq rfl, trivial⟩⟩, ⟨_, rfl, rfl, rfl, ⟨zq rfl, zq rfl, zcB 0 rfl, zcB 1 rfl, trivial⟩⟩, trivial⟩ rf))) ?_
     refine jp ?_
     rcases zm h with ⟨hc6, h⟩ | ⟨hc6, h⟩
     ·
      refine jT hc6 ?_
      refine jr (rc 3 rfl (zC (r := zbH) [kI v2, kI v3, kI rv5.1] [] (⟨v2, v3, rv5.1⟩ : zal) rfl zrU rfl rfl) rf) ?_
      obtain rfl := sj h
      exact zaY lzz
     refine jF hc6 ?_
     refine zap ?_
     refine jp ?_
     obtain rfl := sj h
     exact zF lzz
    refine jF hc5 ?_
    obtain rfl := sj h
    exact zaX rfl lzz
   rcases q with u | u2
   ·
    refine zbI _ rfl ?_
    refine zap ?_
    refine jp ?_
    obtain rfl := sj h
    exact zF lzz
   obtain rfl := sj h
   exact zox lzz
  refine jF hc3 ?_
  obtain rfl := sj h
  exact zaX rfl lzz
 ·
  refine zcK ⟨[(2, .ptr 12 0), (4, .ptr 16 0), (26, .sl zd [0] sv), (27, kI (sv.length : Int)), (28, kI 0)], [⟨12, 61, [kI 0, kI 0, kI 0]⟩, ⟨16, 85, [kI (sv.length : Int), .own (Rp.int .i64) 3 13 [] rv, .om zo Rp.bool 14 [] ([] : (List (zi × Bool))), .om zn Rp.bool 15 [] ([] : (List (zk × Bool)))]⟩]⟩ (by kernel_rfl) ?_
  refine zvN 16 2 (.om zo Rp.bool 14 [13, 0] ([] : (List (zi × Bool)))) rfl rfl (zvO _ _ _ _ rfl rfl) ?_
  refine zvN 16 3 (.om zn Rp.bool 15 [13, 0] ([] : (List (zk × Bool)))) rfl rfl (zvO _ _ _ _ rfl rfl) ?_
  exact lzz
 rcases q2 with u3 | u4
 ·
  refine zbI _ rfl ?_
  refine jr (rc 0 rfl (zC (r := zbH) [] [] (⟨0, 0, 0⟩ : zal) rfl zrU rfl rfl) rf) ?_
  obtain rfl := sj h
  refine zv ?_
  refine lk [2, 3] [12] 12 2 ?_
  exact lzz
 obtain rfl := sj h
 refine zdI ?_
 refine lk [2, 3] [12] 12 2 ?_
 exact lzz
theorem zpb {m : zh} {b : (List UInt8)} {fromv : Int} {met : (List (zD × zJ))} {r : (zb × Int × (List (zD × zJ)))} (h : zhb m b fromv met = some r) : zej Tryz.prog 54 [.rc zd [0] m, .sl Rp.byte [0] b, kI fromv, .om zG zI 2 [0] met] [.rc zf [] r.1, k8 r.2.1] [.any, .any, .any, .om zG zI 2 [0] r.2.2] := by
 refine zfq (E := ⟨[(3, .om zG zI 2 [0] r.2.2), (8, .ptr 3 0), (9, k8 r.2.1)], [⟨3, 68, [kI r.1.Record.Number, kI r.1.Record.Wire, kI r.1.Record.From, kI r.1.Record.At, kI r.1.Record.To, kI r.1.Field, kB r.1.Run]⟩]⟩) 56 [3] Tryz.func54 rfl rfl rfl ⟨⟨_, _, rfl, rfl, rfl, rfl, ⟨Tryz.isAgg68, Tryz.sizeOf68⟩⟩, rfl, trivial⟩ ⟨.inl rfl, .inl rfl, .inl rfl, .inr ⟨rfl, rfl⟩, trivial⟩ rfl (fun Xt old => ?_)
 refine zr ?_
 unfold zhb at h
 refine jr (ra 0 [.rc zd [0] m] rfl (zih 13 [kS m.Name, .sl za [0] m.Fields] [0] rfl rfl rfl rfl rfl) rfl (rfl' [14])) ?_
 obtain ⟨rv, h_rv, h⟩ := bnd h
 refine jr (rl 2 [0] 13 Tryz.call39 (zis h_rv) (rfl' [15])) ?_
 refine jp ?_
 rcases zm h with ⟨hc1, h⟩ | ⟨hc1, h⟩
 ·
  refine jT hc1 ?_
  refine jr (rc 0 rfl (zC (r := zf) [] [] (⟨(⟨0, 0, 0, 0, 0⟩ : zj), 0, false⟩ : zb) rfl zqe rfl rfl) rf) ?_
  obtain rfl := sj h
  refine zdp ?_
  refine lk [3, 8, 9] [14] 14 3 ?_
  exact lzz
 refine jF hc1 ?_
 refine jr (rc 4 rfl (zC (r := zG) [kI rv.1.Number, kI rv.1.Wire] [] (⟨rv.1.Number, rv.1.Wire⟩ : zD) rfl zwr rfl rfl) (rfl' [16])) ?_
 refine jr (lb 1 zG [] (⟨rv.1.Number, rv.1.Wire⟩ : zD) (ra 0 [.om zG zI 2 [0] met, .rc zG [] (⟨rv.1.Number, rv.1.Wire⟩ : zD)] rfl (zml (rk := zG) (rv := zI) (m := met) (k := (⟨rv.1.Number, rv.1.Wire⟩ : zD)) (.rc zI [2, 0] ((mget met (⟨rv.1.Number, rv.1.Wire⟩ : zD)).getD (⟨0, false, 0⟩ : zJ))) rfl zrK (zhf _ _ _ _ _) (zbo rfl) (zou rfl)) rfl (rfl' [17]))) ?_
 refine jp ?_
 obtain ⟨p, h_p, h⟩ := bnd h
 refine zcl (R := fun e a w => e = .normal ∧ Sx ⟨⟨56, [3]⟩, Xt, false, old⟩ ⟨[(3, .om zG zI 2 [0] p.1), (8, .ptr 14 0), (10, .ptr 15 0), (13, .ptr 17 0)], [⟨14, 68, [kI 0, kI 0, kI 0, kI 0, kI 0, kI 0, kB false]⟩, ⟨15, 66, [kI rv.1.Number, kI rv.1.Wire, kI rv.1.From, kI rv.1.At, kI rv.1.To]⟩, ⟨17, 135, [kI p.2.1, kB p.2.2.1, k8 p.2.2.2]⟩]⟩ a w) ?_ ?_
 ·
  replace h := h_p
  refine zr ?_
  rcases zm h with ⟨hc2, h⟩ | ⟨hc2, h⟩
  ·
   refine jT hc2 ?_
   obtain ⟨rv2, h_rv2, h⟩ := bnd h
   refine jr (lb 1 zG [] (⟨rv.1.Number, rv.1.Wire⟩ : zD) (rl 0 [0] 16 Tryz.call69 (zmZ h_rv2) rf)) ?_
   refine jr (lb 1 zG [] (⟨rv.1.Number, rv.1.Wire⟩ : zD) (lb 0 zI [] rv2 (rkl 0 [] ⟨[(3, .om zG zI 2 [0] met), (8, .ptr 14 0), (10, .ptr 15 0), (13, .ptr 17 0), (41, .om zG zI 2 [0] met), (42, .rc zG [] (⟨rv.1.Number, rv.1.Wire⟩ : zD)), (43, .rc zI [] rv2)], [⟨14, 68, [kI 0, kI 0, kI 0, kI 0, kI 0, kI 0, kB false]⟩, ⟨15, 66, [kI rv.1.Number, kI rv.1.Wire, kI rv.1.From, kI rv.1.At, kI rv.1.To]⟩, ⟨17, 135, [kI rv2.field, kB rv2.run, k8 rv2.e]⟩]⟩ (zdU ⟨[(3, .om zG zI 2 [0] (mput met (⟨rv.1.Number, rv.1.Wire⟩ : zD) rv2)), (8, .ptr 14 0), (10, .ptr 15 0), (13, .ptr 17 0), (41, .om zG zI 2 [0] (mput met (⟨rv.1.Number, rv.1.Wire⟩ : zD) rv2)), (42, .rc zG [] (⟨rv.1.Number, rv.1.Wire⟩ : zD)), (43, .rc zI [] rv2)], [⟨14, 68, [kI 0, kI 0, kI 0, kI 0, kI 0, kI 0, kB false]⟩, ⟨15, 66, [kI rv.1.Number, kI rv.1.Wire, kI rv.1.From, kI rv.1.At, kI rv.1.To]⟩, ⟨17, 135, [kI rv2.field, kB rv2.run, k8 rv2.e]⟩]⟩ (zki (rk := zG) (rv := zI) (m := met) (ℓ := 2) (C := [0]) (C1 := []) (D := []) (⟨rv.1.Number, rv.1.Wire⟩ : zD) rv2 [0] zrK (.inl rfl) (zbo rfl) (zbo rfl) rfl) rfl (by kernel_rfl) (by kernel_rfl) ⟨⟨_, rfl, zcB 0 rfl⟩, ⟨_, rfl, zq rfl⟩, ⟨_, rfl, zq rfl⟩, ⟨_, rfl, zq rfl⟩, ⟨_, rfl, zcB 0 rfl⟩, ⟨_, rfl, zq rfl⟩, ⟨_, rfl, zq rfl⟩, trivial⟩ ⟨⟨_, rfl, rfl, rfl, ⟨zq rfl, zq rfl, zq rfl, zq rfl, zq rfl, zq rfl, zq rfl, trivial⟩⟩, ⟨_, rfl, rfl, rfl, ⟨zq rfl, zq rfl, zq rfl, zq rfl, zq rfl, trivial⟩⟩, ⟨_, rfl, rfl, rfl, ⟨zq rfl, zq rfl, zq rfl, trivial⟩⟩, trivial⟩ rf)))) ?_
   obtain rfl := sj h
   exact zF lzz
  refine jF hc2 ?_
  obtain rfl := sj h
  exact zF lzz
 refine zdt ?_
 refine jp ?_
 rcases zm h with ⟨hc3, h⟩ | ⟨hc3, h⟩
 ·
  refine jT hc3 ?_
  refine jd [3, 8, 9] [14] zdQ (by exact (lx (zC (r := zf) [] [] (⟨(⟨0, 0, 0, 0, 0⟩ : zj), 0, false⟩ : zb) rfl zqe rfl rfl) (lw_e (lw_e (ly [.ptr 14 0, .rc zf [] (⟨(⟨0, 0, 0, 0, 0⟩ : zj), 0, false⟩ : zb)] (zky (r := zf) (b := ⟨14, 68, [kI 0, kI 0, kI 0, kI 0, kI 0, kI 0, kB false]⟩) (off := 0) [kI 0, kI 0, kI 0, kI 0, kI 0, kI 0, kB false] rfl Tryz.sizeOf68 rfl rfl rfl rfl) rfl l0))))) ?_
  obtain rfl := sj h
  refine zdp ?_
  refine lk [3, 8, 9] [14] 14 3 ?_
  exact lzz
 refine jF hc3 ?_
 refine jr (lb 0 zy [] rv.1 (rc 4 rfl (zC (r := zf) [.rc zy [] rv.1, kI p.2.1, kB p.2.2.1] [] (⟨rv.1, p.2.1, p.2.2.1⟩ : zb) rfl zqe rfl rfl) rf)) ?_
 obtain rfl := sj h
 refine zdp ?_
 refine lk [3, 8, 9] [14] 14 3 ?_
 exact lzz
theorem zld (v : Int) (v2 : (List UInt8)) : ItOk Tryz.prog 80 [.bp (Rp.int .i64) 3 908000 [] v, .bp (Rp.list Rp.byte) 24 908001 [0] v2] (fun x : ((List UInt8) × Int) => [.sl Rp.byte [0] x.1, k8 x.2]) (fun {σ : Type} (kf : Rnd σ ((List UInt8) × Int)) (sg : σ) => zcW v v2 kf sg) := by
 refine ztv 38 [(1, .ptr 908000 0), (2, .ptr 908001 0)] [⟨908000, 3, [kI v]⟩, ⟨908001, 24, [.sl Rp.byte [0] v2]⟩] Tryz.func80 rfl rfl rfl rfl (.cons (Rp.int .i64) 3 908000 [] v [kI v] rfl rfl (.cons (Rp.list Rp.byte) 24 908001 [0] v2 [.sl Rp.byte [0] v2] rfl rfl (.nil _))) ?_
 intro σ kf sg s1 h l I hI F_ hT
 replace h : zcW v v2 kf sg = some s1 := h
 refine zr ?_
 refine znM (E' := ⟨[(0, .lf (.val (.func (.yield l) #[] #[]))), (1, .ptr 908000 0), (2, .ptr 908001 0)], [⟨908000, 3, [kI v]⟩, ⟨908001, 24, [.sl Rp.byte [0] v2]⟩]⟩) (fun _ _ _ hs => hs) ?_
 unfold zcW at h
 obtain ⟨rv, h_rv, h⟩ := bnd h
 refine jr (rl 1 [1] 9 Tryz.call81 (zoQ h_rv) rf) ?_
 refine jp ?_
 rcases zm h with ⟨hc1, h⟩ | ⟨hc1, h⟩
 ·
  refine jT hc1 ?_
  obtain ⟨y, h_y, h⟩ := bnd h
  refine zpD (E' := ⟨[], []⟩) (x := (([] : (List UInt8)), 2)) (b := y.1) (s' := y.2) 1 (some 13) [.const (.slice none 0 0), .const (.int .u8 2)] [kN, k8 2] [.sl Rp.byte [0] ([] : (List UInt8)), k8 2] ⟨[(12, .lf (.val (.func (.yield l) #[] #[])))], []⟩ hT rfl rfl rfl rfl rfl rgg rfl ⟨rfl, ⟨rfl, trivial⟩⟩ rfl ⟨zsl _ _, AV.le_refl _, trivial⟩ rfl rfl h_y rgg ?_
  obtain rfl := sj h
  exact zvZ lzz
 refine jF hc1 ?_
 refine jp ?_
 refine zA ?_
 obtain ⟨q, h_q, h⟩ := bnd h
 refine ztw (fun s : ((List UInt8) × σ) => zaA kf rv s.1 s.2) (fun s => ⟨⟨38, []⟩, itX I hI F_ s.2, false, #[]⟩) (fun s => ⟨[(0, .lf (.val (.func (.yield l) #[] #[]))), (4, kI rv), (5, .sl Rp.byte [0] s.1)], []⟩) (fun o e a w => match o with | (.inl v_) => e = .exit 0 ∧ Sx ⟨⟨38, []⟩, itX I hI F_ v_, false, #[]⟩ ⟨[], []⟩ a w | (.inr v_) => e = .ret ∧ Sx ⟨⟨38, []⟩, itX I hI F_ v_, false, #[]⟩ ⟨[], []⟩ a w) ?_ h_q rfl lzz ?_
 ·
  clear h
  intro s o h
  obtain ⟨rest, sg2⟩ := s
  refine zr ?_
  replace h : zaA kf rv rest sg2 = some o := h
  unfold zaA at h
  refine jp ?_
  rcases zm h with ⟨hc2, h⟩ | ⟨hc2, h⟩
  ·
   refine jT hc2 ?_
   refine zA ?_
   obtain ⟨rv2, h_rv2, h⟩ := bnd h
   refine jr (rl 2 [0] 10 Tryz.call82 (zoP h_rv2) rf) ?_
   obtain ⟨v3, h_v3, h⟩ := bnd h
   obtain ⟨y2, h_y2, h⟩ := bnd h
   refine zpD (E' := ⟨[(0, .lf (.val (.func (.yield l) #[] #[]))), (4, kI rv), (5, .sl Rp.byte [0] rest), (6, kI rv2.1), (34, kB ((!y2.1) || (rv2.2 != 0)))], []⟩) (x := (v3, rv2.2)) (b := y2.1) (s' := y2.2) 5 (some 29) [.tmp 27, .tmp 28] [.sl Rp.byte [0] v3, k8 rv2.2] [.sl Rp.byte [0] v3, k8 rv2.2] ⟨[(0, .lf (.val (.func (.yield l) #[] #[]))), (4, kI rv), (5, .sl Rp.byte [0] rest), (6, kI rv2.1), (7, k8 rv2.2), (24, .lf (.val (.func (.yield l) #[] #[]))), (27, .sl Rp.byte [0] v3), (28, k8 rv2.2)], []⟩ hT rfl rfl rfl rfl rfl (ra 3 [.sl Rp.byte [0] rest, kI rv2.1] rfl (zfD none (some (kI rv2.1)) rfl zde.el (zR _ _ _) ⟨rfl, rfl⟩ ⟨rfl, rfl⟩ h_v3) rfl rgg) rfl ⟨rfl, ⟨rfl, trivial⟩⟩ rfl ⟨AV.le_refl _, AV.le_refl _, trivial⟩ rfl rfl h_y2 ?_ ?_
   ·
    refine (rsl 2 [] 31 (!y2.1) (fun hc3 => ?_) (fun hc3 => ?_))
    · exact (rbl [] 34 true ((!y2.1) || (rv2.2 != 0)) (by rw [hc3] <;> rfl))
    exact (rbl [] 34 (rv2.2 != 0) ((!y2.1) || (rv2.2 != 0)) (by rw [hc3] <;> rfl))
   rcases zm h with ⟨hc4, h⟩ | ⟨hc4, h⟩
   ·
    refine jT hc4 ?_
    obtain rfl := sj h
    exact zaY lzz
   refine jF hc4 ?_
   obtain ⟨v5, h_v5, h⟩ := bnd h
   refine jr (ra 2 [.sl Rp.byte [0] rest, kI rv2.1] rfl (zfD (some (kI rv2.1)) none rfl zde.el (zR _ _ _) ⟨rfl, rfl⟩ ⟨rfl, rfl⟩ h_v5) rfl rf) ?_
   refine zap ?_
   obtain rfl := sj h
   exact zF lzz
  refine jF hc2 ?_
  obtain rfl := sj h
  exact zaX rfl lzz
 rcases q with u | u2
 ·
  refine zbI _ rfl ?_
  obtain rfl := sj h
  exact zvY lzz
 obtain rfl := sj h
 exact zwb lzz
theorem zdk {fuel : Nat} {sv : (List zh)} {root : Int} {b : (List UInt8)} {d : Int} {r : (Int × Int)} (h : zbi fuel sv root b d = some r) : FnOk Tryz.prog 8 [.sl zd [0] sv, kI root, .sl Rp.byte [0] b, kI d] [kI r.1, kI r.2] := by
 refine zx (E := ⟨[(8, kI r.1), (9, kI r.2)], []⟩) 25 Tryz.func8 rfl rfl rfl ⟨rfl, rfl, trivial⟩ (fun Xt => ?_)
 refine zr ?_
 unfold zbi at h
 refine jp ?_
 obtain ⟨rv, h_rv, h⟩ := bnd h
 refine jr (rl 3 [0] 9 Tryz.call11 (zeQ h_rv) rf) ?_
 refine jp ?_
 rcases zm h with ⟨hc1, h⟩ | ⟨hc1, h⟩
 ·
  refine jT hc1 ?_
  refine jp ?_
  obtain rfl := sj h
  exact zv lzz
 refine jF hc1 ?_
 obtain ⟨rv2, h_rv2, h⟩ := bnd h
 refine jr (rl 4 [0] 9 Tryz.call15 (zhM h_rv2) rf) ?_
 obtain rfl := sj h
 exact zv lzz
end Go.Proofs.YtnfembipjdohcaaGreat

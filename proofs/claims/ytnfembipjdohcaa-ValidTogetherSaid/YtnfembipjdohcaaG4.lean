/-
  The Go functions do what the plain functions say. No condition.
-/
import Derived.Test.YtnfembipjdohcaaG3
namespace Go.Proofs.Ytnfembipjdohcaa
open Go Go.RowKit
set_option linter.unusedVariables false
set_option maxRecDepth 100000
set_option maxHeartbeats 3200000
theorem ziM {sv : (List zr)} {r : (zV × Int)} (h : zcN sv = some r) : FnOk Try.prog 15 [.sl zi [0] sv] [.rc zaR [] r.1, k8 r.2] := by
 refine zx (E := ⟨[(2, .ptr 2 0), (3, k8 r.2)], [⟨2, 54, [kI r.1.Message, kI r.1.Field, kI r.1.What]⟩]⟩) 62 Try.func15 rfl rfl rfl ⟨⟨_, _, rfl, rfl, rfl, rfl, ⟨Try.isAgg54, Try.sizeOf54⟩⟩, rfl, trivial⟩ (fun Xt => ?_)
 refine zv ?_
 unfold zcN at h
 refine jq [12] ?_
 refine zU ⟨[(0, .sl zi [0] sv), (2, .ptr 12 0), (18, kB ((decide ((sv.length : Int) < 1)) || (decide ((sv.length : Int) > 100))))], [⟨12, 54, [kI 0, kI 0, kI 0]⟩]⟩ ?_ ?_
 ·
  refine (rsl 4 [] 14 (decide ((sv.length : Int) < 1)) (fun hc1 => ?_) (fun hc1 => ?_))
  · exact (rbl [] 18 true ((decide ((sv.length : Int) < 1)) || (decide ((sv.length : Int) > 100))) (by rw [hc1] <;> rfl))
  exact (rbl [] 18 (decide ((sv.length : Int) > 100)) ((decide ((sv.length : Int) < 1)) || (decide ((sv.length : Int) > 100))) (by rw [hc1] <;> rfl))
 rcases zq h with ⟨hc2, h⟩ | ⟨hc2, h⟩
 ·
  refine jT hc2 ?_
  refine jr (rc 0 rfl (zB (r := zaR) [kI (-1), kI (-1), kI 1] [] (⟨(-1), (-1), 1⟩ : zV) rfl zoZ rfl rfl) rf) ?_
  obtain rfl := sj h
  refine zw ?_
  refine lk [2, 3] [12] 12 2 ?_
  exact lzz
 refine jF hc2 ?_
 obtain ⟨rv, h_rv, h⟩ := bnd h
 refine jr (rl 2 [1] 11 Try.call19 (zmV h_rv) (rc 0 rfl (zfL (rk := zk) (rv := Rp.bool) 14 rfl) (rc 0 rfl (zfL (rk := zj) (rv := Rp.bool) 15 rfl) (ra 0 [kI (sv.length : Int), .own (Rp.int .i64) 3 13 [] rv, .om zk Rp.bool 14 [] ([] : (List (zg × Bool))), .om zj Rp.bool 15 [] ([] : (List (zh × Bool)))] rfl (zhY [kI (sv.length : Int), .own (Rp.int .i64) 3 13 [] rv, .om zk Rp.bool 14 [] ([] : (List (zg × Bool))), .om zj Rp.bool 15 [] ([] : (List (zh × Bool)))] [kI (sv.length : Int), .own (Rp.int .i64) 3 13 [] rv, .om zk Rp.bool 14 [] ([] : (List (zg × Bool))), .om zj Rp.bool 15 [] ([] : (List (zh × Bool)))] rfl ztO rfl) rfl (rfl' [16]))))) ?_
 refine jp ?_
 refine zN ?_
 obtain ⟨q2, h_q2, h⟩ := bnd h
 refine zcr (fun s : (Int × (List (zg × Bool)) × (List (zh × Bool))) => zS rv sv s.1 s.2.1 s.2.2) (fun s => ⟨[(2, .ptr 12 0), (4, .ptr 16 0), (26, .sl zi [0] sv), (27, kI (sv.length : Int)), (28, kI s.1)], [⟨12, 54, [kI 0, kI 0, kI 0]⟩, ⟨16, 69, [kI (sv.length : Int), .own (Rp.int .i64) 3 13 [] rv, .om zk Rp.bool 14 [13, 0] s.2.1, .om zj Rp.bool 15 [13, 0] s.2.2]⟩]⟩) (fun o e a w => match o with | (.inl v_) => e = .exit 0 ∧ Sx ⟨⟨62, []⟩, Xt, false, #[]⟩ ⟨[(2, .ptr 12 0)], [⟨12, 54, [kI 0, kI 0, kI 0]⟩]⟩ a w | (.inr v_) => e = .ret ∧ Sx ⟨⟨62, []⟩, Xt, false, #[]⟩ ⟨[(2, .ptr 12 0), (3, k8 9)], [⟨12, 54, [kI v_.1, kI v_.2.1, kI v_.2.2]⟩]⟩ a w) ?_ h_q2 ?_ ?_
 ·
  clear h
  intro s o h
  obtain ⟨v2, f, f2⟩ := s
  refine zv ?_
  replace h : zS rv sv v2 f f2 = some o := h
  unfold zS at h
  refine jp ?_
  rcases zq h with ⟨hc3, h⟩ | ⟨hc3, h⟩
  ·
   refine jT hc3 ?_
   refine zN ?_
   obtain ⟨x, h_x, h⟩ := bnd h
   refine jr (ra 1 [.sl zi [0] sv, kI v2] rfl (zdD rfl ziG.el (zas _ _ _) h_x) rfl (ra 0 [.ep zi [0] x 0] rfl (zhZ rfl ⟨Try.isAgg36, Try.sizeOf36⟩) rfl (ral 2 [18] [.ptr 18 0, .rc zi [0] x] rfl (zjS (r := zi) (b := ⟨18, 36, [kS [], kN]⟩) (off := 0) [kS x.Name, .sl za [0] x.Fields] rfl Try.sizeOf36 rfl rfl rfl rfl) rfl rf))) ?_
   obtain ⟨rv3, h_rv3, h⟩ := bnd h
   refine jr (rkl 2 [] ⟨[(2, .ptr 12 0), (4, .ptr 16 0), (5, kI v2), (6, .ptr 18 0), (26, .sl zi [0] sv), (27, kI (sv.length : Int)), (28, kI v2), (33, .ag [kI (sv.length : Int), .own (Rp.int .i64) 3 13 [] rv, .om zk Rp.bool 14 [13, 0] f, .om zj Rp.bool 15 [13, 0] f2]), (34, .ag [kS x.Name, .sl za [0] x.Fields])], [⟨12, 54, [kI 0, kI 0, kI 0]⟩, ⟨16, 69, [kI (sv.length : Int), .own (Rp.int .i64) 3 13 [] rv, .om zk Rp.bool 14 [13, 0] f, .om zj Rp.bool 15 [13, 0] f2]⟩, ⟨18, 36, [kS x.Name, .sl za [0] x.Fields]⟩]⟩ (zct ⟨[(2, .ptr 12 0), (4, .ptr 16 0), (5, kI v2), (6, .ptr 18 0), (26, .sl zi [0] sv), (27, kI (sv.length : Int)), (28, kI v2), (33, .ag [kI (sv.length : Int), .own (Rp.int .i64) 3 13 [] rv, .om zk Rp.bool 14 [13, 0] rv3.2.1, .om zj Rp.bool 15 [13, 0] rv3.2.2]), (34, .ag [kS x.Name, .sl za [0] x.Fields])], [⟨12, 54, [kI 0, kI 0, kI 0]⟩, ⟨16, 69, [kI (sv.length : Int), .own (Rp.int .i64) 3 13 [] rv, .om zk Rp.bool 14 [13, 0] rv3.2.1, .om zj Rp.bool 15 [13, 0] rv3.2.2]⟩, ⟨18, 36, [kS x.Name, .sl za [0] x.Fields]⟩]⟩ (zhc.le (ins' := [(.tmp 33, .ag [kI (sv.length : Int), .own (Rp.int .i64) 3 13 [] rv, .om zk Rp.bool 14 [13, 0] f, .om zj Rp.bool 15 [13, 0] f2]), (.tmp 34, .ag [kS x.Name, .sl za [0] x.Fields])]) (zfm (args := [.tmp 33, .tmp 34]) [.ag [kI (sv.length : Int), .own (Rp.int .i64) 3 13 [] rv, .om zk Rp.bool 14 [13, 0] f, .om zj Rp.bool 15 [13, 0] f2], .rc zi [0] x] [(14, 2), (15, 3)] [13, 0] 19 [] rfl Try.call20 (zeM h_rv3) rfl rfl (by kernel_rfl) rfl rfl rfl) ⟨⟨rfl, AV.le_refl _⟩, ⟨rfl, ziW zi [0] x [kS x.Name, .sl za [0] x.Fields] rfl rfl⟩, trivial⟩) rfl (by kernel_rfl) (by kernel_rfl) ⟨⟨_, rfl, zn rfl⟩, ⟨_, rfl, zn rfl⟩, ⟨_, rfl, zn rfl⟩, ⟨_, rfl, zn rfl⟩, ⟨_, rfl, zn rfl⟩, ⟨_, rfl, zn rfl⟩, ⟨_, rfl, zn rfl⟩, ⟨_, rfl, zeP ⟨zn rfl, zn rfl, zbr 0 rfl, zbr 1 rfl, trivial⟩⟩, ⟨_, rfl, zn rfl⟩, trivial⟩ ⟨⟨_, rfl, rfl, rfl, ⟨zn rfl, zn rfl, zn rfl, trivial⟩⟩, ⟨_, rfl, rfl, rfl, ⟨zn rfl, zn rfl, zbr 0 rfl, zbr 1 rfl, trivial⟩⟩, ⟨_, rfl, rfl, rfl, ⟨zn rfl, zn rfl, trivial⟩⟩, trivial⟩ rf)) ?_
   refine jp ?_
   rcases zq h with ⟨hc4, h⟩ | ⟨hc4, h⟩
   ·
    refine jT hc4 ?_
    refine jr (rc 2 rfl (zB (r := zaR) [kI v2, kI (-1), kI rv3.1] [] (⟨v2, (-1), rv3.1⟩ : zV) rfl zoZ rfl rfl) rf) ?_
    obtain rfl := sj h
    exact zcK lzz
   refine jF hc4 ?_
   refine jp ?_
   refine zN ?_
   obtain ⟨q, h_q, h⟩ := bnd h
   refine zcr (fun s : (Int × (List (zg × Bool)) × (List (zh × Bool))) => zag rv sv v2 x s.1 s.2.1 s.2.2) (fun s => ⟨[(2, .ptr 12 0), (4, .ptr 16 0), (5, kI v2), (26, .sl zi [0] sv), (27, kI (sv.length : Int)), (28, kI v2), (42, .sl za [0] x.Fields), (43, kI (x.Fields.length : Int)), (44, kI s.1)], [⟨12, 54, [kI 0, kI 0, kI 0]⟩, ⟨16, 69, [kI (sv.length : Int), .own (Rp.int .i64) 3 13 [] rv, .om zk Rp.bool 14 [13, 0] s.2.1, .om zj Rp.bool 15 [13, 0] s.2.2]⟩]⟩) (fun o e a w => match o with | (.inl v_) => e = .exit 2 ∧ Sx ⟨⟨62, []⟩, Xt, false, #[]⟩ ⟨[(2, .ptr 12 0), (4, .ptr 16 0), (26, .sl zi [0] sv), (27, kI (sv.length : Int)), (28, kI v2)], [⟨12, 54, [kI 0, kI 0, kI 0]⟩, ⟨16, 69, [kI (sv.length : Int), .own (Rp.int .i64) 3 13 [] rv, .om zk Rp.bool 14 [13, 0] v_.1, .om zj Rp.bool 15 [13, 0] v_.2]⟩]⟩ a w | (.inr v_) => e = .ret ∧ Sx ⟨⟨62, []⟩, Xt, false, #[]⟩ ⟨[(2, .ptr 12 0), (3, k8 9)], [⟨12, 54, [kI v2, kI v_.1, kI v_.2]⟩]⟩ a w) ?_ h_q lzz ?_
   ·
    clear h
    intro s o h
    obtain ⟨v3, f6, f7⟩ := s
    refine zv ?_
    replace h : zag rv sv v2 x v3 f6 f7 = some o := h
    unfold zag at h
    refine jp ?_
    rcases zq h with ⟨hc5, h⟩ | ⟨hc5, h⟩
    ·
     refine jT hc5 ?_
     refine zN ?_
     obtain ⟨x2, h_x2, h⟩ := bnd h
     refine jr (ra 1 [.sl za [0] x.Fields, kI v3] rfl (zdD rfl zlB.el (zas _ _ _) h_x2) rfl (ra 0 [.ep za [0] x2 0] rfl (zhZ rfl ⟨Try.isAgg33, Try.sizeOf33⟩) rfl (rfl' [24]))) ?_
     obtain ⟨rv5, h_rv5, h⟩ := bnd h
     refine jr (lb 2 za [] x2 (rkl 0 [] ⟨[(2, .ptr 12 0), (4, .ptr 16 0), (5, kI v2), (8, kI v3), (26, .sl zi [0] sv), (27, kI (sv.length : Int)), (28, kI v2), (42, .sl za [0] x.Fields), (43, kI (x.Fields.length : Int)), (44, kI v3), (49, .ag [kI (sv.length : Int), .own (Rp.int .i64) 3 13 [] rv, .om zk Rp.bool 14 [13, 0] f6, .om zj Rp.bool 15 [13, 0] f7]), (50, kI v2), (51, .rc za [] x2)], [⟨12, 54, [kI 0, kI 0, kI 0]⟩, ⟨16, 69, [kI (sv.length : Int), .own (Rp.int .i64) 3 13 [] rv, .om zk Rp.bool 14 [13, 0] f6, .om zj Rp.bool 15 [13, 0] f7]⟩]⟩ (zct ⟨[(2, .ptr 12 0), (4, .ptr 16 0), (5, kI v2), (8, kI v3), (26, .sl zi [0] sv), (27, kI (sv.length : Int)), (28, kI v2), (42, .sl za [0] x.Fields), (43, kI (x.Fields.length : Int)), (44, kI v3), (49, .ag [kI (sv.length : Int), .own (Rp.int .i64) 3 13 [] rv, .om zk Rp.bool 14 [13, 0] rv5.2.1, .om zj Rp.bool 15 [13, 0] rv5.2.2]), (50, kI v2), (51, .rc za [] x2)], [⟨12, 54, [kI 0, kI 0, kI 0]⟩, ⟨16, 69, [kI (sv.length : Int), .own (Rp.int .i64) 3 13 [] rv, .om zk Rp.bool 14 [13, 0] rv5.2.1, .om zj Rp.bool 15 [13, 0] rv5.2.2]⟩]⟩ (zfm [.ag [kI (sv.length : Int), .own (Rp.int .i64) 3 13 [] rv, .om zk Rp.bool 14 [13, 0] f6, .om zj Rp.bool 15 [13, 0] f7], kI v2, .rc za [] x2] [(14, 2), (15, 3)] [13, 0] 25 [] rfl Try.call21 (zfw h_rv5) rfl rfl (by kernel_rfl) rfl rfl rfl) rfl (by kernel_rfl) (by kernel_rfl) ⟨⟨_, rfl, zn rfl⟩, ⟨_, rfl, zn rfl⟩, ⟨_, rfl, zn rfl⟩, ⟨_, rfl, zn rfl⟩, ⟨_, rfl, zn rfl⟩, ⟨_, rfl, zn rfl⟩, ⟨_, rfl, zn rfl⟩, ⟨_, rfl, zn rfl⟩, ⟨_, rfl, zn rfl⟩, ⟨_, rfl, zn rfl⟩, ⟨_, rfl, zeP ⟨zn rfl, zn rfl, zbr 0 rfl, zbr 1 rfl, trivial⟩⟩, ⟨_, rfl, zn rfl⟩, ⟨_, rfl, zn rfl⟩, trivial⟩ ⟨⟨_, rfl, rfl, rfl, ⟨zn rfl, zn rfl, zn rfl, trivial⟩⟩, ⟨_, rfl, rfl, rfl, ⟨zn rfl, zn rfl, zbr 0 rfl, zbr 1 rfl, trivial⟩⟩, trivial⟩ rf))) ?_
     refine jp ?_
     rcases zq h with ⟨hc6, h⟩ | ⟨hc6, h⟩
     ·
      refine jT hc6 ?_
      refine jr (rc 3 rfl (zB (r := zaR) [kI v2, kI v3, kI rv5.1] [] (⟨v2, v3, rv5.1⟩ : zV) rfl zoZ rfl rfl) rf) ?_
      obtain rfl := sj h
      exact zcK lzz
     refine jF hc6 ?_
     refine zav ?_
     refine jp ?_
     obtain rfl := sj h
     exact zab lzz
    refine jF hc5 ?_
    obtain rfl := sj h
    exact zce rfl lzz
   rcases q with u | u2
   ·
    refine zdc _ rfl ?_
    refine zav ?_
    refine jp ?_
    obtain rfl := sj h
    exact zab lzz
   obtain rfl := sj h
   exact zsb lzz
  refine jF hc3 ?_
  obtain rfl := sj h
  exact zce rfl lzz
 ·
  refine zbV ⟨[(2, .ptr 12 0), (4, .ptr 16 0), (26, .sl zi [0] sv), (27, kI (sv.length : Int)), (28, kI 0)], [⟨12, 54, [kI 0, kI 0, kI 0]⟩, ⟨16, 69, [kI (sv.length : Int), .own (Rp.int .i64) 3 13 [] rv, .om zk Rp.bool 14 [] ([] : (List (zg × Bool))), .om zj Rp.bool 15 [] ([] : (List (zh × Bool)))]⟩]⟩ (by kernel_rfl) ?_
  refine zsN 16 2 (.om zk Rp.bool 14 [13, 0] ([] : (List (zg × Bool)))) rfl rfl (zsO _ _ _ _ rfl rfl) ?_
  refine zsN 16 3 (.om zj Rp.bool 15 [13, 0] ([] : (List (zh × Bool)))) rfl rfl (zsO _ _ _ _ rfl rfl) ?_
  exact lzz
 rcases q2 with u3 | u4
 ·
  refine zdc _ rfl ?_
  refine jr (rc 0 rfl (zB (r := zaR) [] [] (⟨0, 0, 0⟩ : zV) rfl zoZ rfl rfl) rf) ?_
  obtain rfl := sj h
  refine zw ?_
  refine lk [2, 3] [12] 12 2 ?_
  exact lzz
 obtain rfl := sj h
 refine zhV ?_
 refine lk [2, 3] [12] 12 2 ?_
 exact lzz
theorem zmr {m : zr} {b : (List UInt8)} {fromv : Int} {met : (List (zz × zE))} {r : (zb × Int × (List (zz × zE)))} (h : zeW m b fromv met = some r) : zcH Try.prog 24 [.rc zi [0] m, .sl Rp.byte [0] b, kI fromv, .om zA zD 2 [0] met] [.rc zd [] r.1, k8 r.2.1] [.any, .any, .any, .om zA zD 2 [0] r.2.2] := by
 refine zdJ (E := ⟨[(3, .om zA zD 2 [0] r.2.2), (8, .ptr 3 0), (9, k8 r.2.1)], [⟨3, 49, [kI r.1.Record.Number, kI r.1.Record.Wire, kI r.1.Record.From, kI r.1.Record.At, kI r.1.Record.To, kI r.1.Field, kB r.1.Run]⟩]⟩) 56 [3] Try.func24 rfl rfl rfl ⟨⟨_, _, rfl, rfl, rfl, rfl, ⟨Try.isAgg49, Try.sizeOf49⟩⟩, rfl, trivial⟩ ⟨.inl rfl, .inl rfl, .inl rfl, .inr ⟨rfl, rfl⟩, trivial⟩ rfl (fun Xt old => ?_)
 refine zv ?_
 unfold zeW at h
 refine jr (ra 0 [.rc zi [0] m] rfl (zhX 13 [kS m.Name, .sl za [0] m.Fields] [0] rfl rfl rfl rfl rfl) rfl (rfl' [14])) ?_
 obtain ⟨rv, h_rv, h⟩ := bnd h
 refine jr (rl 2 [0] 13 Try.call16 (zfT h_rv) (rfl' [15])) ?_
 refine jp ?_
 rcases zq h with ⟨hc1, h⟩ | ⟨hc1, h⟩
 ·
  refine jT hc1 ?_
  refine jr (rc 0 rfl (zB (r := zd) [] [] (⟨(⟨0, 0, 0, 0, 0⟩ : zo), 0, false⟩ : zb) rfl znm rfl rfl) rf) ?_
  obtain rfl := sj h
  refine zbS ?_
  refine lk [3, 8, 9] [14] 14 3 ?_
  exact lzz
 refine jF hc1 ?_
 refine jr (rc 4 rfl (zB (r := zA) [kI rv.1.Number, kI rv.1.Wire] [] (⟨rv.1.Number, rv.1.Wire⟩ : zz) rfl ztu rfl rfl) (rfl' [16])) ?_
 refine jr (lb 1 zA [] (⟨rv.1.Number, rv.1.Wire⟩ : zz) (ra 0 [.om zA zD 2 [0] met, .rc zA [] (⟨rv.1.Number, rv.1.Wire⟩ : zz)] rfl (zjR (rk := zA) (rv := zD) (m := met) (k := (⟨rv.1.Number, rv.1.Wire⟩ : zz)) (.rc zD [2, 0] ((mget met (⟨rv.1.Number, rv.1.Wire⟩ : zz)).getD (⟨0, false, 0⟩ : zE))) rfl zra (zfa _ _ _ _ _) (zay rfl) (zlN rfl)) rfl (rfl' [17]))) ?_
 refine jp ?_
 obtain ⟨p, h_p, h⟩ := bnd h
 refine zel (R := fun e a w => e = .normal ∧ Sx ⟨⟨56, [3]⟩, Xt, false, old⟩ ⟨[(3, .om zA zD 2 [0] p.1), (8, .ptr 14 0), (10, .ptr 15 0), (13, .ptr 17 0)], [⟨14, 49, [kI 0, kI 0, kI 0, kI 0, kI 0, kI 0, kB false]⟩, ⟨15, 47, [kI rv.1.Number, kI rv.1.Wire, kI rv.1.From, kI rv.1.At, kI rv.1.To]⟩, ⟨17, 107, [kI p.2.1, kB p.2.2.1, k8 p.2.2.2]⟩]⟩ a w) ?_ ?_
 ·
  replace h := h_p
  refine zv ?_
  rcases zq h with ⟨hc2, h⟩ | ⟨hc2, h⟩
  ·
   refine jT hc2 ?_
   obtain ⟨rv2, h_rv2, h⟩ := bnd h
   refine jr (lb 1 zA [] (⟨rv.1.Number, rv.1.Wire⟩ : zz) (rl 0 [0] 16 Try.call38 (zkz h_rv2) rf)) ?_
   refine jr (lb 1 zA [] (⟨rv.1.Number, rv.1.Wire⟩ : zz) (lb 0 zD [] rv2 (rkl 0 [] ⟨[(3, .om zA zD 2 [0] met), (8, .ptr 14 0), (10, .ptr 15 0), (13, .ptr 17 0), (41, .om zA zD 2 [0] met), (42, .rc zA [] (⟨rv.1.Number, rv.1.Wire⟩ : zz)), (43, .rc zD [] rv2)], [⟨14, 49, [kI 0, kI 0, kI 0, kI 0, kI 0, kI 0, kB false]⟩, ⟨15, 47, [kI rv.1.Number, kI rv.1.Wire, kI rv.1.From, kI rv.1.At, kI rv.1.To]⟩, ⟨17, 107, [kI rv2.field, kB rv2.run, k8 rv2.e]⟩]⟩ (zct ⟨[(3, .om zA zD 2 [0] (mput met (⟨rv.1.Number, rv.1.Wire⟩ : zz) rv2)), (8, .ptr 14 0), (10, .ptr 15 0), (13, .ptr 17 0), (41, .om zA zD 2 [0] (mput met (⟨rv.1.Number, rv.1.Wire⟩ : zz) rv2)), (42, .rc zA [] (⟨rv.1.Number, rv.1.Wire⟩ : zz)), (43, .rc zD [] rv2)], [⟨14, 49, [kI 0, kI 0, kI 0, kI 0, kI 0, kI 0, kB false]⟩, ⟨15, 47, [kI rv.1.Number, kI rv.1.Wire, kI rv.1.From, kI rv.1.At, kI rv.1.To]⟩, ⟨17, 107, [kI rv2.field, kB rv2.run, k8 rv2.e]⟩]⟩ (zhG (rk := zA) (rv := zD) (m := met) (ℓ := 2) (C := [0]) (C1 := []) (D := []) (⟨rv.1.Number, rv.1.Wire⟩ : zz) rv2 [0] zra (.inl rfl) (zay rfl) (zay rfl) rfl) rfl (by kernel_rfl) (by kernel_rfl) ⟨⟨_, rfl, zbr 0 rfl⟩, ⟨_, rfl, zn rfl⟩, ⟨_, rfl, zn rfl⟩, ⟨_, rfl, zn rfl⟩, ⟨_, rfl, zbr 0 rfl⟩, ⟨_, rfl, zn rfl⟩, ⟨_, rfl, zn rfl⟩, trivial⟩ ⟨⟨_, rfl, rfl, rfl, ⟨zn rfl, zn rfl, zn rfl, zn rfl, zn rfl, zn rfl, zn rfl, trivial⟩⟩, ⟨_, rfl, rfl, rfl, ⟨zn rfl, zn rfl, zn rfl, zn rfl, zn rfl, trivial⟩⟩, ⟨_, rfl, rfl, rfl, ⟨zn rfl, zn rfl, zn rfl, trivial⟩⟩, trivial⟩ rf)))) ?_
   obtain rfl := sj h
   exact zab lzz
  refine jF hc2 ?_
  obtain rfl := sj h
  exact zab lzz
 refine zgM ?_
 refine jp ?_
 rcases zq h with ⟨hc3, h⟩ | ⟨hc3, h⟩
 ·
  refine jT hc3 ?_
  refine jd [3, 8, 9] [14] zfN (by exact (lx (zB (r := zd) [] [] (⟨(⟨0, 0, 0, 0, 0⟩ : zo), 0, false⟩ : zb) rfl znm rfl rfl) (lw_e (lw_e (ly [.ptr 14 0, .rc zd [] (⟨(⟨0, 0, 0, 0, 0⟩ : zo), 0, false⟩ : zb)] (zjS (r := zd) (b := ⟨14, 49, [kI 0, kI 0, kI 0, kI 0, kI 0, kI 0, kB false]⟩) (off := 0) [kI 0, kI 0, kI 0, kI 0, kI 0, kI 0, kB false] rfl Try.sizeOf49 rfl rfl rfl rfl) rfl l0))))) ?_
  obtain rfl := sj h
  refine zbS ?_
  refine lk [3, 8, 9] [14] 14 3 ?_
  exact lzz
 refine jF hc3 ?_
 refine jr (lb 0 zO [] rv.1 (rc 4 rfl (zB (r := zd) [.rc zO [] rv.1, kI p.2.1, kB p.2.2.1] [] (⟨rv.1, p.2.1, p.2.2.1⟩ : zb) rfl znm rfl rfl) rf)) ?_
 obtain rfl := sj h
 refine zbS ?_
 refine lk [3, 8, 9] [14] 14 3 ?_
 exact lzz
theorem ziK (v : Int) (v2 : (List UInt8)) : ItOk Try.prog 52 [.bp (Rp.int .i64) 3 905200 [] v, .bp (Rp.list Rp.byte) 24 905201 [0] v2] (fun x : ((List UInt8) × Int) => [.sl Rp.byte [0] x.1, k8 x.2]) (fun {σ : Type} (kf : Rnd σ ((List UInt8) × Int)) (sg : σ) => zbG v v2 kf sg) := by
 refine zqt 38 [(1, .ptr 905200 0), (2, .ptr 905201 0)] [⟨905200, 3, [kI v]⟩, ⟨905201, 24, [.sl Rp.byte [0] v2]⟩] Try.func52 rfl rfl rfl rfl (.cons (Rp.int .i64) 3 905200 [] v [kI v] rfl rfl (.cons (Rp.list Rp.byte) 24 905201 [0] v2 [.sl Rp.byte [0] v2] rfl rfl (.nil _))) ?_
 intro σ kf sg s1 h l I hI F_ hT
 replace h : zbG v v2 kf sg = some s1 := h
 refine zv ?_
 refine zli (E' := ⟨[(0, .lf (.val (.func (.yield l) #[] #[]))), (1, .ptr 905200 0), (2, .ptr 905201 0)], [⟨905200, 3, [kI v]⟩, ⟨905201, 24, [.sl Rp.byte [0] v2]⟩]⟩) (fun _ _ _ hs => hs) ?_
 unfold zbG at h
 obtain ⟨rv, h_rv, h⟩ := bnd h
 refine jr (rl 1 [1] 9 Try.call53 (zmi h_rv) rf) ?_
 refine jp ?_
 rcases zq h with ⟨hc1, h⟩ | ⟨hc1, h⟩
 ·
  refine jT hc1 ?_
  obtain ⟨y, h_y, h⟩ := bnd h
  refine zmS (E' := ⟨[], []⟩) (x := (([] : (List UInt8)), 2)) (b := y.1) (s' := y.2) 1 (some 13) [.const (.slice none 0 0), .const (.int .u8 2)] [kN, k8 2] [.sl Rp.byte [0] ([] : (List UInt8)), k8 2] ⟨[(12, .lf (.val (.func (.yield l) #[] #[])))], []⟩ hT rfl rfl rfl rfl rfl rgg rfl ⟨rfl, ⟨rfl, trivial⟩⟩ rfl ⟨zpr _ _, AV.le_refl _, trivial⟩ rfl rfl h_y rgg ?_
  obtain rfl := sj h
  exact zte lzz
 refine jF hc1 ?_
 refine jp ?_
 refine zN ?_
 obtain ⟨q, h_q, h⟩ := bnd h
 refine zqu (fun s : ((List UInt8) × σ) => zaf kf rv s.1 s.2) (fun s => ⟨⟨38, []⟩, itX I hI F_ s.2, false, #[]⟩) (fun s => ⟨[(0, .lf (.val (.func (.yield l) #[] #[]))), (4, kI rv), (5, .sl Rp.byte [0] s.1)], []⟩) (fun o e a w => match o with | (.inl v_) => e = .exit 0 ∧ Sx ⟨⟨38, []⟩, itX I hI F_ v_, false, #[]⟩ ⟨[], []⟩ a w | (.inr v_) => e = .ret ∧ Sx ⟨⟨38, []⟩, itX I hI F_ v_, false, #[]⟩ ⟨[], []⟩ a w) ?_ h_q rfl lzz ?_
 ·
  clear h
  intro s o h
  obtain ⟨rest, sg2⟩ := s
  refine zv ?_
  replace h : zaf kf rv rest sg2 = some o := h
  unfold zaf at h
  refine jp ?_
  rcases zq h with ⟨hc2, h⟩ | ⟨hc2, h⟩
  ·
   refine jT hc2 ?_
   refine zN ?_
   obtain ⟨rv2, h_rv2, h⟩ := bnd h
   refine jr (rl 2 [0] 10 Try.call54 (zmh h_rv2) rf) ?_
   obtain ⟨v3, h_v3, h⟩ := bnd h
   obtain ⟨y2, h_y2, h⟩ := bnd h
   refine zmS (E' := ⟨[(0, .lf (.val (.func (.yield l) #[] #[]))), (4, kI rv), (5, .sl Rp.byte [0] rest), (6, kI rv2.1), (34, kB ((!y2.1) || (rv2.2 != 0)))], []⟩) (x := (v3, rv2.2)) (b := y2.1) (s' := y2.2) 5 (some 29) [.tmp 27, .tmp 28] [.sl Rp.byte [0] v3, k8 rv2.2] [.sl Rp.byte [0] v3, k8 rv2.2] ⟨[(0, .lf (.val (.func (.yield l) #[] #[]))), (4, kI rv), (5, .sl Rp.byte [0] rest), (6, kI rv2.1), (7, k8 rv2.2), (24, .lf (.val (.func (.yield l) #[] #[]))), (27, .sl Rp.byte [0] v3), (28, k8 rv2.2)], []⟩ hT rfl rfl rfl rfl rfl (ra 3 [.sl Rp.byte [0] rest, kI rv2.1] rfl (zfe none (some (kI rv2.1)) rfl zdz.el (zas _ _ _) ⟨rfl, rfl⟩ ⟨rfl, rfl⟩ h_v3) rfl rgg) rfl ⟨rfl, ⟨rfl, trivial⟩⟩ rfl ⟨AV.le_refl _, AV.le_refl _, trivial⟩ rfl rfl h_y2 ?_ ?_
   ·
    refine (rsl 2 [] 31 (!y2.1) (fun hc3 => ?_) (fun hc3 => ?_))
    · exact (rbl [] 34 true ((!y2.1) || (rv2.2 != 0)) (by rw [hc3] <;> rfl))
    exact (rbl [] 34 (rv2.2 != 0) ((!y2.1) || (rv2.2 != 0)) (by rw [hc3] <;> rfl))
   rcases zq h with ⟨hc4, h⟩ | ⟨hc4, h⟩
   ·
    refine jT hc4 ?_
    obtain rfl := sj h
    exact zcK lzz
   refine jF hc4 ?_
   obtain ⟨v5, h_v5, h⟩ := bnd h
   refine jr (ra 2 [.sl Rp.byte [0] rest, kI rv2.1] rfl (zfe (some (kI rv2.1)) none rfl zdz.el (zas _ _ _) ⟨rfl, rfl⟩ ⟨rfl, rfl⟩ h_v5) rfl rf) ?_
   refine zav ?_
   obtain rfl := sj h
   exact zab lzz
  refine jF hc2 ?_
  obtain rfl := sj h
  exact zce rfl lzz
 rcases q with u | u2
 ·
  refine zdc _ rfl ?_
  obtain rfl := sj h
  exact ztd lzz
 obtain rfl := sj h
 exact ztg lzz
end Go.Proofs.Ytnfembipjdohcaa

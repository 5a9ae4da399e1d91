/-
  The Go functions do what the plain functions say. No condition.
-/
import Derived.Test.YtglkepeofhonlaaGreatDoorG6
namespace Go.Proofs.YtglkepeofhonlaaGreatDoor
open Go Go.RowKit
set_option linter.unusedVariables false
set_option maxRecDepth 100000
set_option maxHeartbeats 3200000
theorem zrD {sv : (List zc)} {r : (zbw × Int)} (h : ziL sv = some r) : FnOk Tryz.prog 76 [.sl zd [0] sv] [.rc zeF [] r.1, k8 r.2] := by
 refine zo (E := ⟨[(2, .ptr 2 0), (3, k8 r.2)], [⟨2, 111, [kI r.1.Message, kI r.1.Field, kI r.1.What]⟩]⟩) 62 Tryz.func76 rfl rfl rfl ⟨⟨_, _, rfl, rfl, rfl, rfl, ⟨Tryz.isAgg111, Tryz.sizeOf111⟩⟩, rfl, trivial⟩ (fun Xt => ?_)
 refine zh ?_
 unfold ziL at h
 refine jq [12] ?_
 refine zN ⟨[(0, .sl zd [0] sv), (2, .ptr 12 0), (18, kB ((decide ((sv.length : Int) < 1)) || (decide ((sv.length : Int) > 100))))], [⟨12, 111, [kI 0, kI 0, kI 0]⟩]⟩ ?_ ?_
 ·
  refine (rsl 4 [] 14 (decide ((sv.length : Int) < 1)) (fun hc1 => ?_) (fun hc1 => ?_))
  · exact (rbl [] 18 true ((decide ((sv.length : Int) < 1)) || (decide ((sv.length : Int) > 100))) (by rw [hc1] <;> rfl))
  exact (rbl [] 18 (decide ((sv.length : Int) > 100)) ((decide ((sv.length : Int) < 1)) || (decide ((sv.length : Int) > 100))) (by rw [hc1] <;> rfl))
 rcases zg h with ⟨hc2, h⟩ | ⟨hc2, h⟩
 ·
  refine jT hc2 ?_
  refine jr (rc 0 rfl (zbR (r := zeF) [kI (-1), kI (-1), kI 1] [] (⟨(-1), (-1), 1⟩ : zbw) rfl zvp rfl rfl) rf) ?_
  obtain rfl := sj h
  refine zp ?_
  refine lk [2, 3] [12] 12 2 ?_
  exact lzz
 refine jF hc2 ?_
 obtain ⟨rv, h_rv, h⟩ := bnd h
 refine jr (rl 2 [1] 11 Tryz.call88 (zwo h_rv) (rc 0 rfl (znB (rk := zj) (rv := Rp.bool) 14 rfl) (rc 0 rfl (znB (rk := zi) (rv := Rp.bool) 15 rfl) (ra 0 [kI (sv.length : Int), .own (Rp.int .i64) 3 13 [] rv, .om zj Rp.bool 14 [] ([] : (List (ze × Bool))), .om zi Rp.bool 15 [] ([] : (List (zf × Bool)))] rfl (zet [kI (sv.length : Int), .own (Rp.int .i64) 3 13 [] rv, .om zj Rp.bool 14 [] ([] : (List (ze × Bool))), .om zi Rp.bool 15 [] ([] : (List (zf × Bool)))] [kI (sv.length : Int), .own (Rp.int .i64) 3 13 [] rv, .om zj Rp.bool 14 [] ([] : (List (ze × Bool))), .om zi Rp.bool 15 [] ([] : (List (zf × Bool)))] rfl zCN rfl) rfl (rfl' [16]))))) ?_
 refine jp ?_
 refine zn ?_
 obtain ⟨q2, h_q2, h⟩ := bnd h
 refine zam (fun s : (Int × (List (ze × Bool)) × (List (zf × Bool))) => zbs rv sv s.1 s.2.1 s.2.2) (fun s => ⟨[(2, .ptr 12 0), (4, .ptr 16 0), (26, .sl zd [0] sv), (27, kI (sv.length : Int)), (28, kI s.1)], [⟨12, 111, [kI 0, kI 0, kI 0]⟩, ⟨16, 130, [kI (sv.length : Int), .own (Rp.int .i64) 3 13 [] rv, .om zj Rp.bool 14 [13, 0] s.2.1, .om zi Rp.bool 15 [13, 0] s.2.2]⟩]⟩) (fun o e a w => match o with | (.inl v_) => e = .exit 0 ∧ Sx ⟨⟨62, []⟩, Xt, false, #[]⟩ ⟨[(2, .ptr 12 0)], [⟨12, 111, [kI 0, kI 0, kI 0]⟩]⟩ a w | (.inr v_) => e = .ret ∧ Sx ⟨⟨62, []⟩, Xt, false, #[]⟩ ⟨[(2, .ptr 12 0), (3, k8 9)], [⟨12, 111, [kI v_.1, kI v_.2.1, kI v_.2.2]⟩]⟩ a w) ?_ h_q2 ?_ ?_
 ·
  clear h
  intro s o h
  obtain ⟨v2, f, f2⟩ := s
  refine zh ?_
  replace h : zbs rv sv v2 f f2 = some o := h
  unfold zbs at h
  refine jp ?_
  rcases zg h with ⟨hc3, h⟩ | ⟨hc3, h⟩
  ·
   refine jT hc3 ?_
   refine zn ?_
   obtain ⟨x, h_x, h⟩ := bnd h
   refine jr (ra 1 [.sl zd [0] sv, kI v2] rfl (zW rfl zhD.el (zv _ _ _) h_x) rfl (ra 0 [.ep zd [0] x 0] rfl (zhY rfl ⟨Tryz.isAgg65, Tryz.sizeOf65⟩) rfl (ral 2 [18] [.ptr 18 0, .rc zd [0] x] rfl (zsz (r := zd) (b := ⟨18, 65, [kS [], kN]⟩) (off := 0) [kS x.Name, .sl za [0] x.Fields] rfl Tryz.sizeOf65 rfl rfl rfl rfl) rfl rf))) ?_
   obtain ⟨rv3, h_rv3, h⟩ := bnd h
   refine jr (rkl 2 [] ⟨[(2, .ptr 12 0), (4, .ptr 16 0), (5, kI v2), (6, .ptr 18 0), (26, .sl zd [0] sv), (27, kI (sv.length : Int)), (28, kI v2), (33, .ag [kI (sv.length : Int), .own (Rp.int .i64) 3 13 [] rv, .om zj Rp.bool 14 [13, 0] f, .om zi Rp.bool 15 [13, 0] f2]), (34, .ag [kS x.Name, .sl za [0] x.Fields])], [⟨12, 111, [kI 0, kI 0, kI 0]⟩, ⟨16, 130, [kI (sv.length : Int), .own (Rp.int .i64) 3 13 [] rv, .om zj Rp.bool 14 [13, 0] f, .om zi Rp.bool 15 [13, 0] f2]⟩, ⟨18, 65, [kS x.Name, .sl za [0] x.Fields]⟩]⟩ (zhu ⟨[(2, .ptr 12 0), (4, .ptr 16 0), (5, kI v2), (6, .ptr 18 0), (26, .sl zd [0] sv), (27, kI (sv.length : Int)), (28, kI v2), (33, .ag [kI (sv.length : Int), .own (Rp.int .i64) 3 13 [] rv, .om zj Rp.bool 14 [13, 0] rv3.2.1, .om zi Rp.bool 15 [13, 0] rv3.2.2]), (34, .ag [kS x.Name, .sl za [0] x.Fields])], [⟨12, 111, [kI 0, kI 0, kI 0]⟩, ⟨16, 130, [kI (sv.length : Int), .own (Rp.int .i64) 3 13 [] rv, .om zj Rp.bool 14 [13, 0] rv3.2.1, .om zi Rp.bool 15 [13, 0] rv3.2.2]⟩, ⟨18, 65, [kS x.Name, .sl za [0] x.Fields]⟩]⟩ (zoF.le (ins' := [(.tmp 33, .ag [kI (sv.length : Int), .own (Rp.int .i64) 3 13 [] rv, .om zj Rp.bool 14 [13, 0] f, .om zi Rp.bool 15 [13, 0] f2]), (.tmp 34, .ag [kS x.Name, .sl za [0] x.Fields])]) (zou (args := [.tmp 33, .tmp 34]) [.ag [kI (sv.length : Int), .own (Rp.int .i64) 3 13 [] rv, .om zj Rp.bool 14 [13, 0] f, .om zi Rp.bool 15 [13, 0] f2], .rc zd [0] x] [(14, 2), (15, 3)] [13, 0] 19 [] rfl Tryz.call89 (zlS h_rv3) rfl rfl (by kernel_rfl) rfl rfl rfl) ⟨⟨rfl, AV.le_refl _⟩, ⟨rfl, zcA zd [0] x [kS x.Name, .sl za [0] x.Fields] rfl rfl⟩, trivial⟩) rfl (by kernel_rfl) (by kernel_rfl) ⟨⟨_, rfl, zK rfl⟩, ⟨_, rfl, zK rfl⟩, ⟨_, rfl, zK rfl⟩, ⟨_, rfl, zK rfl⟩, ⟨_, rfl, zK rfl⟩, ⟨_, rfl, zK rfl⟩, ⟨_, rfl, zK rfl⟩, ⟨_, rfl, zwT ⟨zK rfl, zK rfl, zfX 0 rfl, zfX 1 rfl, trivial⟩⟩, ⟨_, rfl, zK rfl⟩, trivial⟩ ⟨⟨_, rfl, rfl, rfl, ⟨zK rfl, zK rfl, zK rfl, trivial⟩⟩, ⟨_, rfl, rfl, rfl, ⟨zK rfl, zK rfl, zfX 0 rfl, zfX 1 rfl, trivial⟩⟩, ⟨_, rfl, rfl, rfl, ⟨zK rfl, zK rfl, trivial⟩⟩, trivial⟩ rf)) ?_
   refine jp ?_
   rcases zg h with ⟨hc4, h⟩ | ⟨hc4, h⟩
   ·
    refine jT hc4 ?_
    refine jr (rc 2 rfl (zbR (r := zeF) [kI v2, kI (-1), kI rv3.1] [] (⟨v2, (-1), rv3.1⟩ : zbw) rfl zvp rfl rfl) rf) ?_
    obtain rfl := sj h
    exact zaW lzz
   refine jF hc4 ?_
   refine jp ?_
   refine zn ?_
   obtain ⟨q, h_q, h⟩ := bnd h
   refine zam (fun s : (Int × (List (ze × Bool)) × (List (zf × Bool))) => zbW rv sv v2 x s.1 s.2.1 s.2.2) (fun s => ⟨[(2, .ptr 12 0), (4, .ptr 16 0), (5, kI v2), (26, .sl zd [0] sv), (27, kI (sv.length : Int)), (28, kI v2), (42, .sl za [0] x.Fields), (43, kI (x.Fields.length : Int)), (44, kI s.1)], [⟨12, 111, [kI 0, kI 0, kI 0]⟩, ⟨16, 130, [kI (sv.length : Int), .own (Rp.int .i64) 3 13 [] rv, .om zj Rp.bool 14 [13, 0] s.2.1, .om zi Rp.bool 15 [13, 0] s.2.2]⟩]⟩) (fun o e a w => match o with | (.inl v_) => e = .exit 2 ∧ Sx ⟨⟨62, []⟩, Xt, false, #[]⟩ ⟨[(2, .ptr 12 0), (4, .ptr 16 0), (26, .sl zd [0] sv), (27, kI (sv.length : Int)), (28, kI v2)], [⟨12, 111, [kI 0, kI 0, kI 0]⟩, ⟨16, 130, [kI (sv.length : Int), .own (Rp.int .i64) 3 13 [] rv, .om zj Rp.bool 14 [13, 0] v_.1, .om zi Rp.bool 15 [13, 0] v_.2]⟩]⟩ a w | (.inr v_) => e = .ret ∧ Sx ⟨⟨62, []⟩, Xt, false, #[]⟩ ⟨[(2, .ptr 12 0), (3, k8 9)], [⟨12, 111, [kI v2, kI v_.1, kI v_.2]⟩]⟩ a w) ?_ h_q lzz ?_
   ·
    clear h
    intro s o h
    obtain ⟨v3, f6, f7⟩ := s
    refine zh ?_
    replace h : zbW rv sv v2 x v3 f6 f7 = some o := h
    unfold zbW at h
    refine jp ?_
    rcases zg h with ⟨hc5, h⟩ | ⟨hc5, h⟩
    ·
     refine jT hc5 ?_
     refine zn ?_
     obtain ⟨x2, h_x2, h⟩ := bnd h
     refine jr (ra 1 [.sl za [0] x.Fields, kI v3] rfl (zW rfl ziw.el (zv _ _ _) h_x2) rfl (ra 0 [.ep za [0] x2 0] rfl (zhY rfl ⟨Tryz.isAgg62, Tryz.sizeOf62⟩) rfl (rfl' [24]))) ?_
     obtain ⟨rv5, h_rv5, h⟩ := bnd h
     refine jr (lb 2 za [] x2 (rkl 0 [] ⟨[(2, .ptr 12 0), (4, .ptr 16 0), (5, kI v2), (8, kI v3), (26, .sl zd [0] sv), (27, kI (sv.length : Int)), (28, kI v2), (42, .sl za [0] x.Fields), (43, kI (x.Fields.length : Int)), (44, kI v3), (49, .ag [kI (sv.length : Int), .own (Rp.int .i64) 3 13 [] rv, .om zj Rp.bool 14 [13, 0] f6, .om zi Rp.bool 15 [13, 0] f7]), (50, kI v2), (51, .rc za [] x2)], [⟨12, 111, [kI 0, kI 0, kI 0]⟩, ⟨16, 130, [kI (sv.length : Int), .own (Rp.int .i64) 3 13 [] rv, .om zj Rp.bool 14 [13, 0] f6, .om zi Rp.bool 15 [13, 0] f7]⟩]⟩ (zhu ⟨[(2, .ptr 12 0), (4, .ptr 16 0), (5, kI v2), (8, kI v3), (26, .sl zd [0] sv), (27, kI (sv.length : Int)), (28, kI v2), (42, .sl za [0] x.Fields), (43, kI (x.Fields.length : Int)), (44, kI v3), (49, .ag [kI (sv.length : Int), .own (Rp.int .i64) 3 13 [] rv, .om zj Rp.bool 14 [13, 0] rv5.2.1, .om zi Rp.bool 15 [13, 0] rv5.2.2]), (50, kI v2), (51, .rc za [] x2)], [⟨12, 111, [kI 0, kI 0, kI 0]⟩, ⟨16, 130, [kI (sv.length : Int), .own (Rp.int .i64) 3 13 [] rv, .om zj Rp.bool 14 [13, 0] rv5.2.1, .om zi Rp.bool 15 [13, 0] rv5.2.2]⟩]⟩ (zou [.ag [kI (sv.length : Int), .own (Rp.int .i64) 3 13 [] rv, .om zj Rp.bool 14 [13, 0] f6, .om zi Rp.bool 15 [13, 0] f7], kI v2, .rc za [] x2] [(14, 2), (15, 3)] [13, 0] 25 [] rfl Tryz.call90 (zna h_rv5) rfl rfl (by kernel_rfl) rfl rfl rfl) rfl (by kernel_rfl) (by kernel_rfl) ⟨⟨_, rfl, zK rfl⟩, ⟨_, rfl, zK rfl⟩, ⟨_, rfl, zK rfl⟩, ⟨_, rfl, zK rfl⟩, ⟨_, rfl, zK rfl⟩, ⟨_, rfl, zK rfl⟩, ⟨_, rfl, zK rfl⟩, ⟨_, rfl, zK rfl⟩, ⟨_, rfl, zK rfl⟩, ⟨_, rfl, zK rfl⟩, ⟨_, rfl, zwT ⟨zK rfl, zK rfl, zfX 0 rfl, zfX 1 rfl, trivial⟩⟩, ⟨_, rfl, zK rfl⟩, ⟨_, rfl, zK rfl⟩, trivial⟩ ⟨⟨_, rfl, rfl, rfl, ⟨zK rfl, zK rfl, zK rfl, trivial⟩⟩, ⟨_, rfl, rfl, rfl, ⟨zK rfl, zK rfl, zfX 0 rfl, zfX 1 rfl, trivial⟩⟩, trivial⟩ rf))) ?_
     refine jp ?_
     rcases zg h with ⟨hc6, h⟩ | ⟨hc6, h⟩
     ·
      refine jT hc6 ?_
      refine jr (rc 3 rfl (zbR (r := zeF) [kI v2, kI v3, kI rv5.1] [] (⟨v2, v3, rv5.1⟩ : zbw) rfl zvp rfl rfl) rf) ?_
      obtain rfl := sj h
      exact zaW lzz
     refine jF hc6 ?_
     refine zaf ?_
     refine jp ?_
     obtain rfl := sj h
     exact zJ lzz
    refine jF hc5 ?_
    obtain rfl := sj h
    exact zai rfl lzz
   rcases q with u | u2
   ·
    refine zaJ _ rfl ?_
    refine zaf ?_
    refine jp ?_
    obtain rfl := sj h
    exact zJ lzz
   obtain rfl := sj h
   exact zyA lzz
  refine jF hc3 ?_
  obtain rfl := sj h
  exact zai rfl lzz
 ·
  refine zaS ⟨[(2, .ptr 12 0), (4, .ptr 16 0), (26, .sl zd [0] sv), (27, kI (sv.length : Int)), (28, kI 0)], [⟨12, 111, [kI 0, kI 0, kI 0]⟩, ⟨16, 130, [kI (sv.length : Int), .own (Rp.int .i64) 3 13 [] rv, .om zj Rp.bool 14 [] ([] : (List (ze × Bool))), .om zi Rp.bool 15 [] ([] : (List (zf × Bool)))]⟩]⟩ (by kernel_rfl) ?_
  refine ziI 16 2 (.om zj Rp.bool 14 [13, 0] ([] : (List (ze × Bool)))) rfl rfl (zyD _ _ _ _ rfl rfl) ?_
  refine ziI 16 3 (.om zi Rp.bool 15 [13, 0] ([] : (List (zf × Bool)))) rfl rfl (zyD _ _ _ _ rfl rfl) ?_
  exact lzz
 rcases q2 with u3 | u4
 ·
  refine zaJ _ rfl ?_
  refine jr (rc 0 rfl (zbR (r := zeF) [] [] (⟨0, 0, 0⟩ : zbw) rfl zvp rfl rfl) rf) ?_
  obtain rfl := sj h
  refine zp ?_
  refine lk [2, 3] [12] 12 2 ?_
  exact lzz
 obtain rfl := sj h
 refine zdi ?_
 refine lk [2, 3] [12] 12 2 ?_
 exact lzz
theorem zoD {sv : Str} {sep : Str} {r : (Str × Str × Int)} (h : zhx sv sep = some r) : FnOk Tryz.prog 77 [kS sv, kS sep] [.fv 118 [.bp Rp.str 9 911800 [] r.1, .bp Rp.str 9 911801 [] r.2.1, .bp (Rp.int .i64) 3 911802 [] r.2.2]] := by
 refine zo (E := ⟨[(4, .fv 118 [.bp Rp.str 9 911800 [] r.1, .bp Rp.str 9 911801 [] r.2.1, .bp (Rp.int .i64) 3 911802 [] r.2.2])], []⟩) 8 Tryz.func77 rfl rfl rfl ⟨rfl, trivial⟩ (fun Xt => ?_)
 refine zh ?_
 unfold zhx at h
 refine jp ?_
 obtain ⟨rv, h_rv, h⟩ := bnd h
 refine jr (rl 2 [1] 0 Tryz.call91 (zoE h_rv) rf) ?_
 obtain rfl := sj h
 exact zp lzz
theorem zij {fuel : Nat} {sv : (List zc)} {root : Int} {p : Str} {r : ((List Int) × Int)} (h : zdx fuel sv root p = some r) : FnOk Tryz.prog 12 [.sl zd [0] sv, kI root, kS p] [.own (Rp.int .i64) 3 2 [] r.1, kI r.2] := by
 refine zo (E := ⟨[(6, .own (Rp.int .i64) 3 2 [] r.1), (7, kI r.2)], []⟩) 36 Tryz.func12 rfl rfl rfl ⟨rfl, rfl, trivial⟩ (fun Xt => ?_)
 refine zh ?_
 unfold zdx at h
 refine jp ?_
 obtain ⟨rv, h_rv, h⟩ := bnd h
 refine jr (rl 2 [0] 11 Tryz.call31 (zhd h_rv) rf) ?_
 refine jp ?_
 rcases zg h with ⟨hc1, h⟩ | ⟨hc1, h⟩
 ·
  refine jT hc1 ?_
  refine jp ?_
  obtain rfl := sj h
  refine zp ?_
  refine zaS ⟨[(6, kN), (7, kI rv)], []⟩ (by kernel_rfl) ?_
  refine zbL 6 (.own (Rp.int .i64) 3 2 [] (([], rv) : ((List Int) × Int)).1) rfl (zY (Rp.int .i64) 3 2 [] rfl) ?_
  exact lzz
 refine jF hc1 ?_
 obtain ⟨rv2, h_rv2, h⟩ := bnd h
 refine jr (rl 1 [1] 11 Tryz.call32 (zmZ h_rv2) rf) ?_
 refine jp ?_
 rcases zg h with ⟨hc2, h⟩ | ⟨hc2, h⟩
 ·
  refine jT hc2 ?_
  refine jp ?_
  obtain rfl := sj h
  refine zp ?_
  refine zaS ⟨[(6, kN), (7, kI 10)], []⟩ (by kernel_rfl) ?_
  refine zbL 6 (.own (Rp.int .i64) 3 2 [] (([], 10) : ((List Int) × Int)).1) rfl (zY (Rp.int .i64) 3 2 [] rfl) ?_
  exact lzz
 refine jF hc2 ?_
 obtain ⟨rv3, h_rv3, h⟩ := bnd h
 refine jr (rl 3 [0, 13] 12 Tryz.call33 (zow h_rv3) rf) ?_
 refine jp ?_
 rcases zg h with ⟨hc3, h⟩ | ⟨hc3, h⟩
 ·
  refine jT hc3 ?_
  refine jp ?_
  obtain rfl := sj h
  refine zp ?_
  refine zaS ⟨[(6, kN), (7, kI 10)], []⟩ (by kernel_rfl) ?_
  refine zbL 6 (.own (Rp.int .i64) 3 2 [] (([], 10) : ((List Int) × Int)).1) rfl (zY (Rp.int .i64) 3 2 [] rfl) ?_
  exact lzz
 refine jF hc3 ?_
 refine jp ?_
 obtain rfl := sj h
 refine zp ?_
 refine lk [6, 7] [] 14 2 ?_
 exact lzz
theorem zoY {m : zO} {number : Int} {r : (zO × Bool)} (h : zgJ m number = some r) : FnOk Tryz.prog 19 [.rc zat [0] m, kI number] [.ag [.own (Rp.list (Rp.int .i64)) 30 3 [4, 5] r.1.Ways], kB r.2] := by
 refine zo (E := ⟨[(4, .ptr 2 0), (5, kB r.2)], [⟨2, 38, [.own (Rp.list (Rp.int .i64)) 30 3 [4, 5] r.1.Ways]⟩]⟩) 41 Tryz.func19 rfl rfl rfl ⟨⟨_, _, rfl, rfl, rfl, ⟨Tryz.isAgg38, Tryz.sizeOf38⟩⟩, rfl, trivial⟩ (fun Xt => ?_)
 refine zh ?_
 unfold zgJ at h
 refine jr (ra 0 [.rc zat [0] m] rfl (zgW 22 [.sl (Rp.list (Rp.int .i64)) [0] m.Ways] [0] rfl rfl rfl rfl rfl) rfl (rfl' [23])) ?_
 obtain ⟨rv, h_rv, h⟩ := bnd h
 refine jr (rl 2 [0] 22 Tryz.call21 (zft h_rv) rf) ?_
 rcases zg h with ⟨hc1, h⟩ | ⟨hc1, h⟩
 ·
  refine jT hc1 ?_
  refine jr (ra 0 [] rfl (zet [] [kN] rfl zlU rfl) rfl rf) ?_
  obtain rfl := sj h
  refine zp ?_
  refine lk [4, 5] [23] 23 2 ?_
  refine zaS ⟨[(4, .ptr 2 0), (5, kB false)], [⟨2, 38, [kN]⟩]⟩ (by kernel_rfl) ?_
  refine ziI 2 0 (.own (Rp.list (Rp.int .i64)) 30 3 [4, 5] (((⟨[]⟩ : zO), false) : (zO × Bool)).1.Ways) rfl rfl (zY (Rp.list (Rp.int .i64)) 30 3 [4, 5] rfl) ?_
  exact lzz
 refine jF hc1 ?_
 refine jp ?_
 refine jp ?_
 refine zn ?_
 obtain ⟨q, h_q, h⟩ := bnd h
 refine zam (fun s : ((List (List Int)) × Int) => zbH m number s.1 s.2) (fun s => ⟨[(1, kI number), (4, .ptr 23 0), (6, .own (Rp.list (Rp.int .i64)) 30 26 [24, 0] s.1), (14, .sl (Rp.list (Rp.int .i64)) [0] m.Ways), (15, kI (m.Ways.length : Int)), (16, kI s.2)], [⟨23, 38, [kN]⟩]⟩) (fun o e a w => e = .exit 0 ∧ Sx ⟨⟨41, []⟩, Xt, false, #[]⟩ ⟨[(4, .ptr 23 0), (6, .own (Rp.list (Rp.int .i64)) 30 26 [24, 0] o)], [⟨23, 38, [kN]⟩]⟩ a w) ?_ h_q ?_ ?_
 ·
  clear h
  intro s o h
  obtain ⟨rests, v⟩ := s
  refine zh ?_
  replace h : zbH m number rests v = some o := h
  unfold zbH at h
  refine jp ?_
  rcases zg h with ⟨hc2, h⟩ | ⟨hc2, h⟩
  ·
   refine jT hc2 ?_
   refine zn ?_
   obtain ⟨x, h_x, h⟩ := bnd h
   refine jr (ra 0 [.sl (Rp.list (Rp.int .i64)) [0] m.Ways, kI v] rfl (zW rfl zaF.el (zv _ _ _) h_x) rfl (ra 0 [.ep (Rp.list (Rp.int .i64)) [0] x 0] rfl (zaK (Rp.int .i64) x rfl rfl rfl) rfl rf)) ?_
   obtain ⟨g, h_g, h⟩ := bnd h
   refine zN ⟨[(1, kI number), (4, .ptr 23 0), (6, .own (Rp.list (Rp.int .i64)) 30 26 [24, 0] rests), (8, .sl (Rp.int .i64) [0] x), (14, .sl (Rp.list (Rp.int .i64)) [0] m.Ways), (15, kI (m.Ways.length : Int)), (16, kI v), (29, kB g)], [⟨23, 38, [kN]⟩]⟩ ?_ ?_
   ·
    refine (rsl 4 [] 23 (decide ((x.length : Int) > 1)) (fun hc3 => ?_) (fun hc3 => ?_))
    ·
     replace h_g := iteT h_g hc3
     obtain ⟨x2, h_x2, h_g⟩ := bnd h_g
     obtain rfl := sj h_g
     exact (ra 1 [.sl (Rp.int .i64) [0] x, kI 0] rfl (zW rfl zel.el (zv _ _ _) h_x2) rfl (rel [] lzz))
    replace h_g := iteF h_g hc3
    obtain rfl := sj h_g
    exact (rel [] lzz)
   rcases zg h with ⟨hc4, h⟩ | ⟨hc4, h⟩
   ·
    refine jT hc4 ?_
    obtain ⟨v3, h_v3, h⟩ := bnd h
    obtain ⟨v4, h_v4, h⟩ := bnd h
    refine jr (ra 2 [.sl (Rp.int .i64) [0] x, kI 1] rfl (zoX (some (kI 1)) none rfl zel.el (zv _ _ _) ⟨rfl, rfl⟩ ⟨rfl, rfl⟩ h_v3) rfl (rc 0 rfl (zdO [.sl (Rp.int .i64) [0] v3] 28 [0] ([v3] : (List (List Int))) rfl zaF rfl rfl rfl rfl) (ra 0 [.own (Rp.list (Rp.int .i64)) 30 26 [24, 0] rests, .own (Rp.list (Rp.int .i64)) 30 28 [0] ([v3] : (List (List Int)))] rfl (zes 26 [24, 0, 28] rfl zaF.el rfl (zbA _ _ _ _ _) (zbF _ _ _ _ _) h_v4 (.inr rfl) rfl) rfl rf))) ?_
    refine zaf ?_
    refine jp ?_
    obtain rfl := sj h
    refine zJ ?_
    refine lk [1, 4, 6, 14, 15, 16] [23] 28 24 ?_
    refine zaS ⟨[(1, kI number), (4, .ptr 23 0), (6, .own (Rp.list (Rp.int .i64)) 30 26 [24, 0, 24] v4), (14, .sl (Rp.list (Rp.int .i64)) [0] m.Ways), (15, kI (m.Ways.length : Int)), (16, kI (IntKind.i64.wrap (v + 1)))], [⟨23, 38, [kN]⟩]⟩ (by kernel_rfl) ?_
    refine zbL 6 (.own (Rp.list (Rp.int .i64)) 30 26 [24, 0] v4) rfl (zgb _ _ _ _ _ _ rfl rfl) ?_
    exact lzz
   refine jF hc4 ?_
   refine zaf ?_
   refine jp ?_
   obtain rfl := sj h
   exact zJ lzz
  refine jF hc2 ?_
  obtain rfl := sj h
  exact zai rfl lzz
 ·
  refine zaS ⟨[(1, kI number), (4, .ptr 23 0), (6, kN), (14, .sl (Rp.list (Rp.int .i64)) [0] m.Ways), (15, kI (m.Ways.length : Int)), (16, kI 0)], [⟨23, 38, [kN]⟩]⟩ (by kernel_rfl) ?_
  refine zbL 6 (.own (Rp.list (Rp.int .i64)) 30 26 [24, 0] []) rfl (zY (Rp.list (Rp.int .i64)) 30 26 [24, 0] rfl) ?_
  exact lzz
 refine zaJ _ rfl ?_
 obtain ⟨rv2, h_rv2, h⟩ := bnd h
 refine jr (rl 1 [26, 24, 0] 27 Tryz.call20 (zcV h_rv2) rf) ?_
 obtain rfl := sj h
 refine zp ?_
 refine lk [4, 5] [23] 23 2 ?_
 refine lk [4, 5] [2] 30 3 ?_
 refine lk [4, 5] [2] 31 5 ?_
 refine lk [4, 5] [2] 32 5 ?_
 refine zaS ⟨[(4, .ptr 2 0), (5, kB (decide ((q.length : Int) > 0)))], [⟨2, 38, [.own (Rp.list (Rp.int .i64)) 30 3 [5, 5] rv2.Ways]⟩]⟩ (by kernel_rfl) ?_
 refine ziI 2 0 (.own (Rp.list (Rp.int .i64)) 30 3 [4, 5] ((rv2, (decide ((q.length : Int) > 0))) : (zO × Bool)).1.Ways) rfl rfl (zgb _ _ _ _ _ _ rfl rfl) ?_
 exact lzz
theorem zcX {m : zO} {way : (List Int)} {r : Bool} (h : zeI m way = some r) : FnOk Tryz.prog 24 [.rc zat [0] m, .sl (Rp.int .i64) [0] way] [kB r] := by
 refine zo (E := ⟨[(4, kB r)], []⟩) 9 Tryz.func24 rfl rfl rfl ⟨rfl, trivial⟩ (fun Xt => ?_)
 refine zh ?_
 unfold zeI at h
 refine jr (ra 0 [.rc zat [0] m] rfl (zgW 11 [.sl (Rp.list (Rp.int .i64)) [0] m.Ways] [0] rfl rfl rfl rfl rfl) rfl (rfl' [904700])) ?_
 obtain ⟨rv, h_rv, h⟩ := bnd h
 refine jr (ra 2 [.ptr 904700 0] rfl (zpU (g := 47) [.tmp 3] [⟨904700, 30, [.sl (Rp.int .i64) [0] way]⟩] [.ep (Rp.list (Rp.int .i64)) [904700, 0] way 0] rfl ⟨⟨rfl, rfl, rfl⟩, trivial⟩ rfl) rfl (rl 0 [0, 904700] 10 Tryz.call45 (zfE h_rv) rf)) ?_
 obtain rfl := sj h
 exact zp lzz
theorem zji {av : zO} {b : zO} {r : zO} (h : zhf av b = some r) : FnOk Tryz.prog 26 [.rc zat [0] av, .rc zat [0] b] [.ag [.own (Rp.list (Rp.int .i64)) 30 3 [4, 5] r.Ways]] := by
 refine zo (E := ⟨[(4, .ptr 2 0)], [⟨2, 38, [.own (Rp.list (Rp.int .i64)) 30 3 [4, 5] r.Ways]⟩]⟩) 12 Tryz.func26 rfl rfl rfl ⟨⟨_, _, rfl, rfl, rfl, ⟨Tryz.isAgg38, Tryz.sizeOf38⟩⟩, trivial⟩ (fun Xt => ?_)
 refine zh ?_
 unfold zhf at h
 refine jr (ra 0 [.rc zat [0] av] rfl (zgW 20 [.sl (Rp.list (Rp.int .i64)) [0] av.Ways] [0] rfl rfl rfl rfl rfl) rfl (ra 0 [.rc zat [0] b] rfl (zgW 21 [.sl (Rp.list (Rp.int .i64)) [0] b.Ways] [0] rfl rfl rfl rfl rfl) rfl (rfl' [22]))) ?_
 obtain ⟨rv, h_rv, h⟩ := bnd h
 obtain ⟨rv2, h_rv2, h⟩ := bnd h
 refine jr (rc 4 rfl (zdO [.sl (Rp.list (Rp.int .i64)) [0] av.Ways, .sl (Rp.list (Rp.int .i64)) [0] b.Ways] 23 [0] ([av.Ways, b.Ways] : (List (List (List Int)))) rfl zvt rfl rfl rfl rfl) (rl 0 [23, 0] 22 Tryz.call49 (zgh h_rv) (rl 0 [24, 23, 0] 23 Tryz.call20 (zcV h_rv2) rf))) ?_
 obtain rfl := sj h
 refine zp ?_
 refine lk [4] [22] 22 2 ?_
 refine lk [4] [2] 26 3 ?_
 refine lk [4] [2] 27 5 ?_
 refine lk [4] [2] 28 5 ?_
 refine zaS ⟨[(4, .ptr 2 0)], [⟨2, 38, [.own (Rp.list (Rp.int .i64)) 30 3 [5, 5] rv2.Ways]⟩]⟩ (by kernel_rfl) ?_
 refine ziI 2 0 (.own (Rp.list (Rp.int .i64)) 30 3 [4, 5] (rv2 : zO).Ways) rfl rfl (zgb _ _ _ _ _ _ rfl rfl) ?_
 exact lzz
theorem zmr {av : zO} {b : zO} {r : zO} (h : zir av b = some r) : FnOk Tryz.prog 27 [.rc zat [0] av, .rc zat [0] b] [.ag [.own (Rp.list (Rp.int .i64)) 30 3 [4, 5] r.Ways]] := by
 refine zo (E := ⟨[(4, .ptr 2 0)], [⟨2, 38, [.own (Rp.list (Rp.int .i64)) 30 3 [4, 5] r.Ways]⟩]⟩) 22 Tryz.func27 rfl rfl rfl ⟨⟨_, _, rfl, rfl, rfl, ⟨Tryz.isAgg38, Tryz.sizeOf38⟩⟩, trivial⟩ (fun Xt => ?_)
 refine zh ?_
 unfold zir at h
 refine jr (ra 0 [.rc zat [0] av] rfl (zgW 34 [.sl (Rp.list (Rp.int .i64)) [0] av.Ways] [0] rfl rfl rfl rfl rfl) rfl (ra 0 [.rc zat [0] b] rfl (zgW 35 [.sl (Rp.list (Rp.int .i64)) [0] b.Ways] [0] rfl rfl rfl rfl rfl) rfl (rfl' [36]))) ?_
 obtain ⟨rv, h_rv, h⟩ := bnd h
 obtain ⟨rv2, h_rv2, h⟩ := bnd h
 refine jd [4, 5, 6] [36, 45, 46] zcB (by exact (lw_e (lw_e (lx (lf1 20 (zac [.sl (Rp.list (Rp.int .i64)) [0] av.Ways] [0] 35 rfl Tryz.call20 (zcV h_rv) rfl rfl rfl rfl rfl)) (lw_e (lw_e (lx (lf1 20 (zac [.sl (Rp.list (Rp.int .i64)) [0] b.Ways] [0] 39 rfl Tryz.call20 (zcV h_rv2) rfl rfl rfl rfl rfl)) (lx (zlI 45 [kN] rfl Tryz.zeroValue38 rfl) (lx (zlI 46 [kN] rfl Tryz.zeroValue38 rfl) (ly [.ptr 45 0, .ag [.own (Rp.list (Rp.int .i64)) 30 38 [39, 40] rv.Ways]] (zom (b := ⟨45, 38, [kN]⟩) (off := 0) [.own (Rp.list (Rp.int .i64)) 30 38 [39, 40] rv.Ways] rfl Tryz.sizeOf38 rfl rfl rfl) rfl (ly [.ptr 46 0, .ag [.own (Rp.list (Rp.int .i64)) 30 42 [43, 44] rv2.Ways]] (zom (b := ⟨46, 38, [kN]⟩) (off := 0) [.own (Rp.list (Rp.int .i64)) 30 42 [43, 44] rv2.Ways] rfl Tryz.sizeOf38 rfl rfl rfl) rfl l0))))))))))) ?_
 obtain ⟨rv3, h_rv3, h⟩ := bnd h
 obtain ⟨rv4, h_rv4, h⟩ := bnd h
 obtain ⟨rv5, h_rv5, h⟩ := bnd h
 obtain ⟨rv6, h_rv6, h⟩ := bnd h
 refine jd [4] [36] zcB (by exact (ly [.ptr 45 0] (zdm (b := ⟨45, 38, [.own (Rp.list (Rp.int .i64)) 30 38 [39, 40] rv.Ways]⟩) [.own (Rp.list (Rp.int .i64)) 30 38 [39, 40] rv.Ways] rfl ⟨Tryz.isAgg38, Tryz.sizeOf38⟩ rfl rfl) rfl (ly [.ptr 46 0] (zdm (b := ⟨46, 38, [.own (Rp.list (Rp.int .i64)) 30 42 [43, 44] rv2.Ways]⟩) [.own (Rp.list (Rp.int .i64)) 30 42 [43, 44] rv2.Ways] rfl ⟨Tryz.isAgg38, Tryz.sizeOf38⟩ rfl rfl) rfl (lx (lf1 50 (zL.le (ins' := [(.tmp 13, .ag [.own (Rp.list (Rp.int .i64)) 30 38 [39, 40] rv.Ways]), (.tmp 14, .ag [.own (Rp.list (Rp.int .i64)) 30 42 [43, 44] rv2.Ways])]) (zac (args := [.tmp 13, .tmp 14]) [.rc zat [38, 39, 40] rv, .rc zat [42, 43, 44] rv2] [38, 39, 40, 42, 43, 44] 45 rfl Tryz.call50 (zmM h_rv3) rfl rfl rfl rfl rfl) ⟨⟨rfl, zcA zat [38, 39, 40] rv [.own (Rp.list (Rp.int .i64)) 30 38 [39, 40] rv.Ways] rfl rfl⟩, ⟨rfl, zcA zat [42, 43, 44] rv2 [.own (Rp.list (Rp.int .i64)) 30 42 [43, 44] rv2.Ways] rfl rfl⟩, trivial⟩)) (ly [.ptr 46 0] (zdm (b := ⟨46, 38, [.own (Rp.list (Rp.int .i64)) 30 42 [43, 44] rv2.Ways]⟩) [.own (Rp.list (Rp.int .i64)) 30 42 [43, 44] rv2.Ways] rfl ⟨Tryz.isAgg38, Tryz.sizeOf38⟩ rfl rfl) rfl (ly [.ptr 45 0] (zdm (b := ⟨45, 38, [.own (Rp.list (Rp.int .i64)) 30 38 [39, 40] rv.Ways]⟩) [.own (Rp.list (Rp.int .i64)) 30 38 [39, 40] rv.Ways] rfl ⟨Tryz.isAgg38, Tryz.sizeOf38⟩ rfl rfl) rfl (lx (lf1 50 (zL.le (ins' := [(.tmp 16, .ag [.own (Rp.list (Rp.int .i64)) 30 42 [43, 44] rv2.Ways]), (.tmp 17, .ag [.own (Rp.list (Rp.int .i64)) 30 38 [39, 40] rv.Ways])]) (zac (args := [.tmp 16, .tmp 17]) [.rc zat [42, 43, 44] rv2, .rc zat [38, 39, 40] rv] [42, 43, 44, 38, 39, 40] 47 rfl Tryz.call50 (zmM h_rv4) rfl rfl rfl rfl rfl) ⟨⟨rfl, zcA zat [42, 43, 44] rv2 [.own (Rp.list (Rp.int .i64)) 30 42 [43, 44] rv2.Ways] rfl rfl⟩, ⟨rfl, zcA zat [38, 39, 40] rv [.own (Rp.list (Rp.int .i64)) 30 38 [39, 40] rv.Ways] rfl rfl⟩, trivial⟩)) (lx (zdO [.own (Rp.list (Rp.int .i64)) 30 47 [38, 39, 40, 42, 43, 44, 907245, 48] rv3, .own (Rp.list (Rp.int .i64)) 30 49 [42, 43, 44, 38, 39, 40, 907247, 50] rv4] 51 [47, 38, 39, 40, 42, 43, 44, 907245, 48, 49, 907247, 50] ([rv3, rv4] : (List (List (List Int)))) rfl zvt rfl rfl rfl rfl) (lx (lf1 49 (zac [.own (Rp.list (Rp.list (Rp.int .i64))) 25 51 [47, 38, 39, 40, 42, 43, 44, 907245, 48, 49, 907247, 50] ([rv3, rv4] : (List (List (List Int))))] [51, 47, 38, 39, 40, 42, 43, 44, 907245, 48, 49, 907247, 50] 50 rfl Tryz.call49 (zgh h_rv5) rfl rfl rfl rfl rfl)) (lx (lf1 20 (zac [.own (Rp.list (Rp.int .i64)) 30 52 [51, 47, 38, 39, 40, 42, 43, 44, 907245, 48, 49, 907247, 50] rv5] [52, 51, 47, 38, 39, 40, 42, 43, 44, 907245, 48, 49, 907247, 50] 51 rfl Tryz.call20 (zcV h_rv6) rfl rfl rfl rfl rfl)) (ly [.ptr 36 0, .ag [.own (Rp.list (Rp.int .i64)) 30 54 [55, 56] rv6.Ways]] (zom (b := ⟨36, 38, [kN]⟩) (off := 0) [.own (Rp.list (Rp.int .i64)) 30 54 [55, 56] rv6.Ways] rfl Tryz.sizeOf38 rfl rfl rfl) rfl l0))))))))))) ?_
 obtain rfl := sj h
 refine zp ?_
 refine lk [4] [36] 36 2 ?_
 refine lk [4] [2] 54 3 ?_
 refine lk [4] [2] 55 5 ?_
 refine lk [4] [2] 56 5 ?_
 refine zaS ⟨[(4, .ptr 2 0)], [⟨2, 38, [.own (Rp.list (Rp.int .i64)) 30 3 [5, 5] rv6.Ways]⟩]⟩ (by kernel_rfl) ?_
 refine ziI 2 0 (.own (Rp.list (Rp.int .i64)) 30 3 [4, 5] (rv6 : zO).Ways) rfl rfl (zgb _ _ _ _ _ _ rfl rfl) ?_
 exact lzz
end Go.Proofs.YtglkepeofhonlaaGreatDoor

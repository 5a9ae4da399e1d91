/-
  The Go functions do what the plain functions say. No condition.
-/
import Derived.Test.YtglkepeofhonlaaGreatDoorG8
namespace Go.Proofs.YtglkepeofhonlaaGreatDoor
open Go Go.RowKit
set_option linter.unusedVariables false
set_option maxRecDepth 100000
set_option maxHeartbeats 3200000
theorem zoK {sv : (List zc)} {root : Int} {p : Str} {r : ((List Int) × Int)} (h : zhZ sv root p = some r) : FnOk Tryz.prog 30 [.sl zd [0] sv, kI root, kS p] [.own (Rp.int .i64) 3 2 [] r.1, k8 r.2] := by
 refine zo (E := ⟨[(6, .own (Rp.int .i64) 3 2 [] r.1), (7, k8 r.2)], []⟩) 48 Tryz.func30 rfl rfl rfl ⟨rfl, rfl, trivial⟩ (fun Xt => ?_)
 refine zh ?_
 unfold zhZ at h
 refine jp ?_
 obtain ⟨rv, h_rv, h⟩ := bnd h
 refine jr (rl 1 [1] 13 Tryz.call53 (ztB h_rv) rf) ?_
 refine jp ?_
 rcases zg h with ⟨hc1, h⟩ | ⟨hc1, h⟩
 ·
  refine jT hc1 ?_
  refine jp ?_
  obtain rfl := sj h
  refine zp ?_
  refine zaS ⟨[(6, kN), (7, k8 10)], []⟩ (by kernel_rfl) ?_
  refine zbL 6 (.own (Rp.int .i64) 3 2 [] (([], 10) : ((List Int) × Int)).1) rfl (zY (Rp.int .i64) 3 2 [] rfl) ?_
  exact lzz
 refine jF hc1 ?_
 obtain ⟨rv2, h_rv2, h⟩ := bnd h
 refine jr (rl 3 [0, 16] 15 Tryz.call54 (zhs h_rv2) rf) ?_
 refine jp ?_
 rcases zg h with ⟨hc2, h⟩ | ⟨hc2, h⟩
 ·
  refine jT hc2 ?_
  refine jp ?_
  obtain rfl := sj h
  refine zp ?_
  refine zaS ⟨[(6, kN), (7, k8 10)], []⟩ (by kernel_rfl) ?_
  refine zbL 6 (.own (Rp.int .i64) 3 2 [] (([], 10) : ((List Int) × Int)).1) rfl (zY (Rp.int .i64) 3 2 [] rfl) ?_
  exact lzz
 refine jF hc2 ?_
 obtain ⟨v, h_v, h⟩ := bnd h
 refine jr (ra 2 [kI (rv2.1.length : Int), kI (rv2.1.length : Int)] rfl (zol 18 rfl zel rfl h_v) rfl rf) ?_
 refine jp ?_
 refine zn ?_
 obtain ⟨q, h_q, h⟩ := bnd h
 refine zam (fun s : ((List Int) × Int) => zdG rv2 s.1 s.2) (fun s => ⟨[(12, .own (Rp.int .i64) 3 18 [] s.1), (34, .own za 62 17 [] rv2.1), (35, kI (rv2.1.length : Int)), (36, kI s.2)], []⟩) (fun o e a w => e = .exit 0 ∧ Sx ⟨⟨48, []⟩, Xt, false, #[]⟩ ⟨[(12, .own (Rp.int .i64) 3 18 [] o)], []⟩ a w) ?_ h_q lzz ?_
 ·
  clear h
  intro s o h
  obtain ⟨way, v2⟩ := s
  refine zh ?_
  replace h : zdG rv2 way v2 = some o := h
  unfold zdG at h
  refine jp ?_
  rcases zg h with ⟨hc3, h⟩ | ⟨hc3, h⟩
  ·
   refine jT hc3 ?_
   refine zn ?_
   obtain ⟨x, h_x, h⟩ := bnd h
   refine jr (ra 1 [.own za 62 17 [] rv2.1, kI v2] rfl (zW rfl ziw.el (zbF _ _ _ _ _) h_x) rfl (ra 0 [.ep za [17] x 0] rfl (zhY rfl ⟨Tryz.isAgg62, Tryz.sizeOf62⟩) rfl (rfl' [20]))) ?_
   obtain ⟨x2, h_x2, h⟩ := bnd h
   refine jr (ra 4 [.own (Rp.int .i64) 3 18 [] way, kI v2] rfl (znA rfl zel.el h_x2) rfl (rkl 0 [] ⟨[(12, .own (Rp.int .i64) 3 18 [] way), (34, .own za 62 17 [] rv2.1), (35, kI (rv2.1.length : Int)), (36, kI v2), (44, kI x.Number), (45, .ptr 18 (Int.toNat v2 * (Rp.int .i64).size))], []⟩ (zqY (r := (Rp.int .i64)) (e := 3) (C := []) (xs := way) [12] (Int.toNat v2) 0 x2 x.Number [] rfl rfl rfl rfl rfl rfl Tryz.sizeOf3 rfl (by kernel_rfl) rfl (zkS h_x2) rfl (zot rfl _) rfl rf))) ?_
   refine zaf ?_
   refine jp ?_
   obtain rfl := sj h
   exact zJ lzz
  refine jF hc3 ?_
  obtain rfl := sj h
  exact zai rfl lzz
 refine zaJ _ rfl ?_
 refine jp ?_
 obtain rfl := sj h
 refine zp ?_
 refine lk [6, 7] [] 18 2 ?_
 exact lzz
theorem zsF {sv : (List zc)} {root : Int} {way : (List Int)} {r : (Str × Int)} (h : zjy sv root way = some r) : FnOk Tryz.prog 51 [.sl zd [0] sv, kI root, .sl (Rp.int .i64) [0] way] [kS r.1, k8 r.2] := by
 refine zo (E := ⟨[(6, kS r.1), (7, k8 r.2)], []⟩) 48 Tryz.func51 rfl rfl rfl ⟨rfl, rfl, trivial⟩ (fun Xt => ?_)
 refine zh ?_
 unfold zjy at h
 refine jp ?_
 obtain ⟨rv, h_rv, h⟩ := bnd h
 refine jr (rl 3 [0] 9 Tryz.call73 (zhG h_rv) rf) ?_
 refine jp ?_
 rcases zg h with ⟨hc1, h⟩ | ⟨hc1, h⟩
 ·
  refine jT hc1 ?_
  refine jp ?_
  obtain rfl := sj h
  exact zp lzz
 refine jF hc1 ?_
 obtain ⟨v, h_v, h⟩ := bnd h
 refine jr (ra 2 [kI (rv.1.length : Int), kI (rv.1.length : Int)] rfl (zol 12 rfl zfY rfl h_v) rfl rf) ?_
 refine jp ?_
 refine zn ?_
 obtain ⟨q, h_q, h⟩ := bnd h
 refine zam (fun s : ((List Str) × Int) => zdk rv s.1 s.2) (fun s => ⟨[(10, .own Rp.str 9 12 [] s.1), (27, .own za 62 11 [] rv.1), (28, kI (rv.1.length : Int)), (29, kI s.2)], []⟩) (fun o e a w => e = .exit 0 ∧ Sx ⟨⟨48, []⟩, Xt, false, #[]⟩ ⟨[(10, .own Rp.str 9 12 [] o)], []⟩ a w) ?_ h_q lzz ?_
 ·
  clear h
  intro s o h
  obtain ⟨names, v2⟩ := s
  refine zh ?_
  replace h : zdk rv names v2 = some o := h
  unfold zdk at h
  refine jp ?_
  rcases zg h with ⟨hc2, h⟩ | ⟨hc2, h⟩
  ·
   refine jT hc2 ?_
   refine zn ?_
   obtain ⟨x, h_x, h⟩ := bnd h
   refine jr (ra 1 [.own za 62 11 [] rv.1, kI v2] rfl (zW rfl ziw.el (zbF _ _ _ _ _) h_x) rfl (ra 0 [.ep za [11] x 0] rfl (zhY rfl ⟨Tryz.isAgg62, Tryz.sizeOf62⟩) rfl (rfl' [14]))) ?_
   obtain ⟨x2, h_x2, h⟩ := bnd h
   refine jr (ra 4 [.own Rp.str 9 12 [] names, kI v2] rfl (znA rfl zfY.el h_x2) rfl (rkl 0 [] ⟨[(10, .own Rp.str 9 12 [] names), (27, .own za 62 11 [] rv.1), (28, kI (rv.1.length : Int)), (29, kI v2), (37, kS x.Name), (38, .ptr 12 (Int.toNat v2 * Rp.str.size))], []⟩ (zqY (r := Rp.str) (e := 9) (C := []) (xs := names) [10] (Int.toNat v2) 0 x2 x.Name [] rfl rfl rfl rfl rfl rfl Tryz.sizeOf9 rfl (by kernel_rfl) rfl (zkS h_x2) rfl (zot rfl _) rfl rf))) ?_
   refine zaf ?_
   refine jp ?_
   obtain rfl := sj h
   exact zJ lzz
  refine jF hc2 ?_
  obtain rfl := sj h
  exact zai rfl lzz
 refine zaJ _ rfl ?_
 obtain ⟨rv2, h_rv2, h⟩ := bnd h
 refine jr (rl 1 [12] 13 Tryz.call75 (zve h_rv2) rf) ?_
 refine jp ?_
 rcases zg h with ⟨hc3, h⟩ | ⟨hc3, h⟩
 ·
  refine jT hc3 ?_
  refine jp ?_
  obtain rfl := sj h
  exact zp lzz
 refine jF hc3 ?_
 refine jp ?_
 obtain rfl := sj h
 exact zp lzz
theorem zka {sv : (List zc)} {root : Int} {paths : (List Str)} {r : (zO × Int)} (h : zho sv root paths = some r) : FnOk Tryz.prog 14 [.sl zd [0] sv, kI root, .sl Rp.str [0] paths] [.ag [.own (Rp.list (Rp.int .i64)) 30 3 [4, 5] r.1.Ways], k8 r.2] := by
 refine zo (E := ⟨[(6, .ptr 2 0), (7, k8 r.2)], [⟨2, 38, [.own (Rp.list (Rp.int .i64)) 30 3 [4, 5] r.1.Ways]⟩]⟩) 53 Tryz.func14 rfl rfl rfl ⟨⟨_, _, rfl, rfl, rfl, ⟨Tryz.isAgg38, Tryz.sizeOf38⟩⟩, rfl, trivial⟩ (fun Xt => ?_)
 refine zh ?_
 unfold zho at h
 refine jq [21] ?_
 obtain ⟨rv, h_rv, h⟩ := bnd h
 refine jr (rl 2 [0] 20 Tryz.call29 (zms h_rv) rf) ?_
 refine jp ?_
 rcases zg h with ⟨hc1, h⟩ | ⟨hc1, h⟩
 ·
  refine jT hc1 ?_
  refine jr (ra 0 [] rfl (zet [] [kN] rfl zlU rfl) rfl rf) ?_
  obtain rfl := sj h
  refine zp ?_
  refine lk [6, 7] [21] 21 2 ?_
  refine zaS ⟨[(6, .ptr 2 0), (7, k8 rv)], [⟨2, 38, [kN]⟩]⟩ (by kernel_rfl) ?_
  refine ziI 2 0 (.own (Rp.list (Rp.int .i64)) 30 3 [4, 5] (((⟨[]⟩ : zO), rv) : (zO × Int)).1.Ways) rfl rfl (zY (Rp.list (Rp.int .i64)) 30 3 [4, 5] rfl) ?_
  exact lzz
 refine jF hc1 ?_
 refine jp ?_
 rcases zg h with ⟨hc2, h⟩ | ⟨hc2, h⟩
 ·
  refine jT hc2 ?_
  refine jr (ra 0 [] rfl (zet [] [kN] rfl zlU rfl) rfl rf) ?_
  obtain rfl := sj h
  refine zp ?_
  refine lk [6, 7] [21] 21 2 ?_
  refine zaS ⟨[(6, .ptr 2 0), (7, k8 13)], [⟨2, 38, [kN]⟩]⟩ (by kernel_rfl) ?_
  refine ziI 2 0 (.own (Rp.list (Rp.int .i64)) 30 3 [4, 5] (((⟨[]⟩ : zO), 13) : (zO × Int)).1.Ways) rfl rfl (zY (Rp.list (Rp.int .i64)) 30 3 [4, 5] rfl) ?_
  exact lzz
 refine jF hc2 ?_
 obtain ⟨v, h_v, h⟩ := bnd h
 refine jr (ra 2 [kI (paths.length : Int), kI (paths.length : Int)] rfl (zol 22 rfl zaF rfl h_v) rfl rf) ?_
 refine jp ?_
 refine zn ?_
 obtain ⟨q, h_q, h⟩ := bnd h
 refine zam (fun s : ((List (List Int)) × Int) => zdn paths root sv s.1 s.2) (fun s => ⟨[(0, .sl zd [0] sv), (1, kI root), (6, .ptr 21 0), (9, .own (Rp.list (Rp.int .i64)) 30 22 [23] s.1), (28, .sl Rp.str [0] paths), (29, kI (paths.length : Int)), (30, kI s.2)], [⟨21, 38, [kN]⟩]⟩) (fun o e a w => match o with | (.inl v_) => e = .exit 0 ∧ Sx ⟨⟨53, []⟩, Xt, false, #[]⟩ ⟨[(6, .ptr 21 0), (9, .own (Rp.list (Rp.int .i64)) 30 22 [23] v_)], [⟨21, 38, [kN]⟩]⟩ a w | (.inr v_) => e = .ret ∧ Sx ⟨⟨53, []⟩, Xt, false, #[]⟩ ⟨[(6, .ptr 21 0), (7, k8 v_)], [⟨21, 38, [kN]⟩]⟩ a w) ?_ h_q ?_ ?_
 ·
  clear h
  intro s o h
  obtain ⟨ways, v2⟩ := s
  refine zh ?_
  replace h : zdn paths root sv ways v2 = some o := h
  unfold zdn at h
  refine jp ?_
  rcases zg h with ⟨hc3, h⟩ | ⟨hc3, h⟩
  ·
   refine jT hc3 ?_
   refine zn ?_
   obtain ⟨x, h_x, h⟩ := bnd h
   refine jr (ra 1 [.sl Rp.str [0] paths, kI v2] rfl (zW rfl zfY.el (zv _ _ _) h_x) rfl rf) ?_
   obtain ⟨rv2, h_rv2, h⟩ := bnd h
   refine jr (rl 3 [0] 24 Tryz.call30 (zoK h_rv2) rf) ?_
   refine jp ?_
   rcases zg h with ⟨hc4, h⟩ | ⟨hc4, h⟩
   ·
    refine jT hc4 ?_
    refine jr (ra 0 [] rfl (zet [] [kN] rfl zlU rfl) rfl rf) ?_
    obtain rfl := sj h
    exact zaW lzz
   refine jF hc4 ?_
   obtain ⟨x2, h_x2, h⟩ := bnd h
   refine jr (ra 3 [.own (Rp.list (Rp.int .i64)) 30 22 [23] ways, kI v2] rfl (znA rfl zaF.el h_x2) rfl (rkl 0 [] ⟨[(0, .sl zd [0] sv), (1, kI root), (6, .ptr 21 0), (9, .own (Rp.list (Rp.int .i64)) 30 22 [23] ways), (28, .sl Rp.str [0] paths), (29, kI (paths.length : Int)), (30, kI v2), (48, .own (Rp.int .i64) 3 26 [] rv2.1), (49, .ptr 22 (Int.toNat v2 * (Rp.list (Rp.int .i64)).size))], [⟨21, 38, [kN]⟩]⟩ (zqY (r := (Rp.list (Rp.int .i64))) (e := 30) (C := [23]) (xs := ways) [9] (Int.toNat v2) 0 x2 rv2.1 [23, 26] rfl rfl rfl rfl rfl rfl Tryz.sizeOf30 rfl (by kernel_rfl) rfl (zkS h_x2) rfl (zot rfl _) rfl rf))) ?_
   refine zaf ?_
   refine jp ?_
   obtain rfl := sj h
   refine zJ ?_
   refine lk [0, 1, 6, 9, 28, 29, 30] [21] 26 23 ?_
   refine zaS ⟨[(0, .sl zd [0] sv), (1, kI root), (6, .ptr 21 0), (9, .own (Rp.list (Rp.int .i64)) 30 22 [23, 23] (ways.set (Int.toNat v2) rv2.1)), (28, .sl Rp.str [0] paths), (29, kI (paths.length : Int)), (30, kI (IntKind.i64.wrap (v2 + 1)))], [⟨21, 38, [kN]⟩]⟩ (by kernel_rfl) ?_
   refine zbL 9 (.own (Rp.list (Rp.int .i64)) 30 22 [23] (ways.set (Int.toNat v2) rv2.1)) rfl (zgb _ _ _ _ _ _ rfl rfl) ?_
   exact lzz
  refine jF hc3 ?_
  obtain rfl := sj h
  exact zai rfl lzz
 ·
  refine zaS ⟨[(0, .sl zd [0] sv), (1, kI root), (6, .ptr 21 0), (9, .own (Rp.list (Rp.int .i64)) 30 22 [] v), (28, .sl Rp.str [0] paths), (29, kI (paths.length : Int)), (30, kI 0)], [⟨21, 38, [kN]⟩]⟩ (by kernel_rfl) ?_
  refine zbL 9 (.own (Rp.list (Rp.int .i64)) 30 22 [23] v) rfl (zgb _ _ _ _ _ _ rfl rfl) ?_
  exact lzz
 rcases q with u | u2
 ·
  refine zaJ _ rfl ?_
  obtain ⟨rv3, h_rv3, h⟩ := bnd h
  refine jr (rl 1 [22, 23] 25 Tryz.call20 (zcV h_rv3) rf) ?_
  obtain rfl := sj h
  refine zp ?_
  refine lk [6, 7] [21] 21 2 ?_
  refine lk [6, 7] [2] 28 3 ?_
  refine lk [6, 7] [2] 29 5 ?_
  refine lk [6, 7] [2] 30 5 ?_
  refine zaS ⟨[(6, .ptr 2 0), (7, k8 0)], [⟨2, 38, [.own (Rp.list (Rp.int .i64)) 30 3 [5, 5] rv3.Ways]⟩]⟩ (by kernel_rfl) ?_
  refine ziI 2 0 (.own (Rp.list (Rp.int .i64)) 30 3 [4, 5] ((rv3, 0) : (zO × Int)).1.Ways) rfl rfl (zgb _ _ _ _ _ _ rfl rfl) ?_
  exact lzz
 obtain rfl := sj h
 refine zdi ?_
 refine lk [6, 7] [21] 21 2 ?_
 refine zaS ⟨[(6, .ptr 2 0), (7, k8 u2)], [⟨2, 38, [kN]⟩]⟩ (by kernel_rfl) ?_
 refine ziI 2 0 (.own (Rp.list (Rp.int .i64)) 30 3 [4, 5] (((⟨[]⟩ : zO), u2) : (zO × Int)).1.Ways) rfl rfl (zY (Rp.list (Rp.int .i64)) 30 3 [4, 5] rfl) ?_
 exact lzz
theorem zmL {sv : (List zc)} {root : Int} {p : Str} {r : ((List Int) × Int)} (h : zhq sv root p = some r) : FnOk Tryz.prog 11 [.sl zd [0] sv, kI root, kS p] [.own (Rp.int .i64) 3 2 [] r.1, k8 r.2] := by
 refine zo (E := ⟨[(6, .own (Rp.int .i64) 3 2 [] r.1), (7, k8 r.2)], []⟩) 21 Tryz.func11 rfl rfl rfl ⟨rfl, rfl, trivial⟩ (fun Xt => ?_)
 refine zh ?_
 unfold zhq at h
 refine jp ?_
 obtain ⟨rv, h_rv, h⟩ := bnd h
 refine jr (rl 2 [0] 10 Tryz.call29 (zms h_rv) rf) ?_
 refine jp ?_
 rcases zg h with ⟨hc1, h⟩ | ⟨hc1, h⟩
 ·
  refine jT hc1 ?_
  refine jp ?_
  obtain rfl := sj h
  refine zp ?_
  refine zaS ⟨[(6, kN), (7, k8 rv)], []⟩ (by kernel_rfl) ?_
  refine zbL 6 (.own (Rp.int .i64) 3 2 [] (([], rv) : ((List Int) × Int)).1) rfl (zY (Rp.int .i64) 3 2 [] rfl) ?_
  exact lzz
 refine jF hc1 ?_
 obtain ⟨rv2, h_rv2, h⟩ := bnd h
 refine jr (rl 3 [0] 10 Tryz.call30 (zoK h_rv2) rf) ?_
 obtain rfl := sj h
 refine zp ?_
 refine lk [6, 7] [] 12 2 ?_
 exact lzz
theorem zoJ {sv : (List zc)} {root : Int} {m : zO} {r : ((List Str) × Int)} (h : ziW sv root m = some r) : FnOk Tryz.prog 28 [.sl zd [0] sv, kI root, .rc zat [0] m] [.own Rp.str 9 2 [] r.1, k8 r.2] := by
 refine zo (E := ⟨[(6, .own Rp.str 9 2 [] r.1), (7, k8 r.2)], []⟩) 52 Tryz.func28 rfl rfl rfl ⟨rfl, rfl, trivial⟩ (fun Xt => ?_)
 refine zh ?_
 unfold ziW at h
 refine jr (ra 0 [.rc zat [0] m] rfl (zgW 13 [.sl (Rp.list (Rp.int .i64)) [0] m.Ways] [0] rfl rfl rfl rfl rfl) rfl rf) ?_
 obtain ⟨rv, h_rv, h⟩ := bnd h
 refine jr (rl 2 [0] 12 Tryz.call29 (zms h_rv) rf) ?_
 refine jp ?_
 rcases zg h with ⟨hc1, h⟩ | ⟨hc1, h⟩
 ·
  refine jT hc1 ?_
  refine jp ?_
  obtain rfl := sj h
  refine zp ?_
  refine zaS ⟨[(6, kN), (7, k8 rv)], []⟩ (by kernel_rfl) ?_
  refine zbL 6 (.own Rp.str 9 2 [] (([], rv) : ((List Str) × Int)).1) rfl (zY Rp.str 9 2 [] rfl) ?_
  exact lzz
 refine jF hc1 ?_
 obtain ⟨rv2, h_rv2, h⟩ := bnd h
 refine jr (rl 2 [0] 12 Tryz.call38 (znG h_rv2) rf) ?_
 rcases zg h with ⟨hc2, h⟩ | ⟨hc2, h⟩
 ·
  refine jT hc2 ?_
  refine jp ?_
  obtain rfl := sj h
  refine zp ?_
  refine zaS ⟨[(6, kN), (7, k8 10)], []⟩ (by kernel_rfl) ?_
  refine zbL 6 (.own Rp.str 9 2 [] (([], 10) : ((List Str) × Int)).1) rfl (zY Rp.str 9 2 [] rfl) ?_
  exact lzz
 refine jF hc2 ?_
 obtain ⟨v, h_v, h⟩ := bnd h
 refine jr (ra 3 [kI (m.Ways.length : Int), kI (m.Ways.length : Int)] rfl (zol 14 rfl zfY rfl h_v) rfl rf) ?_
 refine jp ?_
 refine zn ?_
 obtain ⟨q, h_q, h⟩ := bnd h
 refine zam (fun s : ((List Str) × Int) => zcM m root sv s.1 s.2) (fun s => ⟨[(0, .sl zd [0] sv), (1, kI root), (9, .own Rp.str 9 14 [] s.1), (29, .sl (Rp.list (Rp.int .i64)) [0] m.Ways), (30, kI (m.Ways.length : Int)), (31, kI s.2)], []⟩) (fun o e a w => match o with | (.inl v_) => e = .exit 0 ∧ Sx ⟨⟨52, []⟩, Xt, false, #[]⟩ ⟨[(9, .own Rp.str 9 14 [] v_)], []⟩ a w | (.inr v_) => e = .ret ∧ Sx ⟨⟨52, []⟩, Xt, false, #[]⟩ ⟨[(6, kN), (7, k8 v_)], []⟩ a w) ?_ h_q lzz ?_
 ·
  clear h
  intro s o h
  obtain ⟨paths, v2⟩ := s
  refine zh ?_
  replace h : zcM m root sv paths v2 = some o := h
  unfold zcM at h
  refine jp ?_
  rcases zg h with ⟨hc3, h⟩ | ⟨hc3, h⟩
  ·
   refine jT hc3 ?_
   refine zn ?_
   obtain ⟨x, h_x, h⟩ := bnd h
   refine jr (ra 1 [.sl (Rp.list (Rp.int .i64)) [0] m.Ways, kI v2] rfl (zW rfl zaF.el (zv _ _ _) h_x) rfl (ra 0 [.ep (Rp.list (Rp.int .i64)) [0] x 0] rfl (zaK (Rp.int .i64) x rfl rfl rfl) rfl rf)) ?_
   obtain ⟨rv3, h_rv3, h⟩ := bnd h
   refine jr (rl 3 [0] 14 Tryz.call51 (zsF h_rv3) rf) ?_
   refine jp ?_
   rcases zg h with ⟨hc4, h⟩ | ⟨hc4, h⟩
   ·
    refine jT hc4 ?_
    refine jp ?_
    obtain rfl := sj h
    exact zaW lzz
   refine jF hc4 ?_
   obtain ⟨x2, h_x2, h⟩ := bnd h
   refine jr (ra 3 [.own Rp.str 9 14 [] paths, kI v2] rfl (znA rfl zfY.el h_x2) rfl (rkl 0 [] ⟨[(0, .sl zd [0] sv), (1, kI root), (9, .own Rp.str 9 14 [] paths), (29, .sl (Rp.list (Rp.int .i64)) [0] m.Ways), (30, kI (m.Ways.length : Int)), (31, kI v2), (48, kS rv3.1), (49, .ptr 14 (Int.toNat v2 * Rp.str.size))], []⟩ (zqY (r := Rp.str) (e := 9) (C := []) (xs := paths) [9] (Int.toNat v2) 0 x2 rv3.1 [] rfl rfl rfl rfl rfl rfl Tryz.sizeOf9 rfl (by kernel_rfl) rfl (zkS h_x2) rfl (zot rfl _) rfl rf))) ?_
   refine zaf ?_
   refine jp ?_
   obtain rfl := sj h
   exact zJ lzz
  refine jF hc3 ?_
  obtain rfl := sj h
  exact zai rfl lzz
 rcases q with u | u2
 ·
  refine zaJ _ rfl ?_
  refine jp ?_
  obtain rfl := sj h
  refine zp ?_
  refine lk [6, 7] [] 14 2 ?_
  exact lzz
 obtain rfl := sj h
 refine zdi ?_
 refine zaS ⟨[(6, kN), (7, k8 u2)], []⟩ (by kernel_rfl) ?_
 refine zbL 6 (.own Rp.str 9 2 [] (([], u2) : ((List Str) × Int)).1) rfl (zY Rp.str 9 2 [] rfl) ?_
 exact lzz
end Go.Proofs.YtglkepeofhonlaaGreatDoor

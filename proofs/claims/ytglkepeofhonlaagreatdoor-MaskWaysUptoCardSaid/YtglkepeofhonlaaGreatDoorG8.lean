/-
  The Go functions do what the plain functions say. No condition.
-/
import Derived.Test.YtglkepeofhonlaaGreatDoorG7
import Derived.Test.YtglkepeofhonlaaGreatDoorY
namespace Go.Proofs.YtglkepeofhonlaaGreatDoor
open Go Go.RowKit
set_option linter.unusedVariables false
set_option maxRecDepth 100000
set_option maxHeartbeats 3200000
theorem zmQ {sv : (List zc)} {r : Bool} (h : zhv sv = some r) : FnOk Tryz.prog 52 [.sl zd [0] sv] [kB r] := by
 refine zo (E := ⟨[(2, kB r)], []⟩) 12 Tryz.func52 rfl rfl rfl ⟨rfl, trivial⟩ (fun Xt => ?_)
 refine zh ?_
 unfold zhv at h
 refine jp ?_
 obtain ⟨rv, h_rv, h⟩ := bnd h
 refine jr (rl 1 [0] 9 Tryz.call76 (zrD h_rv) (rfl' [11])) ?_
 refine jp ?_
 obtain rfl := sj h
 exact zp lzz
theorem znp {fuel : Nat} {sv : (List zc)} {root : Int} {paths : (List Str)} {r : ((List (List Int)) × Int)} (h : zfQ fuel sv root paths = some r) : FnOk Tryz.prog 15 [.sl zd [0] sv, kI root, .sl Rp.str [0] paths] [.own (Rp.list (Rp.int .i64)) 30 2 [3, 4, 5] r.1, kI r.2] := by
 refine zo (E := ⟨[(6, .own (Rp.list (Rp.int .i64)) 30 2 [3, 4, 5] r.1), (7, kI r.2)], []⟩) 47 Tryz.func15 rfl rfl rfl ⟨rfl, rfl, trivial⟩ (fun Xt => ?_)
 refine zh ?_
 unfold zfQ at h
 refine jp ?_
 obtain ⟨rv, h_rv, h⟩ := bnd h
 refine jr (rl 2 [0] 19 Tryz.call31 (zhd h_rv) rf) ?_
 refine jp ?_
 rcases zg h with ⟨hc1, h⟩ | ⟨hc1, h⟩
 ·
  refine jT hc1 ?_
  refine jp ?_
  obtain rfl := sj h
  refine zp ?_
  refine zaS ⟨[(6, kN), (7, kI rv)], []⟩ (by kernel_rfl) ?_
  refine zbL 6 (.own (Rp.list (Rp.int .i64)) 30 2 [3, 4, 5] (([], rv) : ((List (List Int)) × Int)).1) rfl (zY (Rp.list (Rp.int .i64)) 30 2 [3, 4, 5] rfl) ?_
  exact lzz
 refine jF hc1 ?_
 refine jp ?_
 rcases zg h with ⟨hc2, h⟩ | ⟨hc2, h⟩
 ·
  refine jT hc2 ?_
  refine jp ?_
  obtain rfl := sj h
  refine zp ?_
  refine zaS ⟨[(6, kN), (7, kI 13)], []⟩ (by kernel_rfl) ?_
  refine zbL 6 (.own (Rp.list (Rp.int .i64)) 30 2 [3, 4, 5] (([], 13) : ((List (List Int)) × Int)).1) rfl (zY (Rp.list (Rp.int .i64)) 30 2 [3, 4, 5] rfl) ?_
  exact lzz
 refine jF hc2 ?_
 refine jp ?_
 refine jp ?_
 refine zn ?_
 obtain ⟨q, h_q, h⟩ := bnd h
 refine zam (fun s : ((List (List Int)) × Int) => zbm fuel paths root sv s.1 s.2) (fun s => ⟨[(0, .sl zd [0] sv), (1, kI root), (2, .sl Rp.str [0] paths), (9, .own (Rp.list (Rp.int .i64)) 30 24 [21] s.1), (10, kI s.2)], []⟩) (fun o e a w => match o with | (.inl v_) => e = .exit 0 ∧ Sx ⟨⟨47, []⟩, Xt, false, #[]⟩ ⟨[(9, .own (Rp.list (Rp.int .i64)) 30 24 [21] v_)], []⟩ a w | (.inr v_) => e = .ret ∧ Sx ⟨⟨47, []⟩, Xt, false, #[]⟩ ⟨[(6, kN), (7, kI v_)], []⟩ a w) ?_ h_q ?_ ?_
 ·
  clear h
  intro s o h
  obtain ⟨ways, i⟩ := s
  refine zh ?_
  replace h : zbm fuel paths root sv ways i = some o := h
  unfold zbm at h
  refine jp ?_
  rcases zg h with ⟨hc3, h⟩ | ⟨hc3, h⟩
  ·
   refine jT hc3 ?_
   refine zn ?_
   obtain ⟨x, h_x, h⟩ := bnd h
   obtain ⟨rv2, h_rv2, h⟩ := bnd h
   refine jr (ra 4 [.sl Rp.str [0] paths, kI i] rfl (zW rfl zfY.el (zv _ _ _) h_x) rfl (rl 1 [0] 25 Tryz.call12 (zij h_rv2) rf)) ?_
   refine jp ?_
   rcases zg h with ⟨hc4, h⟩ | ⟨hc4, h⟩
   ·
    refine jT hc4 ?_
    refine jp ?_
    obtain rfl := sj h
    exact zaW lzz
   refine jF hc4 ?_
   obtain ⟨v2, h_v2, h⟩ := bnd h
   refine jr (rc 2 rfl (zdO [.own (Rp.int .i64) 3 27 [] rv2.1] 28 [27] ([rv2.1] : (List (List Int))) rfl zaF rfl rfl rfl rfl) (ra 0 [.own (Rp.list (Rp.int .i64)) 30 24 [21] ways, .own (Rp.list (Rp.int .i64)) 30 28 [27] ([rv2.1] : (List (List Int)))] rfl (zes 24 [21, 28, 27] rfl zaF.el rfl (zbA _ _ _ _ _) (zbF _ _ _ _ _) h_v2 (.inr rfl) rfl) rfl rf)) ?_
   refine zaf ?_
   refine jp ?_
   obtain rfl := sj h
   refine zJ ?_
   refine lk [0, 1, 2, 9, 10] [] 28 21 ?_
   refine lk [0, 1, 2, 9, 10] [] 27 21 ?_
   refine zaS ⟨[(0, .sl zd [0] sv), (1, kI root), (2, .sl Rp.str [0] paths), (9, .own (Rp.list (Rp.int .i64)) 30 24 [21, 21, 21] v2), (10, kI (IntKind.i64.wrap (i + 1)))], []⟩ (by kernel_rfl) ?_
   refine zbL 9 (.own (Rp.list (Rp.int .i64)) 30 24 [21] v2) rfl (zgb _ _ _ _ _ _ rfl rfl) ?_
   exact lzz
  refine jF hc3 ?_
  obtain rfl := sj h
  exact zai rfl lzz
 ·
  refine zaS ⟨[(0, .sl zd [0] sv), (1, kI root), (2, .sl Rp.str [0] paths), (9, kN), (10, kI 0)], []⟩ (by kernel_rfl) ?_
  refine zbL 9 (.own (Rp.list (Rp.int .i64)) 30 24 [21] []) rfl (zY (Rp.list (Rp.int .i64)) 30 24 [21] rfl) ?_
  exact lzz
 rcases q with u | u2
 ·
  refine zaJ _ rfl ?_
  obtain ⟨rv3, h_rv3, h⟩ := bnd h
  refine jr (rl 1 [24, 21] 27 Tryz.call18 (zeq h_rv3) rf) ?_
  obtain rfl := sj h
  refine zp ?_
  refine lk [6, 7] [] 29 2 ?_
  refine lk [6, 7] [] 30 5 ?_
  refine lk [6, 7] [] 24 5 ?_
  refine lk [6, 7] [] 21 5 ?_
  refine zaS ⟨[(6, .own (Rp.list (Rp.int .i64)) 30 2 [5, 5, 5] rv3), (7, kI 0)], []⟩ (by kernel_rfl) ?_
  refine zbL 6 (.own (Rp.list (Rp.int .i64)) 30 2 [3, 4, 5] ((rv3, 0) : ((List (List Int)) × Int)).1) rfl (zgb _ _ _ _ _ _ rfl rfl) ?_
  exact lzz
 obtain rfl := sj h
 refine zdi ?_
 refine zaS ⟨[(6, kN), (7, kI u2)], []⟩ (by kernel_rfl) ?_
 refine zbL 6 (.own (Rp.list (Rp.int .i64)) 30 2 [3, 4, 5] (([], u2) : ((List (List Int)) × Int)).1) rfl (zY (Rp.list (Rp.int .i64)) 30 2 [3, 4, 5] rfl) ?_
 exact lzz
theorem zms {sv : (List zc)} {root : Int} {r : Int} (h : ziX sv root = some r) : FnOk Tryz.prog 29 [.sl zd [0] sv, kI root] [k8 r] := by
 refine zo (E := ⟨[(4, k8 r)], []⟩) 18 Tryz.func29 rfl rfl rfl ⟨rfl, trivial⟩ (fun Xt => ?_)
 refine zh ?_
 unfold ziX at h
 refine jp ?_
 refine zn ?_
 obtain ⟨rv, h_rv, h⟩ := bnd h
 refine jr (rl 1 [0] 9 Tryz.call52 (zmQ h_rv) rf) ?_
 rcases zg h with ⟨hc1, h⟩ | ⟨hc1, h⟩
 ·
  refine jT hc1 ?_
  refine jp ?_
  obtain rfl := sj h
  exact zp lzz
 refine jF hc1 ?_
 refine zN ⟨[(9, kB ((decide (root < 0)) || (decide (root ≥ (sv.length : Int)))))], []⟩ ?_ ?_
 ·
  refine (rsl 3 [] 12 (decide (root < 0)) (fun hc2 => ?_) (fun hc2 => ?_))
  · exact (rbl [] 9 true ((decide (root < 0)) || (decide (root ≥ (sv.length : Int)))) (by rw [hc2] <;> rfl))
  exact (rbl [] 9 (decide (root ≥ (sv.length : Int))) ((decide (root < 0)) || (decide (root ≥ (sv.length : Int)))) (by rw [hc2] <;> rfl))
 rcases zg h with ⟨hc3, h⟩ | ⟨hc3, h⟩
 ·
  refine jT hc3 ?_
  refine jp ?_
  obtain rfl := sj h
  exact zp lzz
 refine jF hc3 ?_
 refine zaf ?_
 refine jp ?_
 obtain rfl := sj h
 exact zp lzz
theorem zlN {l : (List Str)} {r : Bool} (h : zgU l = some r) : FnOk Tryz.prog 78 [.sl Rp.str [0] l] [kB r] := by
 refine zo (E := ⟨[(2, kB r)], []⟩) 28 Tryz.func78 rfl rfl rfl ⟨rfl, trivial⟩ (fun Xt => ?_)
 refine zh ?_
 unfold zgU at h
 refine jp ?_
 obtain ⟨rv, h_rv, h⟩ := bnd h
 obtain ⟨rv2, h_rv2, h⟩ := bnd h
 refine jr (rl 1 [0] 0 Tryz.call94 (ziy h_rv) (rc 0 rfl (zL.le (ins' := [(.tmp 7, .fv 123 [.bp (Rp.list Rp.str) 24 912300 [0] rv])]) (zac (args := [.tmp 7]) [.fv 123 [.ep (Rp.list Rp.str) [912300, 0] rv 0]] [912300, 0] 9 rfl Tryz.call93 (zew h_rv2) rfl rfl rfl rfl rfl) ⟨⟨rfl, zCn ⟨zyC _ _ _ _ _ _ rfl, trivial⟩⟩, trivial⟩) (ra 0 [.own Rp.str 9 11 [] rv2] rfl (zCC rfl Tryz.call92 cm92) rfl rf))) ?_
 obtain ⟨v, h_v, h⟩ := bnd h
 refine jr (ra 2 [kI ((zcv rv2).length : Int), kI ((zcv rv2).length : Int)] rfl (zol 12 rfl zhD rfl h_v) rfl rf) ?_
 refine jp ?_
 refine zn ?_
 obtain ⟨q, h_q, h⟩ := bnd h
 refine zam (fun s : ((List zc) × Int) => zct rv2 s.1 s.2) (fun s => ⟨[(3, .own zd 65 12 [] s.1), (13, .own Rp.str 9 11 [] (zcv rv2)), (14, kI ((zcv rv2).length : Int)), (15, kI s.2)], []⟩) (fun o e a w => e = .exit 0 ∧ Sx ⟨⟨28, []⟩, Xt, false, #[]⟩ ⟨[(3, .own zd 65 12 [] o)], []⟩ a w) ?_ h_q lzz ?_
 ·
  clear h
  intro s o h
  obtain ⟨sv, v2⟩ := s
  refine zh ?_
  replace h : zct rv2 sv v2 = some o := h
  unfold zct at h
  refine jp ?_
  rcases zg h with ⟨hc1, h⟩ | ⟨hc1, h⟩
  ·
   refine jT hc1 ?_
   refine zn ?_
   obtain ⟨x, h_x, h⟩ := bnd h
   refine jr (ra 1 [.own Rp.str 9 11 [] (zcv rv2), kI v2] rfl (zW rfl zfY.el (zbF _ _ _ _ _) h_x) rfl rf) ?_
   obtain ⟨x2, h_x2, h⟩ := bnd h
   refine jr (ra 3 [.own zd 65 12 [] sv, kI v2] rfl (znA rfl zhD.el h_x2) rfl (rkl 1 [] ⟨[(3, .own zd 65 12 [] sv), (13, .own Rp.str 9 11 [] (zcv rv2)), (14, kI ((zcv rv2).length : Int)), (15, kI v2), (22, kS x), (24, .ptr 12 ((Int.toNat v2 * zd.size) + 0))], []⟩ (zqY (r := zd) (e := 65) (C := []) (xs := sv) [3] (Int.toNat v2) 0 x2 (⟨x, x2.Fields⟩ : zc) [] rfl rfl rfl rfl rfl rfl Tryz.sizeOf9 rfl (by kernel_rfl) rfl (zkS h_x2) rfl rfl rfl rf))) ?_
   refine zaf ?_
   refine jp ?_
   obtain rfl := sj h
   exact zJ lzz
  refine jF hc1 ?_
  obtain rfl := sj h
  exact zai rfl lzz
 refine zaJ _ rfl ?_
 obtain ⟨rv3, h_rv3, h⟩ := bnd h
 refine jr (rl 1 [12] 12 Tryz.call52 (zmQ h_rv3) rf) ?_
 obtain rfl := sj h
 exact zp lzz
theorem ztB {p : Str} {r : ((List Str) × Int)} (h : zku p = some r) : FnOk Tryz.prog 53 [kS p] [.own Rp.str 9 3 [] r.1, k8 r.2] := by
 refine zqG (E := ⟨[(2, .ptr 2 0), (3, .ptr 4 0)], [⟨2, 24, [.own Rp.str 9 3 [] r.1]⟩, ⟨4, 31, [k8 r.2]⟩]⟩) 20 Tryz.func53 rfl rfl rfl ⟨⟨_, _, rfl, rfl, rfl, rfl⟩, ⟨_, _, rfl, rfl, rfl, rfl⟩, trivial⟩ rfl rfl (fun Xt => ?_)
 refine zh ?_
 unfold zku at h
 refine jq [17, 18] ?_
 refine jq [19] ?_
 obtain ⟨rv, h_rv, h⟩ := bnd h
 refine jr (rl 1 [1] 0 Tryz.call77 (zoD h_rv) rf) ?_
 refine zn ?_
 obtain ⟨q, h_q, h⟩ := bnd h
 refine zjT (E' := ⟨[(2, .ptr 17 0), (3, .ptr 18 0), (4, .ptr 19 0), (7, .fv 118 [.bp Rp.str 9 911800 [] rv.1, .bp Rp.str 9 911801 [] rv.2.1, .bp (Rp.int .i64) 3 911802 [] rv.2.2])], [⟨17, 24, [kN]⟩, ⟨18, 31, [k8 0]⟩, ⟨19, 24, [.own Rp.str 9 22 [] []]⟩]⟩) ?_ ?_
 ·
  refine zaS ⟨[(2, .ptr 17 0), (3, .ptr 18 0), (4, .ptr 19 0), (7, .fv 118 [.bp Rp.str 9 911800 [] rv.1, .bp Rp.str 9 911801 [] rv.2.1, .bp (Rp.int .i64) 3 911802 [] rv.2.2])], [⟨17, 24, [kN]⟩, ⟨18, 31, [k8 0]⟩, ⟨19, 24, [kN]⟩]⟩ (by kernel_rfl) ?_
  refine ziI 19 0 (.own Rp.str 9 22 [] []) rfl rfl (zY Rp.str 9 22 [] rfl) ?_
  exact lzz
 refine zsu (it := fun {σ : Type} (kf : Rnd σ Str) (sg : σ) => zdq rv.1 rv.2.1 rv.2.2 kf sg) (znc rv.1 rv.2.1 rv.2.2) [911800, 911801, 911802] [2, 3, 4] [17, 18, 19] [(2, .ptr 17 0), (3, .ptr 18 0), (4, .ptr 19 0)] (fun s : (List Str) => [⟨17, 24, [kN]⟩, ⟨18, 31, [k8 0]⟩, ⟨19, 24, [.own Rp.str 9 22 [] s]⟩]) (fun o : (List Str) => [⟨17, 24, [kN]⟩, ⟨18, 31, [k8 12]⟩, ⟨19, 24, [.own Rp.str 9 22 [] o]⟩]) (fun o : (List Str) => .ret) (fun (s : (List Str)) (x : Str) => zeC s x) (fun (s : (List Str)) (x : Str) => ⟨[(2, .ptr 17 0), (3, .ptr 18 0), (4, .ptr 19 0), (5, kS x)], [⟨17, 24, [kN]⟩, ⟨18, 31, [k8 0]⟩, ⟨19, 24, [.own Rp.str 9 22 [] s]⟩]⟩) rfl rfl Tryz.call118 rfl rfl rfl rfl rfl rfl (fun _ => rfl) (fun o => rfl) rfl rfl (fun _ => rfl) ?_ (fun _ _ => ⟨rfl, rfl⟩) ?_ h_q ?_
 ·
  clear h
  intro Xr old f x
  refine zh ?_
  refine zjT (E' := ⟨[(8, kS x), (2, .ptr 17 0), (3, .ptr 18 0), (4, .ptr 19 0)], [⟨17, 24, [kN]⟩, ⟨18, 31, [k8 0]⟩, ⟨19, 24, [.own Rp.str 9 22 [] f]⟩]⟩) (fun _ _ _ hs => hs) ?_
  refine jp ?_
  exact zJ lzz
 ·
  clear h
  intro Xr old f x o h
  refine zh ?_
  refine zjT (E' := ⟨[(2, .ptr 17 0), (3, .ptr 18 0), (4, .ptr 19 0), (5, kS x)], [⟨17, 24, [kN]⟩, ⟨18, 31, [k8 0]⟩, ⟨19, 24, [.own Rp.str 9 22 [] f]⟩]⟩) (fun _ _ _ hs => hs) ?_
  replace h : zeC f x = some o := h
  unfold zeC at h
  refine zn ?_
  refine jp ?_
  rcases zg h with ⟨hc1, h⟩ | ⟨hc1, h⟩
  ·
   refine jT hc1 ?_
   refine jp ?_
   obtain rfl := sj h
   exact zBJ lzz
  refine jF hc1 ?_
  obtain ⟨v, h_v, h⟩ := bnd h
  refine jr (rc 2 rfl (zdO [kS x] 23 [] ([x] : (List Str)) rfl zfY rfl rfl rfl rfl) (ra 0 [.own Rp.str 9 22 [] f, .own Rp.str 9 23 [] ([x] : (List Str))] rfl (zes 22 [] rfl zfY.el rfl (zbA _ _ _ _ _) (zbF _ _ _ _ _) h_v (.inl zlO) rfl) rfl rf)) ?_
  refine zaf ?_
  obtain rfl := sj h
  exact zJ lzz
 rcases q with u | j
 ·
  refine zjT (E' := ⟨[(2, .ptr 17 0), (3, .ptr 18 0), (4, .ptr 19 0)], [⟨17, 24, [kN]⟩, ⟨18, 31, [k8 0]⟩, ⟨19, 24, [.own Rp.str 9 22 [] u]⟩]⟩) (fun _ _ _ hs => hs) ?_
  refine zaf ?_
  obtain ⟨rv2, h_rv2, h⟩ := bnd h
  refine jr (rl 1 [22] 22 Tryz.call78 (zlN h_rv2) rf) ?_
  rcases zg h with ⟨hc2, h⟩ | ⟨hc2, h⟩
  ·
   refine jT hc2 ?_
   refine jp ?_
   obtain rfl := sj h
   refine zp ?_
   refine lk [2, 3] [17, 18] 17 2 ?_
   refine lk [2, 3] [2, 18] 18 4 ?_
   refine zaS ⟨[(2, .ptr 2 0), (3, .ptr 4 0)], [⟨2, 24, [kN]⟩, ⟨4, 31, [k8 12]⟩]⟩ (by kernel_rfl) ?_
   refine ziI 2 0 (.own Rp.str 9 3 [] (([], 12) : ((List Str) × Int)).1) rfl rfl (zY Rp.str 9 3 [] rfl) ?_
   exact lzz
  refine jF hc2 ?_
  refine jp ?_
  obtain rfl := sj h
  refine zp ?_
  refine lk [2, 3] [17, 18] 17 2 ?_
  refine lk [2, 3] [2, 18] 18 4 ?_
  refine lk [2, 3] [2, 4] 22 3 ?_
  exact lzz
 refine zjT (E' := ⟨[(2, .ptr 17 0), (3, .ptr 18 0), (4, .ptr 19 0)], [⟨17, 24, [kN]⟩, ⟨18, 31, [k8 12]⟩, ⟨19, 24, [.own Rp.str 9 22 [] j]⟩]⟩) (fun _ _ _ hs => hs) ?_
 obtain rfl := sj h
 refine zp ?_
 refine lk [2, 3] [17, 18] 17 2 ?_
 refine lk [2, 3] [2, 18] 18 4 ?_
 refine zaS ⟨[(2, .ptr 2 0), (3, .ptr 4 0)], [⟨2, 24, [kN]⟩, ⟨4, 31, [k8 12]⟩]⟩ (by kernel_rfl) ?_
 refine ziI 2 0 (.own Rp.str 9 3 [] (([], 12) : ((List Str) × Int)).1) rfl rfl (zY Rp.str 9 3 [] rfl) ?_
 exact lzz
theorem zve {l : (List Str)} {r : (Str × Int)} (h : zlM l = some r) : FnOk Tryz.prog 75 [.sl Rp.str [0] l] [kS r.1, k8 r.2] := by
 refine zo (E := ⟨[(2, kS r.1), (3, k8 r.2)], []⟩) 14 Tryz.func75 rfl rfl rfl ⟨rfl, rfl, trivial⟩ (fun Xt => ?_)
 refine zh ?_
 unfold zlM at h
 refine jp ?_
 obtain ⟨g, h_g, h⟩ := bnd h
 refine zN ⟨[(0, .sl Rp.str [0] l), (11, kB g)], []⟩ ?_ ?_
 ·
  refine (rsl 4 [] 7 (decide ((l.length : Int) > 65)) (fun hc1 => ?_) (fun hc1 => ?_))
  ·
   replace h_g := iteT h_g hc1
   obtain rfl := sj h_g
   exact rgg
  replace h_g := iteF h_g hc1
  obtain ⟨rv, h_rv, h_g⟩ := bnd h_g
  obtain rfl := sj h_g
  exact (rl 1 [0] 9 Tryz.call78 (zlN h_rv) rgg)
 rcases zg h with ⟨hc2, h⟩ | ⟨hc2, h⟩
 ·
  refine jT hc2 ?_
  refine jp ?_
  obtain rfl := sj h
  exact zp lzz
 refine jF hc2 ?_
 obtain ⟨rv2, h_rv2, h⟩ := bnd h
 refine jr (rl 1 [0] 9 Tryz.call87 (zrE h_rv2) rf) ?_
 obtain rfl := sj h
 exact zp lzz
end Go.Proofs.YtglkepeofhonlaaGreatDoor

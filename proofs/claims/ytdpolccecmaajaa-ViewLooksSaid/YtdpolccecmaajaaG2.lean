/-
  The Go functions do what the plain functions say. No condition.
-/
import Derived.Test.YtdpolccecmaajaaG1
namespace Go.Proofs.Ytdpolccecmaajaa
open Go Go.RowKit
set_option linter.unusedVariables false
set_option maxRecDepth 100000
theorem zkm {t : zU} {r : Bool} (h : zeq t = some r) : FnOk Try.prog 38 [.rc zbi [0] t] [kB r] := by
 refine zz (E := ⟨[(2, kB r)], []⟩) 16 Try.func38 rfl rfl rfl ⟨rfl, trivial⟩ (fun Xt => ?_)
 refine zr ?_
 unfold zeq at h
 refine jq [11] ?_
 obtain ⟨g, h_g, h⟩ := bnd h
 refine zR ⟨[(2, kB g)], []⟩ ?_ ?_
 ·
  refine (rsl 4 [] 6 (decide (t.Number ≥ 1)) (fun hc1 => ?_) (fun hc1 => ?_))
  ·
   replace h_g := iteT h_g hc1
   refine (rsl 5 [] 11 (decide (t.Number ≤ 536870911)) (fun hc2 => ?_) (fun hc2 => ?_))
   ·
    replace h_g := iteT h_g hc2
    obtain ⟨rv, h_rv, h_g⟩ := bnd h_g
    obtain rfl := sj h_g
    exact (rl 2 [1] 10 Try.call45 (zgY h_rv) rgg)
   replace h_g := iteF h_g hc2
   obtain rfl := sj h_g
   exact rgg
  replace h_g := iteF h_g hc1
  obtain rfl := sj h_g
  exact rgg
 obtain rfl := sj h
 exact zv lzz
theorem ziE {b : (List UInt8)} {r : (Int × Int)} (h : zdi b = some r) : FnOk Try.prog 39 [.sl Rp.byte [0] b] [kI r.1, k8 r.2] := by
 refine zz (E := ⟨[(2, kI r.1), (3, k8 r.2)], []⟩) 15 Try.func39 rfl rfl rfl ⟨rfl, rfl, trivial⟩ (fun Xt => ?_)
 refine zr ?_
 unfold zdi at h
 refine jp ?_
 obtain ⟨rv, h_rv, h⟩ := bnd h
 refine jr (rl 1 [0] 9 Try.call37 (zdM h_rv) rf) ?_
 refine jp ?_
 obtain rfl := sj h
 exact zv lzz
theorem zaI {sv : (List zd)} {v : Int} {r : Int} (h : zG sv v = some r) : FnOk Try.prog 40 [.sl za [0] sv, .fv 41 [.ep (Rp.int .i64) [0] v 0]] [kI r] := by
 refine zz (E := ⟨[(4, kI r)], []⟩) 19 Try.func40 rfl rfl rfl ⟨rfl, trivial⟩ (fun Xt => ?_)
 refine zr ?_
 unfold zG at h
 refine jp ?_
 refine jp ?_
 refine zQ ?_
 obtain ⟨q, h_q, h⟩ := bnd h
 refine zbA (fun s : Int => zj sv v s) (fun s => ⟨[(0, .sl za [0] sv), (1, .fv 41 [.ep (Rp.int .i64) [0] v 0]), (7, kI (sv.length : Int)), (8, kI s)], []⟩) (fun o e a w => match o with | (.inl v_) => e = .exit 0 ∧ Sx ⟨⟨19, []⟩, Xt, false, #[]⟩ ⟨[], []⟩ a w | (.inr v_) => e = .ret ∧ Sx ⟨⟨19, []⟩, Xt, false, #[]⟩ ⟨[(4, kI v_)], []⟩ a w) ?_ h_q lzz ?_
 ·
  clear h
  intro v2 o h
  refine zr ?_
  replace h : zj sv v v2 = some o := h
  unfold zj at h
  refine jp ?_
  rcases zm h with ⟨hc1, h⟩ | ⟨hc1, h⟩
  ·
   refine jT hc1 ?_
   refine zQ ?_
   refine jp ?_
   obtain ⟨x, h_x, h⟩ := bnd h
   obtain ⟨rv, h_rv, h⟩ := bnd h
   refine jr (ra 3 [.sl za [0] sv, kI v2] rfl (zbx rfl zfp.el (zai _ _ _) h_x) rfl (ra 0 [.ep za [0] x 0] rfl (zeh rfl ⟨Try.isAgg55, Try.sizeOf55⟩) rfl (ra 0 [.fv 41 [.ep (Rp.int .i64) [0] v 0], .rc za [0] x] rfl (znU (args := [.tmp 15]) [.rc za [0] x] [0] 10 rfl (zoQ _ _) Try.call41 (zhq h_rv) rfl rfl rfl rfl rfl) rfl rf))) ?_
   rcases zm h with ⟨hc2, h⟩ | ⟨hc2, h⟩
   ·
    refine jT hc2 ?_
    refine jp ?_
    obtain rfl := sj h
    exact zdW lzz
   refine jF hc2 ?_
   refine zaY ?_
   refine jp ?_
   obtain rfl := sj h
   exact zW lzz
  refine jF hc1 ?_
  obtain rfl := sj h
  exact zbB rfl lzz
 rcases q with u | u2
 ·
  refine zch _ rfl ?_
  refine jp ?_
  obtain rfl := sj h
  exact zv lzz
 obtain rfl := sj h
 exact zez lzz
theorem zgh {k : Int} {r : (Int × Int)} (h : zdw k = some r) : FnOk Try.prog 43 [kI k] [kI r.1, k8 r.2] := by
 refine zz (E := ⟨[(2, kI r.1), (3, k8 r.2)], []⟩) 16 Try.func43 rfl rfl rfl ⟨rfl, rfl, trivial⟩ (fun Xt => ?_)
 refine zr ?_
 unfold zdw at h
 refine jp ?_
 obtain ⟨rv, h_rv, h⟩ := bnd h
 refine jr (rl 0 [1] 9 Try.call46 (ziP h_rv) (ra 1 [.om (Rp.int .i64) zh 11 [] rv, kI k] rfl (zkM (rk := (Rp.int .i64)) (rv := zh) (m := rv) (k := k) (.rc zh [11] ((mget rv k).getD (⟨[], 0⟩ : zf))) rfl zbb (zmq _ _ _ _ _) (zbE rfl rfl) (zmk rfl)) rfl (rfl' [12]))) ?_
 refine jp ?_
 rcases zm h with ⟨hc1, h⟩ | ⟨hc1, h⟩
 ·
  refine jT hc1 ?_
  refine jp ?_
  obtain rfl := sj h
  exact zv lzz
 refine jF hc1 ?_
 refine jp ?_
 obtain rfl := sj h
 exact zv lzz
theorem zfa {b : (List UInt8)} {atv : Int} {r : (Int × Int × Int × Int)} (h : zbe b atv = some r) : FnOk Try.prog 27 [.sl Rp.byte [0] b, kI atv] [kI r.1, kI r.2.1, kI r.2.2.1, kI r.2.2.2] := by
 refine zz (E := ⟨[(4, kI r.1), (5, kI r.2.1), (6, kI r.2.2.1), (7, kI r.2.2.2)], []⟩) 40 Try.func27 rfl rfl rfl ⟨rfl, rfl, rfl, rfl, trivial⟩ (fun Xt => ?_)
 refine zr ?_
 unfold zbe at h
 refine jp ?_
 obtain ⟨rv, h_rv, h⟩ := bnd h
 refine jr (rl 2 [0] 9 Try.call28 (zbL h_rv) rf) ?_
 refine jp ?_
 rcases zm h with ⟨hc1, h⟩ | ⟨hc1, h⟩
 ·
  refine jT hc1 ?_
  refine jp ?_
  obtain rfl := sj h
  exact zv lzz
 refine jF hc1 ?_
 obtain ⟨g, h_g, h⟩ := bnd h
 refine zR ⟨[(8, kU rv.1), (9, kI rv.2.1), (32, kB g)], []⟩ ?_ ?_
 ·
  refine (rsl 3 [] 23 (decide (rv.1 > 4294967295)) (fun hc2 => ?_) (fun hc2 => ?_))
  ·
   replace h_g := iteT h_g hc2
   obtain rfl := sj h_g
   exact rgg
  replace h_g := iteF h_g hc2
  obtain ⟨rv2, h_rv2, h_g⟩ := bnd h_g
  obtain rfl := sj h_g
  exact (rl 6 [1] 9 Try.call35 (zeT h_rv2) rgg)
 rcases zm h with ⟨hc3, h⟩ | ⟨hc3, h⟩
 ·
  refine jT hc3 ?_
  refine jp ?_
  obtain rfl := sj h
  exact zv lzz
 refine jF hc3 ?_
 refine jp ?_
 obtain rfl := sj h
 exact zv lzz
theorem zdg {slices : (List (List UInt8))} {r : (List UInt8)} (h : zaf slices = some r) : FnOk Try.prog 36 [.sl (Rp.list Rp.byte) [0] slices] [.own Rp.byte 5 2 [] r] := by
 refine zz (E := ⟨[(2, .own Rp.byte 5 2 [] r)], []⟩) 36 Try.func36 rfl rfl rfl ⟨rfl, trivial⟩ (fun Xt => ?_)
 refine zr ?_
 unfold zaf at h
 refine jp ?_
 refine jp ?_
 refine jp ?_
 refine zQ ?_
 obtain ⟨q, h_q, h⟩ := bnd h
 refine zbA (fun s : (Int × Int) => zB slices s.1 s.2) (fun s => ⟨[(0, .sl (Rp.list Rp.byte) [0] slices), (3, kI s.1), (9, .sl (Rp.list Rp.byte) [0] slices), (10, kI (slices.length : Int)), (11, kI s.2)], []⟩) (fun o e a w => e = .exit 0 ∧ Sx ⟨⟨36, []⟩, Xt, false, #[]⟩ ⟨[(0, .sl (Rp.list Rp.byte) [0] slices), (3, kI o)], []⟩ a w) ?_ h_q lzz ?_
 ·
  clear h
  intro s o h
  obtain ⟨size, v⟩ := s
  refine zr ?_
  replace h : zB slices size v = some o := h
  unfold zB at h
  refine jp ?_
  rcases zm h with ⟨hc1, h⟩ | ⟨hc1, h⟩
  ·
   refine jT hc1 ?_
   refine zQ ?_
   obtain ⟨x, h_x, h⟩ := bnd h
   refine jr (ra 0 [.sl (Rp.list Rp.byte) [0] slices, kI v] rfl (zbx rfl ziL.el (zai _ _ _) h_x) rfl (ra 0 [.ep (Rp.list Rp.byte) [0] x 0] rfl (zjY Rp.byte x rfl rfl rfl) rfl rf)) ?_
   refine jp ?_
   refine jp ?_
   rcases zm h with ⟨hc2, h⟩ | ⟨hc2, h⟩
   ·
    refine jT hc2 ?_
    exact absurd h nofun
   refine jF hc2 ?_
   refine zaY ?_
   refine jp ?_
   obtain rfl := sj h
   exact zW lzz
  refine jF hc1 ?_
  obtain rfl := sj h
  exact zbB rfl lzz
 refine zch _ rfl ?_
 obtain ⟨rv, h_rv, h⟩ := bnd h
 refine jr (rl 1 [1] 12 Try.call44 (zdt h_rv) rf) ?_
 refine jp ?_
 refine zQ ?_
 obtain ⟨q2, h_q2, h⟩ := bnd h
 refine zbA (fun s : ((List UInt8) × Int) => zC slices s.1 s.2) (fun s => ⟨[(6, .own Rp.byte 5 14 [] s.1), (25, .sl (Rp.list Rp.byte) [0] slices), (26, kI (slices.length : Int)), (27, kI s.2)], []⟩) (fun o e a w => e = .exit 2 ∧ Sx ⟨⟨36, []⟩, Xt, false, #[]⟩ ⟨[(6, .own Rp.byte 5 14 [] o)], []⟩ a w) ?_ h_q2 lzz ?_
 ·
  clear h
  intro s o h
  obtain ⟨newslice, v2⟩ := s
  refine zr ?_
  replace h : zC slices newslice v2 = some o := h
  unfold zC at h
  refine jp ?_
  rcases zm h with ⟨hc3, h⟩ | ⟨hc3, h⟩
  ·
   refine jT hc3 ?_
   refine zQ ?_
   obtain ⟨x2, h_x2, h⟩ := bnd h
   refine jr (ra 0 [.sl (Rp.list Rp.byte) [0] slices, kI v2] rfl (zbx rfl ziL.el (zai _ _ _) h_x2) rfl (ra 0 [.ep (Rp.list Rp.byte) [0] x2 0] rfl (zjY Rp.byte x2 rfl rfl rfl) rfl rf)) ?_
   obtain ⟨v3, h_v3, h⟩ := bnd h
   refine jr (ra 2 [.own Rp.byte 5 14 [] newslice, .sl Rp.byte [0] x2] rfl (zeD 14 [] rfl zcG.el rfl (zbV _ _ _ _ _) (zai _ _ _) h_v3 (.inl zfT) rfl) rfl rf) ?_
   refine zaY ?_
   refine jp ?_
   obtain rfl := sj h
   exact zW lzz
  refine jF hc3 ?_
  obtain rfl := sj h
  exact zbB rfl lzz
 refine zch _ rfl ?_
 refine jp ?_
 obtain rfl := sj h
 refine zv ?_
 refine lk [2] [] 14 2 ?_
 exact lzz
theorem zlf {b : (List UInt8)} {r : (zU × Int × Int)} (h : zfl b = some r) : FnOk Try.prog 30 [.sl Rp.byte [0] b] [.rc zbi [] r.1, kI r.2.1, k8 r.2.2] := by
 refine zz (E := ⟨[(2, .ptr 2 0), (3, kI r.2.1), (4, k8 r.2.2)], [⟨2, 79, [kI r.1.Number, kI r.1.Wire]⟩]⟩) 35 Try.func30 rfl rfl rfl ⟨⟨_, _, rfl, rfl, rfl, rfl, ⟨Try.isAgg79, Try.sizeOf79⟩⟩, rfl, rfl, trivial⟩ (fun Xt => ?_)
 refine zr ?_
 unfold zfl at h
 refine jq [12] ?_
 obtain ⟨rv, h_rv, h⟩ := bnd h
 refine jr (rl 1 [0] 11 Try.call37 (zdM h_rv) rf) ?_
 refine jp ?_
 rcases zm h with ⟨hc1, h⟩ | ⟨hc1, h⟩
 ·
  refine jT hc1 ?_
  refine jr (rc 0 rfl (zF (r := zbi) [] [] (⟨0, 0⟩ : zU) rfl zou rfl rfl) rf) ?_
  obtain rfl := sj h
  refine zv ?_
  refine lk [2, 3, 4] [12] 12 2 ?_
  exact lzz
 refine jF hc1 ?_
 refine jr (ra 1 [kU rv.1, kU 3] rfl (zpN rfl rfl) rfl rf) ?_
 refine jr (rc 5 rfl (zF (r := zbi) [kI (IntKind.i64.wrap (if (536870912 : Int) < (shrI .u64 rv.1 3) then 536870912 else (shrI .u64 rv.1 3))), kI (IntKind.i64.wrap (andI .u64 rv.1 7))] [] (⟨(IntKind.i64.wrap (if (536870912 : Int) < (shrI .u64 rv.1 3) then 536870912 else (shrI .u64 rv.1 3))), (IntKind.i64.wrap (andI .u64 rv.1 7))⟩ : zU) rfl zou rfl rfl) (rfl' [13])) ?_
 obtain ⟨rv2, h_rv2, h⟩ := bnd h
 refine jr (lb 0 zbi [] (⟨(IntKind.i64.wrap (if (536870912 : Int) < (shrI .u64 rv.1 3) then 536870912 else (shrI .u64 rv.1 3))), (IntKind.i64.wrap (andI .u64 rv.1 7))⟩ : zU) (rl 0 [1] 12 Try.call38 (zkm h_rv2) rf)) ?_
 rcases zm h with ⟨hc2, h⟩ | ⟨hc2, h⟩
 ·
  refine jT hc2 ?_
  refine jr (rc 0 rfl (zF (r := zbi) [] [] (⟨0, 0⟩ : zU) rfl zou rfl rfl) rf) ?_
  obtain rfl := sj h
  refine zv ?_
  refine lk [2, 3, 4] [12] 12 2 ?_
  exact lzz
 refine jF hc2 ?_
 refine jr (lb 0 zbi [] (⟨(IntKind.i64.wrap (if (536870912 : Int) < (shrI .u64 rv.1 3) then 536870912 else (shrI .u64 rv.1 3))), (IntKind.i64.wrap (andI .u64 rv.1 7))⟩ : zU) rf) ?_
 obtain rfl := sj h
 refine zv ?_
 refine lk [2, 3, 4] [12] 12 2 ?_
 exact lzz
theorem ziu {wire : Int} {b : (List UInt8)} {r : (Int × Int × Int)} (h : zdf wire b = some r) : FnOk Try.prog 31 [kI wire, .sl Rp.byte [0] b] [kI r.1, kI r.2.1, k8 r.2.2] := by
 refine zz (E := ⟨[(4, kI r.1), (5, kI r.2.1), (6, k8 r.2.2)], []⟩) 45 Try.func31 rfl rfl rfl ⟨rfl, rfl, rfl, trivial⟩ (fun Xt => ?_)
 refine zr ?_
 unfold zdf at h
 refine jp ?_
 refine jp ?_
 refine jp ?_
 refine zQ ?_
 refine jp ?_
 rcases zm h with ⟨hc1, h⟩ | ⟨hc1, h⟩
 ·
  refine jT hc1 ?_
  obtain ⟨rv, h_rv, h⟩ := bnd h
  refine jr (rl 1 [0] 9 Try.call39 (ziE h_rv) rf) ?_
  refine jp ?_
  obtain rfl := sj h
  exact zv lzz
 refine jF hc1 ?_
 refine jp ?_
 obtain ⟨p, h_p, h⟩ := bnd h
 refine zcv (R := fun e a w => e = .normal ∧ Sx ⟨⟨45, []⟩, Xt, false, #[]⟩ ⟨[(1, .sl Rp.byte [0] b), (4, kI p.1), (6, k8 p.2.1), (7, kU p.2.2)], []⟩ a w) ?_ ?_
 ·
  replace h := h_p
  refine zr ?_
  rcases zm h with ⟨hc2, h⟩ | ⟨hc2, h⟩
  ·
   refine jT hc2 ?_
   refine jp ?_
   obtain rfl := sj h
   exact zW lzz
  refine jF hc2 ?_
  refine jp ?_
  rcases zm h with ⟨hc3, h⟩ | ⟨hc3, h⟩
  ·
   refine jT hc3 ?_
   refine jp ?_
   obtain rfl := sj h
   exact zW lzz
  refine jF hc3 ?_
  refine jp ?_
  rcases zm h with ⟨hc4, h⟩ | ⟨hc4, h⟩
  ·
   refine jT hc4 ?_
   obtain ⟨rv2, h_rv2, h⟩ := bnd h
   refine jr (rl 1 [0] 9 Try.call37 (zdM h_rv2) rf) ?_
   obtain rfl := sj h
   exact zW lzz
  refine jF hc4 ?_
  obtain rfl := sj h
  exact zW lzz
 refine zef ?_
 refine zaY ?_
 refine jp ?_
 rcases zm h with ⟨hc5, h⟩ | ⟨hc5, h⟩
 ·
  refine jT hc5 ?_
  refine jp ?_
  obtain rfl := sj h
  exact zv lzz
 refine jF hc5 ?_
 refine jp ?_
 rcases zm h with ⟨hc6, h⟩ | ⟨hc6, h⟩
 ·
  refine jT hc6 ?_
  refine jp ?_
  obtain rfl := sj h
  exact zv lzz
 refine jF hc6 ?_
 refine jp ?_
 obtain rfl := sj h
 exact zv lzz
theorem ziQ {m : zi} {number : Int} {r : Int} (h : zdN m number = some r) : FnOk Try.prog 32 [.rc zk [0] m, kI number] [kI r] := by
 refine zz (E := ⟨[(4, kI r)], []⟩) 9 Try.func32 rfl rfl rfl ⟨rfl, trivial⟩ (fun Xt => ?_)
 refine zr ?_
 unfold zdN at h
 refine jr (ra 0 [.rc zk [0] m] rfl (zbO 11 [kS m.Name, .sl za [0] m.Fields] [0] rfl rfl rfl rfl rfl) rfl (rfl' [904100])) ?_
 obtain ⟨rv, h_rv, h⟩ := bnd h
 refine jr (ra 2 [.ptr 904100 0] rfl (zpe (g := 41) [.tmp 3] [⟨904100, 3, [kI number]⟩] [.ep (Rp.int .i64) [904100] number 0] rfl ⟨⟨rfl, rfl, rfl⟩, trivial⟩ rfl) rfl (rl 0 [0, 904100] 10 Try.call40 (zaI h_rv) rf)) ?_
 obtain rfl := sj h
 exact zv lzz
theorem zhY {k : Int} {r : Bool} (h : zdd k = some r) : FnOk Try.prog 42 [kI k] [kB r] := by
 refine zz (E := ⟨[(2, kB r)], []⟩) 16 Try.func42 rfl rfl rfl ⟨rfl, trivial⟩ (fun Xt => ?_)
 refine zr ?_
 unfold zdd at h
 refine jp ?_
 obtain ⟨rv, h_rv, h⟩ := bnd h
 refine jr (rl 1 [1] 9 Try.call43 (zgh h_rv) rf) ?_
 refine zR ⟨[(2, kB ((rv.2 == 0) && (rv.1 != 2)))], []⟩ ?_ ?_
 ·
  refine (rsl 3 [] 12 (rv.2 == 0) (fun hc1 => ?_) (fun hc1 => ?_))
  · exact (rbl [] 2 (rv.1 != 2) ((rv.2 == 0) && (rv.1 != 2)) (by rw [hc1] <;> rfl))
  exact (rbl [] 2 false ((rv.2 == 0) && (rv.1 != 2)) (by rw [hc1] <;> rfl))
 obtain rfl := sj h
 exact zv lzz
theorem zkq {k : Int} {wire : Int} {r : Bool} (h : zet k wire = some r) : FnOk Try.prog 34 [kI k, kI wire] [kB r] := by
 refine zz (E := ⟨[(4, kB r)], []⟩) 19 Try.func34 rfl rfl rfl ⟨rfl, trivial⟩ (fun Xt => ?_)
 refine zr ?_
 unfold zet at h
 refine jp ?_
 obtain ⟨rv, h_rv, h⟩ := bnd h
 refine jr (rl 1 [1] 9 Try.call43 (zgh h_rv) rf) ?_
 refine zR ⟨[(4, kB ((rv.2 == 0) && (rv.1 == wire)))], []⟩ ?_ ?_
 ·
  refine (rsl 3 [] 14 (rv.2 == 0) (fun hc1 => ?_) (fun hc1 => ?_))
  · exact (rbl [] 4 (rv.1 == wire) ((rv.2 == 0) && (rv.1 == wire)) (by rw [hc1] <;> rfl))
  exact (rbl [] 4 false ((rv.2 == 0) && (rv.1 == wire)) (by rw [hc1] <;> rfl))
 obtain rfl := sj h
 exact zv lzz
theorem zfb {b : (List UInt8)} {fromv : Int} {r : (ze × Int)} (h : zaK b fromv = some r) : FnOk Try.prog 20 [.sl Rp.byte [0] b, kI fromv] [.rc zg [] r.1, kI r.2] := by
 refine zz (E := ⟨[(4, .ptr 2 0), (5, kI r.2)], [⟨2, 35, [kI r.1.Number, kI r.1.Wire, kI r.1.From, kI r.1.At, kI r.1.To]⟩]⟩) 108 Try.func20 rfl rfl rfl ⟨⟨_, _, rfl, rfl, rfl, rfl, ⟨Try.isAgg35, Try.sizeOf35⟩⟩, rfl, trivial⟩ (fun Xt => ?_)
 refine zr ?_
 unfold zaK at h
 refine jq [12] ?_
 refine zR ⟨[(0, .sl Rp.byte [0] b), (1, kI fromv), (4, .ptr 12 0), (26, kB ((decide (fromv < 0)) || (decide (fromv ≥ (b.length : Int)))))], [⟨12, 35, [kI 0, kI 0, kI 0, kI 0, kI 0]⟩]⟩ ?_ ?_
 ·
  refine (rsl 3 [] 21 (decide (fromv < 0)) (fun hc1 => ?_) (fun hc1 => ?_))
  · exact (rbl [] 26 true ((decide (fromv < 0)) || (decide (fromv ≥ (b.length : Int)))) (by rw [hc1] <;> rfl))
  exact (rbl [] 26 (decide (fromv ≥ (b.length : Int))) ((decide (fromv < 0)) || (decide (fromv ≥ (b.length : Int)))) (by rw [hc1] <;> rfl))
 rcases zm h with ⟨hc2, h⟩ | ⟨hc2, h⟩
 ·
  refine jT hc2 ?_
  refine jr (rc 0 rfl (zF (r := zg) [] [] (⟨0, 0, 0, 0, 0⟩ : ze) rfl ziB rfl rfl) rf) ?_
  obtain rfl := sj h
  refine zv ?_
  refine lk [4, 5] [12] 12 2 ?_
  exact lzz
 refine jF hc2 ?_
 obtain ⟨rv, h_rv, h⟩ := bnd h
 refine jr (rl 2 [0] 11 Try.call27 (zfa h_rv) rf) ?_
 refine jp ?_
 rcases zm h with ⟨hc3, h⟩ | ⟨hc3, h⟩
 ·
  refine jT hc3 ?_
  refine jr (rc 0 rfl (zF (r := zg) [] [] (⟨0, 0, 0, 0, 0⟩ : ze) rfl ziB rfl rfl) rf) ?_
  obtain rfl := sj h
  refine zv ?_
  refine lk [4, 5] [12] 12 2 ?_
  exact lzz
 refine jF hc3 ?_
 refine jr (rc 6 rfl (zF (r := zg) [kI rv.1, kI rv.2.1, kI fromv, kI (IntKind.i64.wrap (fromv + rv.2.2.1))] [] (⟨rv.1, rv.2.1, fromv, (IntKind.i64.wrap (fromv + rv.2.2.1)), 0⟩ : ze) rfl ziB rfl rfl) (rfl' [13])) ?_
 refine jp ?_
 refine jp ?_
 refine jp ?_
 obtain ⟨p, h_p, h⟩ := bnd h
 refine zcv (R := fun e a w => e = .normal ∧ Sx ⟨⟨108, []⟩, Xt, false, #[]⟩ ⟨[(0, .sl Rp.byte [0] b), (4, .ptr 12 0), (7, kI rv.2.1), (10, .ptr 13 0), (11, kI (IntKind.i64.wrap ((b.length : Int) - (IntKind.i64.wrap (fromv + rv.2.2.1))))), (12, kI p)], [⟨12, 35, [kI 0, kI 0, kI 0, kI 0, kI 0]⟩, ⟨13, 35, [kI rv.1, kI rv.2.1, kI fromv, kI (IntKind.i64.wrap (fromv + rv.2.2.1)), kI 0]⟩]⟩ a w) ?_ ?_
 ·
  replace h := h_p
  refine zr ?_
  rcases zm h with ⟨hc4, h⟩ | ⟨hc4, h⟩
  ·
   refine jT hc4 ?_
   refine jp ?_
   obtain rfl := sj h
   exact zW lzz
  refine jF hc4 ?_
  obtain rfl := sj h
  exact zW lzz
 refine zef ?_
 refine jp ?_
 obtain ⟨p2, h_p2, h⟩ := bnd h
 refine zcv (R := fun e a w => match p2 with | (.inl v_) => e = .normal ∧ Sx ⟨⟨108, []⟩, Xt, false, #[]⟩ ⟨[(0, .sl Rp.byte [0] b), (4, .ptr 12 0), (7, kI rv.2.1), (10, .ptr 13 0), (11, kI (IntKind.i64.wrap ((b.length : Int) - (IntKind.i64.wrap (fromv + rv.2.2.1))))), (12, kI v_)], [⟨12, 35, [kI 0, kI 0, kI 0, kI 0, kI 0]⟩, ⟨13, 35, [kI rv.1, kI rv.2.1, kI fromv, kI (IntKind.i64.wrap (fromv + rv.2.2.1)), kI 0]⟩]⟩ a w | (.inr v_) => e = .ret ∧ Sx ⟨⟨108, []⟩, Xt, false, #[]⟩ ⟨[(4, .ptr 12 0), (5, kI v_)], [⟨12, 35, [kI 0, kI 0, kI 0, kI 0, kI 0]⟩]⟩ a w) ?_ ?_
 ·
  replace h := h_p2
  refine zr ?_
  rcases zm h with ⟨hc5, h⟩ | ⟨hc5, h⟩
  ·
   refine jT hc5 ?_
   obtain ⟨rv2, h_rv2, h⟩ := bnd h
   refine jr (rl 3 [0] 12 Try.call28 (zbL h_rv2) rf) ?_
   refine jp ?_
   rcases zm h with ⟨hc6, h⟩ | ⟨hc6, h⟩
   ·
    refine jT hc6 ?_
    refine jr (rc 0 rfl (zF (r := zg) [] [] (⟨0, 0, 0, 0, 0⟩ : ze) rfl ziB rfl rfl) rf) ?_
    obtain rfl := sj h
    exact zv lzz
   refine jF hc6 ?_
   refine jp ?_
   obtain rfl := sj h
   exact zW lzz
  refine jF hc5 ?_
  obtain rfl := sj h
  exact zW lzz
 rcases p2 with u | u4
 ·
  refine zef ?_
  refine jp ?_
  obtain ⟨p3, h_p3, h⟩ := bnd h
  refine zcv (R := fun e a w => match p3 with | (.inl v_) => e = .normal ∧ Sx ⟨⟨108, []⟩, Xt, false, #[]⟩ ⟨[(4, .ptr 12 0), (10, .ptr 13 0), (11, kI v_.1), (12, kI v_.2.1)], [⟨12, 35, [kI 0, kI 0, kI 0, kI 0, kI 0]⟩, ⟨13, 35, [kI rv.1, kI rv.2.1, kI fromv, kI v_.2.2, kI 0]⟩]⟩ a w | (.inr v_) => e = .ret ∧ Sx ⟨⟨108, []⟩, Xt, false, #[]⟩ ⟨[(4, .ptr 12 0), (5, kI v_)], [⟨12, 35, [kI 0, kI 0, kI 0, kI 0, kI 0]⟩]⟩ a w) ?_ ?_
  ·
   replace h := h_p3
   refine zr ?_
   rcases zm h with ⟨hc7, h⟩ | ⟨hc7, h⟩
   ·
    refine jT hc7 ?_
    obtain ⟨rv3, h_rv3, h⟩ := bnd h
    refine jr (rl 3 [0] 12 Try.call28 (zbL h_rv3) rf) ?_
    refine jp ?_
    rcases zm h with ⟨hc8, h⟩ | ⟨hc8, h⟩
    ·
     refine jT hc8 ?_
     refine jr (rc 0 rfl (zF (r := zg) [] [] (⟨0, 0, 0, 0, 0⟩ : ze) rfl ziB rfl rfl) rf) ?_
     obtain rfl := sj h
     exact zv lzz
    refine jF hc8 ?_
    refine jp ?_
    refine jp ?_
    refine jp ?_
    rcases zm h with ⟨hc9, h⟩ | ⟨hc9, h⟩
    ·
     refine jT hc9 ?_
     refine jr (rc 0 rfl (zF (r := zg) [] [] (⟨0, 0, 0, 0, 0⟩ : ze) rfl ziB rfl rfl) rf) ?_
     obtain rfl := sj h
     exact zv lzz
    refine jF hc9 ?_
    refine jp ?_
    obtain rfl := sj h
    exact zW lzz
   refine jF hc7 ?_
   obtain rfl := sj h
   exact zW lzz
  rcases p3 with u2 | u3
  ·
   refine zef ?_
   refine jp ?_
   rcases zm h with ⟨hc10, h⟩ | ⟨hc10, h⟩
   ·
    refine jT hc10 ?_
    refine jr (rc 0 rfl (zF (r := zg) [] [] (⟨0, 0, 0, 0, 0⟩ : ze) rfl ziB rfl rfl) rf) ?_
    obtain rfl := sj h
    refine zv ?_
    refine lk [4, 5] [12] 12 2 ?_
    exact lzz
   refine jF hc10 ?_
   refine jp ?_
   refine jr (lb 0 zg [] (⟨rv.1, rv.2.1, fromv, u2.2.2, (IntKind.i64.wrap (u2.2.2 + u2.2.1))⟩ : ze) rf) ?_
   obtain rfl := sj h
   refine zv ?_
   refine lk [4, 5] [12] 12 2 ?_
   exact lzz
  obtain rfl := sj h
  refine zez ?_
  refine lk [4, 5] [12] 12 2 ?_
  exact lzz
 obtain rfl := sj h
 refine zez ?_
 refine lk [4, 5] [12] 12 2 ?_
 exact lzz
theorem zho {b : (List UInt8)} {fromv : Int} {tov : Int} {r : (List UInt8)} (h : zcz b fromv tov = some r) : FnOk Try.prog 29 [.sl Rp.byte [0] b, kI fromv, kI tov] [.own Rp.byte 5 2 [] r] := by
 refine zz (E := ⟨[(6, .own Rp.byte 5 2 [] r)], []⟩) 26 Try.func29 rfl rfl rfl ⟨rfl, trivial⟩ (fun Xt => ?_)
 refine zr ?_
 unfold zcz at h
 refine jp ?_
 refine zR ⟨[(0, .sl Rp.byte [0] b), (1, kI fromv), (2, kI tov), (19, kB ((decide (fromv < 0)) || ((decide (fromv > tov)) || (decide (tov > (b.length : Int))))))], []⟩ ?_ ?_
 ·
  refine (rsl 3 [] 9 (decide (fromv < 0)) (fun hc1 => ?_) (fun hc1 => ?_))
  · exact (rbl [] 19 true ((decide (fromv < 0)) || ((decide (fromv > tov)) || (decide (tov > (b.length : Int))))) (by rw [hc1] <;> rfl))
  refine (rsl 5 [] 14 (decide (fromv > tov)) (fun hc2 => ?_) (fun hc2 => ?_))
  · exact (rbl [] 19 true ((decide (fromv < 0)) || ((decide (fromv > tov)) || (decide (tov > (b.length : Int))))) (by rw [hc1, hc2] <;> rfl))
  exact (rbl [] 19 (decide (tov > (b.length : Int))) ((decide (fromv < 0)) || ((decide (fromv > tov)) || (decide (tov > (b.length : Int))))) (by rw [hc1, hc2] <;> rfl))
 rcases zm h with ⟨hc3, h⟩ | ⟨hc3, h⟩
 ·
  refine jT hc3 ?_
  refine jp ?_
  obtain rfl := sj h
  refine zv ?_
  refine zeP ⟨[(6, kN)], []⟩ (by kernel_rfl) ?_
  refine zem 6 (.own Rp.byte 5 2 [] ([] : (List UInt8))) rfl (zaZ Rp.byte 5 2 [] rfl) ?_
  exact lzz
 refine jF hc3 ?_
 obtain ⟨v2, h_v2, h⟩ := bnd h
 obtain ⟨rv, h_rv, h⟩ := bnd h
 refine jr (ra 3 [.sl Rp.byte [0] b, kI fromv, kI tov] rfl (zeE (some (kI fromv)) (some (kI tov)) rfl zcG.el (zai _ _ _) ⟨rfl, rfl⟩ ⟨rfl, rfl⟩ h_v2) rfl (rc 0 rfl (zff [.sl Rp.byte [0] v2] 13 [0] ([v2] : (List (List UInt8))) rfl ziL rfl rfl rfl rfl) (rl 0 [13, 0] 12 Try.call36 (zdg h_rv) rf))) ?_
 obtain rfl := sj h
 refine zv ?_
 refine lk [6] [] 14 2 ?_
 exact lzz
end Go.Proofs.Ytdpolccecmaajaa

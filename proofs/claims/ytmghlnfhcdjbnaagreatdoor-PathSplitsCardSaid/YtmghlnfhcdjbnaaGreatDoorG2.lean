/-
  The Go functions do what the plain functions say. No condition.
-/
import Derived.Test.YtmghlnfhcdjbnaaGreatDoorG1
import Derived.Test.YtmghlnfhcdjbnaaGreatDoorY
namespace Go.Proofs.YtmghlnfhcdjbnaaGreatDoor
open Go Go.RowKit
set_option linter.unusedVariables false
set_option maxRecDepth 100000
set_option maxHeartbeats 3200000
theorem zch {sv : Str} {c : Int} {r : Int} (h : zB sv c = some r) : FnOk Tryz.prog 30 [kS sv, k8 c] [kI r] := by
 refine zr (E := ⟨[(4, kI r)], []⟩) 19 Tryz.func30 rfl rfl rfl ⟨rfl, trivial⟩ (fun Xt => ?_)
 refine zj ?_
 unfold zB at h
 refine jp ?_
 refine jp ?_
 refine zx ?_
 obtain ⟨q, h_q, h⟩ := bnd h
 refine zbN (fun s : Int => zi c sv s) (fun s => ⟨[(0, kS sv), (1, k8 c), (5, kI s)], []⟩) (fun o e a w => match o with | (.inl v_) => e = .exit 0 ∧ Sx ⟨⟨19, []⟩, Xt, false, #[]⟩ ⟨[], []⟩ a w | (.inr v_) => e = .ret ∧ Sx ⟨⟨19, []⟩, Xt, false, #[]⟩ ⟨[(4, kI v_)], []⟩ a w) ?_ h_q lzz ?_
 ·
  clear h
  intro i o h
  refine zj ?_
  replace h : zi c sv i = some o := h
  unfold zi at h
  refine jp ?_
  rcases zm h with ⟨hc1, h⟩ | ⟨hc1, h⟩
  ·
   refine jT hc1 ?_
   refine zx ?_
   obtain ⟨c2, h_c2, h⟩ := bnd h
   refine jr (ra 2 [kS sv, kI i] rfl (zcL rfl Tryz.underlying9 h_c2) rfl rf) ?_
   rcases zm h with ⟨hc2, h⟩ | ⟨hc2, h⟩
   ·
    refine jT hc2 ?_
    refine jp ?_
    obtain rfl := sj h
    exact zcu lzz
   refine jF hc2 ?_
   refine zaU ?_
   refine jp ?_
   obtain rfl := sj h
   exact zat lzz
  refine jF hc1 ?_
  obtain rfl := sj h
  exact zbv rfl lzz
 rcases q with u | u2
 ·
  refine zcf _ rfl ?_
  refine jp ?_
  obtain rfl := sj h
  exact zA lzz
 obtain rfl := sj h
 exact zeH lzz
theorem zco {sep : Str} {r : (Int × Int)} (h : zas sep = some r) : FnOk Tryz.prog 42 [kS sep] [.lf (.int .u32 r.1), .lf (.int .u32 r.2)] := by
 refine zr (E := ⟨[(2, .lf (.int .u32 r.1)), (3, .lf (.int .u32 r.2))], []⟩) 40 Tryz.func42 rfl rfl rfl ⟨rfl, rfl, trivial⟩ (fun Xt => ?_)
 refine zj ?_
 unfold zas at h
 refine jp ?_
 refine jp ?_
 refine jp ?_
 refine zx ?_
 obtain ⟨q, h_q, h⟩ := bnd h
 refine zbN (fun s : (Int × Int) => zW sep s.1 s.2) (fun s => ⟨[(0, kS sep), (4, .lf (.int .u32 s.1)), (5, kI s.2)], []⟩) (fun o e a w => e = .exit 0 ∧ Sx ⟨⟨40, []⟩, Xt, false, #[]⟩ ⟨[(0, kS sep), (4, .lf (.int .u32 o))], []⟩ a w) ?_ h_q lzz ?_
 ·
  clear h
  intro s o h
  obtain ⟨hash, i⟩ := s
  refine zj ?_
  replace h : zW sep hash i = some o := h
  unfold zW at h
  refine jp ?_
  rcases zm h with ⟨hc1, h⟩ | ⟨hc1, h⟩
  ·
   refine jT hc1 ?_
   refine zx ?_
   obtain ⟨c, h_c, h⟩ := bnd h
   refine jr (ra 4 [kS sep, kI i] rfl (zcL rfl Tryz.underlying9 h_c) rfl rf) ?_
   refine zaU ?_
   refine jp ?_
   obtain rfl := sj h
   exact zat lzz
  refine jF hc1 ?_
  obtain rfl := sj h
  exact zbv rfl lzz
 refine zcf _ rfl ?_
 refine jp ?_
 refine jp ?_
 refine zx ?_
 obtain ⟨q2, h_q2, h⟩ := bnd h
 refine zbN (fun s : (Int × Int × Int) => zX s.1 s.2.1 s.2.2) (fun s => ⟨[(4, .lf (.int .u32 q)), (6, .lf (.int .u32 s.1)), (7, .lf (.int .u32 s.2.1)), (8, kI s.2.2)], []⟩) (fun o e a w => e = .exit 2 ∧ Sx ⟨⟨40, []⟩, Xt, false, #[]⟩ ⟨[(4, .lf (.int .u32 q)), (6, .lf (.int .u32 o))], []⟩ a w) ?_ h_q2 lzz ?_
 ·
  clear h
  intro s o h
  obtain ⟨pow, sq, i2⟩ := s
  refine zj ?_
  replace h : zX pow sq i2 = some o := h
  unfold zX at h
  refine jp ?_
  rcases zm h with ⟨hc2, h⟩ | ⟨hc2, h⟩
  ·
   refine jT hc2 ?_
   refine zx ?_
   refine jp ?_
   rcases zm h with ⟨hc3, h⟩ | ⟨hc3, h⟩
   ·
    refine jT hc3 ?_
    refine jp ?_
    refine jp ?_
    refine zaU ?_
    refine jr (ra 1 [kI i2, kU 1] rfl (zor rfl rfl) rfl rf) ?_
    obtain rfl := sj h
    exact zat lzz
   refine jF hc3 ?_
   refine jp ?_
   refine zaU ?_
   refine jr (ra 1 [kI i2, kU 1] rfl (zor rfl rfl) rfl rf) ?_
   obtain rfl := sj h
   exact zat lzz
  refine jF hc2 ?_
  obtain rfl := sj h
  exact zbv rfl lzz
 refine zcf _ rfl ?_
 refine jp ?_
 obtain rfl := sj h
 exact zA lzz
theorem zeG {av : (List Str)} {b : (List Str)} {r : Int} (h : zbL av b = some r) : FnOk Tryz.prog 20 [.sl Rp.str [0] av, .sl Rp.str [0] b] [kI r] := by
 refine zr (E := ⟨[(4, kI r)], []⟩) 30 Tryz.func20 rfl rfl rfl ⟨rfl, trivial⟩ (fun Xt => ?_)
 refine zj ?_
 unfold zbL at h
 refine jp ?_
 refine jp ?_
 refine zx ?_
 obtain ⟨q, h_q, h⟩ := bnd h
 refine zbN (fun s : Int => zH av b s) (fun s => ⟨[(0, .sl Rp.str [0] av), (1, .sl Rp.str [0] b), (5, kI s)], []⟩) (fun o e a w => e = .ret ∧ Sx ⟨⟨30, []⟩, Xt, false, #[]⟩ ⟨[(4, kI o)], []⟩ a w) ?_ h_q lzz ?_
 ·
  clear h
  intro n o h
  refine zj ?_
  replace h : zH av b n = some o := h
  unfold zH at h
  refine zx ?_
  obtain ⟨g, h_g, h⟩ := bnd h
  refine zhI (R := fun e a w => e = .normal ∧ Sx ⟨⟨30, []⟩, Xt, false, #[]⟩ ⟨[(0, .sl Rp.str [0] av), (1, .sl Rp.str [0] b), (5, kI n), (28, kB g)], []⟩ a w) ?_ (zlH ?_)
  ·
   refine zj ?_
   rcases Bool.eq_false_or_eq_true (n == (av.length : Int)) with hc1 | hc1
   ·
    replace h_g := iteT h_g hc1
    obtain rfl := sj h_g
    refine jd [0, 1, 5, 28] [] zfV (by exact (lw_e (lw_e (lw_e (lw_e (lx (zik ⟨[(11, kB (n == (av.length : Int)))], []⟩ (by kernel_rfl) hc1) l0)))))) ?_
    exact zat lzz
   replace h_g := iteF h_g hc1
   rcases Bool.eq_false_or_eq_true (n == (b.length : Int)) with hc2 | hc2
   ·
    replace h_g := iteT h_g hc2
    obtain rfl := sj h_g
    refine jd [0, 1, 5, 28] [] zfV (by exact (lw_e (lw_e (lw_e (lw_e (lx (zik ⟨[(11, kB (n == (av.length : Int)))], []⟩ (by kernel_rfl) hc1) (lw_e (lw_e (lw_e (lw_e (lw_e (lx (zik ⟨[(17, kB (n == (b.length : Int)))], []⟩ (by kernel_rfl) hc2) l0)))))))))))) ?_
    exact zat lzz
   replace h_g := iteF h_g hc2
   obtain ⟨x, h_x, h_g⟩ := bnd h_g
   obtain ⟨x2, h_x2, h_g⟩ := bnd h_g
   obtain rfl := sj h_g
   refine jd [0, 1, 5, 28] [] zfV (by exact (lw_e (lw_e (lw_e (lw_e (lx (zik ⟨[(11, kB (n == (av.length : Int)))], []⟩ (by kernel_rfl) hc1) (lw_e (lw_e (lw_e (lw_e (lw_e (lx (zik ⟨[(17, kB (n == (b.length : Int)))], []⟩ (by kernel_rfl) hc2) (lw_e (lw_e (ly [.sl Rp.str [0] av, kI n] (zfU rfl zef.el (zdG _ _ _) h_x) rfl (lw_e (lw_e (lw_e (ly [.sl Rp.str [0] b, kI n] (zfU rfl zef.el (zdG _ _ _) h_x2) rfl l0))))))))))))))))))) ?_
   exact zat lzz
  rcases zm h with ⟨hc3, h⟩ | ⟨hc3, h⟩
  ·
   refine jT hc3 ?_
   refine jp ?_
   obtain rfl := sj h
   exact zcu lzz
  refine jF hc3 ?_
  refine zaU ?_
  refine jp ?_
  obtain rfl := sj h
  exact zat lzz
 obtain rfl := sj h
 exact zeH lzz
theorem zdq {l : (List Str)} {r : Str} (h : zaF l = some r) : FnOk Tryz.prog 12 [.sl Rp.str [0] l] [kS r] := by
 refine zr (E := ⟨[(2, kS r)], []⟩) 22 Tryz.func12 rfl rfl rfl ⟨rfl, trivial⟩ (fun Xt => ?_)
 refine zj ?_
 unfold zaF at h
 refine jp ?_
 refine jp ?_
 refine jp ?_
 refine zx ?_
 obtain ⟨q, h_q, h⟩ := bnd h
 refine zbN (fun s : (Str × Int) => zT l s.1 s.2) (fun s => ⟨[(0, .sl Rp.str [0] l), (3, kS s.1), (4, kI s.2)], []⟩) (fun o e a w => e = .exit 0 ∧ Sx ⟨⟨22, []⟩, Xt, false, #[]⟩ ⟨[(3, kS o)], []⟩ a w) ?_ h_q lzz ?_
 ·
  clear h
  intro s o h
  obtain ⟨out, i⟩ := s
  refine zj ?_
  replace h : zT l out i = some o := h
  unfold zT at h
  refine jp ?_
  rcases zm h with ⟨hc1, h⟩ | ⟨hc1, h⟩
  ·
   refine jT hc1 ?_
   refine zx ?_
   refine jp ?_
   obtain ⟨p, h_p, h⟩ := bnd h
   refine zhI (R := fun e a w => e = .normal ∧ Sx ⟨⟨22, []⟩, Xt, false, #[]⟩ ⟨[(0, .sl Rp.str [0] l), (3, kS p), (4, kI i)], []⟩ a w) ?_ ?_
   ·
    replace h := h_p
    refine zj ?_
    rcases zm h with ⟨hc2, h⟩ | ⟨hc2, h⟩
    ·
     refine jT hc2 ?_
     obtain ⟨v, h_v, h⟩ := bnd h
     refine jr (ra 1 [kS out, kS [46]] rfl (zjX rfl h_v) rfl rf) ?_
     obtain rfl := sj h
     exact zat lzz
    refine jF hc2 ?_
    obtain rfl := sj h
    exact zat lzz
   refine zlH ?_
   obtain ⟨x, h_x, h⟩ := bnd h
   obtain ⟨v2, h_v2, h⟩ := bnd h
   refine jr (ra 3 [.sl Rp.str [0] l, kI i] rfl (zfU rfl zef.el (zdG _ _ _) h_x) rfl (ra 1 [kS p, kS x] rfl (zjX rfl h_v2) rfl rf)) ?_
   refine zaU ?_
   refine jp ?_
   obtain rfl := sj h
   exact zat lzz
  refine jF hc1 ?_
  obtain rfl := sj h
  exact zbv rfl lzz
 refine zcf _ rfl ?_
 refine jp ?_
 obtain rfl := sj h
 exact zA lzz
theorem zcM {sv : Str} {r : (Int × Int)} (h : zaP sv = some r) : FnOk Tryz.prog 34 [kS sv] [.lf (.int .i32 r.1), kI r.2] := by
 refine zr (E := ⟨[(2, .lf (.int .i32 r.1)), (3, kI r.2)], []⟩) 19 Tryz.func34 rfl rfl rfl ⟨rfl, rfl, trivial⟩ (fun Xt => ?_)
 refine zj ?_
 unfold zaP at h
 refine jp ?_
 obtain ⟨g, h_g, h⟩ := bnd h
 refine zL ⟨[(0, kS sv), (10, kB g)], []⟩ ?_ ?_
 ·
  refine (rsl 3 [] 6 (!(sv == [])) (fun hc1 => ?_) (fun hc1 => ?_))
  ·
   replace h_g := iteT h_g hc1
   obtain ⟨c, h_c, h_g⟩ := bnd h_g
   obtain rfl := sj h_g
   exact (ra 1 [kS sv, kI 0] rfl (zcL rfl Tryz.underlying9 h_c) rfl rgg)
  replace h_g := iteF h_g hc1
  obtain rfl := sj h_g
  exact rgg
 rcases zm h with ⟨hc2, h⟩ | ⟨hc2, h⟩
 ·
  refine jT hc2 ?_
  obtain ⟨c2, h_c2, h⟩ := bnd h
  refine jr (ra 1 [kS sv, kI 0] rfl (zcL rfl Tryz.underlying9 h_c2) rfl rf) ?_
  obtain rfl := sj h
  exact zA lzz
 refine jF hc2 ?_
 obtain ⟨rv, h_rv, h⟩ := bnd h
 refine jr (rl 1 [1] 9 Tryz.call43 (zcs h_rv) rf) ?_
 obtain rfl := sj h
 exact zA lzz
theorem zdt {sv : Str} {substr : Str} {r : Int} (h : zaG sv substr = some r) : FnOk Tryz.prog 44 [kS sv, kS substr] [kI r] := by
 refine zr (E := ⟨[(4, kI r)], []⟩) 143 Tryz.func44 rfl rfl rfl ⟨rfl, trivial⟩ (fun Xt => ?_)
 refine zj ?_
 unfold zaG at h
 refine jp ?_
 refine jp ?_
 refine zx ?_
 refine zL ⟨[(0, kS sv), (1, kS substr), (5, kI (substr.length : Int)), (16, kB (((substr.length : Int) == 0) || (substr == sv)))], []⟩ ?_ ?_
 ·
  refine (rsl 3 [] 19 ((substr.length : Int) == 0) (fun hc1 => ?_) (fun hc1 => ?_))
  · exact (rbl [] 16 true (((substr.length : Int) == 0) || (substr == sv)) (by rw [hc1] <;> rfl))
  exact (rbl [] 16 (substr == sv) (((substr.length : Int) == 0) || (substr == sv)) (by rw [hc1] <;> rfl))
 rcases zm h with ⟨hc2, h⟩ | ⟨hc2, h⟩
 ·
  refine jT hc2 ?_
  refine jp ?_
  obtain rfl := sj h
  exact zA lzz
 refine jF hc2 ?_
 refine jp ?_
 rcases zm h with ⟨hc3, h⟩ | ⟨hc3, h⟩
 ·
  refine jT hc3 ?_
  obtain ⟨c, h_c, h⟩ := bnd h
  obtain ⟨rv, h_rv, h⟩ := bnd h
  refine jr (ra 2 [kS substr, kI 0] rfl (zcL rfl Tryz.underlying9 h_c) rfl (rl 0 [1] 9 Tryz.call53 (zcU h_rv) rf)) ?_
  obtain rfl := sj h
  exact zA lzz
 refine jF hc3 ?_
 refine jp ?_
 rcases zm h with ⟨hc4, h⟩ | ⟨hc4, h⟩
 ·
  refine jT hc4 ?_
  refine jp ?_
  obtain rfl := sj h
  exact zA lzz
 refine jF hc4 ?_
 exact absurd h nofun
theorem zcV {sv : (List Str)} {r : (List Str)} (h : zap sv = some r) : FnOk Tryz.prog 25 [.sl Rp.str [0] sv] [.fv 38 [.bp (Rp.list Rp.str) 22 903800 [0] r]] := by
 refine zr (E := ⟨[(2, .fv 38 [.bp (Rp.list Rp.str) 22 903800 [0] r])], []⟩) 4 Tryz.func25 rfl rfl rfl ⟨rfl, trivial⟩ (fun Xt => ?_)
 refine zj ?_
 unfold zap at h
 refine jq [903800] ?_
 refine jr (ra 0 [.ptr 903800 0] rfl (zmH (g := 38) [.tmp 1] [⟨903800, 22, [.sl Rp.str [0] sv]⟩] [.bp (Rp.list Rp.str) 22 903800 [0] sv] rfl ⟨⟨rfl, rfl, rfl, rfl⟩, trivial⟩ rfl) rfl rf) ?_
 obtain rfl := sj h
 exact zA lzz
theorem zkQ  {r : (List Int)} (h : zfr = some r) : FnOk Tryz.prog 48 [] [.own (Rp.int .i64) 3 2 [] r] := by
 refine zr (E := ⟨[(0, .own (Rp.int .i64) 3 2 [] r)], []⟩) 4 Tryz.func48 rfl rfl rfl ⟨rfl, trivial⟩ (fun Xt => ?_)
 refine zj ?_
 unfold zfr at h
 refine jp ?_
 obtain ⟨rv, h_rv, h⟩ := bnd h
 obtain ⟨v, h_v, h⟩ := bnd h
 refine jr (rl 0 [1] 11 Tryz.call70 (zfS h_rv) (rkl 0 [] ⟨[(1, .om (Rp.int .i64) zg 13 [] rv)], []⟩ (zoC (rv := zg) (m := rv) 14 zpE rfl rfl rfl rfl rfl rfl Tryz.call69 Tryz.call68 rfl (zgE _ _ _ _ _) h_v rfl rf))) ?_
 obtain rfl := sj h
 refine zA ?_
 refine lk [0] [] 14 2 ?_
 exact lzz
theorem zeD {name : Str} {r : Bool} (h : zce name = some r) : FnOk Tryz.prog 71 [kS name] [kB r] := by
 refine zr (E := ⟨[(2, kB r)], []⟩) 34 Tryz.func71 rfl rfl rfl ⟨rfl, trivial⟩ (fun Xt => ?_)
 refine zj ?_
 unfold zce at h
 refine jp ?_
 obtain ⟨g, h_g, h⟩ := bnd h
 refine zL ⟨[(0, kS name), (15, kB g)], []⟩ ?_ ?_
 ·
  refine (rsl 3 [] 6 (name == []) (fun hc1 => ?_) (fun hc1 => ?_))
  ·
   replace h_g := iteT h_g hc1
   obtain rfl := sj h_g
   exact rgg
  replace h_g := iteF h_g hc1
  refine (rsl 5 [] 11 (decide ((name.length : Int) > 60)) (fun hc2 => ?_) (fun hc2 => ?_))
  ·
   replace h_g := iteT h_g hc2
   obtain rfl := sj h_g
   exact rgg
  replace h_g := iteF h_g hc2
  obtain ⟨c, h_c, h_g⟩ := bnd h_g
  obtain ⟨rv, h_rv, h_g⟩ := bnd h_g
  obtain rfl := sj h_g
  exact (ra 1 [kS name, kI 0] rfl (zcL rfl Tryz.underlying9 h_c) rfl (rl 0 [1] 9 Tryz.call87 (zed h_rv) rgg))
 rcases zm h with ⟨hc3, h⟩ | ⟨hc3, h⟩
 ·
  refine jT hc3 ?_
  refine jp ?_
  obtain rfl := sj h
  exact zA lzz
 refine jF hc3 ?_
 refine jp ?_
 refine zx ?_
 obtain ⟨q, h_q, h⟩ := bnd h
 refine zbN (fun s : Int => zZ name s) (fun s => ⟨[(0, kS name), (17, kI (name.length : Int)), (18, kI s)], []⟩) (fun o e a w => match o with | (.inl v_) => e = .exit 0 ∧ Sx ⟨⟨34, []⟩, Xt, false, #[]⟩ ⟨[], []⟩ a w | (.inr v_) => e = .ret ∧ Sx ⟨⟨34, []⟩, Xt, false, #[]⟩ ⟨[(2, kB false)], []⟩ a w) ?_ h_q lzz ?_
 ·
  clear h
  intro v2 o h
  refine zj ?_
  replace h : zZ name v2 = some o := h
  unfold zZ at h
  refine jp ?_
  rcases zm h with ⟨hc4, h⟩ | ⟨hc4, h⟩
  ·
   refine jT hc4 ?_
   refine zx ?_
   refine jp ?_
   obtain ⟨g2, h_g2, h⟩ := bnd h
   refine zL ⟨[(0, kS name), (17, kI (name.length : Int)), (18, kI v2), (32, kB g2)], []⟩ ?_ ?_
   ·
    obtain ⟨c2, h_c2, h_g2⟩ := bnd h_g2
    obtain ⟨rv2, h_rv2, h_g2⟩ := bnd h_g2
    refine (ra 2 [kS name, kI v2] rfl (zcL rfl Tryz.underlying9 h_c2) rfl (rl 0 [1] 10 Tryz.call88 (zgr h_rv2) (rsl 2 [] 26 (!rv2) (fun hc5 => ?_) (fun hc5 => ?_))))
    ·
     replace h_g2 := iteT h_g2 hc5
     obtain ⟨c3, h_c3, h_g2⟩ := bnd h_g2
     obtain ⟨rv3, h_rv3, h_g2⟩ := bnd h_g2
     obtain rfl := sj h_g2
     exact (ra 2 [kS name, kI v2] rfl (zcL rfl Tryz.underlying9 h_c3) rfl (rl 0 [1] 10 Tryz.call87 (zed h_rv3) rgg))
    replace h_g2 := iteF h_g2 hc5
    obtain rfl := sj h_g2
    exact rgg
   rcases zm h with ⟨hc6, h⟩ | ⟨hc6, h⟩
   ·
    refine jT hc6 ?_
    refine jp ?_
    obtain rfl := sj h
    exact zcu lzz
   refine jF hc6 ?_
   refine zaU ?_
   refine jp ?_
   obtain rfl := sj h
   exact zat lzz
  refine jF hc4 ?_
  obtain rfl := sj h
  exact zbv rfl lzz
 rcases q with u | u2
 ·
  refine zcf _ rfl ?_
  refine jp ?_
  obtain rfl := sj h
  exact zA lzz
 obtain rfl := sj h
 exact zeH lzz
theorem zdy {sv : (List Int)} {v : Int} {r : Bool} (h : zam sv v = some r) : FnOk Tryz.prog 73 [.sl (Rp.int .i64) [0] sv, kI v] [kB r] := by
 refine zr (E := ⟨[(4, kB r)], []⟩) 9 Tryz.func73 rfl rfl rfl ⟨rfl, trivial⟩ (fun Xt => ?_)
 refine zj ?_
 unfold zam at h
 refine jp ?_
 obtain ⟨rv, h_rv, h⟩ := bnd h
 refine jr (rl 2 [0] 9 Tryz.call89 (zdX h_rv) rf) ?_
 obtain rfl := sj h
 exact zA lzz
theorem zjS {k : Int} {r : (Int × Int)} (h : zev k = some r) : FnOk Tryz.prog 94 [kI k] [kI r.1, k8 r.2] := by
 refine zr (E := ⟨[(2, kI r.1), (3, k8 r.2)], []⟩) 16 Tryz.func94 rfl rfl rfl ⟨rfl, rfl, trivial⟩ (fun Xt => ?_)
 refine zj ?_
 unfold zev at h
 refine jp ?_
 obtain ⟨rv, h_rv, h⟩ := bnd h
 refine jr (rl 0 [1] 9 Tryz.call70 (zfS h_rv) (ra 1 [.om (Rp.int .i64) zg 11 [] rv, kI k] rfl (zoq (rk := (Rp.int .i64)) (rv := zg) (m := rv) (k := k) (.rc zg [11] ((mget rv k).getD (⟨[], 0⟩ : zf))) rfl zbw (zgE _ _ _ _ _) (zbH rfl rfl) (zpf rfl)) rfl (rfl' [12]))) ?_
 refine jp ?_
 rcases zm h with ⟨hc1, h⟩ | ⟨hc1, h⟩
 ·
  refine jT hc1 ?_
  refine jp ?_
  obtain rfl := sj h
  exact zA lzz
 refine jF hc1 ?_
 refine jp ?_
 obtain rfl := sj h
 exact zA lzz
theorem zaq {v : (List Str)} {r : (List Str)} (h : zp v = some r) : FnOk Tryz.prog 45 [kN, .fv 38 [.ep (Rp.list Rp.str) [0] v 0]] [.own Rp.str 9 2 [] r] := by
 refine zji (E := ⟨[(4, .own Rp.str 9 2 [] r)], []⟩) 13 Tryz.func45 rfl rfl rfl ⟨rfl, trivial⟩ rfl rfl (fun Xt => ?_)
 refine zj ?_
 unfold zp at h
 refine jq [15] ?_
 refine jp ?_
 refine zx ?_
 obtain ⟨q, h_q, h⟩ := bnd h
 refine zfp (E' := ⟨[(2, .ptr 15 0), (6, .fv 38 [.ep (Rp.list Rp.str) [0] v 0])], [⟨15, 22, [.own Rp.str 9 18 [] []]⟩]⟩) ?_ ?_
 ·
  refine zcQ ⟨[(2, .ptr 15 0), (6, .fv 38 [.ep (Rp.list Rp.str) [0] v 0])], [⟨15, 22, [kN]⟩]⟩ (by kernel_rfl) ?_
  refine zjr 15 0 (.own Rp.str 9 18 [] []) rfl rfl (zcK Rp.str 9 18 [] rfl) ?_
  exact lzz
 refine zkK (it := fun {σ : Type} (kf : Rnd σ Str) (sg : σ) => zI v kf sg) (zcB v) [] [2] [15] [(2, .ptr 15 0)] (fun s : (List Str) => [⟨15, 22, [.own Rp.str 9 18 [] s]⟩]) (fun o : Empty => []) (fun o : Empty => .ret) (fun (s : (List Str)) (x : Str) => zh s x) (fun (s : (List Str)) (x : Str) => ⟨[(2, .ptr 15 0), (5, kS x)], [⟨15, 22, [.own Rp.str 9 18 [] s]⟩]⟩) rfl rfl Tryz.call38 rfl rfl rfl rfl rfl rfl (fun _ => rfl) (fun o => rfl) rfl rfl (fun _ => rfl) ?_ (fun _ _ => ⟨rfl, rfl⟩) ?_ h_q ?_
 ·
  clear h
  intro Xr old f x
  refine zj ?_
  refine zfp (E' := ⟨[(7, kS x), (2, .ptr 15 0)], [⟨15, 22, [.own Rp.str 9 18 [] f]⟩]⟩) (fun _ _ _ hs => hs) ?_
  refine jp ?_
  exact zat lzz
 ·
  clear h
  intro Xr old f x o h
  refine zj ?_
  refine zfp (E' := ⟨[(2, .ptr 15 0), (5, kS x)], [⟨15, 22, [.own Rp.str 9 18 [] f]⟩]⟩) (fun _ _ _ hs => hs) ?_
  replace h : zh f x = some o := h
  unfold zh at h
  refine zx ?_
  obtain ⟨v2, h_v2, h⟩ := bnd h
  refine jr (rc 2 rfl (zlW [kS x] 19 [] ([x] : (List Str)) rfl zef rfl rfl rfl rfl) (ra 0 [.own Rp.str 9 18 [] f, .own Rp.str 9 19 [] ([x] : (List Str))] rfl (zlV 18 [] rfl zef.el rfl (zhb _ _ _ _ _) (zfo _ _ _ _ _) h_v2 (.inl zhg) rfl) rfl rf)) ?_
  refine zaU ?_
  obtain rfl := sj h
  exact zat lzz
 rcases q with u | j
 ·
  refine zfp (E' := ⟨[(2, .ptr 15 0)], [⟨15, 22, [.own Rp.str 9 18 [] u]⟩]⟩) (fun _ _ _ hs => hs) ?_
  refine zaU ?_
  refine jp ?_
  obtain rfl := sj h
  refine zA ?_
  refine lk [4] [] 18 2 ?_
  exact lzz
 exact nomatch j
theorem zfB {sv : Str} {prefixv : Str} {r : Bool} (h : zcZ sv prefixv = some r) : FnOk Tryz.prog 21 [kS sv, kS prefixv] [kB r] := by
 refine zr (E := ⟨[(4, kB r)], []⟩) 8 Tryz.func21 rfl rfl rfl ⟨rfl, trivial⟩ (fun Xt => ?_)
 refine zj ?_
 unfold zcZ at h
 refine jp ?_
 obtain ⟨rv, h_rv, h⟩ := bnd h
 refine jr (rl 2 [1] 9 Tryz.call32 (zcT h_rv) rf) ?_
 obtain rfl := sj h
 exact zA lzz
theorem zeY {p : Str} {r : ((List Str) × Bool)} (h : zbr p = some r) : FnOk Tryz.prog 7 [kS p] [.own Rp.str 9 2 [] r.1, kB r.2] := by
 refine zr (E := ⟨[(2, .own Rp.str 9 2 [] r.1), (3, kB r.2)], []⟩) 42 Tryz.func7 rfl rfl rfl ⟨rfl, rfl, trivial⟩ (fun Xt => ?_)
 refine zj ?_
 unfold zbr at h
 refine jp ?_
 refine jp ?_
 refine jp ?_
 refine jp ?_
 refine zx ?_
 obtain ⟨q, h_q, h⟩ := bnd h
 refine zbN (fun s : ((List Str) × Int × Int) => zD p s.1 s.2.1 s.2.2) (fun s => ⟨[(0, kS p), (4, .own Rp.str 9 16 [] s.1), (5, kI s.2.1), (6, kI s.2.2)], []⟩) (fun o e a w => match o with | (.inl v_) => e = .exit 0 ∧ Sx ⟨⟨42, []⟩, Xt, false, #[]⟩ ⟨[(4, .own Rp.str 9 16 [] v_)], []⟩ a w | (.inr v_) => e = .ret ∧ Sx ⟨⟨42, []⟩, Xt, false, #[]⟩ ⟨[(2, kN), (3, kB false)], []⟩ a w) ?_ h_q ?_ ?_
 ·
  clear h
  intro s o h
  obtain ⟨out, fromv, i⟩ := s
  refine zj ?_
  replace h : zD p out fromv i = some o := h
  unfold zD at h
  refine jp ?_
  rcases zm h with ⟨hc1, h⟩ | ⟨hc1, h⟩
  ·
   refine jT hc1 ?_
   refine zx ?_
   obtain ⟨g, h_g, h⟩ := bnd h
   refine zL ⟨[(0, kS p), (4, .own Rp.str 9 16 [] out), (5, kI fromv), (6, kI i), (22, kB g)], []⟩ ?_ ?_
   ·
    refine (rsl 5 [] 17 (decide (i < (p.length : Int))) (fun hc2 => ?_) (fun hc2 => ?_))
    ·
     replace h_g := iteT h_g hc2
     obtain ⟨c, h_c, h_g⟩ := bnd h_g
     obtain rfl := sj h_g
     exact (ra 2 [kS p, kI i] rfl (zcL rfl Tryz.underlying9 h_c) rfl rgg)
    replace h_g := iteF h_g hc2
    obtain rfl := sj h_g
    exact rgg
   rcases zm h with ⟨hc3, h⟩ | ⟨hc3, h⟩
   ·
    refine jT hc3 ?_
    refine zpj _ rfl ?_
    refine jp ?_
    obtain rfl := sj h
    exact zat lzz
   refine jF hc3 ?_
   obtain ⟨v2, h_v2, h⟩ := bnd h
   obtain ⟨rv, h_rv, h⟩ := bnd h
   refine jr (ra 3 [kS p, kI fromv, kI i] rfl (zdn (some (kI fromv)) (some (kI i)) rfl Tryz.underlying9 ⟨rfl, rfl⟩ ⟨rfl, rfl⟩ h_v2) rfl (rl 0 [1] 15 Tryz.call17 (zdp h_rv) rf)) ?_
   rcases zm h with ⟨hc4, h⟩ | ⟨hc4, h⟩
   ·
    refine jT hc4 ?_
    refine jp ?_
    obtain rfl := sj h
    exact zcu lzz
   refine jF hc4 ?_
   obtain ⟨v3, h_v3, h⟩ := bnd h
   obtain ⟨v4, h_v4, h⟩ := bnd h
   refine jr (ra 4 [kS p, kI fromv, kI i] rfl (zdn (some (kI fromv)) (some (kI i)) rfl Tryz.underlying9 ⟨rfl, rfl⟩ ⟨rfl, rfl⟩ h_v3) rfl (rc 0 rfl (zlW [kS v3] 17 [] ([v3] : (List Str)) rfl zef rfl rfl rfl rfl) (ra 0 [.own Rp.str 9 16 [] out, .own Rp.str 9 17 [] ([v3] : (List Str))] rfl (zlV 16 [] rfl zef.el rfl (zhb _ _ _ _ _) (zfo _ _ _ _ _) h_v4 (.inl zhg) rfl) rfl rf))) ?_
   refine jp ?_
   refine zaU ?_
   refine jp ?_
   obtain rfl := sj h
   exact zat lzz
  refine jF hc1 ?_
  obtain rfl := sj h
  exact zbv rfl lzz
 ·
  refine zcQ ⟨[(0, kS p), (4, kN), (5, kI 0), (6, kI 0)], []⟩ (by kernel_rfl) ?_
  refine zdP 4 (.own Rp.str 9 16 [] []) rfl (zcK Rp.str 9 16 [] rfl) ?_
  exact lzz
 rcases q with u | u2
 ·
  refine zcf _ rfl ?_
  refine jp ?_
  rcases zm h with ⟨hc5, h⟩ | ⟨hc5, h⟩
  ·
   refine jT hc5 ?_
   refine jp ?_
   obtain rfl := sj h
   refine zA ?_
   refine zcQ ⟨[(2, kN), (3, kB false)], []⟩ (by kernel_rfl) ?_
   refine zdP 2 (.own Rp.str 9 2 [] (([], false) : ((List Str) × Bool)).1) rfl (zcK Rp.str 9 2 [] rfl) ?_
   exact lzz
  refine jF hc5 ?_
  refine jp ?_
  obtain rfl := sj h
  refine zA ?_
  refine lk [2, 3] [] 16 2 ?_
  exact lzz
 obtain rfl := sj h
 refine zeH ?_
 refine zcQ ⟨[(2, kN), (3, kB false)], []⟩ (by kernel_rfl) ?_
 refine zdP 2 (.own Rp.str 9 2 [] (([], false) : ((List Str) × Bool)).1) rfl (zcK Rp.str 9 2 [] rfl) ?_
 exact lzz
theorem zbK {sv : Str} {sep : Str} {r : Int} (h : zad sv sep = some r) : FnOk Tryz.prog 31 [kS sv, kS sep] [kI r] := by
 refine zr (E := ⟨[(4, kI r)], []⟩) 87 Tryz.func31 rfl rfl rfl ⟨rfl, trivial⟩ (fun Xt => ?_)
 refine zj ?_
 unfold zad at h
 refine jp ?_
 obtain ⟨rv, h_rv, h⟩ := bnd h
 refine jr (rl 1 [1] 9 Tryz.call42 (zco h_rv) rf) ?_
 refine jp ?_
 refine jp ?_
 refine jp ?_
 refine jp ?_
 refine zx ?_
 obtain ⟨q, h_q, h⟩ := bnd h
 refine zbN (fun s : (Int × Int) => zM sep sv s.1 s.2) (fun s => ⟨[(0, kS sv), (1, kS sep), (5, .lf (.int .u32 rv.1)), (6, .lf (.int .u32 rv.2)), (7, kI (sep.length : Int)), (8, kI (IntKind.i64.wrap ((sv.length : Int) - (sep.length : Int)))), (9, .lf (.int .u32 s.1)), (10, kI s.2)], []⟩) (fun o e a w => e = .exit 0 ∧ Sx ⟨⟨87, []⟩, Xt, false, #[]⟩ ⟨[(0, kS sv), (1, kS sep), (5, .lf (.int .u32 rv.1)), (6, .lf (.int .u32 rv.2)), (7, kI (sep.length : Int)), (8, kI (IntKind.i64.wrap ((sv.length : Int) - (sep.length : Int)))), (9, .lf (.int .u32 o))], []⟩ a w) ?_ h_q lzz ?_
 ·
  clear h
  intro s o h
  obtain ⟨hv, i⟩ := s
  refine zj ?_
  replace h : zM sep sv hv i = some o := h
  unfold zM at h
  refine jp ?_
  rcases zm h with ⟨hc1, h⟩ | ⟨hc1, h⟩
  ·
   refine jT hc1 ?_
   refine zx ?_
   obtain ⟨c, h_c, h⟩ := bnd h
   refine jr (ra 4 [kS sv, kI i] rfl (zcL rfl Tryz.underlying9 h_c) rfl rf) ?_
   refine zaU ?_
   refine jp ?_
   obtain rfl := sj h
   exact zat lzz
  refine jF hc1 ?_
  obtain rfl := sj h
  exact zbv rfl lzz
 refine zcf _ rfl ?_
 obtain ⟨g, h_g, h⟩ := bnd h
 refine zL ⟨[(0, kS sv), (1, kS sep), (5, .lf (.int .u32 rv.1)), (6, .lf (.int .u32 rv.2)), (7, kI (sep.length : Int)), (8, kI (IntKind.i64.wrap ((sv.length : Int) - (sep.length : Int)))), (9, .lf (.int .u32 q)), (47, kB g)], []⟩ ?_ ?_
 ·
  refine (rsl 4 [] 41 (q == rv.1) (fun hc2 => ?_) (fun hc2 => ?_))
  ·
   replace h_g := iteT h_g hc2
   obtain ⟨v, h_v, h_g⟩ := bnd h_g
   obtain rfl := sj h_g
   exact (ra 2 [kS sv, kI (IntKind.i64.wrap ((sv.length : Int) - (sep.length : Int)))] rfl (zdn (some (kI (IntKind.i64.wrap ((sv.length : Int) - (sep.length : Int))))) none rfl Tryz.underlying9 ⟨rfl, rfl⟩ ⟨rfl, rfl⟩ h_v) rfl rgg)
  replace h_g := iteF h_g hc2
  obtain rfl := sj h_g
  exact rgg
 rcases zm h with ⟨hc3, h⟩ | ⟨hc3, h⟩
 ·
  refine jT hc3 ?_
  refine jp ?_
  obtain rfl := sj h
  exact zA lzz
 refine jF hc3 ?_
 refine jp ?_
 refine zx ?_
 obtain ⟨q2, h_q2, h⟩ := bnd h
 refine zbN (fun s : (Int × Int) => zN rv sep sv s.1 s.2) (fun s => ⟨[(0, kS sv), (1, kS sep), (5, .lf (.int .u32 rv.1)), (6, .lf (.int .u32 rv.2)), (7, kI (sep.length : Int)), (9, .lf (.int .u32 s.1)), (11, kI s.2)], []⟩) (fun o e a w => match o with | (.inl v_) => e = .exit 2 ∧ Sx ⟨⟨87, []⟩, Xt, false, #[]⟩ ⟨[], []⟩ a w | (.inr v_) => e = .ret ∧ Sx ⟨⟨87, []⟩, Xt, false, #[]⟩ ⟨[(4, kI v_)], []⟩ a w) ?_ h_q2 lzz ?_
 ·
  clear h
  intro s o h
  obtain ⟨hv3, i2⟩ := s
  refine zj ?_
  replace h : zN rv sep sv hv3 i2 = some o := h
  unfold zN at h
  refine jp ?_
  rcases zm h with ⟨hc4, h⟩ | ⟨hc4, h⟩
  ·
   refine jT hc4 ?_
   refine zx ?_
   refine jp ?_
   obtain ⟨c2, h_c2, h⟩ := bnd h
   refine jr (ra 3 [kS sv, kI i2] rfl (zcL rfl Tryz.underlying9 h_c2) rfl rf) ?_
   obtain ⟨c3, h_c3, h⟩ := bnd h
   refine jr (ra 6 [kS sv, kI (IntKind.i64.wrap (i2 + (sep.length : Int)))] rfl (zcL rfl Tryz.underlying9 h_c3) rfl rf) ?_
   obtain ⟨g2, h_g2, h⟩ := bnd h
   refine zL ⟨[(0, kS sv), (1, kS sep), (5, .lf (.int .u32 rv.1)), (6, .lf (.int .u32 rv.2)), (7, kI (sep.length : Int)), (9, .lf (.int .u32 (IntKind.u32.wrap ((IntKind.u32.wrap ((IntKind.u32.wrap (hv3 * 16777619)) + (IntKind.u32.wrap (c2.toNat : Int)))) - (IntKind.u32.wrap (rv.2 * (IntKind.u32.wrap (c3.toNat : Int)))))))), (11, kI i2), (85, kB g2)], []⟩ ?_ ?_
   ·
    refine (rsl 4 [] 76 ((IntKind.u32.wrap ((IntKind.u32.wrap ((IntKind.u32.wrap (hv3 * 16777619)) + (IntKind.u32.wrap (c2.toNat : Int)))) - (IntKind.u32.wrap (rv.2 * (IntKind.u32.wrap (c3.toNat : Int)))))) == rv.1) (fun hc5 => ?_) (fun hc5 => ?_))
    ·
     replace h_g2 := iteT h_g2 hc5
     obtain ⟨v4, h_v4, h_g2⟩ := bnd h_g2
     obtain rfl := sj h_g2
     exact (ra 5 [kS sv, kI i2, kI (IntKind.i64.wrap (i2 + (sep.length : Int)))] rfl (zdn (some (kI i2)) (some (kI (IntKind.i64.wrap (i2 + (sep.length : Int))))) rfl Tryz.underlying9 ⟨rfl, rfl⟩ ⟨rfl, rfl⟩ h_v4) rfl rgg)
    replace h_g2 := iteF h_g2 hc5
    obtain rfl := sj h_g2
    exact rgg
   rcases zm h with ⟨hc6, h⟩ | ⟨hc6, h⟩
   ·
    refine jT hc6 ?_
    refine jp ?_
    obtain rfl := sj h
    exact zcu lzz
   refine jF hc6 ?_
   refine zaU ?_
   refine jp ?_
   obtain rfl := sj h
   exact zat lzz
  refine jF hc4 ?_
  obtain rfl := sj h
  exact zbv rfl lzz
 rcases q2 with u | u2
 ·
  refine zcf _ rfl ?_
  refine jp ?_
  obtain rfl := sj h
  exact zA lzz
 obtain rfl := sj h
 exact zeH lzz
theorem zfl {av : (List Str)} {b : (List Str)} {r : Bool} (h : zbE av b = some r) : FnOk Tryz.prog 10 [.sl Rp.str [0] av, .sl Rp.str [0] b] [kB r] := by
 refine zr (E := ⟨[(4, kB r)], []⟩) 18 Tryz.func10 rfl rfl rfl ⟨rfl, trivial⟩ (fun Xt => ?_)
 refine zj ?_
 unfold zbE at h
 refine jp ?_
 obtain ⟨g, h_g, h⟩ := bnd h
 refine zL ⟨[(4, kB g)], []⟩ ?_ ?_
 ·
  refine (rsl 6 [] 10 ((av.length : Int) == (b.length : Int)) (fun hc1 => ?_) (fun hc1 => ?_))
  ·
   replace h_g := iteT h_g hc1
   obtain ⟨rv, h_rv, h_g⟩ := bnd h_g
   obtain rfl := sj h_g
   exact (rl 2 [0] 9 Tryz.call20 (zeG h_rv) rgg)
  replace h_g := iteF h_g hc1
  obtain rfl := sj h_g
  exact rgg
 obtain rfl := sj h
 exact zA lzz
theorem zeX {l : (List Str)} {r : Bool} (h : zbq l = some r) : FnOk Tryz.prog 13 [.sl Rp.str [0] l] [kB r] := by
 refine zr (E := ⟨[(2, kB r)], []⟩) 24 Tryz.func13 rfl rfl rfl ⟨rfl, trivial⟩ (fun Xt => ?_)
 refine zj ?_
 unfold zbq at h
 refine jp ?_
 refine jp ?_
 refine zx ?_
 obtain ⟨q, h_q, h⟩ := bnd h
 refine zbN (fun s : Int => zK l s) (fun s => ⟨[(0, .sl Rp.str [0] l), (3, kI s)], []⟩) (fun o e a w => match o with | (.inl v_) => e = .exit 0 ∧ Sx ⟨⟨24, []⟩, Xt, false, #[]⟩ ⟨[(0, .sl Rp.str [0] l)], []⟩ a w | (.inr v_) => e = .ret ∧ Sx ⟨⟨24, []⟩, Xt, false, #[]⟩ ⟨[(2, kB false)], []⟩ a w) ?_ h_q lzz ?_
 ·
  clear h
  intro i o h
  refine zj ?_
  replace h : zK l i = some o := h
  unfold zK at h
  refine jp ?_
  rcases zm h with ⟨hc1, h⟩ | ⟨hc1, h⟩
  ·
   refine jT hc1 ?_
   refine zx ?_
   obtain ⟨x, h_x, h⟩ := bnd h
   obtain ⟨rv, h_rv, h⟩ := bnd h
   refine jr (ra 2 [.sl Rp.str [0] l, kI i] rfl (zfU rfl zef.el (zdG _ _ _) h_x) rfl (rl 1 [1] 10 Tryz.call17 (zdp h_rv) rf)) ?_
   rcases zm h with ⟨hc2, h⟩ | ⟨hc2, h⟩
   ·
    refine jT hc2 ?_
    refine jp ?_
    obtain rfl := sj h
    exact zcu lzz
   refine jF hc2 ?_
   refine zaU ?_
   refine jp ?_
   obtain rfl := sj h
   exact zat lzz
  refine jF hc1 ?_
  obtain rfl := sj h
  exact zbv rfl lzz
 rcases q with u | u2
 ·
  refine zcf _ rfl ?_
  refine zL ⟨[(2, kB ((decide ((l.length : Int) ≥ 1)) && (decide ((l.length : Int) ≤ 65))))], []⟩ ?_ ?_
  ·
   refine (rsl 4 [] 19 (decide ((l.length : Int) ≥ 1)) (fun hc3 => ?_) (fun hc3 => ?_))
   · exact (rbl [] 2 (decide ((l.length : Int) ≤ 65)) ((decide ((l.length : Int) ≥ 1)) && (decide ((l.length : Int) ≤ 65))) (by rw [hc3] <;> rfl))
   exact (rbl [] 2 false ((decide ((l.length : Int) ≥ 1)) && (decide ((l.length : Int) ≤ 65))) (by rw [hc3] <;> rfl))
  obtain rfl := sj h
  exact zA lzz
 obtain rfl := sj h
 exact zeH lzz
end Go.Proofs.YtmghlnfhcdjbnaaGreatDoor

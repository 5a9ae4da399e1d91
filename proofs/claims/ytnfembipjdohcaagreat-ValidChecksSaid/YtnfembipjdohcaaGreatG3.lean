/-
  The Go functions do what the plain functions say. No condition.
-/
import Derived.Test.YtnfembipjdohcaaGreatG1
import Derived.Test.YtnfembipjdohcaaGreatG2
import Derived.Test.YtnfembipjdohcaaGreatY
namespace Go.Proofs.YtnfembipjdohcaaGreat
open Go Go.RowKit
set_option linter.unusedVariables false
set_option maxRecDepth 100000
set_option maxHeartbeats 3200000
theorem zpG  {r : (List Int)} (h : zif = some r) : FnOk Tryz.prog 34 [] [.own (Rp.int .i64) 3 2 [] r] := by
 refine zx (E := ⟨[(0, .own (Rp.int .i64) 3 2 [] r)], []⟩) 4 Tryz.func34 rfl rfl rfl ⟨rfl, trivial⟩ (fun Xt => ?_)
 refine zr ?_
 unfold zif at h
 refine jp ?_
 obtain ⟨rv, h_rv, h⟩ := bnd h
 obtain ⟨v, h_v, h⟩ := bnd h
 refine jr (rl 0 [1] 11 Tryz.call46 (ziV h_rv) (rkl 0 [] ⟨[(1, .om (Rp.int .i64) zu 13 [] rv)], []⟩ (zun (rv := zu) (m := rv) 14 zvt rfl rfl rfl rfl rfl rfl Tryz.call45 Tryz.call44 rfl (zhf _ _ _ _ _) h_v rfl rf))) ?_
 obtain rfl := sj h
 refine zv ?_
 refine lk [0] [] 14 2 ?_
 exact lzz
theorem zgR {name : Str} {r : Bool} (h : zdi name = some r) : FnOk Tryz.prog 47 [kS name] [kB r] := by
 refine zx (E := ⟨[(2, kB r)], []⟩) 34 Tryz.func47 rfl rfl rfl ⟨rfl, trivial⟩ (fun Xt => ?_)
 refine zr ?_
 unfold zdi at h
 refine jp ?_
 obtain ⟨g, h_g, h⟩ := bnd h
 refine zE ⟨[(0, kS name), (15, kB g)], []⟩ ?_ ?_
 ·
  refine (rsl 3 [] 6 (name == []) (fun hc1 => ?_) (fun hc1 => ?_))
  ·
   replace h_g := iteT h_g hc1
   obtain rfl := sj h_g
   exact rgg
  replace h_g := iteF h_g hc1
  refine (rsl 5 [] 11 (decide ((name.length : Int) > 60)) (fun hc2 => ?_) (fun hc2 => ?_))
  ·
   replace h_g := iteT h_g hc2
   obtain rfl := sj h_g
   exact rgg
  replace h_g := iteF h_g hc2
  obtain ⟨c, h_c, h_g⟩ := bnd h_g
  obtain ⟨rv, h_rv, h_g⟩ := bnd h_g
  obtain rfl := sj h_g
  exact (ra 1 [kS name, kI 0] rfl (zoD rfl Tryz.underlying9 h_c) rfl (rl 0 [1] 9 Tryz.call62 (zgc h_rv) rgg))
 rcases zm h with ⟨hc3, h⟩ | ⟨hc3, h⟩
 ·
  refine jT hc3 ?_
  refine jp ?_
  obtain rfl := sj h
  exact zv lzz
 refine jF hc3 ?_
 refine jp ?_
 refine zA ?_
 obtain ⟨q, h_q, h⟩ := bnd h
 refine zaW (fun s : Int => zaC name s) (fun s => ⟨[(0, kS name), (17, kI (name.length : Int)), (18, kI s)], []⟩) (fun o e a w => match o with | (.inl v_) => e = .exit 0 ∧ Sx ⟨⟨34, []⟩, Xt, false, #[]⟩ ⟨[], []⟩ a w | (.inr v_) => e = .ret ∧ Sx ⟨⟨34, []⟩, Xt, false, #[]⟩ ⟨[(2, kB false)], []⟩ a w) ?_ h_q lzz ?_
 ·
  clear h
  intro v2 o h
  refine zr ?_
  replace h : zaC name v2 = some o := h
  unfold zaC at h
  refine jp ?_
  rcases zm h with ⟨hc4, h⟩ | ⟨hc4, h⟩
  ·
   refine jT hc4 ?_
   refine zA ?_
   refine jp ?_
   obtain ⟨g2, h_g2, h⟩ := bnd h
   refine zE ⟨[(0, kS name), (17, kI (name.length : Int)), (18, kI v2), (32, kB g2)], []⟩ ?_ ?_
   ·
    obtain ⟨c2, h_c2, h_g2⟩ := bnd h_g2
    obtain ⟨rv2, h_rv2, h_g2⟩ := bnd h_g2
    refine (ra 2 [kS name, kI v2] rfl (zoD rfl Tryz.underlying9 h_c2) rfl (rl 0 [1] 10 Tryz.call63 (zjs h_rv2) (rsl 2 [] 26 (!rv2) (fun hc5 => ?_) (fun hc5 => ?_))))
    ·
     replace h_g2 := iteT h_g2 hc5
     obtain ⟨c3, h_c3, h_g2⟩ := bnd h_g2
     obtain ⟨rv3, h_rv3, h_g2⟩ := bnd h_g2
     obtain rfl := sj h_g2
     exact (ra 2 [kS name, kI v2] rfl (zoD rfl Tryz.underlying9 h_c3) rfl (rl 0 [1] 10 Tryz.call62 (zgc h_rv3) rgg))
    replace h_g2 := iteF h_g2 hc5
    obtain rfl := sj h_g2
    exact rgg
   rcases zm h with ⟨hc6, h⟩ | ⟨hc6, h⟩
   ·
    refine jT hc6 ?_
    refine jp ?_
    obtain rfl := sj h
    exact zaY lzz
   refine jF hc6 ?_
   refine zap ?_
   refine jp ?_
   obtain rfl := sj h
   exact zF lzz
  refine jF hc4 ?_
  obtain rfl := sj h
  exact zaX rfl lzz
 rcases q with u | u2
 ·
  refine zbI _ rfl ?_
  refine jp ?_
  obtain rfl := sj h
  exact zv lzz
 obtain rfl := sj h
 exact zdI lzz
theorem zeX {sv : (List Int)} {v : Int} {r : Bool} (h : zaS sv v = some r) : FnOk Tryz.prog 49 [.sl (Rp.int .i64) [0] sv, kI v] [kB r] := by
 refine zx (E := ⟨[(4, kB r)], []⟩) 9 Tryz.func49 rfl rfl rfl ⟨rfl, trivial⟩ (fun Xt => ?_)
 refine zr ?_
 unfold zaS at h
 refine jp ?_
 obtain ⟨rv, h_rv, h⟩ := bnd h
 refine jr (rl 2 [0] 9 Tryz.call64 (zfH h_rv) rf) ?_
 obtain rfl := sj h
 exact zv lzz
theorem zjL {k : Int} {r : (Int × Int)} (h : zfs k = some r) : FnOk Tryz.prog 75 [kI k] [kI r.1, k8 r.2] := by
 refine zx (E := ⟨[(2, kI r.1), (3, k8 r.2)], []⟩) 16 Tryz.func75 rfl rfl rfl ⟨rfl, rfl, trivial⟩ (fun Xt => ?_)
 refine zr ?_
 unfold zfs at h
 refine jp ?_
 obtain ⟨rv, h_rv, h⟩ := bnd h
 refine jr (rl 0 [1] 9 Tryz.call46 (ziV h_rv) (ra 1 [.om (Rp.int .i64) zu 11 [] rv, kI k] rfl (zml (rk := (Rp.int .i64)) (rv := zu) (m := rv) (k := k) (.rc zu [11] ((mget rv k).getD (⟨[], 0⟩ : zp))) rfl zcm (zhf _ _ _ _ _) (zcD rfl rfl) (zou rfl)) rfl (rfl' [12]))) ?_
 refine jp ?_
 rcases zm h with ⟨hc1, h⟩ | ⟨hc1, h⟩
 ·
  refine jT hc1 ?_
  refine jp ?_
  obtain rfl := sj h
  exact zv lzz
 refine jF hc1 ?_
 refine jp ?_
 obtain rfl := sj h
 exact zv lzz
theorem zoV {t : zar} {r : Bool} (h : zgT t = some r) : FnOk Tryz.prog 67 [.rc zcC [0] t] [kB r] := by
 refine zx (E := ⟨[(2, kB r)], []⟩) 16 Tryz.func67 rfl rfl rfl ⟨rfl, trivial⟩ (fun Xt => ?_)
 refine zr ?_
 unfold zgT at h
 refine jq [11] ?_
 obtain ⟨g, h_g, h⟩ := bnd h
 refine zE ⟨[(2, kB g)], []⟩ ?_ ?_
 ·
  refine (rsl 4 [] 6 (decide (t.Number ≥ 1)) (fun hc1 => ?_) (fun hc1 => ?_))
  ·
   replace h_g := iteT h_g hc1
   refine (rsl 5 [] 11 (decide (t.Number ≤ 536870911)) (fun hc2 => ?_) (fun hc2 => ?_))
   ·
    replace h_g := iteT h_g hc2
    obtain ⟨rv, h_rv, h_g⟩ := bnd h_g
    obtain rfl := sj h_g
    exact (rl 2 [1] 10 Tryz.call76 (zkN h_rv) rgg)
   replace h_g := iteF h_g hc2
   obtain rfl := sj h_g
   exact rgg
  replace h_g := iteF h_g hc1
  obtain rfl := sj h_g
  exact rgg
 obtain rfl := sj h
 exact zv lzz
theorem ziB {b : (List UInt8)} {r : (Int × Int)} (h : zeh b = some r) : FnOk Tryz.prog 68 [.sl Rp.byte [0] b] [kI r.1, k8 r.2] := by
 refine zx (E := ⟨[(2, kI r.1), (3, k8 r.2)], []⟩) 15 Tryz.func68 rfl rfl rfl ⟨rfl, rfl, trivial⟩ (fun Xt => ?_)
 refine zr ?_
 unfold zeh at h
 refine jp ?_
 obtain ⟨rv, h_rv, h⟩ := bnd h
 refine jr (rl 1 [0] 9 Tryz.call66 (zfJ h_rv) rf) ?_
 refine jp ?_
 obtain rfl := sj h
 exact zv lzz
theorem zbK {sv : (List zc)} {v : Int} {r : Int} (h : zQ sv v = some r) : FnOk Tryz.prog 95 [.sl za [0] sv, .fv 96 [.ep (Rp.int .i64) [0] v 0]] [kI r] := by
 refine zx (E := ⟨[(4, kI r)], []⟩) 19 Tryz.func95 rfl rfl rfl ⟨rfl, trivial⟩ (fun Xt => ?_)
 refine zr ?_
 unfold zQ at h
 refine jp ?_
 refine jp ?_
 refine zA ?_
 obtain ⟨q, h_q, h⟩ := bnd h
 refine zaW (fun s : Int => zw sv v s) (fun s => ⟨[(0, .sl za [0] sv), (1, .fv 96 [.ep (Rp.int .i64) [0] v 0]), (7, kI (sv.length : Int)), (8, kI s)], []⟩) (fun o e a w => match o with | (.inl v_) => e = .exit 0 ∧ Sx ⟨⟨19, []⟩, Xt, false, #[]⟩ ⟨[], []⟩ a w | (.inr v_) => e = .ret ∧ Sx ⟨⟨19, []⟩, Xt, false, #[]⟩ ⟨[(4, kI v_)], []⟩ a w) ?_ h_q lzz ?_
 ·
  clear h
  intro v2 o h
  refine zr ?_
  replace h : zw sv v v2 = some o := h
  unfold zw at h
  refine jp ?_
  rcases zm h with ⟨hc1, h⟩ | ⟨hc1, h⟩
  ·
   refine jT hc1 ?_
   refine zA ?_
   refine jp ?_
   obtain ⟨x, h_x, h⟩ := bnd h
   obtain ⟨rv, h_rv, h⟩ := bnd h
   refine jr (ra 3 [.sl za [0] sv, kI v2] rfl (zbx rfl zhD.el (zR _ _ _) h_x) rfl (ra 0 [.ep za [0] x 0] rfl (zgr rfl ⟨Tryz.isAgg39, Tryz.sizeOf39⟩) rfl (ra 0 [.fv 96 [.ep (Rp.int .i64) [0] v 0], .rc za [0] x] rfl (ztV (args := [.tmp 15]) [.rc za [0] x] [0] 10 rfl (zuU _ _) Tryz.call96 (zlk h_rv) rfl rfl rfl rfl rfl) rfl rf))) ?_
   rcases zm h with ⟨hc2, h⟩ | ⟨hc2, h⟩
   ·
    refine jT hc2 ?_
    refine jp ?_
    obtain rfl := sj h
    exact zaY lzz
   refine jF hc2 ?_
   refine zap ?_
   refine jp ?_
   obtain rfl := sj h
   exact zF lzz
  refine jF hc1 ?_
  obtain rfl := sj h
  exact zaX rfl lzz
 rcases q with u | u2
 ·
  refine zbI _ rfl ?_
  refine jp ?_
  obtain rfl := sj h
  exact zv lzz
 obtain rfl := sj h
 exact zdI lzz
theorem zlI {wv : Int} {r : Int} (h : zeN wv = some r) : FnOk Tryz.prog 112 [kU wv] [.lf (.int .i32 r)] := by
 refine zx (E := ⟨[(2, .lf (.int .i32 r))], []⟩) 6 Tryz.func112 rfl rfl rfl ⟨rfl, trivial⟩ (fun Xt => ?_)
 refine zr ?_
 unfold zeN at h
 refine jp ?_
 obtain ⟨rv, h_rv, h⟩ := bnd h
 refine jr (rl 1 [1] 9 Tryz.call113 (ziU h_rv) rf) ?_
 obtain rfl := sj h
 exact zv lzz
theorem zkZ {b : (List UInt8)} {r : Int} (h : zgX b = some r) : FnOk Tryz.prog 98 [.sl Rp.byte [0] b] [kI r] := by
 refine zx (E := ⟨[(2, kI r)], []⟩) 48 Tryz.func98 rfl rfl rfl ⟨rfl, trivial⟩ (fun Xt => ?_)
 refine zr ?_
 unfold zgX at h
 refine jp ?_
 refine jp ?_
 rcases zm h with ⟨hc1, h⟩ | ⟨hc1, h⟩
 ·
  refine jT hc1 ?_
  refine jp ?_
  obtain rfl := sj h
  exact zv lzz
 refine jF hc1 ?_
 obtain ⟨x, h_x, h⟩ := bnd h
 obtain ⟨rv, h_rv, h⟩ := bnd h
 refine jr (ra 1 [.sl Rp.byte [0] b, kI 0] rfl (zbx rfl zde.el (zR _ _ _) h_x) rfl (rl 1 [1] 9 Tryz.call108 (zqi h_rv) rf)) ?_
 refine zE ⟨[(0, .sl Rp.byte [0] b), (3, kI rv.1), (4, .lf (.int .u32 rv.2)), (24, kB ((rv.1 == 0) || (decide (rv.1 > (b.length : Int)))))], []⟩ ?_ ?_
 ·
  refine (rsl 3 [] 19 (rv.1 == 0) (fun hc2 => ?_) (fun hc2 => ?_))
  · exact (rbl [] 24 true ((rv.1 == 0) || (decide (rv.1 > (b.length : Int)))) (by rw [hc2] <;> rfl))
  exact (rbl [] 24 (decide (rv.1 > (b.length : Int))) ((rv.1 == 0) || (decide (rv.1 > (b.length : Int)))) (by rw [hc2] <;> rfl))
 rcases zm h with ⟨hc3, h⟩ | ⟨hc3, h⟩
 ·
  refine jT hc3 ?_
  refine jp ?_
  obtain rfl := sj h
  exact zv lzz
 refine jF hc3 ?_
 obtain ⟨v2, h_v2, h⟩ := bnd h
 refine jr (ra 2 [.sl Rp.byte [0] b, kI 1, kI rv.1] rfl (zfD (some (kI 1)) (some (kI rv.1)) rfl zde.el (zR _ _ _) ⟨rfl, rfl⟩ ⟨rfl, rfl⟩ h_v2) rfl rf) ?_
 refine zA ?_
 obtain ⟨q, h_q, h⟩ := bnd h
 refine zaW (fun s : (Int × Int) => zbL v2 s.1 s.2) (fun s => ⟨[(3, kI rv.1), (4, .lf (.int .u32 s.1)), (27, .sl Rp.byte [0] v2), (28, kI (v2.length : Int)), (29, kI s.2)], []⟩) (fun o e a w => match o with | (.inl v_) => e = .exit 0 ∧ Sx ⟨⟨48, []⟩, Xt, false, #[]⟩ ⟨[(3, kI rv.1), (4, .lf (.int .u32 v_))], []⟩ a w | (.inr v_) => e = .ret ∧ Sx ⟨⟨48, []⟩, Xt, false, #[]⟩ ⟨[(2, kI 0)], []⟩ a w) ?_ h_q lzz ?_
 ·
  clear h
  intro s o h
  obtain ⟨wv, v3⟩ := s
  refine zr ?_
  replace h : zbL v2 wv v3 = some o := h
  unfold zbL at h
  refine jp ?_
  rcases zm h with ⟨hc4, h⟩ | ⟨hc4, h⟩
  ·
   refine jT hc4 ?_
   refine zA ?_
   obtain ⟨x2, h_x2, h⟩ := bnd h
   refine jr (ra 0 [.sl Rp.byte [0] v2, kI v3] rfl (zbx rfl zde.el (zR _ _ _) h_x2) rfl rf) ?_
   refine jr (ra 1 [k8 (x2.toNat : Int), kU 6] rfl (zfd rfl rfl) rfl rf) ?_
   rcases zm h with ⟨hc5, h⟩ | ⟨hc5, h⟩
   ·
    refine jT hc5 ?_
    refine jp ?_
    obtain rfl := sj h
    exact zaY lzz
   refine jF hc5 ?_
   refine jr (ra 1 [.lf (.int .u32 wv), kU 6] rfl (ztX rfl rfl) rfl rf) ?_
   refine zap ?_
   refine jp ?_
   obtain rfl := sj h
   exact zF lzz
  refine jF hc4 ?_
  obtain rfl := sj h
  exact zaX rfl lzz
 rcases q with u | u2
 ·
  refine zbI _ rfl ?_
  obtain ⟨rv2, h_rv2, h⟩ := bnd h
  refine jr (rl 2 [1] 10 Tryz.call109 (zqh h_rv2) rf) ?_
  rcases zm h with ⟨hc6, h⟩ | ⟨hc6, h⟩
  ·
   refine jT hc6 ?_
   refine jp ?_
   obtain rfl := sj h
   exact zv lzz
  refine jF hc6 ?_
  refine jp ?_
  obtain rfl := sj h
  exact zv lzz
 obtain rfl := sj h
 exact zdI lzz
theorem zhI {sv : (List zh)} {i : Int} {k : Int} {r : Int} (h : zcc sv i k = some r) : FnOk Tryz.prog 38 [.sl zd [0] sv, kI i, kI k] [kI r] := by
 refine zx (E := ⟨[(6, kI r)], []⟩) 119 Tryz.func38 rfl rfl rfl ⟨rfl, trivial⟩ (fun Xt => ?_)
 refine zr ?_
 unfold zcc at h
 refine jp ?_
 obtain ⟨x, h_x, h⟩ := bnd h
 obtain ⟨x2, h_x2, h⟩ := bnd h
 refine jr (ra 2 [.sl zd [0] sv, kI i] rfl (zbx rfl zet.el (zR _ _ _) h_x) rfl (ra 1 [.ep zd [0] x 1] rfl (zgs za x.Fields rfl rfl rfl) rfl (ra 1 [.sl za [0] x.Fields, kI k] rfl (zbx rfl zhD.el (zR _ _ _) h_x2) rfl (ra 0 [.ep za [0] x2 0] rfl (zgr rfl ⟨Tryz.isAgg39, Tryz.sizeOf39⟩) rfl (rfl' [11]))))) ?_
 refine jp ?_
 refine jp ?_
 refine zA ?_
 obtain ⟨q, h_q, h⟩ := bnd h
 refine zaW (fun s : (Bool × Bool × Int) => zai i k sv x2 s.1 s.2.1 s.2.2) (fun s => ⟨[(0, .sl zd [0] sv), (1, kI i), (2, kI k), (7, .ptr 11 0), (8, kB s.1), (9, kB s.2.1), (10, kI s.2.2)], [⟨11, 39, [kS x2.Name, kI x2.Number, kI x2.Kind, kB x2.Repeated, kB x2.Packed, kI x2.Of]⟩]⟩) (fun o e a w => e = .exit 0 ∧ Sx ⟨⟨119, []⟩, Xt, false, #[]⟩ ⟨[(0, .sl zd [0] sv), (7, .ptr 11 0), (8, kB o.1), (9, kB o.2)], [⟨11, 39, [kS x2.Name, kI x2.Number, kI x2.Kind, kB x2.Repeated, kB x2.Packed, kI x2.Of]⟩]⟩ a w) ?_ h_q lzz ?_
 ·
  clear h
  intro s o h
  obtain ⟨name, number, j⟩ := s
  refine zr ?_
  replace h : zai i k sv x2 name number j = some o := h
  unfold zai at h
  refine jp ?_
  rcases zm h with ⟨hc1, h⟩ | ⟨hc1, h⟩
  ·
   refine jT hc1 ?_
   refine zA ?_
   obtain ⟨g, h_g, h⟩ := bnd h
   refine zcl (R := fun e a w => e = .normal ∧ Sx ⟨⟨119, []⟩, Xt, false, #[]⟩ ⟨[(0, .sl zd [0] sv), (1, kI i), (2, kI k), (7, .ptr 11 0), (8, kB g), (9, kB number), (10, kI j)], [⟨11, 39, [kS x2.Name, kI x2.Number, kI x2.Kind, kB x2.Repeated, kB x2.Packed, kI x2.Of]⟩]⟩ a w) ?_ (zdt ?_)
   ·
    refine zr ?_
    rcases Bool.eq_false_or_eq_true name with hc2 | hc2
    ·
     replace h_g := iteT h_g hc2
     obtain rfl := sj h_g
     refine jd [0, 1, 2, 7, 8, 9, 10] [11] zdQ (by exact (lw_e (lx (zii ⟨[(24, kB name)], []⟩ (by kernel_rfl) hc2) l0))) ?_
     exact zF lzz
    replace h_g := iteF h_g hc2
    obtain ⟨x3, h_x3, h_g⟩ := bnd h_g
    obtain ⟨x4, h_x4, h_g⟩ := bnd h_g
    obtain rfl := sj h_g
    refine jd [0, 1, 2, 7, 8, 9, 10] [11] zdQ (by exact (lw_e (lx (zii ⟨[(24, kB name)], []⟩ (by kernel_rfl) hc2) (lw_e (lw_e (ly [.sl zd [0] sv, kI i] (zbx rfl zet.el (zR _ _ _) h_x3) rfl (lw_e (ly [.ep zd [0] x3 1] (zgs za x3.Fields rfl rfl rfl) rfl (lw_e (ly [.sl za [0] x3.Fields, kI j] (zbx rfl zhD.el (zR _ _ _) h_x4) rfl l0)))))))))) ?_
    exact zF lzz
   obtain ⟨g2, h_g2, h⟩ := bnd h
   refine zcl (R := fun e a w => e = .normal ∧ Sx ⟨⟨119, []⟩, Xt, false, #[]⟩ ⟨[(0, .sl zd [0] sv), (1, kI i), (2, kI k), (7, .ptr 11 0), (8, kB g), (9, kB g2), (10, kI j)], [⟨11, 39, [kS x2.Name, kI x2.Number, kI x2.Kind, kB x2.Repeated, kB x2.Packed, kI x2.Of]⟩]⟩ a w) ?_ (zdt ?_)
   ·
    refine zr ?_
    rcases Bool.eq_false_or_eq_true number with hc3 | hc3
    ·
     replace h_g2 := iteT h_g2 hc3
     obtain rfl := sj h_g2
     refine jd [0, 1, 2, 7, 8, 9, 10] [11] zdQ (by exact (lw_e (lx (zii ⟨[(39, kB number)], []⟩ (by kernel_rfl) hc3) l0))) ?_
     exact zF lzz
    replace h_g2 := iteF h_g2 hc3
    obtain ⟨x5, h_x5, h_g2⟩ := bnd h_g2
    obtain ⟨x6, h_x6, h_g2⟩ := bnd h_g2
    obtain rfl := sj h_g2
    refine jd [0, 1, 2, 7, 8, 9, 10] [11] zdQ (by exact (lw_e (lx (zii ⟨[(39, kB number)], []⟩ (by kernel_rfl) hc3) (lw_e (lw_e (ly [.sl zd [0] sv, kI i] (zbx rfl zet.el (zR _ _ _) h_x5) rfl (lw_e (ly [.ep zd [0] x5 1] (zgs za x5.Fields rfl rfl rfl) rfl (lw_e (ly [.sl za [0] x5.Fields, kI j] (zbx rfl zhD.el (zR _ _ _) h_x6) rfl l0)))))))))) ?_
    exact zF lzz
   refine zap ?_
   refine jp ?_
   obtain rfl := sj h
   exact zF lzz
  refine jF hc1 ?_
  obtain rfl := sj h
  exact zaX rfl lzz
 refine zbI _ rfl ?_
 obtain ⟨rv, h_rv, h⟩ := bnd h
 refine jr (rl 2 [1] 11 Tryz.call37 (zeP h_rv) rf) ?_
 rcases zm h with ⟨hc4, h⟩ | ⟨hc4, h⟩
 ·
  refine jT hc4 ?_
  refine jp ?_
  obtain rfl := sj h
  exact zv lzz
 refine jF hc4 ?_
 refine jp ?_
 rcases zm h with ⟨hc5, h⟩ | ⟨hc5, h⟩
 ·
  refine jT hc5 ?_
  refine jp ?_
  obtain rfl := sj h
  exact zv lzz
 refine jF hc5 ?_
 refine zE ⟨[(0, .sl zd [0] sv), (7, .ptr 11 0), (9, kB q.2), (76, kB ((decide (x2.Number < 1)) || ((decide (x2.Number > 536870911)) || ((decide (x2.Number ≥ 19000)) && (decide (x2.Number < 20000))))))], [⟨11, 39, [kS x2.Name, kI x2.Number, kI x2.Kind, kB x2.Repeated, kB x2.Packed, kI x2.Of]⟩]⟩ ?_ ?_
 ·
  refine (rsl 4 [] 62 (decide (x2.Number < 1)) (fun hc6 => ?_) (fun hc6 => ?_))
  · exact (rbl [] 76 true ((decide (x2.Number < 1)) || ((decide (x2.Number > 536870911)) || ((decide (x2.Number ≥ 19000)) && (decide (x2.Number < 20000))))) (by rw [hc6] <;> rfl))
  refine (rsl 5 [] 67 (decide (x2.Number > 536870911)) (fun hc7 => ?_) (fun hc7 => ?_))
  · exact (rbl [] 76 true ((decide (x2.Number < 1)) || ((decide (x2.Number > 536870911)) || ((decide (x2.Number ≥ 19000)) && (decide (x2.Number < 20000))))) (by rw [hc6, hc7] <;> rfl))
  refine (rsl 4 [] 71 (decide (x2.Number ≥ 19000)) (fun hc8 => ?_) (fun hc8 => ?_))
  · exact (rbl [] 76 (decide (x2.Number < 20000)) ((decide (x2.Number < 1)) || ((decide (x2.Number > 536870911)) || ((decide (x2.Number ≥ 19000)) && (decide (x2.Number < 20000))))) (by rw [hc6, hc7, hc8] <;> rfl))
  exact (rbl [] 76 false ((decide (x2.Number < 1)) || ((decide (x2.Number > 536870911)) || ((decide (x2.Number ≥ 19000)) && (decide (x2.Number < 20000))))) (by rw [hc6, hc7, hc8] <;> rfl))
 rcases zm h with ⟨hc9, h⟩ | ⟨hc9, h⟩
 ·
  refine jT hc9 ?_
  refine jp ?_
  obtain rfl := sj h
  exact zv lzz
 refine jF hc9 ?_
 refine jp ?_
 rcases zm h with ⟨hc10, h⟩ | ⟨hc10, h⟩
 ·
  refine jT hc10 ?_
  refine jp ?_
  obtain rfl := sj h
  exact zv lzz
 refine jF hc10 ?_
 obtain ⟨rv2, h_rv2, h⟩ := bnd h
 refine jr (rl 2 [1] 11 Tryz.call30 (zdj h_rv2) rf) ?_
 rcases zm h with ⟨hc11, h⟩ | ⟨hc11, h⟩
 ·
  refine jT hc11 ?_
  refine jp ?_
  obtain rfl := sj h
  exact zv lzz
 refine jF hc11 ?_
 obtain ⟨g3, h_g3, h⟩ := bnd h
 refine zE ⟨[(0, .sl zd [0] sv), (7, .ptr 11 0), (93, kB g3)], [⟨11, 39, [kS x2.Name, kI x2.Number, kI x2.Kind, kB x2.Repeated, kB x2.Packed, kI x2.Of]⟩]⟩ ?_ ?_
 ·
  refine (rsl 3 [] 84 x2.Packed (fun hc12 => ?_) (fun hc12 => ?_))
  ·
   replace h_g3 := iteT h_g3 hc12
   refine (rsl 3 [] 87 x2.Repeated (fun hc13 => ?_) (fun hc13 => ?_))
   ·
    replace h_g3 := iteT h_g3 hc13
    obtain ⟨rv3, h_rv3, h_g3⟩ := bnd h_g3
    obtain rfl := sj h_g3
    exact (rl 2 [1] 11 Tryz.call29 (zcS h_rv3) (rel [] lzz))
   replace h_g3 := iteF h_g3 hc13
   obtain rfl := sj h_g3
   exact (rel [] lzz)
  replace h_g3 := iteF h_g3 hc12
  obtain rfl := sj h_g3
  exact (rel [] lzz)
 rcases zm h with ⟨hc14, h⟩ | ⟨hc14, h⟩
 ·
  refine jT hc14 ?_
  refine jp ?_
  obtain rfl := sj h
  exact zv lzz
 refine jF hc14 ?_
 refine zE ⟨[(118, kB (if (x2.Kind == 17) then ((decide (x2.Of < 0)) || ((decide (x2.Of ≥ (sv.length : Int))) || ((x2.Kind != 17) && (x2.Of != 0)))) else ((x2.Kind != 17) && (x2.Of != 0))))], []⟩ ?_ ?_
 ·
  refine (rsl 4 [] 97 (x2.Kind == 17) (fun hc15 => ?_) (fun hc15 => ?_))
  ·
   refine (rsl 4 [] 101 (decide (x2.Of < 0)) (fun hc16 => ?_) (fun hc16 => ?_))
   · exact (rbl [] 118 true (if (x2.Kind == 17) then ((decide (x2.Of < 0)) || ((decide (x2.Of ≥ (sv.length : Int))) || ((x2.Kind != 17) && (x2.Of != 0)))) else ((x2.Kind != 17) && (x2.Of != 0))) (by rw [hc15, hc16] <;> rfl))
   refine (rsl 8 [] 109 (decide (x2.Of ≥ (sv.length : Int))) (fun hc17 => ?_) (fun hc17 => ?_))
   · exact (rbl [] 118 true (if (x2.Kind == 17) then ((decide (x2.Of < 0)) || ((decide (x2.Of ≥ (sv.length : Int))) || ((x2.Kind != 17) && (x2.Of != 0)))) else ((x2.Kind != 17) && (x2.Of != 0))) (by rw [hc15, hc16, hc17] <;> rfl))
   refine (rsl 4 [] 113 (x2.Kind != 17) (fun hc18 => ?_) (fun hc18 => ?_))
   · exact (rbl [] 118 (x2.Of != 0) (if (x2.Kind == 17) then ((decide (x2.Of < 0)) || ((decide (x2.Of ≥ (sv.length : Int))) || ((x2.Kind != 17) && (x2.Of != 0)))) else ((x2.Kind != 17) && (x2.Of != 0))) (by rw [hc15, hc16, hc17, hc18] <;> rfl))
   exact (rbl [] 118 false (if (x2.Kind == 17) then ((decide (x2.Of < 0)) || ((decide (x2.Of ≥ (sv.length : Int))) || ((x2.Kind != 17) && (x2.Of != 0)))) else ((x2.Kind != 17) && (x2.Of != 0))) (by rw [hc15, hc16, hc17, hc18] <;> rfl))
  refine (rsl 16 [] 113 (x2.Kind != 17) (fun hc19 => ?_) (fun hc19 => ?_))
  · exact (rbl [] 118 (x2.Of != 0) (if (x2.Kind == 17) then ((decide (x2.Of < 0)) || ((decide (x2.Of ≥ (sv.length : Int))) || ((x2.Kind != 17) && (x2.Of != 0)))) else ((x2.Kind != 17) && (x2.Of != 0))) (by rw [hc15, hc19] <;> rfl))
  exact (rbl [] 118 false (if (x2.Kind == 17) then ((decide (x2.Of < 0)) || ((decide (x2.Of ≥ (sv.length : Int))) || ((x2.Kind != 17) && (x2.Of != 0)))) else ((x2.Kind != 17) && (x2.Of != 0))) (by rw [hc15, hc19] <;> rfl))
 rcases zm h with ⟨hc20, h⟩ | ⟨hc20, h⟩
 ·
  refine jT hc20 ?_
  refine jp ?_
  obtain rfl := sj h
  exact zv lzz
 refine jF hc20 ?_
 refine jp ?_
 obtain rfl := sj h
 exact zv lzz
theorem zhV {b : (List UInt8)} {atv : Int} {r : (Int × Int × Int × Int)} (h : zct b atv = some r) : FnOk Tryz.prog 42 [.sl Rp.byte [0] b, kI atv] [kI r.1, kI r.2.1, kI r.2.2.1, kI r.2.2.2] := by
 refine zx (E := ⟨[(4, kI r.1), (5, kI r.2.1), (6, kI r.2.2.1), (7, kI r.2.2.2)], []⟩) 40 Tryz.func42 rfl rfl rfl ⟨rfl, rfl, rfl, rfl, trivial⟩ (fun Xt => ?_)
 refine zr ?_
 unfold zct at h
 refine jp ?_
 obtain ⟨rv, h_rv, h⟩ := bnd h
 refine jr (rl 2 [0] 9 Tryz.call32 (zcs h_rv) rf) ?_
 refine jp ?_
 rcases zm h with ⟨hc1, h⟩ | ⟨hc1, h⟩
 ·
  refine jT hc1 ?_
  refine jp ?_
  obtain rfl := sj h
  exact zv lzz
 refine jF hc1 ?_
 obtain ⟨g, h_g, h⟩ := bnd h
 refine zE ⟨[(8, kU rv.1), (9, kI rv.2.1), (32, kB g)], []⟩ ?_ ?_
 ·
  refine (rsl 3 [] 23 (decide (rv.1 > 4294967295)) (fun hc2 => ?_) (fun hc2 => ?_))
  ·
   replace h_g := iteT h_g hc2
   obtain rfl := sj h_g
   exact rgg
  replace h_g := iteF h_g hc2
  obtain ⟨rv2, h_rv2, h_g⟩ := bnd h_g
  obtain rfl := sj h_g
  exact (rl 6 [1] 9 Tryz.call57 (zhE h_rv2) rgg)
 rcases zm h with ⟨hc3, h⟩ | ⟨hc3, h⟩
 ·
  refine jT hc3 ?_
  refine jp ?_
  obtain rfl := sj h
  exact zv lzz
 refine jF hc3 ?_
 refine jp ?_
 obtain rfl := sj h
 exact zv lzz
theorem zhZ {k : Int} {b : (List UInt8)} {r : ((List Int) × Int)} (h : zcw k b = some r) : FnOk Tryz.prog 21 [kI k, .sl Rp.byte [0] b] [.own (Rp.int .i64) 3 2 [] r.1, kI r.2] := by
 refine zx (E := ⟨[(4, .own (Rp.int .i64) 3 2 [] r.1), (5, kI r.2)], []⟩) 48 Tryz.func21 rfl rfl rfl ⟨rfl, rfl, trivial⟩ (fun Xt => ?_)
 refine zr ?_
 unfold zcw at h
 refine jp ?_
 obtain ⟨rv, h_rv, h⟩ := bnd h
 refine jr (rl 1 [1] 12 Tryz.call29 (zcS h_rv) rf) ?_
 rcases zm h with ⟨hc1, h⟩ | ⟨hc1, h⟩
 ·
  refine jT hc1 ?_
  refine jp ?_
  obtain rfl := sj h
  refine zv ?_
  refine zcK ⟨[(4, kN), (5, kI 2)], []⟩ (by kernel_rfl) ?_
  refine zcQ 4 (.own (Rp.int .i64) 3 2 [] (([], 2) : ((List Int) × Int)).1) rfl (zhh (Rp.int .i64) 3 2 [] rfl) ?_
  exact lzz
 refine jF hc1 ?_
 refine jp ?_
 refine jp ?_
 refine zA ?_
 obtain ⟨q, h_q, h⟩ := bnd h
 refine zaW (fun s : ((List Int) × Int) => zV b k s.1 s.2) (fun s => ⟨[(0, kI k), (1, .sl Rp.byte [0] b), (6, .own (Rp.int .i64) 3 16 [] s.1), (7, kI s.2)], []⟩) (fun o e a w => match o with | (.inl v_) => e = .exit 0 ∧ Sx ⟨⟨48, []⟩, Xt, false, #[]⟩ ⟨[(6, .own (Rp.int .i64) 3 16 [] v_)], []⟩ a w | (.inr v_) => e = .ret ∧ Sx ⟨⟨48, []⟩, Xt, false, #[]⟩ ⟨[(4, kN), (5, kI v_)], []⟩ a w) ?_ h_q ?_ ?_
 ·
  clear h
  intro s o h
  obtain ⟨out, atv⟩ := s
  refine zr ?_
  replace h : zV b k out atv = some o := h
  unfold zV at h
  refine jp ?_
  rcases zm h with ⟨hc2, h⟩ | ⟨hc2, h⟩
  ·
   refine jT hc2 ?_
   refine zA ?_
   refine jp ?_
   refine jp ?_
   obtain ⟨p, h_p, h⟩ := bnd h
   refine zcl (R := fun e a w => e = .normal ∧ Sx ⟨⟨48, []⟩, Xt, false, #[]⟩ ⟨[(0, kI k), (1, .sl Rp.byte [0] b), (6, .own (Rp.int .i64) 3 16 [] out), (7, kI atv), (8, kI p)], []⟩ a w) ?_ ?_
   ·
    replace h := h_p
    refine zr ?_
    rcases zm h with ⟨hc3, h⟩ | ⟨hc3, h⟩
    ·
     refine jT hc3 ?_
     refine jp ?_
     obtain rfl := sj h
     exact zF lzz
    refine jF hc3 ?_
    obtain rfl := sj h
    exact zF lzz
   refine zdt ?_
   refine jp ?_
   obtain ⟨p2, h_p2, h⟩ := bnd h
   refine zcl (R := fun e a w => match p2 with | (.inl v_) => e = .normal ∧ Sx ⟨⟨48, []⟩, Xt, false, #[]⟩ ⟨[(0, kI k), (1, .sl Rp.byte [0] b), (6, .own (Rp.int .i64) 3 16 [] out), (7, kI atv), (8, kI v_)], []⟩ a w | (.inr v_) => e = .ret ∧ Sx ⟨⟨48, []⟩, Xt, false, #[]⟩ ⟨[(4, kN), (5, kI v_)], []⟩ a w) ?_ ?_
   ·
    replace h := h_p2
    refine zr ?_
    rcases zm h with ⟨hc4, h⟩ | ⟨hc4, h⟩
    ·
     refine jT hc4 ?_
     obtain ⟨rv2, h_rv2, h⟩ := bnd h
     refine jr (rl 2 [0] 15 Tryz.call32 (zcs h_rv2) rf) ?_
     refine jp ?_
     rcases zm h with ⟨hc5, h⟩ | ⟨hc5, h⟩
     ·
      refine jT hc5 ?_
      refine jp ?_
      obtain rfl := sj h
      exact zv lzz
     refine jF hc5 ?_
     refine jp ?_
     obtain rfl := sj h
     exact zF lzz
    refine jF hc4 ?_
    obtain rfl := sj h
    exact zF lzz
   rcases p2 with u | u2
   ·
    refine zdt ?_
    refine jp ?_
    rcases zm h with ⟨hc6, h⟩ | ⟨hc6, h⟩
    ·
     refine jT hc6 ?_
     refine jp ?_
     obtain rfl := sj h
     exact zaY lzz
    refine jF hc6 ?_
    refine jp ?_
    obtain ⟨v3, h_v3, h⟩ := bnd h
    refine jr (rc 2 rfl (zgq [kI (IntKind.i64.wrap (atv + u))] 17 [] ([(IntKind.i64.wrap (atv + u))] : (List Int)) rfl zqq rfl rfl rfl rfl) (ra 0 [.own (Rp.int .i64) 3 16 [] out, .own (Rp.int .i64) 3 17 [] ([(IntKind.i64.wrap (atv + u))] : (List Int))] rfl (zwf 16 [] rfl zqq.el rfl (zsi _ _ _ _ _) (zme _ _ _ _ _) h_v3 (.inl (zsu _)) rfl) rfl rf)) ?_
    refine zap ?_
    obtain rfl := sj h
    exact zF lzz
   obtain rfl := sj h
   exact zox lzz
  refine jF hc2 ?_
  obtain rfl := sj h
  exact zaX rfl lzz
 ·
  refine zcK ⟨[(0, kI k), (1, .sl Rp.byte [0] b), (6, kN), (7, kI 0)], []⟩ (by kernel_rfl) ?_
  refine zcQ 6 (.own (Rp.int .i64) 3 16 [] []) rfl (zhh (Rp.int .i64) 3 16 [] rfl) ?_
  exact lzz
 rcases q with u3 | u4
 ·
  refine zbI _ rfl ?_
  refine jp ?_
  obtain rfl := sj h
  refine zv ?_
  refine lk [4, 5] [] 16 2 ?_
  exact lzz
 obtain rfl := sj h
 refine zdI ?_
 refine zcK ⟨[(4, kN), (5, kI u4)], []⟩ (by kernel_rfl) ?_
 refine zcQ 4 (.own (Rp.int .i64) 3 2 [] (([], u4) : ((List Int) × Int)).1) rfl (zhh (Rp.int .i64) 3 2 [] rfl) ?_
 exact lzz
theorem zhW {b : (List UInt8)} {atv : Int} {r : Int} (h : zcu b atv = some r) : FnOk Tryz.prog 43 [.sl Rp.byte [0] b, kI atv] [kI r] := by
 refine zx (E := ⟨[(4, kI r)], []⟩) 61 Tryz.func43 rfl rfl rfl ⟨rfl, trivial⟩ (fun Xt => ?_)
 refine zr ?_
 unfold zcu at h
 refine jp ?_
 refine jp ?_
 refine zA ?_
 obtain ⟨q2, h_q2, h⟩ := bnd h
 refine zaW (fun s : Int => zan atv b s) (fun s => ⟨[(0, .sl Rp.byte [0] b), (1, kI atv), (5, kI s)], []⟩) (fun o e a w => match o with | (.inl v_) => e = .exit 0 ∧ Sx ⟨⟨61, []⟩, Xt, false, #[]⟩ ⟨[], []⟩ a w | (.inr v_) => e = .ret ∧ Sx ⟨⟨61, []⟩, Xt, false, #[]⟩ ⟨[(4, kI v_)], []⟩ a w) ?_ h_q2 lzz ?_
 ·
  clear h
  intro n o h
  refine zr ?_
  replace h : zan atv b n = some o := h
  unfold zan at h
  refine zE ⟨[(0, .sl Rp.byte [0] b), (1, kI atv), (5, kI n), (17, kB ((decide (n ≤ 4)) && (decide ((IntKind.i64.wrap (atv + n)) ≤ (b.length : Int)))))], []⟩ ?_ ?_
  ·
   refine (rsl 3 [] 10 (decide (n ≤ 4)) (fun hc1 => ?_) (fun hc1 => ?_))
   · exact (rbl [] 17 (decide ((IntKind.i64.wrap (atv + n)) ≤ (b.length : Int))) ((decide (n ≤ 4)) && (decide ((IntKind.i64.wrap (atv + n)) ≤ (b.length : Int)))) (by rw [hc1] <;> rfl))
   exact (rbl [] 17 false ((decide (n ≤ 4)) && (decide ((IntKind.i64.wrap (atv + n)) ≤ (b.length : Int)))) (by rw [hc1] <;> rfl))
  rcases zm h with ⟨hc2, h⟩ | ⟨hc2, h⟩
  ·
   refine jT hc2 ?_
   refine zA ?_
   obtain ⟨x, h_x, h⟩ := bnd h
   refine jr (ra 2 [.sl Rp.byte [0] b, kI atv] rfl (zbx rfl zde.el (zR _ _ _) h_x) rfl rf) ?_
   refine jp ?_
   obtain ⟨p, h_p, h⟩ := bnd h
   refine zcl (R := fun e a w => e = .normal ∧ Sx ⟨⟨61, []⟩, Xt, false, #[]⟩ ⟨[(0, .sl Rp.byte [0] b), (1, kI atv), (5, kI n), (6, kI p)], []⟩ a w) ?_ ?_
   ·
    replace h := h_p
    refine zr ?_
    rcases zm h with ⟨hc3, h⟩ | ⟨hc3, h⟩
    ·
     refine jT hc3 ?_
     obtain ⟨x2, h_x2, h⟩ := bnd h
     obtain ⟨v3, h_v3, h⟩ := bnd h
     refine jr (rc 1 rfl (zgq [kI 0, kI 0, kI 32, kI 16, kI 8] 12 [] ([0, 0, 32, 16, 8] : (List Int)) rfl zqq rfl rfl rfl rfl) (ra 1 [.own (Rp.int .i64) 3 12 [] ([0, 0, 32, 16, 8] : (List Int)), kI n] rfl (zbx rfl zqq.el (zme _ _ _ _ _) h_x2) rfl (ra 1 [kI (IntKind.i64.wrap (x.toNat : Int)), kI x2] rfl (zwg rfl h_v3) rfl rf))) ?_
     obtain rfl := sj h
     exact zF lzz
    refine jF hc3 ?_
    obtain rfl := sj h
    exact zF lzz
   refine zdt ?_
   refine jp ?_
   refine zA ?_
   obtain ⟨q, h_q, h⟩ := bnd h
   refine zaW (fun s : (Int × Int) => zao atv b n s.1 s.2) (fun s => ⟨[(0, .sl Rp.byte [0] b), (1, kI atv), (5, kI n), (6, kI s.1), (7, kI s.2)], []⟩) (fun o e a w => e = .exit 2 ∧ Sx ⟨⟨61, []⟩, Xt, false, #[]⟩ ⟨[(0, .sl Rp.byte [0] b), (1, kI atv), (5, kI n), (6, kI o)], []⟩ a w) ?_ h_q lzz ?_
   ·
    clear h
    intro s o h
    obtain ⟨rv2, i⟩ := s
    refine zr ?_
    replace h : zao atv b n rv2 i = some o := h
    unfold zao at h
    refine jp ?_
    rcases zm h with ⟨hc4, h⟩ | ⟨hc4, h⟩
    ·
     refine jT hc4 ?_
     refine zA ?_
     obtain ⟨x3, h_x3, h⟩ := bnd h
     refine jr (ra 6 [.sl Rp.byte [0] b, kI (IntKind.i64.wrap (atv + i))] rfl (zbx rfl zde.el (zR _ _ _) h_x3) rfl rf) ?_
     refine zap ?_
     refine jp ?_
     obtain rfl := sj h
     exact zF lzz
    refine jF hc4 ?_
    obtain rfl := sj h
    exact zaX rfl lzz
   refine zbI _ rfl ?_
   obtain ⟨rv4, h_rv4, h⟩ := bnd h
   obtain ⟨v4, h_v4, h⟩ := bnd h
   refine jd [0, 1, 5, 59] [] zdQ (by exact (lw_e (lx (lf1 58 (zhk [kI q] [1] 12 rfl Tryz.call58 (ziO h_rv4) rfl rfl rfl rfl rfl)) (ly [.own Rp.byte 5 14 [] rv4] (ztU rfl Tryz.underlying24 Tryz.underlying5 Tryz.underlying9 (zme _ _ _ _ _)) rfl (lw_e (lw_e (lw_e (lw_e (lw_e (ly [.sl Rp.byte [0] b, kI atv, kI (IntKind.i64.wrap (atv + n))] (zfD (some (kI atv)) (some (kI (IntKind.i64.wrap (atv + n)))) rfl zde.el (zR _ _ _) ⟨rfl, rfl⟩ ⟨rfl, rfl⟩ h_v4) rfl (ly [.sl Rp.byte [0] v4] (ztU rfl Tryz.underlying24 Tryz.underlying5 Tryz.underlying9 (zR _ _ _)) rfl l0))))))))))) ?_
   rcases zm h with ⟨hc5, h⟩ | ⟨hc5, h⟩
   ·
    refine jT hc5 ?_
    refine jp ?_
    obtain rfl := sj h
    exact zaY lzz
   refine jF hc5 ?_
   refine zap ?_
   refine jp ?_
   obtain rfl := sj h
   exact zF lzz
  refine jF hc2 ?_
  obtain rfl := sj h
  exact zaX rfl lzz
 rcases q2 with u | u2
 ·
  refine zbI _ rfl ?_
  refine jp ?_
  obtain rfl := sj h
  exact zv lzz
 obtain rfl := sj h
 exact zdI lzz
end Go.Proofs.YtnfembipjdohcaaGreat

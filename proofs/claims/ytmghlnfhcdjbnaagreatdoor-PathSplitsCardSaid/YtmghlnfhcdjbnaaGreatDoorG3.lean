/-
  The Go functions do what the plain functions say. No condition.
-/
import Derived.Test.YtmghlnfhcdjbnaaGreatDoorG2
namespace Go.Proofs.YtmghlnfhcdjbnaaGreatDoor
open Go Go.RowKit
set_option linter.unusedVariables false
set_option maxRecDepth 100000
set_option maxHeartbeats 3200000
theorem zhm {sv : Str} {substr : Str} {r : Int} (h : zcH sv substr = some r) : FnOk Tryz.prog 35 [kS sv, kS substr] [kI r] := by
 refine zr (E := ⟨[(4, kI r)], []⟩) 8 Tryz.func35 rfl rfl rfl ⟨rfl, trivial⟩ (fun Xt => ?_)
 refine zj ?_
 unfold zcH at h
 refine jp ?_
 obtain ⟨rv, h_rv, h⟩ := bnd h
 refine jr (rl 2 [1] 9 Tryz.call44 (zdt h_rv) rf) ?_
 obtain rfl := sj h
 exact zA lzz
theorem zeC {c : zO} {m : zk} {r : (Int × (List (za × Bool)) × (List (zb × Bool)))} (h : zbc c m = some r) : zfQ Tryz.prog 49 [.ag [kI c.size, .sl (Rp.int .i64) [0] c.kinds, .om zd Rp.bool 2 [0] c.names, .om zc Rp.bool 3 [0] c.numbers], .rc zt [0] m] [kI r.1] [.ag [.any, .any, .om zd Rp.bool 2 [0] r.2.1, .om zc Rp.bool 3 [0] r.2.2], .any] := by
 refine zjj (E := ⟨[(0, .ag [.any, .any, .om zd Rp.bool 2 [0] r.2.1, .om zc Rp.bool 3 [0] r.2.2]), (4, kI r.1)], []⟩) 27 [0] Tryz.func49 rfl rfl rfl ⟨rfl, trivial⟩ ⟨.inr ⟨rfl, rfl⟩, .inl rfl, trivial⟩ rfl (fun Xt old => ?_)
 refine zj ?_
 unfold zbc at h
 refine jr (ral 1 [11] [.rc zt [0] m] rfl (zoo 12 [kS m.Name, .sl ze [0] m.Fields] [0] rfl rfl rfl rfl rfl) rfl rf) ?_
 refine jr (rc 2 rfl (zak (r := zd) [kI (-1), kS m.Name] [] (⟨(-1), m.Name⟩ : za) rfl zoL rfl rfl) (rfl' [13])) ?_
 refine zx ?_
 obtain ⟨rv, h_rv, h⟩ := bnd h
 refine jr (rl 2 [1] 12 Tryz.call71 (zeD h_rv) rf) ?_
 rcases zm h with ⟨hc1, h⟩ | ⟨hc1, h⟩
 ·
  refine jT hc1 ?_
  refine jp ?_
  obtain rfl := sj h
  refine zeR ?_
  refine zcQ ⟨[(0, .ag [kI c.size, .sl (Rp.int .i64) [0] c.kinds, .om zd Rp.bool 2 [0] c.names, .om zc Rp.bool 3 [0] c.numbers]), (4, kI 2)], []⟩ (by kernel_rfl) ?_
  refine zdP 0 (.ag [.any, .any, .om zd Rp.bool 2 [0] ((2, c.names, c.numbers) : (Int × (List (za × Bool)) × (List (zb × Bool)))).2.1, .om zc Rp.bool 3 [0] ((2, c.names, c.numbers) : (Int × (List (za × Bool)) × (List (zb × Bool)))).2.2]) rfl (zeS ⟨zbj _, zbj _, AV.le_refl _, AV.le_refl _, trivial⟩) ?_
  exact lzz
 refine jF hc1 ?_
 refine jr (lb 2 zd [] (⟨(-1), m.Name⟩ : za) (ra 0 [.om zd Rp.bool 2 [0] c.names, .rc zd [] (⟨(-1), m.Name⟩ : za)] rfl (zjY (rk := zd) (rv := Rp.bool) (m := c.names) (k := (⟨(-1), m.Name⟩ : za)) (kB ((mget c.names (⟨(-1), m.Name⟩ : za)).getD false)) rfl zjZ (zgE _ _ _ _ _) (zbo rfl) (zjQ rfl rfl rfl)) rfl rf)) ?_
 rcases zm h with ⟨hc2, h⟩ | ⟨hc2, h⟩
 ·
  refine jT hc2 ?_
  refine jp ?_
  obtain rfl := sj h
  refine zeR ?_
  refine zcQ ⟨[(0, .ag [kI c.size, .sl (Rp.int .i64) [0] c.kinds, .om zd Rp.bool 2 [0] c.names, .om zc Rp.bool 3 [0] c.numbers]), (4, kI 3)], []⟩ (by kernel_rfl) ?_
  refine zdP 0 (.ag [.any, .any, .om zd Rp.bool 2 [0] ((3, c.names, c.numbers) : (Int × (List (za × Bool)) × (List (zb × Bool)))).2.1, .om zc Rp.bool 3 [0] ((3, c.names, c.numbers) : (Int × (List (za × Bool)) × (List (zb × Bool)))).2.2]) rfl (zeS ⟨zbj _, zbj _, AV.le_refl _, AV.le_refl _, trivial⟩) ?_
  exact lzz
 refine jF hc2 ?_
 refine jp ?_
 rcases zm h with ⟨hc3, h⟩ | ⟨hc3, h⟩
 ·
  refine jT hc3 ?_
  refine jp ?_
  obtain rfl := sj h
  refine zeR ?_
  refine zcQ ⟨[(0, .ag [kI c.size, .sl (Rp.int .i64) [0] c.kinds, .om zd Rp.bool 2 [0] c.names, .om zc Rp.bool 3 [0] c.numbers]), (4, kI 4)], []⟩ (by kernel_rfl) ?_
  refine zdP 0 (.ag [.any, .any, .om zd Rp.bool 2 [0] ((4, c.names, c.numbers) : (Int × (List (za × Bool)) × (List (zb × Bool)))).2.1, .om zc Rp.bool 3 [0] ((4, c.names, c.numbers) : (Int × (List (za × Bool)) × (List (zb × Bool)))).2.2]) rfl (zeS ⟨zbj _, zbj _, AV.le_refl _, AV.le_refl _, trivial⟩) ?_
  exact lzz
 refine jF hc3 ?_
 refine zaU ?_
 refine jr (lb 2 zd [] (⟨(-1), m.Name⟩ : za) (rkl 0 [] ⟨[(0, .ag [kI c.size, .sl (Rp.int .i64) [0] c.kinds, .om zd Rp.bool 2 [0] c.names, .om zc Rp.bool 3 [0] c.numbers]), (25, .om zd Rp.bool 2 [0] c.names), (26, .rc zd [] (⟨(-1), m.Name⟩ : za))], []⟩ (zfI ⟨[(0, .ag [kI c.size, .sl (Rp.int .i64) [0] c.kinds, .om zd Rp.bool 2 [0] (mput c.names (⟨(-1), m.Name⟩ : za) true), .om zc Rp.bool 3 [0] c.numbers]), (25, .om zd Rp.bool 2 [0] (mput c.names (⟨(-1), m.Name⟩ : za) true)), (26, .rc zd [] (⟨(-1), m.Name⟩ : za))], []⟩ (zkj (rk := zd) (rv := Rp.bool) (m := c.names) (ℓ := 2) (C := [0]) (C1 := []) (D := []) (⟨(-1), m.Name⟩ : za) true [0] zjZ (.inl rfl) (zbo rfl) (zbH rfl rfl) rfl) rfl (by kernel_rfl) (by kernel_rfl) ⟨⟨_, rfl, zlm ⟨zz rfl, zz rfl, zdz 0 rfl, zz rfl, trivial⟩⟩, ⟨_, rfl, zdz 0 rfl⟩, ⟨_, rfl, zz rfl⟩, trivial⟩ trivial rf))) ?_
 refine jp ?_
 obtain rfl := sj h
 refine zeR ?_
 refine zcQ ⟨[(0, .ag [kI c.size, .sl (Rp.int .i64) [0] c.kinds, .om zd Rp.bool 2 [0] (mput c.names (⟨(-1), m.Name⟩ : za) true), .om zc Rp.bool 3 [0] c.numbers]), (4, kI 0)], []⟩ (by kernel_rfl) ?_
 refine zdP 0 (.ag [.any, .any, .om zd Rp.bool 2 [0] ((0, (mput c.names (⟨(-1), m.Name⟩ : za) true), c.numbers) : (Int × (List (za × Bool)) × (List (zb × Bool)))).2.1, .om zc Rp.bool 3 [0] ((0, (mput c.names (⟨(-1), m.Name⟩ : za) true), c.numbers) : (Int × (List (za × Bool)) × (List (zb × Bool)))).2.2]) rfl (zeS ⟨zbj _, zbj _, AV.le_refl _, AV.le_refl _, trivial⟩) ?_
 exact lzz
theorem zij {k : Int} {r : Bool} (h : zdu k = some r) : FnOk Tryz.prog 90 [kI k] [kB r] := by
 refine zr (E := ⟨[(2, kB r)], []⟩) 16 Tryz.func90 rfl rfl rfl ⟨rfl, trivial⟩ (fun Xt => ?_)
 refine zj ?_
 unfold zdu at h
 refine jp ?_
 obtain ⟨rv, h_rv, h⟩ := bnd h
 refine jr (rl 1 [1] 9 Tryz.call94 (zjS h_rv) rf) ?_
 refine zL ⟨[(2, kB ((rv.2 == 0) && (rv.1 != 2)))], []⟩ ?_ ?_
 ·
  refine (rsl 3 [] 12 (rv.2 == 0) (fun hc1 => ?_) (fun hc1 => ?_))
  · exact (rbl [] 2 (rv.1 != 2) ((rv.2 == 0) && (rv.1 != 2)) (by rw [hc1] <;> rfl))
  exact (rbl [] 2 false ((rv.2 == 0) && (rv.1 != 2)) (by rw [hc1] <;> rfl))
 obtain rfl := sj h
 exact zA lzz
theorem zaR {v : (List Str)} {r : (List Str)} (h : zC v = some r) : FnOk Tryz.prog 36 [.fv 38 [.ep (Rp.list Rp.str) [0] v 0]] [.own Rp.str 9 2 [] r] := by
 refine zr (E := ⟨[(2, .own Rp.str 9 2 [] r)], []⟩) 5 Tryz.func36 rfl rfl rfl ⟨rfl, trivial⟩ (fun Xt => ?_)
 refine zj ?_
 unfold zC at h
 refine jp ?_
 obtain ⟨rv, h_rv, h⟩ := bnd h
 refine jr (rl 1 [0] 10 Tryz.call45 (zaq h_rv) rf) ?_
 obtain rfl := sj h
 refine zA ?_
 refine lk [2] [] 12 2 ?_
 exact lzz
theorem zfC {sv : Str} {substr : Str} {r : Int} (h : zaI sv substr = some r) : FnOk Tryz.prog 19 [kS sv, kS substr] [kI r] := by
 refine zr (E := ⟨[(4, kI r)], []⟩) 36 Tryz.func19 rfl rfl rfl ⟨rfl, trivial⟩ (fun Xt => ?_)
 refine zj ?_
 unfold zaI at h
 refine jp ?_
 refine jp ?_
 refine zx ?_
 refine jp ?_
 rcases zm h with ⟨hc1, h⟩ | ⟨hc1, h⟩
 ·
  refine jT hc1 ?_
  refine jp ?_
  obtain rfl := sj h
  exact zA lzz
 refine jF hc1 ?_
 refine jp ?_
 rcases zm h with ⟨hc2, h⟩ | ⟨hc2, h⟩
 ·
  refine jT hc2 ?_
  obtain ⟨c, h_c, h⟩ := bnd h
  obtain ⟨rv, h_rv, h⟩ := bnd h
  refine jr (ra 2 [kS substr, kI 0] rfl (zcL rfl Tryz.underlying9 h_c) rfl (rl 0 [1] 9 Tryz.call30 (zch h_rv) rf)) ?_
  obtain rfl := sj h
  exact zA lzz
 refine jF hc2 ?_
 refine jp ?_
 rcases zm h with ⟨hc3, h⟩ | ⟨hc3, h⟩
 ·
  refine jT hc3 ?_
  refine jp ?_
  rcases zm h with ⟨hc4, h⟩ | ⟨hc4, h⟩
  ·
   refine jT hc4 ?_
   refine jp ?_
   obtain rfl := sj h
   exact zA lzz
  refine jF hc4 ?_
  refine jp ?_
  obtain rfl := sj h
  exact zA lzz
 refine jF hc3 ?_
 refine jp ?_
 rcases zm h with ⟨hc5, h⟩ | ⟨hc5, h⟩
 ·
  refine jT hc5 ?_
  refine jp ?_
  obtain rfl := sj h
  exact zA lzz
 refine jF hc5 ?_
 refine zaU ?_
 obtain ⟨rv2, h_rv2, h⟩ := bnd h
 refine jr (rl 2 [1] 9 Tryz.call31 (zbK h_rv2) rf) ?_
 obtain rfl := sj h
 exact zA lzz
theorem zfb (v : Str) (v2 : Str) (v3 : Int) : ItOk Tryz.prog 33 [.bp Rp.str 9 903300 [] v, .bp Rp.str 9 903301 [] v2, .bp (Rp.int .i64) 3 903302 [] v3] (fun x : Str => [kS x]) (fun {σ : Type} (kf : Rnd σ Str) (sg : σ) => zaw v v2 v3 kf sg) := by
 refine zkI 52 [(1, .ptr 903300 0), (2, .ptr 903301 0), (3, .ptr 903302 0)] [⟨903300, 9, [kS v]⟩, ⟨903301, 9, [kS v2]⟩, ⟨903302, 3, [kI v3]⟩] Tryz.func33 rfl rfl rfl rfl (.cons Rp.str 9 903300 [] v [kS v] rfl rfl (.cons Rp.str 9 903301 [] v2 [kS v2] rfl rfl (.cons (Rp.int .i64) 3 903302 [] v3 [kI v3] rfl rfl (.nil _)))) ?_
 intro σ kf sg s1 h l I hI F_ hT
 replace h : zaw v v2 v3 kf sg = some s1 := h
 refine zj ?_
 refine zfp (E' := ⟨[(0, .lf (.val (.func (.yield l) #[] #[]))), (1, .ptr 903300 0), (2, .ptr 903301 0), (3, .ptr 903302 0)], [⟨903300, 9, [kS v]⟩, ⟨903301, 9, [kS v2]⟩, ⟨903302, 3, [kI v3]⟩]⟩) (fun _ _ _ hs => hs) ?_
 unfold zaw at h
 refine jp ?_
 rcases zm h with ⟨hc1, h⟩ | ⟨hc1, h⟩
 ·
  refine jT hc1 ?_
  refine zx ?_
  obtain ⟨q, h_q, h⟩ := bnd h
  refine zig (fun s : (Str × σ) => zbx kf s.1 s.2) (fun s => ⟨⟨52, []⟩, itX I hI F_ s.2, false, #[]⟩) (fun s => ⟨[(0, .lf (.val (.func (.yield l) #[] #[]))), (2, .ptr 903301 0)], [⟨903301, 9, [kS s.1]⟩]⟩) (fun o e a w => match o with | (.inl v_) => e = .exit 0 ∧ Sx ⟨⟨52, []⟩, itX I hI F_ v_, false, #[]⟩ ⟨[], []⟩ a w | (.inr v_) => e = .ret ∧ Sx ⟨⟨52, []⟩, itX I hI F_ v_, false, #[]⟩ ⟨[], []⟩ a w) ?_ h_q rfl lzz ?_
  ·
   clear h
   intro s o h
   obtain ⟨f, sg2⟩ := s
   refine zj ?_
   replace h : zbx kf f sg2 = some o := h
   unfold zbx at h
   refine jp ?_
   rcases zm h with ⟨hc2, h⟩ | ⟨hc2, h⟩
   ·
    refine jT hc2 ?_
    refine zx ?_
    obtain ⟨rv, h_rv, h⟩ := bnd h
    refine jr (rl 1 [1] 10 Tryz.call34 (zcM h_rv) rf) ?_
    obtain ⟨v4, h_v4, h⟩ := bnd h
    obtain ⟨y, h_y, h⟩ := bnd h
    refine zgF (E' := ⟨[(0, .lf (.val (.func (.yield l) #[] #[]))), (2, .ptr 903301 0), (6, kI rv.2), (25, kB (!y.1))], [⟨903301, 9, [kS f]⟩]⟩) (x := v4) (b := y.1) (s' := y.2) 4 (some 24) [.tmp 23] [kS v4] [kS v4] ⟨[(0, .lf (.val (.func (.yield l) #[] #[]))), (2, .ptr 903301 0), (6, kI rv.2), (20, .lf (.val (.func (.yield l) #[] #[]))), (23, kS v4)], [⟨903301, 9, [kS f]⟩]⟩ hT rfl rfl rfl rfl rfl (ra 3 [kS f, kI rv.2] rfl (zdn none (some (kI rv.2)) rfl Tryz.underlying9 ⟨rfl, rfl⟩ ⟨rfl, rfl⟩ h_v4) rfl rgg) rfl ⟨rfl, trivial⟩ rfl ⟨AV.le_refl _, trivial⟩ rfl rfl h_y rgg ?_
    rcases zm h with ⟨hc3, h⟩ | ⟨hc3, h⟩
    ·
     refine jT hc3 ?_
     obtain rfl := sj h
     exact zcu lzz
    refine jF hc3 ?_
    obtain ⟨v5, h_v5, h⟩ := bnd h
    refine jr (ra 2 [kS f, kI rv.2] rfl (zdn (some (kI rv.2)) none rfl Tryz.underlying9 ⟨rfl, rfl⟩ ⟨rfl, rfl⟩ h_v5) rfl rf) ?_
    refine zaU ?_
    obtain rfl := sj h
    exact zat lzz
   refine jF hc2 ?_
   obtain rfl := sj h
   exact zbv rfl lzz
  rcases q with u | u2
  ·
   refine zcf _ rfl ?_
   obtain rfl := sj h
   exact zpV lzz
  obtain rfl := sj h
  exact zlI lzz
 refine jF hc1 ?_
 refine zx ?_
 obtain ⟨q2, h_q2, h⟩ := bnd h
 refine zig (fun s : (Str × σ) => zG kf v v3 s.1 s.2) (fun s => ⟨⟨52, []⟩, itX I hI F_ s.2, false, #[]⟩) (fun s => ⟨[(0, .lf (.val (.func (.yield l) #[] #[]))), (1, .ptr 903300 0), (2, .ptr 903301 0), (3, .ptr 903302 0)], [⟨903300, 9, [kS v]⟩, ⟨903301, 9, [kS s.1]⟩, ⟨903302, 3, [kI v3]⟩]⟩) (fun o e a w => match o with | (.inl v_) => e = .exit 2 ∧ Sx ⟨⟨52, []⟩, itX I hI F_ v_.2, false, #[]⟩ ⟨[(0, .lf (.val (.func (.yield l) #[] #[]))), (2, .ptr 903301 0)], [⟨903301, 9, [kS v_.1]⟩]⟩ a w | (.inr v_) => e = .ret ∧ Sx ⟨⟨52, []⟩, itX I hI F_ v_, false, #[]⟩ ⟨[], []⟩ a w) ?_ h_q2 rfl lzz ?_
 ·
  clear h
  intro s o h
  obtain ⟨f2, sg5⟩ := s
  refine zj ?_
  replace h : zG kf v v3 f2 sg5 = some o := h
  unfold zG at h
  refine zx ?_
  obtain ⟨rv2, h_rv2, h⟩ := bnd h
  refine jr (rl 2 [1] 11 Tryz.call35 (zhm h_rv2) rf) ?_
  refine jp ?_
  rcases zm h with ⟨hc4, h⟩ | ⟨hc4, h⟩
  ·
   refine jT hc4 ?_
   obtain rfl := sj h
   exact zbv rfl lzz
  refine jF hc4 ?_
  obtain ⟨v6, h_v6, h⟩ := bnd h
  refine jr (ra 4 [kS f2, kI (IntKind.i64.wrap (rv2 + v3))] rfl (zdn none (some (kI (IntKind.i64.wrap (rv2 + v3)))) rfl Tryz.underlying9 ⟨rfl, rfl⟩ ⟨rfl, rfl⟩ h_v6) rfl rf) ?_
  obtain ⟨y2, h_y2, h⟩ := bnd h
  refine zgF (E' := ⟨[(0, .lf (.val (.func (.yield l) #[] #[]))), (1, .ptr 903300 0), (2, .ptr 903301 0), (3, .ptr 903302 0), (7, kI rv2), (42, kB (!y2.1))], [⟨903300, 9, [kS v]⟩, ⟨903301, 9, [kS f2]⟩, ⟨903302, 3, [kI v3]⟩]⟩) (x := v6) (b := y2.1) (s' := y2.2) 2 (some 41) [.tmp 40] [kS v6] [kS v6] ⟨[(0, .lf (.val (.func (.yield l) #[] #[]))), (1, .ptr 903300 0), (2, .ptr 903301 0), (3, .ptr 903302 0), (7, kI rv2), (39, .lf (.val (.func (.yield l) #[] #[]))), (40, kS v6)], [⟨903300, 9, [kS v]⟩, ⟨903301, 9, [kS f2]⟩, ⟨903302, 3, [kI v3]⟩]⟩ hT rfl rfl rfl rfl rfl rgg rfl ⟨rfl, trivial⟩ rfl ⟨AV.le_refl _, trivial⟩ rfl rfl h_y2 rgg ?_
  rcases zm h with ⟨hc5, h⟩ | ⟨hc5, h⟩
  ·
   refine jT hc5 ?_
   obtain rfl := sj h
   exact zcu lzz
  refine jF hc5 ?_
  obtain ⟨v7, h_v7, h⟩ := bnd h
  refine jr (ra 5 [kS f2, kI (IntKind.i64.wrap (rv2 + (v.length : Int)))] rfl (zdn (some (kI (IntKind.i64.wrap (rv2 + (v.length : Int))))) none rfl Tryz.underlying9 ⟨rfl, rfl⟩ ⟨rfl, rfl⟩ h_v7) rfl rf) ?_
  refine zaU ?_
  obtain rfl := sj h
  exact zat lzz
 rcases q2 with u3 | u4
 ·
  refine zcf _ rfl ?_
  obtain ⟨y3, h_y3, h⟩ := bnd h
  refine zgF (E' := ⟨[], []⟩) (x := u3.1) (b := y3.1) (s' := y3.2) 2 (some 51) [.tmp 50] [kS u3.1] [kS u3.1] ⟨[(49, .lf (.val (.func (.yield l) #[] #[]))), (50, kS u3.1)], []⟩ hT rfl rfl rfl rfl rfl rgg rfl ⟨rfl, trivial⟩ rfl ⟨AV.le_refl _, trivial⟩ rfl rfl h_y3 rgg ?_
  obtain rfl := sj h
  exact znO lzz
 obtain rfl := sj h
 exact zlI lzz
theorem zgU {f : zn} {r : Bool} (h : zcq f = some r) : FnOk Tryz.prog 74 [.rc ze [0] f] [kB r] := by
 refine zr (E := ⟨[(2, kB r)], []⟩) 10 Tryz.func74 rfl rfl rfl ⟨rfl, trivial⟩ (fun Xt => ?_)
 refine zj ?_
 unfold zcq at h
 refine jq [11] ?_
 obtain ⟨g, h_g, h⟩ := bnd h
 refine zL ⟨[(2, kB g)], []⟩ ?_ ?_
 ·
  refine (rsl 3 [] 5 f.Repeated (fun hc1 => ?_) (fun hc1 => ?_))
  ·
   replace h_g := iteT h_g hc1
   obtain ⟨rv, h_rv, h_g⟩ := bnd h_g
   obtain rfl := sj h_g
   exact (rl 2 [1] 10 Tryz.call90 (zij h_rv) rgg)
  replace h_g := iteF h_g hc1
  obtain rfl := sj h_g
  exact rgg
 obtain rfl := sj h
 exact zA lzz
theorem zaW {v : (List Str)} {r : (List Str)} (h : zq v = some r) : FnOk Tryz.prog 24 [.fv 38 [.ep (Rp.list Rp.str) [0] v 0]] [.own Rp.str 9 2 [] r] := by
 refine zr (E := ⟨[(2, .own Rp.str 9 2 [] r)], []⟩) 9 Tryz.func24 rfl rfl rfl ⟨rfl, trivial⟩ (fun Xt => ?_)
 refine zj ?_
 unfold zq at h
 refine jp ?_
 obtain ⟨rv, h_rv, h⟩ := bnd h
 refine jr (rl 1 [0] 10 Tryz.call36 (zaR h_rv) rf) ?_
 obtain ⟨rv3, h_rv3, h⟩ := bnd h
 refine jr (rkl 1 [] ⟨[(3, .own Rp.str 9 12 [] rv), (6, .own Rp.str 9 12 [] rv)], []⟩ (zfI ⟨[(3, .own Rp.str 9 12 [] rv3), (6, .own Rp.str 9 12 [] rv3)], []⟩ (zki [.own Rp.str 9 12 [] rv] [(12, 2)] [1] 12 [] rfl Tryz.call37 (zda h_rv3) rfl rfl (by kernel_rfl) rfl rfl rfl) rfl (by kernel_rfl) (by kernel_rfl) ⟨⟨_, rfl, zdz 0 rfl⟩, ⟨_, rfl, zdz 0 rfl⟩, trivial⟩ trivial rf)) ?_
 refine jp ?_
 obtain rfl := sj h
 refine zA ?_
 refine lk [2] [] 12 2 ?_
 exact lzz
end Go.Proofs.YtmghlnfhcdjbnaaGreatDoor

/-
  The Go functions do what the plain functions say. No condition.
-/
import Derived.Test.YtmghlnfhcdjbnaaGreatDoorG4
import Derived.Test.YtmghlnfhcdjbnaaGreatDoorY
namespace Go.Proofs.YtmghlnfhcdjbnaaGreatDoor
open Go Go.RowKit
set_option linter.unusedVariables false
set_option maxRecDepth 100000
set_option maxHeartbeats 3200000
theorem zhC {sv : (List zk)} {r : Bool} (h : zcY sv = some r) : FnOk Tryz.prog 26 [.sl zt [0] sv] [kB r] := by
 refine zr (E := ⟨[(2, kB r)], []⟩) 12 Tryz.func26 rfl rfl rfl ⟨rfl, trivial⟩ (fun Xt => ?_)
 refine zj ?_
 unfold zcY at h
 refine jp ?_
 obtain ⟨rv, h_rv, h⟩ := bnd h
 refine jr (rl 1 [0] 9 Tryz.call39 (zhB h_rv) (rfl' [11])) ?_
 refine jp ?_
 obtain rfl := sj h
 exact zA lzz
theorem zex {l : (List Str)} {r : Bool} (h : zcc l = some r) : FnOk Tryz.prog 16 [.sl Rp.str [0] l] [kB r] := by
 refine zr (E := ⟨[(2, kB r)], []⟩) 28 Tryz.func16 rfl rfl rfl ⟨rfl, trivial⟩ (fun Xt => ?_)
 refine zj ?_
 unfold zcc at h
 refine jp ?_
 obtain ⟨rv, h_rv, h⟩ := bnd h
 obtain ⟨rv2, h_rv2, h⟩ := bnd h
 refine jr (rl 1 [0] 0 Tryz.call25 (zcV h_rv) (rc 0 rfl (zE.le (ins' := [(.tmp 7, .fv 38 [.bp (Rp.list Rp.str) 22 903800 [0] rv])]) (zmG (args := [.tmp 7]) [.fv 38 [.ep (Rp.list Rp.str) [903800, 0] rv 0]] [903800, 0] 9 rfl Tryz.call24 (zaW h_rv2) rfl rfl rfl rfl rfl) ⟨⟨rfl, zqx ⟨zpp _ _ _ _ _ _ rfl, trivial⟩⟩, trivial⟩) (ra 0 [.own Rp.str 9 11 [] rv2] rfl (zpZ rfl Tryz.call23 cm23) rfl rf))) ?_
 obtain ⟨v, h_v, h⟩ := bnd h
 refine jr (ra 2 [kI ((zag rv2).length : Int), kI ((zag rv2).length : Int)] rfl (zpv 12 rfl zoQ rfl h_v) rfl rf) ?_
 refine jp ?_
 refine zx ?_
 obtain ⟨q, h_q, h⟩ := bnd h
 refine zbN (fun s : ((List zk) × Int) => zaf rv2 s.1 s.2) (fun s => ⟨[(3, .own zt 53 12 [] s.1), (13, .own Rp.str 9 11 [] (zag rv2)), (14, kI ((zag rv2).length : Int)), (15, kI s.2)], []⟩) (fun o e a w => e = .exit 0 ∧ Sx ⟨⟨28, []⟩, Xt, false, #[]⟩ ⟨[(3, .own zt 53 12 [] o)], []⟩ a w) ?_ h_q lzz ?_
 ·
  clear h
  intro s o h
  obtain ⟨sv, v2⟩ := s
  refine zj ?_
  replace h : zaf rv2 sv v2 = some o := h
  unfold zaf at h
  refine jp ?_
  rcases zm h with ⟨hc1, h⟩ | ⟨hc1, h⟩
  ·
   refine jT hc1 ?_
   refine zx ?_
   obtain ⟨x, h_x, h⟩ := bnd h
   refine jr (ra 1 [.own Rp.str 9 11 [] (zag rv2), kI v2] rfl (zfU rfl zef.el (zfo _ _ _ _ _) h_x) rfl rf) ?_
   obtain ⟨x2, h_x2, h⟩ := bnd h
   refine jr (ra 3 [.own zt 53 12 [] sv, kI v2] rfl (zqb rfl zoQ.el h_x2) rfl (rkl 1 [] ⟨[(3, .own zt 53 12 [] sv), (13, .own Rp.str 9 11 [] (zag rv2)), (14, kI ((zag rv2).length : Int)), (15, kI v2), (22, kS x), (24, .ptr 12 ((Int.toNat v2 * zt.size) + 0))], []⟩ (zqk (r := zt) (e := 53) (C := []) (xs := sv) [3] (Int.toNat v2) 0 x2 (⟨x, x2.Fields⟩ : zk) [] rfl rfl rfl rfl rfl rfl Tryz.sizeOf9 rfl (by kernel_rfl) rfl (zpg h_x2) rfl rfl rfl rf))) ?_
   refine zaU ?_
   refine jp ?_
   obtain rfl := sj h
   exact zat lzz
  refine jF hc1 ?_
  obtain rfl := sj h
  exact zbv rfl lzz
 refine zcf _ rfl ?_
 obtain ⟨rv3, h_rv3, h⟩ := bnd h
 refine jr (rl 1 [12] 12 Tryz.call26 (zhC h_rv3) rf) ?_
 obtain rfl := sj h
 exact zA lzz
theorem zfW {p : Str} {r : ((List Str) × Int)} (h : zdh p = some r) : FnOk Tryz.prog 6 [kS p] [.own Rp.str 9 3 [] r.1, k8 r.2] := by
 refine zji (E := ⟨[(2, .ptr 2 0), (3, .ptr 4 0)], [⟨2, 22, [.own Rp.str 9 3 [] r.1]⟩, ⟨4, 25, [k8 r.2]⟩]⟩) 20 Tryz.func6 rfl rfl rfl ⟨⟨_, _, rfl, rfl, rfl, rfl⟩, ⟨_, _, rfl, rfl, rfl, rfl⟩, trivial⟩ rfl rfl (fun Xt => ?_)
 refine zj ?_
 unfold zdh at h
 refine jq [17, 18] ?_
 refine jq [19] ?_
 obtain ⟨rv, h_rv, h⟩ := bnd h
 refine jr (rl 1 [1] 0 Tryz.call15 (zfO h_rv) rf) ?_
 refine zx ?_
 obtain ⟨q, h_q, h⟩ := bnd h
 refine zfp (E' := ⟨[(2, .ptr 17 0), (3, .ptr 18 0), (4, .ptr 19 0), (7, .fv 33 [.bp Rp.str 9 903300 [] rv.1, .bp Rp.str 9 903301 [] rv.2.1, .bp (Rp.int .i64) 3 903302 [] rv.2.2])], [⟨17, 22, [kN]⟩, ⟨18, 25, [k8 0]⟩, ⟨19, 22, [.own Rp.str 9 22 [] []]⟩]⟩) ?_ ?_
 ·
  refine zcQ ⟨[(2, .ptr 17 0), (3, .ptr 18 0), (4, .ptr 19 0), (7, .fv 33 [.bp Rp.str 9 903300 [] rv.1, .bp Rp.str 9 903301 [] rv.2.1, .bp (Rp.int .i64) 3 903302 [] rv.2.2])], [⟨17, 22, [kN]⟩, ⟨18, 25, [k8 0]⟩, ⟨19, 22, [kN]⟩]⟩ (by kernel_rfl) ?_
  refine zjr 19 0 (.own Rp.str 9 22 [] []) rfl rfl (zcK Rp.str 9 22 [] rfl) ?_
  exact lzz
 refine zkK (it := fun {σ : Type} (kf : Rnd σ Str) (sg : σ) => zaw rv.1 rv.2.1 rv.2.2 kf sg) (zfb rv.1 rv.2.1 rv.2.2) [903300, 903301, 903302] [2, 3, 4] [17, 18, 19] [(2, .ptr 17 0), (3, .ptr 18 0), (4, .ptr 19 0)] (fun s : (List Str) => [⟨17, 22, [kN]⟩, ⟨18, 25, [k8 0]⟩, ⟨19, 22, [.own Rp.str 9 22 [] s]⟩]) (fun o : (List Str) => [⟨17, 22, [kN]⟩, ⟨18, 25, [k8 12]⟩, ⟨19, 22, [.own Rp.str 9 22 [] o]⟩]) (fun o : (List Str) => .ret) (fun (s : (List Str)) (x : Str) => zaY s x) (fun (s : (List Str)) (x : Str) => ⟨[(2, .ptr 17 0), (3, .ptr 18 0), (4, .ptr 19 0), (5, kS x)], [⟨17, 22, [kN]⟩, ⟨18, 25, [k8 0]⟩, ⟨19, 22, [.own Rp.str 9 22 [] s]⟩]⟩) rfl rfl Tryz.call33 rfl rfl rfl rfl rfl rfl (fun _ => rfl) (fun o => rfl) rfl rfl (fun _ => rfl) ?_ (fun _ _ => ⟨rfl, rfl⟩) ?_ h_q ?_
 ·
  clear h
  intro Xr old f x
  refine zj ?_
  refine zfp (E' := ⟨[(8, kS x), (2, .ptr 17 0), (3, .ptr 18 0), (4, .ptr 19 0)], [⟨17, 22, [kN]⟩, ⟨18, 25, [k8 0]⟩, ⟨19, 22, [.own Rp.str 9 22 [] f]⟩]⟩) (fun _ _ _ hs => hs) ?_
  refine jp ?_
  exact zat lzz
 ·
  clear h
  intro Xr old f x o h
  refine zj ?_
  refine zfp (E' := ⟨[(2, .ptr 17 0), (3, .ptr 18 0), (4, .ptr 19 0), (5, kS x)], [⟨17, 22, [kN]⟩, ⟨18, 25, [k8 0]⟩, ⟨19, 22, [.own Rp.str 9 22 [] f]⟩]⟩) (fun _ _ _ hs => hs) ?_
  replace h : zaY f x = some o := h
  unfold zaY at h
  refine zx ?_
  refine jp ?_
  rcases zm h with ⟨hc1, h⟩ | ⟨hc1, h⟩
  ·
   refine jT hc1 ?_
   refine jp ?_
   obtain rfl := sj h
   exact zph lzz
  refine jF hc1 ?_
  obtain ⟨v, h_v, h⟩ := bnd h
  refine jr (rc 2 rfl (zlW [kS x] 23 [] ([x] : (List Str)) rfl zef rfl rfl rfl rfl) (ra 0 [.own Rp.str 9 22 [] f, .own Rp.str 9 23 [] ([x] : (List Str))] rfl (zlV 22 [] rfl zef.el rfl (zhb _ _ _ _ _) (zfo _ _ _ _ _) h_v (.inl zhg) rfl) rfl rf)) ?_
  refine zaU ?_
  obtain rfl := sj h
  exact zat lzz
 rcases q with u | j
 ·
  refine zfp (E' := ⟨[(2, .ptr 17 0), (3, .ptr 18 0), (4, .ptr 19 0)], [⟨17, 22, [kN]⟩, ⟨18, 25, [k8 0]⟩, ⟨19, 22, [.own Rp.str 9 22 [] u]⟩]⟩) (fun _ _ _ hs => hs) ?_
  refine zaU ?_
  obtain ⟨rv2, h_rv2, h⟩ := bnd h
  refine jr (rl 1 [22] 22 Tryz.call16 (zex h_rv2) rf) ?_
  rcases zm h with ⟨hc2, h⟩ | ⟨hc2, h⟩
  ·
   refine jT hc2 ?_
   refine jp ?_
   obtain rfl := sj h
   refine zA ?_
   refine lk [2, 3] [17, 18] 17 2 ?_
   refine lk [2, 3] [2, 18] 18 4 ?_
   refine zcQ ⟨[(2, .ptr 2 0), (3, .ptr 4 0)], [⟨2, 22, [kN]⟩, ⟨4, 25, [k8 12]⟩]⟩ (by kernel_rfl) ?_
   refine zjr 2 0 (.own Rp.str 9 3 [] (([], 12) : ((List Str) × Int)).1) rfl rfl (zcK Rp.str 9 3 [] rfl) ?_
   exact lzz
  refine jF hc2 ?_
  refine jp ?_
  obtain rfl := sj h
  refine zA ?_
  refine lk [2, 3] [17, 18] 17 2 ?_
  refine lk [2, 3] [2, 18] 18 4 ?_
  refine lk [2, 3] [2, 4] 22 3 ?_
  exact lzz
 refine zfp (E' := ⟨[(2, .ptr 17 0), (3, .ptr 18 0), (4, .ptr 19 0)], [⟨17, 22, [kN]⟩, ⟨18, 25, [k8 12]⟩, ⟨19, 22, [.own Rp.str 9 22 [] j]⟩]⟩) (fun _ _ _ hs => hs) ?_
 obtain rfl := sj h
 refine zA ?_
 refine lk [2, 3] [17, 18] 17 2 ?_
 refine lk [2, 3] [2, 18] 18 4 ?_
 refine zcQ ⟨[(2, .ptr 2 0), (3, .ptr 4 0)], [⟨2, 22, [kN]⟩, ⟨4, 25, [k8 12]⟩]⟩ (by kernel_rfl) ?_
 refine zjr 2 0 (.own Rp.str 9 3 [] (([], 12) : ((List Str) × Int)).1) rfl rfl (zcK Rp.str 9 3 [] rfl) ?_
 exact lzz
theorem zkb {l : (List Str)} {r : (Str × Int)} (h : zew l = some r) : FnOk Tryz.prog 8 [.sl Rp.str [0] l] [kS r.1, k8 r.2] := by
 refine zr (E := ⟨[(2, kS r.1), (3, k8 r.2)], []⟩) 14 Tryz.func8 rfl rfl rfl ⟨rfl, rfl, trivial⟩ (fun Xt => ?_)
 refine zj ?_
 unfold zew at h
 refine jp ?_
 obtain ⟨g, h_g, h⟩ := bnd h
 refine zL ⟨[(0, .sl Rp.str [0] l), (11, kB g)], []⟩ ?_ ?_
 ·
  refine (rsl 4 [] 7 (decide ((l.length : Int) > 65)) (fun hc1 => ?_) (fun hc1 => ?_))
  ·
   replace h_g := iteT h_g hc1
   obtain rfl := sj h_g
   exact rgg
  replace h_g := iteF h_g hc1
  obtain ⟨rv, h_rv, h_g⟩ := bnd h_g
  obtain rfl := sj h_g
  exact (rl 1 [0] 9 Tryz.call16 (zex h_rv) rgg)
 rcases zm h with ⟨hc2, h⟩ | ⟨hc2, h⟩
 ·
  refine jT hc2 ?_
  refine jp ?_
  obtain rfl := sj h
  exact zA lzz
 refine jF hc2 ?_
 obtain ⟨rv2, h_rv2, h⟩ := bnd h
 refine jr (rl 1 [0] 9 Tryz.call18 (zhD h_rv2) rf) ?_
 obtain rfl := sj h
 exact zA lzz
theorem zcE {p : Str} {r : Bool} (h : zaV p = some r) : FnOk Tryz.prog 11 [kS p] [kB r] := by
 refine zr (E := ⟨[(2, kB r)], []⟩) 12 Tryz.func11 rfl rfl rfl ⟨rfl, trivial⟩ (fun Xt => ?_)
 refine zj ?_
 unfold zaV at h
 refine jp ?_
 obtain ⟨rv, h_rv, h⟩ := bnd h
 refine jr (rl 1 [1] 9 Tryz.call6 (zfW h_rv) rf) ?_
 refine jp ?_
 obtain rfl := sj h
 exact zA lzz
theorem zfX {p : Str} {q : Str} {r : Bool} (h : zdS p q = some r) : FnOk Tryz.prog 14 [kS p, kS q] [kB r] := by
 refine zr (E := ⟨[(4, kB r)], []⟩) 18 Tryz.func14 rfl rfl rfl ⟨rfl, trivial⟩ (fun Xt => ?_)
 refine zj ?_
 unfold zdS at h
 refine jp ?_
 obtain ⟨g, h_g, h⟩ := bnd h
 refine zL ⟨[(4, kB g)], []⟩ ?_ ?_
 ·
  obtain ⟨rv, h_rv, h_g⟩ := bnd h_g
  refine (rl 1 [1] 9 Tryz.call11 (zcE h_rv) (rsl 1 [] 7 rv (fun hc1 => ?_) (fun hc1 => ?_)))
  ·
   replace h_g := iteT h_g hc1
   obtain ⟨rv2, h_rv2, h_g⟩ := bnd h_g
   refine (rl 1 [1] 9 Tryz.call11 (zcE h_rv2) (rsl 2 [] 11 rv2 (fun hc2 => ?_) (fun hc2 => ?_)))
   ·
    replace h_g := iteT h_g hc2
    obtain ⟨v, h_v, h_g⟩ := bnd h_g
    obtain ⟨v2, h_v2, h_g⟩ := bnd h_g
    obtain ⟨rv3, h_rv3, h_g⟩ := bnd h_g
    obtain rfl := sj h_g
    exact (ra 1 [kS p, kS [46]] rfl (zjX rfl h_v) rfl (ra 1 [kS q, kS [46]] rfl (zjX rfl h_v2) rfl (rl 0 [1] 9 Tryz.call21 (zfB h_rv3) rgg)))
   replace h_g := iteF h_g hc2
   obtain rfl := sj h_g
   exact rgg
  replace h_g := iteF h_g hc1
  obtain rfl := sj h_g
  exact rgg
 obtain rfl := sj h
 exact zA lzz
theorem ziy {p : Str} {r : (Str × Bool)} (h : zdw p = some r) : FnOk Tryz.prog 9 [kS p] [kS r.1, kB r.2] := by
 refine zr (E := ⟨[(2, kS r.1), (3, kB r.2)], []⟩) 17 Tryz.func9 rfl rfl rfl ⟨rfl, rfl, trivial⟩ (fun Xt => ?_)
 refine zj ?_
 unfold zdw at h
 refine jp ?_
 obtain ⟨rv, h_rv, h⟩ := bnd h
 refine jr (rl 1 [1] 9 Tryz.call19 (zfC h_rv) rf) ?_
 obtain ⟨g, h_g, h⟩ := bnd h
 refine zL ⟨[(0, kS p), (4, kI rv), (13, kB g)], []⟩ ?_ ?_
 ·
  refine (rsl 3 [] 9 (decide (rv < 0)) (fun hc1 => ?_) (fun hc1 => ?_))
  ·
   replace h_g := iteT h_g hc1
   obtain rfl := sj h_g
   exact rgg
  replace h_g := iteF h_g hc1
  obtain ⟨rv2, h_rv2, h_g⟩ := bnd h_g
  obtain rfl := sj h_g
  exact (rl 1 [1] 9 Tryz.call11 (zcE h_rv2) rgg)
 rcases zm h with ⟨hc2, h⟩ | ⟨hc2, h⟩
 ·
  refine jT hc2 ?_
  refine jp ?_
  obtain rfl := sj h
  exact zA lzz
 refine jF hc2 ?_
 obtain ⟨v2, h_v2, h⟩ := bnd h
 refine jr (ra 2 [kS p, kI rv] rfl (zdn none (some (kI rv)) rfl Tryz.underlying9 ⟨rfl, rfl⟩ ⟨rfl, rfl⟩ h_v2) rfl rf) ?_
 obtain rfl := sj h
 exact zA lzz
theorem zeW  {r : Bool} (h : zbp = some r) : FnOk Tryz.prog 4 [] [kB r] := by
 refine zr (E := ⟨[(0, kB r)], []⟩) 9 Tryz.func4 rfl rfl rfl ⟨rfl, trivial⟩ (fun Xt => ?_)
 refine zj ?_
 unfold zbp at h
 refine jp ?_
 obtain ⟨g, h_g, h⟩ := bnd h
 refine zL ⟨[(0, kB g)], []⟩ ?_ ?_
 ·
  obtain ⟨rv, h_rv, h_g⟩ := bnd h_g
  refine (rl 0 [1] 9 Tryz.call14 (zfX h_rv) (rsl 1 [] 2 rv (fun hc1 => ?_) (fun hc1 => ?_)))
  ·
   replace h_g := iteT h_g hc1
   obtain ⟨rv2, h_rv2, h_g⟩ := bnd h_g
   refine (rl 0 [1] 9 Tryz.call14 (zfX h_rv2) (rsl 3 [] 6 (!rv2) (fun hc2 => ?_) (fun hc2 => ?_)))
   ·
    replace h_g := iteT h_g hc2
    obtain ⟨rv3, h_rv3, h_g⟩ := bnd h_g
    obtain rfl := sj h_g
    exact (rl 0 [1] 9 Tryz.call11 (zcE h_rv3) rgg)
   replace h_g := iteF h_g hc2
   obtain rfl := sj h_g
   exact rgg
  replace h_g := iteF h_g hc1
  obtain rfl := sj h_g
  exact rgg
 obtain rfl := sj h
 exact zA lzz
theorem zdL {p : Str} {l : (List Str)} {r : Bool} (h : zbd p l = some r) : FnOk Tryz.prog 3 [kS p, .sl Rp.str [0] l] [kB r] := by
 refine zr (E := ⟨[(4, kB r)], []⟩) 108 Tryz.func3 rfl rfl rfl ⟨rfl, trivial⟩ (fun Xt => ?_)
 refine zj ?_
 unfold zbd at h
 refine jp ?_
 obtain ⟨rv, h_rv, h⟩ := bnd h
 refine jr (rl 0 [1] 9 Tryz.call4 (zeW h_rv) rf) ?_
 rcases zm h with ⟨hc1, h⟩ | ⟨hc1, h⟩
 ·
  refine jT hc1 ?_
  refine jp ?_
  obtain rfl := sj h
  exact zA lzz
 refine jF hc1 ?_
 obtain ⟨g, h_g, h⟩ := bnd h
 refine zL ⟨[(0, kS p), (1, .sl Rp.str [0] l), (22, kB g)], []⟩ ?_ ?_
 ·
  refine (rsl 4 [] 19 (decide ((p.length : Int) > 6000)) (fun hc2 => ?_) (fun hc2 => ?_))
  ·
   replace h_g := iteT h_g hc2
   obtain rfl := sj h_g
   exact rgg
  replace h_g := iteF h_g hc2
  obtain ⟨rv2, h_rv2, h_g⟩ := bnd h_g
  obtain rfl := sj h_g
  exact (rl 1 [0] 9 Tryz.call5 (zfk h_rv2) rgg)
 rcases zm h with ⟨hc3, h⟩ | ⟨hc3, h⟩
 ·
  refine jT hc3 ?_
  refine jp ?_
  obtain rfl := sj h
  exact zA lzz
 refine jF hc3 ?_
 obtain ⟨rv3, h_rv3, h⟩ := bnd h
 refine jr (rl 1 [1] 9 Tryz.call6 (zfW h_rv3) rf) ?_
 obtain ⟨rv4, h_rv4, h⟩ := bnd h
 refine jr (rl 1 [1] 11 Tryz.call7 (zeY h_rv4) rf) ?_
 obtain ⟨rv5, h_rv5, h⟩ := bnd h
 refine jr (rl 1 [0] 12 Tryz.call8 (zkb h_rv5) rf) ?_
 obtain ⟨rv6, h_rv6, h⟩ := bnd h
 refine jr (rl 1 [1] 12 Tryz.call9 (ziy h_rv6) rf) ?_
 obtain ⟨g2, h_g2, h⟩ := bnd h
 refine zL ⟨[(1, .sl Rp.str [0] l), (7, .own Rp.str 9 13 [] rv4.1), (9, kS rv5.1), (10, k8 rv5.2), (11, kS rv6.1), (12, kB rv6.2), (69, kB g2)], []⟩ ?_ ?_
 ·
  obtain ⟨rv7, h_rv7, h_g2⟩ := bnd h_g2
  refine (rl 2 [12, 13] 12 Tryz.call10 (zfl h_rv7) (rsl 2 [] 47 (!rv7) (fun hc4 => ?_) (fun hc4 => ?_)))
  ·
   replace h_g2 := iteT h_g2 hc4
   obtain rfl := sj h_g2
   exact rgg
  replace h_g2 := iteF h_g2 hc4
  obtain ⟨rv8, h_rv8, h_g2⟩ := bnd h_g2
  refine (rl 1 [1] 12 Tryz.call11 (zcE h_rv8) (rsl 4 [] 53 (!(rv8 == rv4.2)) (fun hc5 => ?_) (fun hc5 => ?_)))
  ·
   replace h_g2 := iteT h_g2 hc5
   obtain rfl := sj h_g2
   exact rgg
  replace h_g2 := iteF h_g2 hc5
  refine (rsl 2 [] 55 rv4.2 (fun hc6 => ?_) (fun hc6 => ?_))
  ·
   replace h_g2 := iteT h_g2 hc6
   refine (rsl 6 [] 61 ((IntKind.i64.wrap rv3.2) != 0) (fun hc7 => ?_) (fun hc7 => ?_))
   ·
    replace h_g2 := iteT h_g2 hc7
    obtain rfl := sj h_g2
    exact rgg
   replace h_g2 := iteF h_g2 hc7
   refine (rsl 3 [] 64 (!rv4.2) (fun hc8 => ?_) (fun hc8 => ?_))
   ·
    replace h_g2 := iteT h_g2 hc8
    obtain rfl := sj h_g2
    exact rgg
   replace h_g2 := iteF h_g2 hc8
   obtain rfl := sj h_g2
   exact rgg
  replace h_g2 := iteF h_g2 hc6
  refine (rsl 9 [] 64 (!rv4.2) (fun hc9 => ?_) (fun hc9 => ?_))
  ·
   replace h_g2 := iteT h_g2 hc9
   obtain rfl := sj h_g2
   exact rgg
  replace h_g2 := iteF h_g2 hc9
  obtain rfl := sj h_g2
  exact rgg
 rcases zm h with ⟨hc10, h⟩ | ⟨hc10, h⟩
 ·
  refine jT hc10 ?_
  refine jp ?_
  obtain rfl := sj h
  exact zA lzz
 refine jF hc10 ?_
 refine jp ?_
 refine jp ?_
 obtain ⟨p2, h_p2, h⟩ := bnd h
 refine zhI (R := fun e a w => e = .normal ∧ Sx ⟨⟨108, []⟩, Xt, false, #[]⟩ ⟨[(1, .sl Rp.str [0] l), (7, .own Rp.str 9 13 [] rv4.1), (9, kS rv5.1), (10, k8 rv5.2), (11, kS rv6.1), (12, kB rv6.2), (13, kS p2)], []⟩ a w) ?_ ?_
 ·
  replace h := h_p2
  refine zj ?_
  rcases zm h with ⟨hc11, h⟩ | ⟨hc11, h⟩
  ·
   refine jT hc11 ?_
   obtain ⟨v3, h_v3, h⟩ := bnd h
   obtain ⟨rv9, h_rv9, h⟩ := bnd h
   refine jr (ra 4 [.own Rp.str 9 13 [] rv4.1, kI (IntKind.i64.wrap ((rv4.1.length : Int) - 1))] rfl (zqa none (some (kI (IntKind.i64.wrap ((rv4.1.length : Int) - 1)))) rfl zef.el (zfo _ _ _ _ _) ⟨rfl, rfl⟩ ⟨rfl, rfl⟩ h_v3) rfl (rl 0 [13] 12 Tryz.call12 (zdq h_rv9) rf)) ?_
   obtain rfl := sj h
   exact zat lzz
  refine jF hc11 ?_
  obtain rfl := sj h
  exact zat lzz
 refine zlH ?_
 refine zL ⟨[(1, .sl Rp.str [0] l), (9, kS rv5.1), (10, k8 rv5.2), (88, kB ((!(rv6.1 == p2)) || (!(rv6.2 == (decide ((rv4.1.length : Int) > 1))))))], []⟩ ?_ ?_
 ·
  refine (rsl 4 [] 82 (!(rv6.1 == p2)) (fun hc12 => ?_) (fun hc12 => ?_))
  · exact (rbl [] 88 true ((!(rv6.1 == p2)) || (!(rv6.2 == (decide ((rv4.1.length : Int) > 1))))) (by rw [hc12] <;> rfl))
  exact (rbl [] 88 (!(rv6.2 == (decide ((rv4.1.length : Int) > 1)))) ((!(rv6.1 == p2)) || (!(rv6.2 == (decide ((rv4.1.length : Int) > 1))))) (by rw [hc12] <;> rfl))
 rcases zm h with ⟨hc13, h⟩ | ⟨hc13, h⟩
 ·
  refine jT hc13 ?_
  refine jp ?_
  obtain rfl := sj h
  exact zA lzz
 refine jF hc13 ?_
 obtain ⟨rv10, h_rv10, h⟩ := bnd h
 refine jr (rl 1 [0] 12 Tryz.call13 (zeX h_rv10) rf) ?_
 rcases zm h with ⟨hc14, h⟩ | ⟨hc14, h⟩
 ·
  refine jT hc14 ?_
  refine zL ⟨[(4, kB (((IntKind.i64.wrap rv5.2) == 12) && (rv5.1 == [])))], []⟩ ?_ ?_
  ·
   refine (rsl 4 [] 95 ((IntKind.i64.wrap rv5.2) == 12) (fun hc15 => ?_) (fun hc15 => ?_))
   · exact (rbl [] 4 (rv5.1 == []) (((IntKind.i64.wrap rv5.2) == 12) && (rv5.1 == [])) (by rw [hc15] <;> rfl))
   exact (rbl [] 4 false (((IntKind.i64.wrap rv5.2) == 12) && (rv5.1 == [])) (by rw [hc15] <;> rfl))
  obtain rfl := sj h
  exact zA lzz
 refine jF hc14 ?_
 obtain ⟨g3, h_g3, h⟩ := bnd h
 refine zL ⟨[(4, kB g3)], []⟩ ?_ ?_
 ·
  refine (rsl 4 [] 102 ((IntKind.i64.wrap rv5.2) == 0) (fun hc16 => ?_) (fun hc16 => ?_))
  ·
   replace h_g3 := iteT h_g3 hc16
   obtain ⟨rv11, h_rv11, h_g3⟩ := bnd h_g3
   obtain rfl := sj h_g3
   exact (rl 2 [0] 12 Tryz.call12 (zdq h_rv11) rgg)
  replace h_g3 := iteF h_g3 hc16
  obtain rfl := sj h_g3
  exact rgg
 obtain rfl := sj h
 exact zA lzz
end Go.Proofs.YtmghlnfhcdjbnaaGreatDoor

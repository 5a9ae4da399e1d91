/-
  The Go functions do what the plain functions say. No condition.
-/
import Derived.Test.YtglkepeofhonlaaGreatDoorG1
import Derived.Test.YtglkepeofhonlaaGreatDoorG2
import Derived.Test.YtglkepeofhonlaaGreatDoorY
namespace Go.Proofs.YtglkepeofhonlaaGreatDoor
open Go Go.RowKit
set_option linter.unusedVariables false
set_option maxRecDepth 100000
set_option maxHeartbeats 3200000
theorem zwo  {r : (List Int)} (h : zny = some r) : FnOk Tryz.prog 88 [] [.own (Rp.int .i64) 3 2 [] r] := by
 refine zo (E := ⟨[(0, .own (Rp.int .i64) 3 2 [] r)], []⟩) 4 Tryz.func88 rfl rfl rfl ⟨rfl, trivial⟩ (fun Xt => ?_)
 refine zh ?_
 unfold zny at h
 refine jp ?_
 obtain ⟨rv, h_rv, h⟩ := bnd h
 obtain ⟨v, h_v, h⟩ := bnd h
 refine jr (rl 0 [1] 11 Tryz.call112 (zoI h_rv) (rkl 0 [] ⟨[(1, .om (Rp.int .i64) zr 13 [] rv)], []⟩ (zBc (rv := zr) (m := rv) 14 zzD rfl rfl rfl rfl rfl rfl Tryz.call111 Tryz.call110 rfl (zjY _ _ _ _ _) h_v rfl rf))) ?_
 obtain rfl := sj h
 refine zp ?_
 refine lk [0] [] 14 2 ?_
 exact lzz
theorem zlT {name : Str} {r : Bool} (h : zgV name = some r) : FnOk Tryz.prog 113 [kS name] [kB r] := by
 refine zo (E := ⟨[(2, kB r)], []⟩) 34 Tryz.func113 rfl rfl rfl ⟨rfl, trivial⟩ (fun Xt => ?_)
 refine zh ?_
 unfold zgV at h
 refine jp ?_
 obtain ⟨g, h_g, h⟩ := bnd h
 refine zN ⟨[(0, kS name), (15, kB g)], []⟩ ?_ ?_
 ·
  refine (rsl 3 [] 6 (name == []) (fun hc1 => ?_) (fun hc1 => ?_))
  ·
   replace h_g := iteT h_g hc1
   obtain rfl := sj h_g
   exact rgg
  replace h_g := iteF h_g hc1
  refine (rsl 5 [] 11 (decide ((name.length : Int) > 60)) (fun hc2 => ?_) (fun hc2 => ?_))
  ·
   replace h_g := iteT h_g hc2
   obtain rfl := sj h_g
   exact rgg
  replace h_g := iteF h_g hc2
  obtain ⟨c, h_c, h_g⟩ := bnd h_g
  obtain ⟨rv, h_rv, h_g⟩ := bnd h_g
  obtain rfl := sj h_g
  exact (ra 1 [kS name, kI 0] rfl (zmo rfl Tryz.underlying9 h_c) rfl (rl 0 [1] 9 Tryz.call136 (zla h_rv) rgg))
 rcases zg h with ⟨hc3, h⟩ | ⟨hc3, h⟩
 ·
  refine jT hc3 ?_
  refine jp ?_
  obtain rfl := sj h
  exact zp lzz
 refine jF hc3 ?_
 refine jp ?_
 refine zn ?_
 obtain ⟨q, h_q, h⟩ := bnd h
 refine zam (fun s : Int => zbZ name s) (fun s => ⟨[(0, kS name), (17, kI (name.length : Int)), (18, kI s)], []⟩) (fun o e a w => match o with | (.inl v_) => e = .exit 0 ∧ Sx ⟨⟨34, []⟩, Xt, false, #[]⟩ ⟨[], []⟩ a w | (.inr v_) => e = .ret ∧ Sx ⟨⟨34, []⟩, Xt, false, #[]⟩ ⟨[(2, kB false)], []⟩ a w) ?_ h_q lzz ?_
 ·
  clear h
  intro v2 o h
  refine zh ?_
  replace h : zbZ name v2 = some o := h
  unfold zbZ at h
  refine jp ?_
  rcases zg h with ⟨hc4, h⟩ | ⟨hc4, h⟩
  ·
   refine jT hc4 ?_
   refine zn ?_
   refine jp ?_
   obtain ⟨g2, h_g2, h⟩ := bnd h
   refine zN ⟨[(0, kS name), (17, kI (name.length : Int)), (18, kI v2), (32, kB g2)], []⟩ ?_ ?_
   ·
    obtain ⟨c2, h_c2, h_g2⟩ := bnd h_g2
    obtain ⟨rv2, h_rv2, h_g2⟩ := bnd h_g2
    refine (ra 2 [kS name, kI v2] rfl (zmo rfl Tryz.underlying9 h_c2) rfl (rl 0 [1] 10 Tryz.call137 (zpr h_rv2) (rsl 2 [] 26 (!rv2) (fun hc5 => ?_) (fun hc5 => ?_))))
    ·
     replace h_g2 := iteT h_g2 hc5
     obtain ⟨c3, h_c3, h_g2⟩ := bnd h_g2
     obtain ⟨rv3, h_rv3, h_g2⟩ := bnd h_g2
     obtain rfl := sj h_g2
     exact (ra 2 [kS name, kI v2] rfl (zmo rfl Tryz.underlying9 h_c3) rfl (rl 0 [1] 10 Tryz.call136 (zla h_rv3) rgg))
    replace h_g2 := iteF h_g2 hc5
    obtain rfl := sj h_g2
    exact rgg
   rcases zg h with ⟨hc6, h⟩ | ⟨hc6, h⟩
   ·
    refine jT hc6 ?_
    refine jp ?_
    obtain rfl := sj h
    exact zaW lzz
   refine jF hc6 ?_
   refine zaf ?_
   refine jp ?_
   obtain rfl := sj h
   exact zJ lzz
  refine jF hc4 ?_
  obtain rfl := sj h
  exact zai rfl lzz
 rcases q with u | u2
 ·
  refine zaJ _ rfl ?_
  refine jp ?_
  obtain rfl := sj h
  exact zp lzz
 obtain rfl := sj h
 exact zdi lzz
theorem zjB {sv : (List Int)} {v : Int} {r : Bool} (h : zcI sv v = some r) : FnOk Tryz.prog 115 [.sl (Rp.int .i64) [0] sv, kI v] [kB r] := by
 refine zo (E := ⟨[(4, kB r)], []⟩) 9 Tryz.func115 rfl rfl rfl ⟨rfl, trivial⟩ (fun Xt => ?_)
 refine zh ?_
 unfold zcI at h
 refine jp ?_
 obtain ⟨rv, h_rv, h⟩ := bnd h
 refine jr (rl 2 [0] 9 Tryz.call138 (zkA h_rv) rf) ?_
 obtain rfl := sj h
 exact zp lzz
theorem zuT {k : Int} {r : (Int × Int)} (h : zlG k = some r) : FnOk Tryz.prog 149 [kI k] [kI r.1, k8 r.2] := by
 refine zo (E := ⟨[(2, kI r.1), (3, k8 r.2)], []⟩) 16 Tryz.func149 rfl rfl rfl ⟨rfl, rfl, trivial⟩ (fun Xt => ?_)
 refine zh ?_
 unfold zlG at h
 refine jp ?_
 obtain ⟨rv, h_rv, h⟩ := bnd h
 refine jr (rl 0 [1] 9 Tryz.call112 (zoI h_rv) (ra 1 [.om (Rp.int .i64) zr 11 [] rv, kI k] rfl (zsy (rk := (Rp.int .i64)) (rv := zr) (m := rv) (k := k) (.rc zr [11] ((mget rv k).getD (⟨[], 0⟩ : zk))) rfl zfC (zjY _ _ _ _ _) (zfi rfl rfl) (zBE rfl)) rfl (rfl' [12]))) ?_
 refine jp ?_
 rcases zg h with ⟨hc1, h⟩ | ⟨hc1, h⟩
 ·
  refine jT hc1 ?_
  refine jp ?_
  obtain rfl := sj h
  exact zp lzz
 refine jF hc1 ?_
 refine jp ?_
 obtain rfl := sj h
 exact zp lzz
theorem zid {sv : Str} {r : (Int × Int)} (h : zee sv = some r) : FnOk Tryz.prog 119 [kS sv] [.lf (.int .i32 r.1), kI r.2] := by
 refine zo (E := ⟨[(2, .lf (.int .i32 r.1)), (3, kI r.2)], []⟩) 19 Tryz.func119 rfl rfl rfl ⟨rfl, rfl, trivial⟩ (fun Xt => ?_)
 refine zh ?_
 unfold zee at h
 refine jp ?_
 obtain ⟨g, h_g, h⟩ := bnd h
 refine zN ⟨[(0, kS sv), (10, kB g)], []⟩ ?_ ?_
 ·
  refine (rsl 3 [] 6 (!(sv == [])) (fun hc1 => ?_) (fun hc1 => ?_))
  ·
   replace h_g := iteT h_g hc1
   obtain ⟨c, h_c, h_g⟩ := bnd h_g
   obtain rfl := sj h_g
   exact (ra 1 [kS sv, kI 0] rfl (zmo rfl Tryz.underlying9 h_c) rfl rgg)
  replace h_g := iteF h_g hc1
  obtain rfl := sj h_g
  exact rgg
 rcases zg h with ⟨hc2, h⟩ | ⟨hc2, h⟩
 ·
  refine jT hc2 ?_
  obtain ⟨c2, h_c2, h⟩ := bnd h
  refine jr (ra 1 [kS sv, kI 0] rfl (zmo rfl Tryz.underlying9 h_c2) rfl rf) ?_
  obtain rfl := sj h
  exact zp lzz
 refine jF hc2 ?_
 obtain ⟨rv, h_rv, h⟩ := bnd h
 refine jr (rl 1 [1] 9 Tryz.call140 (zhk h_rv) rf) ?_
 obtain rfl := sj h
 exact zp lzz
theorem zjv {sv : Str} {substr : Str} {r : Int} (h : zdN sv substr = some r) : FnOk Tryz.prog 141 [kS sv, kS substr] [kI r] := by
 refine zo (E := ⟨[(4, kI r)], []⟩) 143 Tryz.func141 rfl rfl rfl ⟨rfl, trivial⟩ (fun Xt => ?_)
 refine zh ?_
 unfold zdN at h
 refine jp ?_
 refine jp ?_
 refine zn ?_
 refine zN ⟨[(0, kS sv), (1, kS substr), (5, kI (substr.length : Int)), (16, kB (((substr.length : Int) == 0) || (substr == sv)))], []⟩ ?_ ?_
 ·
  refine (rsl 3 [] 19 ((substr.length : Int) == 0) (fun hc1 => ?_) (fun hc1 => ?_))
  · exact (rbl [] 16 true (((substr.length : Int) == 0) || (substr == sv)) (by rw [hc1] <;> rfl))
  exact (rbl [] 16 (substr == sv) (((substr.length : Int) == 0) || (substr == sv)) (by rw [hc1] <;> rfl))
 rcases zg h with ⟨hc2, h⟩ | ⟨hc2, h⟩
 ·
  refine jT hc2 ?_
  refine jp ?_
  obtain rfl := sj h
  exact zp lzz
 refine jF hc2 ?_
 refine jp ?_
 rcases zg h with ⟨hc3, h⟩ | ⟨hc3, h⟩
 ·
  refine jT hc3 ?_
  obtain ⟨c, h_c, h⟩ := bnd h
  obtain ⟨rv, h_rv, h⟩ := bnd h
  refine jr (ra 2 [kS substr, kI 0] rfl (zmo rfl Tryz.underlying9 h_c) rfl (rl 0 [1] 9 Tryz.call150 (zix h_rv) rf)) ?_
  obtain rfl := sj h
  exact zp lzz
 refine jF hc3 ?_
 refine jp ?_
 rcases zg h with ⟨hc4, h⟩ | ⟨hc4, h⟩
 ·
  refine jT hc4 ?_
  refine jp ?_
  obtain rfl := sj h
  exact zp lzz
 refine jF hc4 ?_
 exact absurd h nofun
theorem ziy {sv : (List Str)} {r : (List Str)} (h : zcQ sv = some r) : FnOk Tryz.prog 94 [.sl Rp.str [0] sv] [.fv 123 [.bp (Rp.list Rp.str) 24 912300 [0] r]] := by
 refine zo (E := ⟨[(2, .fv 123 [.bp (Rp.list Rp.str) 24 912300 [0] r])], []⟩) 4 Tryz.func94 rfl rfl rfl ⟨rfl, trivial⟩ (fun Xt => ?_)
 refine zh ?_
 unfold zcQ at h
 refine jq [912300] ?_
 refine jr (ra 0 [.ptr 912300 0] rfl (zuX (g := 123) [.tmp 1] [⟨912300, 24, [.sl Rp.str [0] sv]⟩] [.bp (Rp.list Rp.str) 24 912300 [0] sv] rfl ⟨⟨rfl, rfl, rfl, rfl⟩, trivial⟩ rfl) rfl rf) ?_
 obtain rfl := sj h
 exact zp lzz
theorem zcW {v : (List Str)} {r : (List Str)} (h : zad v = some r) : FnOk Tryz.prog 142 [kN, .fv 123 [.ep (Rp.list Rp.str) [0] v 0]] [.own Rp.str 9 2 [] r] := by
 refine zqG (E := ⟨[(4, .own Rp.str 9 2 [] r)], []⟩) 13 Tryz.func142 rfl rfl rfl ⟨rfl, trivial⟩ rfl rfl (fun Xt => ?_)
 refine zh ?_
 unfold zad at h
 refine jq [15] ?_
 refine jp ?_
 refine zn ?_
 obtain ⟨q, h_q, h⟩ := bnd h
 refine zjT (E' := ⟨[(2, .ptr 15 0), (6, .fv 123 [.ep (Rp.list Rp.str) [0] v 0])], [⟨15, 24, [.own Rp.str 9 18 [] []]⟩]⟩) ?_ ?_
 ·
  refine zaS ⟨[(2, .ptr 15 0), (6, .fv 123 [.ep (Rp.list Rp.str) [0] v 0])], [⟨15, 24, [kN]⟩]⟩ (by kernel_rfl) ?_
  refine ziI 15 0 (.own Rp.str 9 18 [] []) rfl rfl (zY Rp.str 9 18 [] rfl) ?_
  exact lzz
 refine zsu (it := fun {σ : Type} (kf : Rnd σ Str) (sg : σ) => zaQ v kf sg) (zhH v) [] [2] [15] [(2, .ptr 15 0)] (fun s : (List Str) => [⟨15, 24, [.own Rp.str 9 18 [] s]⟩]) (fun o : Empty => []) (fun o : Empty => .ret) (fun (s : (List Str)) (x : Str) => zz s x) (fun (s : (List Str)) (x : Str) => ⟨[(2, .ptr 15 0), (5, kS x)], [⟨15, 24, [.own Rp.str 9 18 [] s]⟩]⟩) rfl rfl Tryz.call123 rfl rfl rfl rfl rfl rfl (fun _ => rfl) (fun o => rfl) rfl rfl (fun _ => rfl) ?_ (fun _ _ => ⟨rfl, rfl⟩) ?_ h_q ?_
 ·
  clear h
  intro Xr old f x
  refine zh ?_
  refine zjT (E' := ⟨[(7, kS x), (2, .ptr 15 0)], [⟨15, 24, [.own Rp.str 9 18 [] f]⟩]⟩) (fun _ _ _ hs => hs) ?_
  refine jp ?_
  exact zJ lzz
 ·
  clear h
  intro Xr old f x o h
  refine zh ?_
  refine zjT (E' := ⟨[(2, .ptr 15 0), (5, kS x)], [⟨15, 24, [.own Rp.str 9 18 [] f]⟩]⟩) (fun _ _ _ hs => hs) ?_
  replace h : zz f x = some o := h
  unfold zz at h
  refine zn ?_
  obtain ⟨v2, h_v2, h⟩ := bnd h
  refine jr (rc 2 rfl (zdO [kS x] 19 [] ([x] : (List Str)) rfl zfY rfl rfl rfl rfl) (ra 0 [.own Rp.str 9 18 [] f, .own Rp.str 9 19 [] ([x] : (List Str))] rfl (zes 18 [] rfl zfY.el rfl (zbA _ _ _ _ _) (zbF _ _ _ _ _) h_v2 (.inl zlO) rfl) rfl rf)) ?_
  refine zaf ?_
  obtain rfl := sj h
  exact zJ lzz
 rcases q with u | j
 ·
  refine zjT (E' := ⟨[(2, .ptr 15 0)], [⟨15, 24, [.own Rp.str 9 18 [] u]⟩]⟩) (fun _ _ _ hs => hs) ?_
  refine zaf ?_
  refine jp ?_
  obtain rfl := sj h
  refine zp ?_
  refine lk [4] [] 18 2 ?_
  exact lzz
 exact nomatch j
theorem zej {sv : (List zb)} {v : Str} {r : Int} (h : zaz sv v = some r) : FnOk Tryz.prog 95 [.sl za [0] sv, .fv 80 [.ep Rp.str [0] v 0]] [kI r] := by
 refine zo (E := ⟨[(4, kI r)], []⟩) 19 Tryz.func95 rfl rfl rfl ⟨rfl, trivial⟩ (fun Xt => ?_)
 refine zh ?_
 unfold zaz at h
 refine jp ?_
 refine jp ?_
 refine zn ?_
 obtain ⟨q, h_q, h⟩ := bnd h
 refine zam (fun s : Int => zt sv v s) (fun s => ⟨[(0, .sl za [0] sv), (1, .fv 80 [.ep Rp.str [0] v 0]), (7, kI (sv.length : Int)), (8, kI s)], []⟩) (fun o e a w => match o with | (.inl v_) => e = .exit 0 ∧ Sx ⟨⟨19, []⟩, Xt, false, #[]⟩ ⟨[], []⟩ a w | (.inr v_) => e = .ret ∧ Sx ⟨⟨19, []⟩, Xt, false, #[]⟩ ⟨[(4, kI v_)], []⟩ a w) ?_ h_q lzz ?_
 ·
  clear h
  intro v2 o h
  refine zh ?_
  replace h : zt sv v v2 = some o := h
  unfold zt at h
  refine jp ?_
  rcases zg h with ⟨hc1, h⟩ | ⟨hc1, h⟩
  ·
   refine jT hc1 ?_
   refine zn ?_
   refine jp ?_
   obtain ⟨x, h_x, h⟩ := bnd h
   obtain ⟨rv, h_rv, h⟩ := bnd h
   refine jr (ra 3 [.sl za [0] sv, kI v2] rfl (zW rfl ziw.el (zv _ _ _) h_x) rfl (ra 0 [.ep za [0] x 0] rfl (zhY rfl ⟨Tryz.isAgg62, Tryz.sizeOf62⟩) rfl (ra 0 [.fv 80 [.ep Rp.str [0] v 0], .rc za [0] x] rfl (zjx (args := [.tmp 15]) [.rc za [0] x] [0] 10 rfl (zof _ _) Tryz.call80 (zpp h_rv) rfl rfl rfl rfl rfl) rfl rf))) ?_
   rcases zg h with ⟨hc2, h⟩ | ⟨hc2, h⟩
   ·
    refine jT hc2 ?_
    refine jp ?_
    obtain rfl := sj h
    exact zaW lzz
   refine jF hc2 ?_
   refine zaf ?_
   refine jp ?_
   obtain rfl := sj h
   exact zJ lzz
  refine jF hc1 ?_
  obtain rfl := sj h
  exact zai rfl lzz
 rcases q with u | u2
 ·
  refine zaJ _ rfl ?_
  refine jp ?_
  obtain rfl := sj h
  exact zp lzz
 obtain rfl := sj h
 exact zdi lzz
theorem zov {x : Int} {y : Int} {r : Int} (h : zgl x y = some r) : FnOk Tryz.prog 66 [kI x, kI y] [kI r] := by
 refine zo (E := ⟨[(4, kI r)], []⟩) 20 Tryz.func66 rfl rfl rfl ⟨rfl, trivial⟩ (fun Xt => ?_)
 refine zh ?_
 unfold zgl at h
 refine jp ?_
 obtain ⟨rv, h_rv, h⟩ := bnd h
 refine jr (rl 1 [1] 9 Tryz.call85 (zkP h_rv) rf) ?_
 obtain ⟨rv2, h_rv2, h⟩ := bnd h
 refine jr (rl 1 [1] 9 Tryz.call85 (zkP h_rv2) rf) ?_
 refine jp ?_
 rcases zg h with ⟨hc1, h⟩ | ⟨hc1, h⟩
 ·
  refine jT hc1 ?_
  refine jp ?_
  rcases zg h with ⟨hc2, h⟩ | ⟨hc2, h⟩
  ·
   refine jT hc2 ?_
   refine jp ?_
   obtain rfl := sj h
   exact zp lzz
  refine jF hc2 ?_
  refine jp ?_
  obtain rfl := sj h
  exact zp lzz
 refine jF hc1 ?_
 refine jp ?_
 rcases zg h with ⟨hc3, h⟩ | ⟨hc3, h⟩
 ·
  refine jT hc3 ?_
  refine jp ?_
  obtain rfl := sj h
  exact zp lzz
 refine jF hc3 ?_
 refine jp ?_
 rcases zg h with ⟨hc4, h⟩ | ⟨hc4, h⟩
 ·
  refine jT hc4 ?_
  refine jp ?_
  obtain rfl := sj h
  exact zp lzz
 refine jF hc4 ?_
 refine jp ?_
 rcases zg h with ⟨hc5, h⟩ | ⟨hc5, h⟩
 ·
  refine jT hc5 ?_
  refine jp ?_
  obtain rfl := sj h
  exact zp lzz
 refine jF hc5 ?_
 refine jp ?_
 obtain rfl := sj h
 exact zp lzz
theorem zpX {way : (List Int)} {other : (List Int)} {r : Bool} (h : zkf way other = some r) : FnOk Tryz.prog 48 [.sl (Rp.int .i64) [0] way, .sl (Rp.int .i64) [0] other] [kB r] := by
 refine zo (E := ⟨[(4, kB r)], []⟩) 23 Tryz.func48 rfl rfl rfl ⟨rfl, trivial⟩ (fun Xt => ?_)
 refine zh ?_
 unfold zkf at h
 refine jp ?_
 obtain ⟨g, h_g, h⟩ := bnd h
 refine zN ⟨[(4, kB g)], []⟩ ?_ ?_
 ·
  refine (rsl 4 [] 8 (decide ((other.length : Int) > 0)) (fun hc1 => ?_) (fun hc1 => ?_))
  ·
   replace h_g := iteT h_g hc1
   refine (rsl 7 [] 15 (decide ((other.length : Int) ≤ (way.length : Int))) (fun hc2 => ?_) (fun hc2 => ?_))
   ·
    replace h_g := iteT h_g hc2
    obtain ⟨v, h_v, h_g⟩ := bnd h_g
    obtain ⟨rv, h_rv, h_g⟩ := bnd h_g
    obtain rfl := sj h_g
    exact (ra 3 [.sl (Rp.int .i64) [0] way, kI (other.length : Int)] rfl (zoX none (some (kI (other.length : Int))) rfl zel.el (zv _ _ _) ⟨rfl, rfl⟩ ⟨rfl, rfl⟩ h_v) rfl (rl 1 [0] 9 Tryz.call68 (zkz h_rv) rgg))
   replace h_g := iteF h_g hc2
   obtain rfl := sj h_g
   exact rgg
  replace h_g := iteF h_g hc1
  obtain rfl := sj h_g
  exact rgg
 obtain rfl := sj h
 exact zp lzz
theorem znF {ways : (List (List Int))} {r : (List (List Int))} (h : zis ways = some r) : FnOk Tryz.prog 39 [.sl (Rp.list (Rp.int .i64)) [0] ways] [.own (Rp.list (Rp.int .i64)) 30 2 [3] r] := by
 refine zo (E := ⟨[(2, .own (Rp.list (Rp.int .i64)) 30 2 [3] r)], []⟩) 23 Tryz.func39 rfl rfl rfl ⟨rfl, trivial⟩ (fun Xt => ?_)
 refine zh ?_
 unfold zis at h
 refine jp ?_
 obtain ⟨v, h_v, h⟩ := bnd h
 refine jr (ra 2 [kI (ways.length : Int), kI (ways.length : Int)] rfl (zol 13 rfl zaF rfl h_v) rfl rf) ?_
 refine jp ?_
 refine zn ?_
 obtain ⟨q, h_q, h⟩ := bnd h
 refine zam (fun s : ((List (List Int)) × Int) => zdj ways s.1 s.2) (fun s => ⟨[(3, .own (Rp.list (Rp.int .i64)) 30 13 [14] s.1), (9, .sl (Rp.list (Rp.int .i64)) [0] ways), (10, kI (ways.length : Int)), (11, kI s.2)], []⟩) (fun o e a w => e = .exit 0 ∧ Sx ⟨⟨23, []⟩, Xt, false, #[]⟩ ⟨[(3, .own (Rp.list (Rp.int .i64)) 30 13 [14] o)], []⟩ a w) ?_ h_q ?_ ?_
 ·
  clear h
  intro s o h
  obtain ⟨l, v2⟩ := s
  refine zh ?_
  replace h : zdj ways l v2 = some o := h
  unfold zdj at h
  refine jp ?_
  rcases zg h with ⟨hc1, h⟩ | ⟨hc1, h⟩
  ·
   refine jT hc1 ?_
   refine zn ?_
   obtain ⟨x, h_x, h⟩ := bnd h
   refine jr (ra 1 [.sl (Rp.list (Rp.int .i64)) [0] ways, kI v2] rfl (zW rfl zaF.el (zv _ _ _) h_x) rfl (ra 0 [.ep (Rp.list (Rp.int .i64)) [0] x 0] rfl (zaK (Rp.int .i64) x rfl rfl rfl) rfl rf)) ?_
   obtain ⟨rv, h_rv, h⟩ := bnd h
   obtain ⟨x2, h_x2, h⟩ := bnd h
   refine jr (rl 3 [0] 15 Tryz.call62 (zky h_rv) (ra 0 [.own (Rp.list (Rp.int .i64)) 30 13 [14] l, kI v2] rfl (znA rfl zaF.el h_x2) rfl (rkl 0 [] ⟨[(3, .own (Rp.list (Rp.int .i64)) 30 13 [14] l), (9, .sl (Rp.list (Rp.int .i64)) [0] ways), (10, kI (ways.length : Int)), (11, kI v2), (19, .own (Rp.int .i64) 3 17 [] rv), (20, .ptr 13 (Int.toNat v2 * (Rp.list (Rp.int .i64)).size))], []⟩ (zqY (r := (Rp.list (Rp.int .i64))) (e := 30) (C := [14]) (xs := l) [3] (Int.toNat v2) 0 x2 rv [14, 17] rfl rfl rfl rfl rfl rfl Tryz.sizeOf30 rfl (by kernel_rfl) rfl (zkS h_x2) rfl (zot rfl _) rfl rf)))) ?_
   refine zaf ?_
   refine jp ?_
   obtain rfl := sj h
   refine zJ ?_
   refine lk [3, 9, 10, 11] [] 17 14 ?_
   refine zaS ⟨[(3, .own (Rp.list (Rp.int .i64)) 30 13 [14, 14] (l.set (Int.toNat v2) rv)), (9, .sl (Rp.list (Rp.int .i64)) [0] ways), (10, kI (ways.length : Int)), (11, kI (IntKind.i64.wrap (v2 + 1)))], []⟩ (by kernel_rfl) ?_
   refine zbL 3 (.own (Rp.list (Rp.int .i64)) 30 13 [14] (l.set (Int.toNat v2) rv)) rfl (zgb _ _ _ _ _ _ rfl rfl) ?_
   exact lzz
  refine jF hc1 ?_
  obtain rfl := sj h
  exact zai rfl lzz
 ·
  refine zaS ⟨[(3, .own (Rp.list (Rp.int .i64)) 30 13 [] v), (9, .sl (Rp.list (Rp.int .i64)) [0] ways), (10, kI (ways.length : Int)), (11, kI 0)], []⟩ (by kernel_rfl) ?_
  refine zbL 3 (.own (Rp.list (Rp.int .i64)) 30 13 [14] v) rfl (zgb _ _ _ _ _ _ rfl rfl) ?_
  exact lzz
 refine zaJ _ rfl ?_
 refine jp ?_
 obtain rfl := sj h
 refine zp ?_
 refine lk [2] [] 13 2 ?_
 refine lk [2] [] 14 3 ?_
 exact lzz
theorem ziP {sv : (List (List Int))} {r : (List (List Int))} (h : zdo sv = some r) : FnOk Tryz.prog 41 [.sl (Rp.list (Rp.int .i64)) [0] sv] [.fv 65 [.bp (Rp.list (Rp.list (Rp.int .i64))) 25 906500 [0] r]] := by
 refine zo (E := ⟨[(2, .fv 65 [.bp (Rp.list (Rp.list (Rp.int .i64))) 25 906500 [0] r])], []⟩) 4 Tryz.func41 rfl rfl rfl ⟨rfl, trivial⟩ (fun Xt => ?_)
 refine zh ?_
 unfold zdo at h
 refine jq [906500] ?_
 refine jr (ra 0 [.ptr 906500 0] rfl (zuX (g := 65) [.tmp 1] [⟨906500, 25, [.sl (Rp.list (Rp.int .i64)) [0] sv]⟩] [.bp (Rp.list (Rp.list (Rp.int .i64))) 25 906500 [0] sv] rfl ⟨⟨rfl, rfl, rfl, rfl⟩, trivial⟩ rfl) rfl rf) ?_
 obtain rfl := sj h
 exact zp lzz
theorem zdp {v : (List (List Int))} {r : (List (List Int))} (h : zal v = some r) : FnOk Tryz.prog 82 [kN, .fv 65 [.ep (Rp.list (Rp.list (Rp.int .i64))) [0] v 0]] [.own (Rp.list (Rp.int .i64)) 30 2 [3, 0] r] := by
 refine zqG (E := ⟨[(4, .own (Rp.list (Rp.int .i64)) 30 2 [3, 0] r)], []⟩) 13 Tryz.func82 rfl rfl rfl ⟨rfl, trivial⟩ rfl rfl (fun Xt => ?_)
 refine zh ?_
 unfold zal at h
 refine jq [15] ?_
 refine jp ?_
 refine zn ?_
 obtain ⟨q, h_q, h⟩ := bnd h
 refine zjT (E' := ⟨[(2, .ptr 15 0), (6, .fv 65 [.ep (Rp.list (Rp.list (Rp.int .i64))) [0] v 0])], [⟨15, 25, [.own (Rp.list (Rp.int .i64)) 30 18 [16, 0] []]⟩]⟩) ?_ ?_
 ·
  refine zaS ⟨[(2, .ptr 15 0), (6, .fv 65 [.ep (Rp.list (Rp.list (Rp.int .i64))) [0] v 0])], [⟨15, 25, [kN]⟩]⟩ (by kernel_rfl) ?_
  refine ziI 15 0 (.own (Rp.list (Rp.int .i64)) 30 18 [16, 0] []) rfl rfl (zY (Rp.list (Rp.int .i64)) 30 18 [16, 0] rfl) ?_
  exact lzz
 refine zsu (it := fun {σ : Type} (kf : Rnd σ (List Int)) (sg : σ) => zbe v kf sg) (zic v) [] [2] [15] [(2, .ptr 15 0)] (fun s : (List (List Int)) => [⟨15, 25, [.own (Rp.list (Rp.int .i64)) 30 18 [16, 0] s]⟩]) (fun o : Empty => []) (fun o : Empty => .ret) (fun (s : (List (List Int))) (x : (List Int)) => zB s x) (fun (s : (List (List Int))) (x : (List Int)) => ⟨[(2, .ptr 15 0), (5, .sl (Rp.int .i64) [0] x)], [⟨15, 25, [.own (Rp.list (Rp.int .i64)) 30 18 [16, 0] s]⟩]⟩) rfl rfl Tryz.call65 rfl rfl rfl rfl rfl rfl (fun _ => rfl) (fun o => rfl) rfl rfl (fun _ => rfl) ?_ (fun _ _ => ⟨rfl, rfl⟩) ?_ h_q ?_
 ·
  clear h
  intro Xr old f x
  refine zh ?_
  refine zjT (E' := ⟨[(7, .sl (Rp.int .i64) [0] x), (2, .ptr 15 0)], [⟨15, 25, [.own (Rp.list (Rp.int .i64)) 30 18 [16, 0] f]⟩]⟩) (fun _ _ _ hs => hs) ?_
  refine jp ?_
  exact zJ lzz
 ·
  clear h
  intro Xr old f x o h
  refine zh ?_
  refine zjT (E' := ⟨[(2, .ptr 15 0), (5, .sl (Rp.int .i64) [0] x)], [⟨15, 25, [.own (Rp.list (Rp.int .i64)) 30 18 [16, 0] f]⟩]⟩) (fun _ _ _ hs => hs) ?_
  replace h : zB f x = some o := h
  unfold zB at h
  refine zn ?_
  obtain ⟨v2, h_v2, h⟩ := bnd h
  refine jr (rc 2 rfl (zdO [.sl (Rp.int .i64) [0] x] 20 [0] ([x] : (List (List Int))) rfl zaF rfl rfl rfl rfl) (ra 0 [.own (Rp.list (Rp.int .i64)) 30 18 [16, 0] f, .own (Rp.list (Rp.int .i64)) 30 20 [0] ([x] : (List (List Int)))] rfl (zes 18 [16, 0, 20] rfl zaF.el rfl (zbA _ _ _ _ _) (zbF _ _ _ _ _) h_v2 (.inr rfl) rfl) rfl rf)) ?_
  refine zaf ?_
  obtain rfl := sj h
  refine zJ ?_
  refine lk [2] [15] 20 16 ?_
  refine zaS ⟨[(2, .ptr 15 0)], [⟨15, 25, [.own (Rp.list (Rp.int .i64)) 30 18 [16, 0, 16] v2]⟩]⟩ (by kernel_rfl) ?_
  refine ziI 15 0 (.own (Rp.list (Rp.int .i64)) 30 18 [16, 0] v2) rfl rfl (zgb _ _ _ _ _ _ rfl rfl) ?_
  exact lzz
 rcases q with u | j
 ·
  refine zjT (E' := ⟨[(2, .ptr 15 0)], [⟨15, 25, [.own (Rp.list (Rp.int .i64)) 30 18 [16, 0] u]⟩]⟩) (fun _ _ _ hs => hs) ?_
  refine zaf ?_
  refine jp ?_
  obtain rfl := sj h
  refine zp ?_
  refine lk [4] [] 18 2 ?_
  refine lk [4] [] 16 3 ?_
  exact lzz
 exact nomatch j
theorem zmV {sv : (List zc)} {i : Int} {k : Int} {r : Int} (h : zfm sv i k = some r) : FnOk Tryz.prog 96 [.sl zd [0] sv, kI i, kI k] [kI r] := by
 refine zo (E := ⟨[(6, kI r)], []⟩) 119 Tryz.func96 rfl rfl rfl ⟨rfl, trivial⟩ (fun Xt => ?_)
 refine zh ?_
 unfold zfm at h
 refine jp ?_
 obtain ⟨x, h_x, h⟩ := bnd h
 obtain ⟨x2, h_x2, h⟩ := bnd h
 refine jr (ra 2 [.sl zd [0] sv, kI i] rfl (zW rfl zhD.el (zv _ _ _) h_x) rfl (ra 1 [.ep zd [0] x 1] rfl (zaK za x.Fields rfl rfl rfl) rfl (ra 1 [.sl za [0] x.Fields, kI k] rfl (zW rfl ziw.el (zv _ _ _) h_x2) rfl (ra 0 [.ep za [0] x2 0] rfl (zhY rfl ⟨Tryz.isAgg62, Tryz.sizeOf62⟩) rfl (rfl' [11]))))) ?_
 refine jp ?_
 refine jp ?_
 refine zn ?_
 obtain ⟨q, h_q, h⟩ := bnd h
 refine zam (fun s : (Bool × Bool × Int) => zbr i k sv x2 s.1 s.2.1 s.2.2) (fun s => ⟨[(0, .sl zd [0] sv), (1, kI i), (2, kI k), (7, .ptr 11 0), (8, kB s.1), (9, kB s.2.1), (10, kI s.2.2)], [⟨11, 62, [kS x2.Name, kI x2.Number, kI x2.Kind, kB x2.Repeated, kB x2.Packed, kI x2.Of]⟩]⟩) (fun o e a w => e = .exit 0 ∧ Sx ⟨⟨119, []⟩, Xt, false, #[]⟩ ⟨[(0, .sl zd [0] sv), (7, .ptr 11 0), (8, kB o.1), (9, kB o.2)], [⟨11, 62, [kS x2.Name, kI x2.Number, kI x2.Kind, kB x2.Repeated, kB x2.Packed, kI x2.Of]⟩]⟩ a w) ?_ h_q lzz ?_
 ·
  clear h
  intro s o h
  obtain ⟨name, number, j⟩ := s
  refine zh ?_
  replace h : zbr i k sv x2 name number j = some o := h
  unfold zbr at h
  refine jp ?_
  rcases zg h with ⟨hc1, h⟩ | ⟨hc1, h⟩
  ·
   refine jT hc1 ?_
   refine zn ?_
   obtain ⟨g, h_g, h⟩ := bnd h
   refine zhU (R := fun e a w => e = .normal ∧ Sx ⟨⟨119, []⟩, Xt, false, #[]⟩ ⟨[(0, .sl zd [0] sv), (1, kI i), (2, kI k), (7, .ptr 11 0), (8, kB g), (9, kB number), (10, kI j)], [⟨11, 62, [kS x2.Name, kI x2.Number, kI x2.Kind, kB x2.Repeated, kB x2.Packed, kI x2.Of]⟩]⟩ a w) ?_ (zko ?_)
   ·
    refine zh ?_
    rcases Bool.eq_false_or_eq_true name with hc2 | hc2
    ·
     replace h_g := iteT h_g hc2
     obtain rfl := sj h_g
     refine jd [0, 1, 2, 7, 8, 9, 10] [11] zcB (by exact (lw_e (lx (zbv ⟨[(24, kB name)], []⟩ (by kernel_rfl) hc2) l0))) ?_
     exact zJ lzz
    replace h_g := iteF h_g hc2
    obtain ⟨x3, h_x3, h_g⟩ := bnd h_g
    obtain ⟨x4, h_x4, h_g⟩ := bnd h_g
    obtain rfl := sj h_g
    refine jd [0, 1, 2, 7, 8, 9, 10] [11] zcB (by exact (lw_e (lx (zbv ⟨[(24, kB name)], []⟩ (by kernel_rfl) hc2) (lw_e (lw_e (ly [.sl zd [0] sv, kI i] (zW rfl zhD.el (zv _ _ _) h_x3) rfl (lw_e (ly [.ep zd [0] x3 1] (zaK za x3.Fields rfl rfl rfl) rfl (lw_e (ly [.sl za [0] x3.Fields, kI j] (zW rfl ziw.el (zv _ _ _) h_x4) rfl l0)))))))))) ?_
    exact zJ lzz
   obtain ⟨g2, h_g2, h⟩ := bnd h
   refine zhU (R := fun e a w => e = .normal ∧ Sx ⟨⟨119, []⟩, Xt, false, #[]⟩ ⟨[(0, .sl zd [0] sv), (1, kI i), (2, kI k), (7, .ptr 11 0), (8, kB g), (9, kB g2), (10, kI j)], [⟨11, 62, [kS x2.Name, kI x2.Number, kI x2.Kind, kB x2.Repeated, kB x2.Packed, kI x2.Of]⟩]⟩ a w) ?_ (zko ?_)
   ·
    refine zh ?_
    rcases Bool.eq_false_or_eq_true number with hc3 | hc3
    ·
     replace h_g2 := iteT h_g2 hc3
     obtain rfl := sj h_g2
     refine jd [0, 1, 2, 7, 8, 9, 10] [11] zcB (by exact (lw_e (lx (zbv ⟨[(39, kB number)], []⟩ (by kernel_rfl) hc3) l0))) ?_
     exact zJ lzz
    replace h_g2 := iteF h_g2 hc3
    obtain ⟨x5, h_x5, h_g2⟩ := bnd h_g2
    obtain ⟨x6, h_x6, h_g2⟩ := bnd h_g2
    obtain rfl := sj h_g2
    refine jd [0, 1, 2, 7, 8, 9, 10] [11] zcB (by exact (lw_e (lx (zbv ⟨[(39, kB number)], []⟩ (by kernel_rfl) hc3) (lw_e (lw_e (ly [.sl zd [0] sv, kI i] (zW rfl zhD.el (zv _ _ _) h_x5) rfl (lw_e (ly [.ep zd [0] x5 1] (zaK za x5.Fields rfl rfl rfl) rfl (lw_e (ly [.sl za [0] x5.Fields, kI j] (zW rfl ziw.el (zv _ _ _) h_x6) rfl l0)))))))))) ?_
    exact zJ lzz
   refine zaf ?_
   refine jp ?_
   obtain rfl := sj h
   exact zJ lzz
  refine jF hc1 ?_
  obtain rfl := sj h
  exact zai rfl lzz
 refine zaJ _ rfl ?_
 obtain ⟨rv, h_rv, h⟩ := bnd h
 refine jr (rl 2 [1] 11 Tryz.call57 (zhb h_rv) rf) ?_
 rcases zg h with ⟨hc4, h⟩ | ⟨hc4, h⟩
 ·
  refine jT hc4 ?_
  refine jp ?_
  obtain rfl := sj h
  exact zp lzz
 refine jF hc4 ?_
 refine jp ?_
 rcases zg h with ⟨hc5, h⟩ | ⟨hc5, h⟩
 ·
  refine jT hc5 ?_
  refine jp ?_
  obtain rfl := sj h
  exact zp lzz
 refine jF hc5 ?_
 refine zN ⟨[(0, .sl zd [0] sv), (7, .ptr 11 0), (9, kB q.2), (76, kB ((decide (x2.Number < 1)) || ((decide (x2.Number > 536870911)) || ((decide (x2.Number ≥ 19000)) && (decide (x2.Number < 20000))))))], [⟨11, 62, [kS x2.Name, kI x2.Number, kI x2.Kind, kB x2.Repeated, kB x2.Packed, kI x2.Of]⟩]⟩ ?_ ?_
 ·
  refine (rsl 4 [] 62 (decide (x2.Number < 1)) (fun hc6 => ?_) (fun hc6 => ?_))
  · exact (rbl [] 76 true ((decide (x2.Number < 1)) || ((decide (x2.Number > 536870911)) || ((decide (x2.Number ≥ 19000)) && (decide (x2.Number < 20000))))) (by rw [hc6] <;> rfl))
  refine (rsl 5 [] 67 (decide (x2.Number > 536870911)) (fun hc7 => ?_) (fun hc7 => ?_))
  · exact (rbl [] 76 true ((decide (x2.Number < 1)) || ((decide (x2.Number > 536870911)) || ((decide (x2.Number ≥ 19000)) && (decide (x2.Number < 20000))))) (by rw [hc6, hc7] <;> rfl))
  refine (rsl 4 [] 71 (decide (x2.Number ≥ 19000)) (fun hc8 => ?_) (fun hc8 => ?_))
  · exact (rbl [] 76 (decide (x2.Number < 20000)) ((decide (x2.Number < 1)) || ((decide (x2.Number > 536870911)) || ((decide (x2.Number ≥ 19000)) && (decide (x2.Number < 20000))))) (by rw [hc6, hc7, hc8] <;> rfl))
  exact (rbl [] 76 false ((decide (x2.Number < 1)) || ((decide (x2.Number > 536870911)) || ((decide (x2.Number ≥ 19000)) && (decide (x2.Number < 20000))))) (by rw [hc6, hc7, hc8] <;> rfl))
 rcases zg h with ⟨hc9, h⟩ | ⟨hc9, h⟩
 ·
  refine jT hc9 ?_
  refine jp ?_
  obtain rfl := sj h
  exact zp lzz
 refine jF hc9 ?_
 refine jp ?_
 rcases zg h with ⟨hc10, h⟩ | ⟨hc10, h⟩
 ·
  refine jT hc10 ?_
  refine jp ?_
  obtain rfl := sj h
  exact zp lzz
 refine jF hc10 ?_
 obtain ⟨rv2, h_rv2, h⟩ := bnd h
 refine jr (rl 2 [1] 11 Tryz.call124 (zmT h_rv2) rf) ?_
 rcases zg h with ⟨hc11, h⟩ | ⟨hc11, h⟩
 ·
  refine jT hc11 ?_
  refine jp ?_
  obtain rfl := sj h
  exact zp lzz
 refine jF hc11 ?_
 obtain ⟨g3, h_g3, h⟩ := bnd h
 refine zN ⟨[(0, .sl zd [0] sv), (7, .ptr 11 0), (93, kB g3)], [⟨11, 62, [kS x2.Name, kI x2.Number, kI x2.Kind, kB x2.Repeated, kB x2.Packed, kI x2.Of]⟩]⟩ ?_ ?_
 ·
  refine (rsl 3 [] 84 x2.Packed (fun hc12 => ?_) (fun hc12 => ?_))
  ·
   replace h_g3 := iteT h_g3 hc12
   refine (rsl 3 [] 87 x2.Repeated (fun hc13 => ?_) (fun hc13 => ?_))
   ·
    replace h_g3 := iteT h_g3 hc13
    obtain ⟨rv3, h_rv3, h_g3⟩ := bnd h_g3
    obtain rfl := sj h_g3
    exact (rl 2 [1] 11 Tryz.call125 (zmb h_rv3) (rel [] lzz))
   replace h_g3 := iteF h_g3 hc13
   obtain rfl := sj h_g3
   exact (rel [] lzz)
  replace h_g3 := iteF h_g3 hc12
  obtain rfl := sj h_g3
  exact (rel [] lzz)
 rcases zg h with ⟨hc14, h⟩ | ⟨hc14, h⟩
 ·
  refine jT hc14 ?_
  refine jp ?_
  obtain rfl := sj h
  exact zp lzz
 refine jF hc14 ?_
 refine zN ⟨[(118, kB (if (x2.Kind == 17) then ((decide (x2.Of < 0)) || ((decide (x2.Of ≥ (sv.length : Int))) || ((x2.Kind != 17) && (x2.Of != 0)))) else ((x2.Kind != 17) && (x2.Of != 0))))], []⟩ ?_ ?_
 ·
  refine (rsl 4 [] 97 (x2.Kind == 17) (fun hc15 => ?_) (fun hc15 => ?_))
  ·
   refine (rsl 4 [] 101 (decide (x2.Of < 0)) (fun hc16 => ?_) (fun hc16 => ?_))
   · exact (rbl [] 118 true (if (x2.Kind == 17) then ((decide (x2.Of < 0)) || ((decide (x2.Of ≥ (sv.length : Int))) || ((x2.Kind != 17) && (x2.Of != 0)))) else ((x2.Kind != 17) && (x2.Of != 0))) (by rw [hc15, hc16] <;> rfl))
   refine (rsl 8 [] 109 (decide (x2.Of ≥ (sv.length : Int))) (fun hc17 => ?_) (fun hc17 => ?_))
   · exact (rbl [] 118 true (if (x2.Kind == 17) then ((decide (x2.Of < 0)) || ((decide (x2.Of ≥ (sv.length : Int))) || ((x2.Kind != 17) && (x2.Of != 0)))) else ((x2.Kind != 17) && (x2.Of != 0))) (by rw [hc15, hc16, hc17] <;> rfl))
   refine (rsl 4 [] 113 (x2.Kind != 17) (fun hc18 => ?_) (fun hc18 => ?_))
   · exact (rbl [] 118 (x2.Of != 0) (if (x2.Kind == 17) then ((decide (x2.Of < 0)) || ((decide (x2.Of ≥ (sv.length : Int))) || ((x2.Kind != 17) && (x2.Of != 0)))) else ((x2.Kind != 17) && (x2.Of != 0))) (by rw [hc15, hc16, hc17, hc18] <;> rfl))
   exact (rbl [] 118 false (if (x2.Kind == 17) then ((decide (x2.Of < 0)) || ((decide (x2.Of ≥ (sv.length : Int))) || ((x2.Kind != 17) && (x2.Of != 0)))) else ((x2.Kind != 17) && (x2.Of != 0))) (by rw [hc15, hc16, hc17, hc18] <;> rfl))
  refine (rsl 16 [] 113 (x2.Kind != 17) (fun hc19 => ?_) (fun hc19 => ?_))
  · exact (rbl [] 118 (x2.Of != 0) (if (x2.Kind == 17) then ((decide (x2.Of < 0)) || ((decide (x2.Of ≥ (sv.length : Int))) || ((x2.Kind != 17) && (x2.Of != 0)))) else ((x2.Kind != 17) && (x2.Of != 0))) (by rw [hc15, hc19] <;> rfl))
  exact (rbl [] 118 false (if (x2.Kind == 17) then ((decide (x2.Of < 0)) || ((decide (x2.Of ≥ (sv.length : Int))) || ((x2.Kind != 17) && (x2.Of != 0)))) else ((x2.Kind != 17) && (x2.Of != 0))) (by rw [hc15, hc19] <;> rfl))
 rcases zg h with ⟨hc20, h⟩ | ⟨hc20, h⟩
 ·
  refine jT hc20 ?_
  refine jp ?_
  obtain rfl := sj h
  exact zp lzz
 refine jF hc20 ?_
 refine jp ?_
 obtain rfl := sj h
 exact zp lzz
theorem zmZ {p : Str} {r : ((List Str) × Bool)} (h : zfq p = some r) : FnOk Tryz.prog 32 [kS p] [.own Rp.str 9 2 [] r.1, kB r.2] := by
 refine zo (E := ⟨[(2, .own Rp.str 9 2 [] r.1), (3, kB r.2)], []⟩) 42 Tryz.func32 rfl rfl rfl ⟨rfl, rfl, trivial⟩ (fun Xt => ?_)
 refine zh ?_
 unfold zfq at h
 refine jp ?_
 refine jp ?_
 refine jp ?_
 refine jp ?_
 refine zn ?_
 obtain ⟨q, h_q, h⟩ := bnd h
 refine zam (fun s : ((List Str) × Int × Int) => zaA p s.1 s.2.1 s.2.2) (fun s => ⟨[(0, kS p), (4, .own Rp.str 9 16 [] s.1), (5, kI s.2.1), (6, kI s.2.2)], []⟩) (fun o e a w => match o with | (.inl v_) => e = .exit 0 ∧ Sx ⟨⟨42, []⟩, Xt, false, #[]⟩ ⟨[(4, .own Rp.str 9 16 [] v_)], []⟩ a w | (.inr v_) => e = .ret ∧ Sx ⟨⟨42, []⟩, Xt, false, #[]⟩ ⟨[(2, kN), (3, kB false)], []⟩ a w) ?_ h_q ?_ ?_
 ·
  clear h
  intro s o h
  obtain ⟨out, fromv, i⟩ := s
  refine zh ?_
  replace h : zaA p out fromv i = some o := h
  unfold zaA at h
  refine jp ?_
  rcases zg h with ⟨hc1, h⟩ | ⟨hc1, h⟩
  ·
   refine jT hc1 ?_
   refine zn ?_
   obtain ⟨g, h_g, h⟩ := bnd h
   refine zN ⟨[(0, kS p), (4, .own Rp.str 9 16 [] out), (5, kI fromv), (6, kI i), (22, kB g)], []⟩ ?_ ?_
   ·
    refine (rsl 5 [] 17 (decide (i < (p.length : Int))) (fun hc2 => ?_) (fun hc2 => ?_))
    ·
     replace h_g := iteT h_g hc2
     obtain ⟨c, h_c, h_g⟩ := bnd h_g
     obtain rfl := sj h_g
     exact (ra 2 [kS p, kI i] rfl (zmo rfl Tryz.underlying9 h_c) rfl rgg)
    replace h_g := iteF h_g hc2
    obtain rfl := sj h_g
    exact rgg
   rcases zg h with ⟨hc3, h⟩ | ⟨hc3, h⟩
   ·
    refine jT hc3 ?_
    refine zyw _ rfl ?_
    refine jp ?_
    obtain rfl := sj h
    exact zJ lzz
   refine jF hc3 ?_
   obtain ⟨v2, h_v2, h⟩ := bnd h
   obtain ⟨rv, h_rv, h⟩ := bnd h
   refine jr (ra 3 [kS p, kI fromv, kI i] rfl (zoj (some (kI fromv)) (some (kI i)) rfl Tryz.underlying9 ⟨rfl, rfl⟩ ⟨rfl, rfl⟩ h_v2) rfl (rl 0 [1] 15 Tryz.call57 (zhb h_rv) rf)) ?_
   rcases zg h with ⟨hc4, h⟩ | ⟨hc4, h⟩
   ·
    refine jT hc4 ?_
    refine jp ?_
    obtain rfl := sj h
    exact zaW lzz
   refine jF hc4 ?_
   obtain ⟨v3, h_v3, h⟩ := bnd h
   obtain ⟨v4, h_v4, h⟩ := bnd h
   refine jr (ra 4 [kS p, kI fromv, kI i] rfl (zoj (some (kI fromv)) (some (kI i)) rfl Tryz.underlying9 ⟨rfl, rfl⟩ ⟨rfl, rfl⟩ h_v3) rfl (rc 0 rfl (zdO [kS v3] 17 [] ([v3] : (List Str)) rfl zfY rfl rfl rfl rfl) (ra 0 [.own Rp.str 9 16 [] out, .own Rp.str 9 17 [] ([v3] : (List Str))] rfl (zes 16 [] rfl zfY.el rfl (zbA _ _ _ _ _) (zbF _ _ _ _ _) h_v4 (.inl zlO) rfl) rfl rf))) ?_
   refine jp ?_
   refine zaf ?_
   refine jp ?_
   obtain rfl := sj h
   exact zJ lzz
  refine jF hc1 ?_
  obtain rfl := sj h
  exact zai rfl lzz
 ·
  refine zaS ⟨[(0, kS p), (4, kN), (5, kI 0), (6, kI 0)], []⟩ (by kernel_rfl) ?_
  refine zbL 4 (.own Rp.str 9 16 [] []) rfl (zY Rp.str 9 16 [] rfl) ?_
  exact lzz
 rcases q with u | u2
 ·
  refine zaJ _ rfl ?_
  refine jp ?_
  rcases zg h with ⟨hc5, h⟩ | ⟨hc5, h⟩
  ·
   refine jT hc5 ?_
   refine jp ?_
   obtain rfl := sj h
   refine zp ?_
   refine zaS ⟨[(2, kN), (3, kB false)], []⟩ (by kernel_rfl) ?_
   refine zbL 2 (.own Rp.str 9 2 [] (([], false) : ((List Str) × Bool)).1) rfl (zY Rp.str 9 2 [] rfl) ?_
   exact lzz
  refine jF hc5 ?_
  refine jp ?_
  obtain rfl := sj h
  refine zp ?_
  refine lk [2, 3] [] 16 2 ?_
  exact lzz
 obtain rfl := sj h
 refine zdi ?_
 refine zaS ⟨[(2, kN), (3, kB false)], []⟩ (by kernel_rfl) ?_
 refine zbL 2 (.own Rp.str 9 2 [] (([], false) : ((List Str) × Bool)).1) rfl (zY Rp.str 9 2 [] rfl) ?_
 exact lzz
theorem znr {rec_darningref13_Way : (List zc) → Int → (List Str) → Option ((List Int) × Bool)} (hrec_darningref13_Way : ∀ {sv : (List zc)} {root : Int} {names : (List Str)} {r : ((List Int) × Bool)}, rec_darningref13_Way sv root names = some r → FnOk Tryz.prog 33 [.sl zd [0] sv, kI root, .sl Rp.str [0] names] [.own (Rp.int .i64) 3 2 [] r.1, kB r.2]) {sv : (List zc)} {root : Int} {names : (List Str)} {r : ((List Int) × Bool)} (h : zfr rec_darningref13_Way sv root names = some r) : FnOk Tryz.prog 33 [.sl zd [0] sv, kI root, .sl Rp.str [0] names] [.own (Rp.int .i64) 3 2 [] r.1, kB r.2] := by
 refine zo (E := ⟨[(6, .own (Rp.int .i64) 3 2 [] r.1), (7, kB r.2)], []⟩) 59 Tryz.func33 rfl rfl rfl ⟨rfl, rfl, trivial⟩ (fun Xt => ?_)
 refine zh ?_
 unfold zfr at h
 refine jp ?_
 obtain ⟨x, h_x, h⟩ := bnd h
 obtain ⟨x2, h_x2, h⟩ := bnd h
 obtain ⟨rv, h_rv, h⟩ := bnd h
 refine jd [0, 1, 2, 8] [] zcB (by exact (lw_e (lw_e (ly [.sl zd [0] sv, kI root] (zW rfl zhD.el (zv _ _ _) h_x) rfl (ly [.ep zd [0] x 0] (zhY rfl ⟨Tryz.isAgg65, Tryz.sizeOf65⟩) rfl (lw_e (ly [.sl Rp.str [0] names, kI 0] (zW rfl zfY.el (zv _ _ _) h_x2) rfl (lw_e (lx (lf1 58 (zac [.rc zd [0] x, kS x2] [0] 11 rfl Tryz.call58 (zmX h_rv) rfl rfl rfl rfl rfl)) l0))))))))) ?_
 refine jp ?_
 rcases zg h with ⟨hc1, h⟩ | ⟨hc1, h⟩
 ·
  refine jT hc1 ?_
  refine jp ?_
  obtain rfl := sj h
  refine zp ?_
  refine zaS ⟨[(6, kN), (7, kB false)], []⟩ (by kernel_rfl) ?_
  refine zbL 6 (.own (Rp.int .i64) 3 2 [] (([], false) : ((List Int) × Bool)).1) rfl (zY (Rp.int .i64) 3 2 [] rfl) ?_
  exact lzz
 refine jF hc1 ?_
 obtain ⟨x3, h_x3, h⟩ := bnd h
 obtain ⟨x4, h_x4, h⟩ := bnd h
 refine jr (ra 2 [.sl zd [0] sv, kI root] rfl (zW rfl zhD.el (zv _ _ _) h_x3) rfl (ra 1 [.ep zd [0] x3 1] rfl (zaK za x3.Fields rfl rfl rfl) rfl (ra 1 [.sl za [0] x3.Fields, kI rv] rfl (zW rfl ziw.el (zv _ _ _) h_x4) rfl (ra 0 [.ep za [0] x4 0] rfl (zhY rfl ⟨Tryz.isAgg62, Tryz.sizeOf62⟩) rfl (rfl' [13]))))) ?_
 refine jp ?_
 rcases zg h with ⟨hc2, h⟩ | ⟨hc2, h⟩
 ·
  refine jT hc2 ?_
  refine jr (rc 2 rfl (zdO [kI x4.Number] 14 [] ([x4.Number] : (List Int)) rfl zel rfl rfl rfl rfl) rf) ?_
  obtain rfl := sj h
  refine zp ?_
  refine lk [6, 7] [] 14 2 ?_
  exact lzz
 refine jF hc2 ?_
 refine zN ⟨[(0, .sl zd [0] sv), (2, .sl Rp.str [0] names), (9, .ptr 13 0), (42, kB (x4.Repeated || (x4.Kind != 17)))], [⟨13, 62, [kS x4.Name, kI x4.Number, kI x4.Kind, kB x4.Repeated, kB x4.Packed, kI x4.Of]⟩]⟩ ?_ ?_
 ·
  refine (rsl 3 [] 38 x4.Repeated (fun hc3 => ?_) (fun hc3 => ?_))
  · exact (rbl [] 42 true (x4.Repeated || (x4.Kind != 17)) (by rw [hc3] <;> rfl))
  exact (rbl [] 42 (x4.Kind != 17) (x4.Repeated || (x4.Kind != 17)) (by rw [hc3] <;> rfl))
 rcases zg h with ⟨hc4, h⟩ | ⟨hc4, h⟩
 ·
  refine jT hc4 ?_
  refine jp ?_
  obtain rfl := sj h
  refine zp ?_
  refine zaS ⟨[(6, kN), (7, kB false)], []⟩ (by kernel_rfl) ?_
  refine zbL 6 (.own (Rp.int .i64) 3 2 [] (([], false) : ((List Int) × Bool)).1) rfl (zY (Rp.int .i64) 3 2 [] rfl) ?_
  exact lzz
 refine jF hc4 ?_
 obtain ⟨v2, h_v2, h⟩ := bnd h
 obtain ⟨rv2, h_rv2, h⟩ := bnd h
 refine jd [9, 10, 11] [13] zcB (by exact (lw_e (lw_e (lw_e (lw_e (ly [.sl Rp.str [0] names, kI 1] (zoX (some (kI 1)) none rfl zfY.el (zv _ _ _) ⟨rfl, rfl⟩ ⟨rfl, rfl⟩ h_v2) rfl (lx (lf1 33 (zac [.sl zd [0] sv, kI x4.Of, .sl Rp.str [0] v2] [0] 13 rfl Tryz.call33 (hrec_darningref13_Way h_rv2) rfl rfl rfl rfl rfl)) l0))))))) ?_
 refine jp ?_
 rcases zg h with ⟨hc5, h⟩ | ⟨hc5, h⟩
 ·
  refine jT hc5 ?_
  refine jp ?_
  obtain rfl := sj h
  refine zp ?_
  refine zaS ⟨[(6, kN), (7, kB false)], []⟩ (by kernel_rfl) ?_
  refine zbL 6 (.own (Rp.int .i64) 3 2 [] (([], false) : ((List Int) × Bool)).1) rfl (zY (Rp.int .i64) 3 2 [] rfl) ?_
  exact lzz
 refine jF hc5 ?_
 obtain ⟨v3, h_v3, h⟩ := bnd h
 refine jr (rc 2 rfl (zdO [kI x4.Number] 16 [] ([x4.Number] : (List Int)) rfl zel rfl rfl rfl rfl) (ra 1 [.own (Rp.int .i64) 3 16 [] ([x4.Number] : (List Int)), .own (Rp.int .i64) 3 15 [] rv2.1] rfl (zes 16 [] rfl zel.el rfl (zbA _ _ _ _ _) (zbF _ _ _ _ _) h_v3 (.inl (zkh _)) rfl) rfl rf)) ?_
 obtain rfl := sj h
 refine zp ?_
 refine lk [6, 7] [] 16 2 ?_
 exact lzz
theorem zow {fuel : Nat} {sv : (List zc)} {root : Int} {names : (List Str)} {r : ((List Int) × Bool)} (h : zgm fuel sv root names = some r) : FnOk Tryz.prog 33 [.sl zd [0] sv, kI root, .sl Rp.str [0] names] [.own (Rp.int .i64) 3 2 [] r.1, kB r.2] := by
  induction fuel generalizing sv root names r with
  | zero => exact absurd h nofun
  | succ fuel ih => exact znr (fun hh => ih hh) h
theorem zeV {way : (List Int)} {withv : (List Int)} {r : Bool} (h : zcU way withv = some r) : FnOk Tryz.prog 36 [.sl (Rp.int .i64) [0] way, .sl (Rp.int .i64) [0] withv] [kB r] := by
 refine zo (E := ⟨[(4, kB r)], []⟩) 18 Tryz.func36 rfl rfl rfl ⟨rfl, trivial⟩ (fun Xt => ?_)
 refine zh ?_
 unfold zcU at h
 refine jp ?_
 obtain ⟨g, h_g, h⟩ := bnd h
 refine zN ⟨[(4, kB g)], []⟩ ?_ ?_
 ·
  refine (rsl 6 [] 10 (decide ((withv.length : Int) ≤ (way.length : Int))) (fun hc1 => ?_) (fun hc1 => ?_))
  ·
   replace h_g := iteT h_g hc1
   obtain ⟨v, h_v, h_g⟩ := bnd h_g
   obtain ⟨rv, h_rv, h_g⟩ := bnd h_g
   obtain rfl := sj h_g
   exact (ra 3 [.sl (Rp.int .i64) [0] way, kI (withv.length : Int)] rfl (zoX none (some (kI (withv.length : Int))) rfl zel.el (zv _ _ _) ⟨rfl, rfl⟩ ⟨rfl, rfl⟩ h_v) rfl (rl 1 [0] 9 Tryz.call13 (zey h_rv) rgg))
  replace h_g := iteF h_g hc1
  obtain rfl := sj h_g
  exact rgg
 obtain rfl := sj h
 exact zp lzz
theorem zU {av : (List (List Int))} {b : (List (List Int))} {r : Bool} (h : zaw av b = some r) : FnOk Tryz.prog 16 [.sl (Rp.list (Rp.int .i64)) [0] av, .sl (Rp.list (Rp.int .i64)) [0] b] [kB r] := by
 refine zo (E := ⟨[(4, kB r)], []⟩) 27 Tryz.func16 rfl rfl rfl ⟨rfl, trivial⟩ (fun Xt => ?_)
 refine zh ?_
 unfold zaw at h
 refine jp ?_
 refine jp ?_
 rcases zg h with ⟨hc1, h⟩ | ⟨hc1, h⟩
 ·
  refine jT hc1 ?_
  refine jp ?_
  obtain rfl := sj h
  exact zp lzz
 refine jF hc1 ?_
 refine jp ?_
 refine zn ?_
 obtain ⟨q, h_q, h⟩ := bnd h
 refine zam (fun s : Int => zbn av b s) (fun s => ⟨[(0, .sl (Rp.list (Rp.int .i64)) [0] av), (1, .sl (Rp.list (Rp.int .i64)) [0] b), (5, kI s)], []⟩) (fun o e a w => match o with | (.inl v_) => e = .exit 0 ∧ Sx ⟨⟨27, []⟩, Xt, false, #[]⟩ ⟨[], []⟩ a w | (.inr v_) => e = .ret ∧ Sx ⟨⟨27, []⟩, Xt, false, #[]⟩ ⟨[(4, kB false)], []⟩ a w) ?_ h_q lzz ?_
 ·
  clear h
  intro i o h
  refine zh ?_
  replace h : zbn av b i = some o := h
  unfold zbn at h
  refine jp ?_
  rcases zg h with ⟨hc2, h⟩ | ⟨hc2, h⟩
  ·
   refine jT hc2 ?_
   refine zn ?_
   obtain ⟨x, h_x, h⟩ := bnd h
   obtain ⟨x2, h_x2, h⟩ := bnd h
   obtain ⟨rv, h_rv, h⟩ := bnd h
   refine jd [0, 1, 5, 26] [] zcB (by exact (lw_e (lw_e (ly [.sl (Rp.list (Rp.int .i64)) [0] av, kI i] (zW rfl zaF.el (zv _ _ _) h_x) rfl (ly [.ep (Rp.list (Rp.int .i64)) [0] x 0] (zaK (Rp.int .i64) x rfl rfl rfl) rfl (lw_e (lw_e (ly [.sl (Rp.list (Rp.int .i64)) [0] b, kI i] (zW rfl zaF.el (zv _ _ _) h_x2) rfl (ly [.ep (Rp.list (Rp.int .i64)) [0] x2 0] (zaK (Rp.int .i64) x2 rfl rfl rfl) rfl (lx (lf1 13 (zac [.sl (Rp.int .i64) [0] x, .sl (Rp.int .i64) [0] x2] [0] 10 rfl Tryz.call13 (zey h_rv) rfl rfl rfl rfl rfl)) l0)))))))))) ?_
   rcases zg h with ⟨hc3, h⟩ | ⟨hc3, h⟩
   ·
    refine jT hc3 ?_
    refine jp ?_
    obtain rfl := sj h
    exact zaW lzz
   refine jF hc3 ?_
   refine zaf ?_
   refine jp ?_
   obtain rfl := sj h
   exact zJ lzz
  refine jF hc2 ?_
  obtain rfl := sj h
  exact zai rfl lzz
 rcases q with u | u2
 ·
  refine zaJ _ rfl ?_
  refine jp ?_
  obtain rfl := sj h
  exact zp lzz
 obtain rfl := sj h
 exact zdi lzz
theorem zdW {sv : (List zb)} {v : Int} {r : Int} (h : zas sv v = some r) : FnOk Tryz.prog 95 [.sl za [0] sv, .fv 86 [.ep (Rp.int .i64) [0] v 0]] [kI r] := by
 refine zo (E := ⟨[(4, kI r)], []⟩) 19 Tryz.func95 rfl rfl rfl ⟨rfl, trivial⟩ (fun Xt => ?_)
 refine zh ?_
 unfold zas at h
 refine jp ?_
 refine jp ?_
 refine zn ?_
 obtain ⟨q, h_q, h⟩ := bnd h
 refine zam (fun s : Int => zq sv v s) (fun s => ⟨[(0, .sl za [0] sv), (1, .fv 86 [.ep (Rp.int .i64) [0] v 0]), (7, kI (sv.length : Int)), (8, kI s)], []⟩) (fun o e a w => match o with | (.inl v_) => e = .exit 0 ∧ Sx ⟨⟨19, []⟩, Xt, false, #[]⟩ ⟨[], []⟩ a w | (.inr v_) => e = .ret ∧ Sx ⟨⟨19, []⟩, Xt, false, #[]⟩ ⟨[(4, kI v_)], []⟩ a w) ?_ h_q lzz ?_
 ·
  clear h
  intro v2 o h
  refine zh ?_
  replace h : zq sv v v2 = some o := h
  unfold zq at h
  refine jp ?_
  rcases zg h with ⟨hc1, h⟩ | ⟨hc1, h⟩
  ·
   refine jT hc1 ?_
   refine zn ?_
   refine jp ?_
   obtain ⟨x, h_x, h⟩ := bnd h
   obtain ⟨rv, h_rv, h⟩ := bnd h
   refine jr (ra 3 [.sl za [0] sv, kI v2] rfl (zW rfl ziw.el (zv _ _ _) h_x) rfl (ra 0 [.ep za [0] x 0] rfl (zhY rfl ⟨Tryz.isAgg62, Tryz.sizeOf62⟩) rfl (ra 0 [.fv 86 [.ep (Rp.int .i64) [0] v 0], .rc za [0] x] rfl (zjx (args := [.tmp 15]) [.rc za [0] x] [0] 10 rfl (zof _ _) Tryz.call86 (znT h_rv) rfl rfl rfl rfl rfl) rfl rf))) ?_
   rcases zg h with ⟨hc2, h⟩ | ⟨hc2, h⟩
   ·
    refine jT hc2 ?_
    refine jp ?_
    obtain rfl := sj h
    exact zaW lzz
   refine jF hc2 ?_
   refine zaf ?_
   refine jp ?_
   obtain rfl := sj h
   exact zJ lzz
  refine jF hc1 ?_
  obtain rfl := sj h
  exact zai rfl lzz
 rcases q with u | u2
 ·
  refine zaJ _ rfl ?_
  refine jp ?_
  obtain rfl := sj h
  exact zp lzz
 obtain rfl := sj h
 exact zdi lzz
theorem znq {sv : (List zc)} {root : Int} {way : (List Int)} {r : (Str × Bool)} (h : zfR sv root way = some r) : FnOk Tryz.prog 34 [.sl zd [0] sv, kI root, .sl (Rp.int .i64) [0] way] [kS r.1, kB r.2] := by
 refine zo (E := ⟨[(6, kS r.1), (7, kB r.2)], []⟩) 68 Tryz.func34 rfl rfl rfl ⟨rfl, rfl, trivial⟩ (fun Xt => ?_)
 refine zh ?_
 unfold zfR at h
 refine jp ?_
 refine jp ?_
 refine jp ?_
 refine zn ?_
 obtain ⟨q, h_q, h⟩ := bnd h
 refine zam (fun s : (Int × (List Str) × Int) => zaT sv way s.1 s.2.1 s.2.2) (fun s => ⟨[(0, .sl zd [0] sv), (1, kI s.1), (2, .sl (Rp.int .i64) [0] way), (8, .own Rp.str 9 14 [] s.2.1), (9, kI s.2.2)], []⟩) (fun o e a w => match o with | (.inl v_) => e = .exit 0 ∧ Sx ⟨⟨68, []⟩, Xt, false, #[]⟩ ⟨[(8, .own Rp.str 9 14 [] v_)], []⟩ a w | (.inr v_) => e = .ret ∧ Sx ⟨⟨68, []⟩, Xt, false, #[]⟩ ⟨[(6, kS []), (7, kB false)], []⟩ a w) ?_ h_q ?_ ?_
 ·
  clear h
  intro s o h
  obtain ⟨root2, names, i⟩ := s
  refine zh ?_
  replace h : zaT sv way root2 names i = some o := h
  unfold zaT at h
  refine jp ?_
  rcases zg h with ⟨hc1, h⟩ | ⟨hc1, h⟩
  ·
   refine jT hc1 ?_
   refine zn ?_
   obtain ⟨x, h_x, h⟩ := bnd h
   obtain ⟨x2, h_x2, h⟩ := bnd h
   obtain ⟨rv, h_rv, h⟩ := bnd h
   refine jd [0, 1, 2, 8, 9, 10] [] zcB (by exact (lw_e (lw_e (ly [.sl zd [0] sv, kI root2] (zW rfl zhD.el (zv _ _ _) h_x) rfl (ly [.ep zd [0] x 0] (zhY rfl ⟨Tryz.isAgg65, Tryz.sizeOf65⟩) rfl (lw_e (lw_e (ly [.sl (Rp.int .i64) [0] way, kI i] (zW rfl zel.el (zv _ _ _) h_x2) rfl (lw_e (lx (lf1 59 (zac [.rc zd [0] x, kI x2] [0] 13 rfl Tryz.call59 (zmW h_rv) rfl rfl rfl rfl rfl)) l0)))))))))) ?_
   refine jp ?_
   rcases zg h with ⟨hc2, h⟩ | ⟨hc2, h⟩
   ·
    refine jT hc2 ?_
    refine jp ?_
    obtain rfl := sj h
    exact zaW lzz
   refine jF hc2 ?_
   obtain ⟨x3, h_x3, h⟩ := bnd h
   obtain ⟨x4, h_x4, h⟩ := bnd h
   refine jr (ra 2 [.sl zd [0] sv, kI root2] rfl (zW rfl zhD.el (zv _ _ _) h_x3) rfl (ra 1 [.ep zd [0] x3 1] rfl (zaK za x3.Fields rfl rfl rfl) rfl (ra 1 [.sl za [0] x3.Fields, kI rv] rfl (zW rfl ziw.el (zv _ _ _) h_x4) rfl (ra 0 [.ep za [0] x4 0] rfl (zhY rfl ⟨Tryz.isAgg62, Tryz.sizeOf62⟩) rfl (rfl' [15]))))) ?_
   obtain ⟨v, h_v, h⟩ := bnd h
   refine jr (rc 3 rfl (zdO [kS x4.Name] 16 [] ([x4.Name] : (List Str)) rfl zfY rfl rfl rfl rfl) (ra 0 [.own Rp.str 9 14 [] names, .own Rp.str 9 16 [] ([x4.Name] : (List Str))] rfl (zes 14 [] rfl zfY.el rfl (zbA _ _ _ _ _) (zbF _ _ _ _ _) h_v (.inl zlO) rfl) rfl rf)) ?_
   refine zN ⟨[(0, .sl zd [0] sv), (2, .sl (Rp.int .i64) [0] way), (8, .own Rp.str 9 14 [] v), (9, kI i), (11, .ptr 15 0), (55, kB ((decide (i < (IntKind.i64.wrap ((way.length : Int) - 1)))) && (x4.Repeated || (x4.Kind != 17))))], [⟨15, 62, [kS x4.Name, kI x4.Number, kI x4.Kind, kB x4.Repeated, kB x4.Packed, kI x4.Of]⟩]⟩ ?_ ?_
   ·
    refine (rsl 6 [] 47 (decide (i < (IntKind.i64.wrap ((way.length : Int) - 1)))) (fun hc3 => ?_) (fun hc3 => ?_))
    ·
     refine (rsl 3 [] 50 x4.Repeated (fun hc4 => ?_) (fun hc4 => ?_))
     · exact (rbl [] 55 true ((decide (i < (IntKind.i64.wrap ((way.length : Int) - 1)))) && (x4.Repeated || (x4.Kind != 17))) (by rw [hc3, hc4] <;> rfl))
     exact (rbl [] 55 (x4.Kind != 17) ((decide (i < (IntKind.i64.wrap ((way.length : Int) - 1)))) && (x4.Repeated || (x4.Kind != 17))) (by rw [hc3, hc4] <;> rfl))
    exact (rbl [] 55 false ((decide (i < (IntKind.i64.wrap ((way.length : Int) - 1)))) && (x4.Repeated || (x4.Kind != 17))) (by rw [hc3] <;> rfl))
   rcases zg h with ⟨hc5, h⟩ | ⟨hc5, h⟩
   ·
    refine jT hc5 ?_
    refine jp ?_
    obtain rfl := sj h
    exact zaW lzz
   refine jF hc5 ?_
   refine jp ?_
   refine zaf ?_
   refine jp ?_
   obtain rfl := sj h
   exact zJ lzz
  refine jF hc1 ?_
  obtain rfl := sj h
  exact zai rfl lzz
 ·
  refine zaS ⟨[(0, .sl zd [0] sv), (1, kI root), (2, .sl (Rp.int .i64) [0] way), (8, kN), (9, kI 0)], []⟩ (by kernel_rfl) ?_
  refine zbL 8 (.own Rp.str 9 14 [] []) rfl (zY Rp.str 9 14 [] rfl) ?_
  exact lzz
 rcases q with u | u2
 ·
  refine zaJ _ rfl ?_
  obtain ⟨g, h_g, h⟩ := bnd h
  refine zN ⟨[(6, kS g.1), (7, kB g.2)], []⟩ ?_ ?_
  ·
   obtain ⟨rv2, h_rv2, h_g⟩ := bnd h_g
   refine (rl 1 [14] 15 Tryz.call60 (znn h_rv2) (rsl 4 [] 63 (decide ((u.length : Int) ≥ 1)) (fun hc6 => ?_) (fun hc6 => ?_)))
   ·
    replace h_g := iteT h_g hc6
    obtain rfl := sj h_g
    exact rgg
   replace h_g := iteF h_g hc6
   obtain rfl := sj h_g
   exact rgg
  obtain rfl := sj h
  exact zp lzz
 obtain rfl := sj h
 exact zdi lzz
theorem zno {av : (List Str)} {b : (List Str)} {r : Bool} (h : zfP av b = some r) : FnOk Tryz.prog 35 [.sl Rp.str [0] av, .sl Rp.str [0] b] [kB r] := by
 refine zo (E := ⟨[(4, kB r)], []⟩) 18 Tryz.func35 rfl rfl rfl ⟨rfl, trivial⟩ (fun Xt => ?_)
 refine zh ?_
 unfold zfP at h
 refine jp ?_
 obtain ⟨g, h_g, h⟩ := bnd h
 refine zN ⟨[(4, kB g)], []⟩ ?_ ?_
 ·
  refine (rsl 6 [] 10 ((av.length : Int) == (b.length : Int)) (fun hc1 => ?_) (fun hc1 => ?_))
  ·
   replace h_g := iteT h_g hc1
   obtain ⟨rv, h_rv, h_g⟩ := bnd h_g
   obtain rfl := sj h_g
   exact (rl 2 [0] 9 Tryz.call61 (zmc h_rv) rgg)
  replace h_g := iteF h_g hc1
  obtain rfl := sj h_g
  exact rgg
 obtain rfl := sj h
 exact zp lzz
theorem zeU {sv : (List (List Int))} {v : Int} {r : Int} (h : zaP sv v = some r) : FnOk Tryz.prog 67 [.sl (Rp.list (Rp.int .i64)) [0] sv, .fv 46 [.ep (Rp.int .i64) [0] v 0]] [kI r] := by
 refine zo (E := ⟨[(4, kI r)], []⟩) 19 Tryz.func67 rfl rfl rfl ⟨rfl, trivial⟩ (fun Xt => ?_)
 refine zh ?_
 unfold zaP at h
 refine jp ?_
 refine jp ?_
 refine zn ?_
 obtain ⟨q, h_q, h⟩ := bnd h
 refine zam (fun s : Int => zu sv v s) (fun s => ⟨[(0, .sl (Rp.list (Rp.int .i64)) [0] sv), (1, .fv 46 [.ep (Rp.int .i64) [0] v 0]), (7, kI (sv.length : Int)), (8, kI s)], []⟩) (fun o e a w => match o with | (.inl v_) => e = .exit 0 ∧ Sx ⟨⟨19, []⟩, Xt, false, #[]⟩ ⟨[], []⟩ a w | (.inr v_) => e = .ret ∧ Sx ⟨⟨19, []⟩, Xt, false, #[]⟩ ⟨[(4, kI v_)], []⟩ a w) ?_ h_q lzz ?_
 ·
  clear h
  intro v2 o h
  refine zh ?_
  replace h : zu sv v v2 = some o := h
  unfold zu at h
  refine jp ?_
  rcases zg h with ⟨hc1, h⟩ | ⟨hc1, h⟩
  ·
   refine jT hc1 ?_
   refine zn ?_
   refine jp ?_
   obtain ⟨x, h_x, h⟩ := bnd h
   obtain ⟨rv, h_rv, h⟩ := bnd h
   refine jr (ra 3 [.sl (Rp.list (Rp.int .i64)) [0] sv, kI v2] rfl (zW rfl zaF.el (zv _ _ _) h_x) rfl (ra 0 [.ep (Rp.list (Rp.int .i64)) [0] x 0] rfl (zaK (Rp.int .i64) x rfl rfl rfl) rfl (ra 0 [.fv 46 [.ep (Rp.int .i64) [0] v 0], .sl (Rp.int .i64) [0] x] rfl (zjx (args := [.tmp 15]) [.sl (Rp.int .i64) [0] x] [0] 10 rfl (zof _ _) Tryz.call46 (znD h_rv) rfl rfl rfl rfl rfl) rfl rf))) ?_
   rcases zg h with ⟨hc2, h⟩ | ⟨hc2, h⟩
   ·
    refine jT hc2 ?_
    refine jp ?_
    obtain rfl := sj h
    exact zaW lzz
   refine jF hc2 ?_
   refine zaf ?_
   refine jp ?_
   obtain rfl := sj h
   exact zJ lzz
  refine jF hc1 ?_
  obtain rfl := sj h
  exact zai rfl lzz
 rcases q with u | u2
 ·
  refine zaJ _ rfl ?_
  refine jp ?_
  obtain rfl := sj h
  exact zp lzz
 obtain rfl := sj h
 exact zdi lzz
theorem zgh {slices : (List (List (List Int)))} {r : (List (List Int))} (h : zbP slices = some r) : FnOk Tryz.prog 49 [.sl (Rp.list (Rp.list (Rp.int .i64))) [0] slices] [.own (Rp.list (Rp.int .i64)) 30 2 [0] r] := by
 refine zo (E := ⟨[(2, .own (Rp.list (Rp.int .i64)) 30 2 [0] r)], []⟩) 36 Tryz.func49 rfl rfl rfl ⟨rfl, trivial⟩ (fun Xt => ?_)
 refine zh ?_
 unfold zbP at h
 refine jp ?_
 refine jp ?_
 refine jp ?_
 refine zn ?_
 obtain ⟨q, h_q, h⟩ := bnd h
 refine zam (fun s : (Int × Int) => zM slices s.1 s.2) (fun s => ⟨[(0, .sl (Rp.list (Rp.list (Rp.int .i64))) [0] slices), (3, kI s.1), (9, .sl (Rp.list (Rp.list (Rp.int .i64))) [0] slices), (10, kI (slices.length : Int)), (11, kI s.2)], []⟩) (fun o e a w => e = .exit 0 ∧ Sx ⟨⟨36, []⟩, Xt, false, #[]⟩ ⟨[(0, .sl (Rp.list (Rp.list (Rp.int .i64))) [0] slices), (3, kI o)], []⟩ a w) ?_ h_q lzz ?_
 ·
  clear h
  intro s o h
  obtain ⟨size, v⟩ := s
  refine zh ?_
  replace h : zM slices size v = some o := h
  unfold zM at h
  refine jp ?_
  rcases zg h with ⟨hc1, h⟩ | ⟨hc1, h⟩
  ·
   refine jT hc1 ?_
   refine zn ?_
   obtain ⟨x, h_x, h⟩ := bnd h
   refine jr (ra 0 [.sl (Rp.list (Rp.list (Rp.int .i64))) [0] slices, kI v] rfl (zW rfl zvt.el (zv _ _ _) h_x) rfl (ra 0 [.ep (Rp.list (Rp.list (Rp.int .i64))) [0] x 0] rfl (zaK (Rp.list (Rp.int .i64)) x rfl rfl rfl) rfl rf)) ?_
   refine jp ?_
   refine jp ?_
   rcases zg h with ⟨hc2, h⟩ | ⟨hc2, h⟩
   ·
    refine jT hc2 ?_
    exact absurd h nofun
   refine jF hc2 ?_
   refine zaf ?_
   refine jp ?_
   obtain rfl := sj h
   exact zJ lzz
  refine jF hc1 ?_
  obtain rfl := sj h
  exact zai rfl lzz
 refine zaJ _ rfl ?_
 obtain ⟨rv, h_rv, h⟩ := bnd h
 refine jr (rl 1 [1] 12 Tryz.call69 (zjC h_rv) rf) ?_
 refine jp ?_
 refine zn ?_
 obtain ⟨q2, h_q2, h⟩ := bnd h
 refine zam (fun s : ((List (List Int)) × Int) => zX slices s.1 s.2) (fun s => ⟨[(6, .own (Rp.list (Rp.int .i64)) 30 14 [0] s.1), (25, .sl (Rp.list (Rp.list (Rp.int .i64))) [0] slices), (26, kI (slices.length : Int)), (27, kI s.2)], []⟩) (fun o e a w => e = .exit 2 ∧ Sx ⟨⟨36, []⟩, Xt, false, #[]⟩ ⟨[(6, .own (Rp.list (Rp.int .i64)) 30 14 [0] o)], []⟩ a w) ?_ h_q2 ?_ ?_
 ·
  clear h
  intro s o h
  obtain ⟨newslice, v2⟩ := s
  refine zh ?_
  replace h : zX slices newslice v2 = some o := h
  unfold zX at h
  refine jp ?_
  rcases zg h with ⟨hc3, h⟩ | ⟨hc3, h⟩
  ·
   refine jT hc3 ?_
   refine zn ?_
   obtain ⟨x2, h_x2, h⟩ := bnd h
   refine jr (ra 0 [.sl (Rp.list (Rp.list (Rp.int .i64))) [0] slices, kI v2] rfl (zW rfl zvt.el (zv _ _ _) h_x2) rfl (ra 0 [.ep (Rp.list (Rp.list (Rp.int .i64))) [0] x2 0] rfl (zaK (Rp.list (Rp.int .i64)) x2 rfl rfl rfl) rfl rf)) ?_
   obtain ⟨v3, h_v3, h⟩ := bnd h
   refine jr (ra 2 [.own (Rp.list (Rp.int .i64)) 30 14 [0] newslice, .sl (Rp.list (Rp.int .i64)) [0] x2] rfl (zes 14 [0] rfl zaF.el rfl (zbA _ _ _ _ _) (zv _ _ _) h_v3 (.inr rfl) rfl) rfl rf) ?_
   refine zaf ?_
   refine jp ?_
   obtain rfl := sj h
   exact zJ lzz
  refine jF hc3 ?_
  obtain rfl := sj h
  exact zai rfl lzz
 ·
  refine zaS ⟨[(6, .own (Rp.list (Rp.int .i64)) 30 14 [] rv), (25, .sl (Rp.list (Rp.list (Rp.int .i64))) [0] slices), (26, kI (slices.length : Int)), (27, kI 0)], []⟩ (by kernel_rfl) ?_
  refine zbL 6 (.own (Rp.list (Rp.int .i64)) 30 14 [0] rv) rfl (zgb _ _ _ _ _ _ rfl rfl) ?_
  exact lzz
 refine zaJ _ rfl ?_
 refine jp ?_
 obtain rfl := sj h
 refine zp ?_
 refine lk [2] [] 14 2 ?_
 exact lzz
theorem zkX {way : (List Int)} {v : (List (zI × Int))} {r : Bool} (h : zgo way v = some r) : FnOk Tryz.prog 72 [.sl (Rp.int .i64) [0] way, .em zae (Rp.int .i64) [0] v] [kB r] := by
 refine zo (E := ⟨[(3, kB r)], []⟩) 8 Tryz.func72 rfl rfl rfl ⟨rfl, trivial⟩ (fun Xt => ?_)
 refine zh ?_
 unfold zgo at h
 refine jp ?_
 obtain ⟨rv, h_rv, h⟩ := bnd h
 refine jr (ra 0 [.em zae (Rp.int .i64) [0] v] rfl (zBT rfl rfl) rfl (rl 1 [0] 9 Tryz.call43 (zks h_rv) rf)) ?_
 obtain rfl := sj h
 exact zp lzz
end Go.Proofs.YtglkepeofhonlaaGreatDoor

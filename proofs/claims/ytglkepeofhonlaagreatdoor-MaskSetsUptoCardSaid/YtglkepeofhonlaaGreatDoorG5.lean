/-
  The Go functions do what the plain functions say. No condition.
-/
import Derived.Test.YtglkepeofhonlaaGreatDoorG4
namespace Go.Proofs.YtglkepeofhonlaaGreatDoor
open Go Go.RowKit
set_option linter.unusedVariables false
set_option maxRecDepth 100000
set_option maxHeartbeats 3200000
theorem zqr {f : zb} {r : Bool} (h : zhh f = some r) : FnOk Tryz.prog 116 [.rc za [0] f] [kB r] := by
 refine zo (E := ⟨[(2, kB r)], []⟩) 10 Tryz.func116 rfl rfl rfl ⟨rfl, trivial⟩ (fun Xt => ?_)
 refine zh ?_
 unfold zhh at h
 refine jq [11] ?_
 obtain ⟨g, h_g, h⟩ := bnd h
 refine zN ⟨[(2, kB g)], []⟩ ?_ ?_
 ·
  refine (rsl 3 [] 5 f.Repeated (fun hc1 => ?_) (fun hc1 => ?_))
  ·
   replace h_g := iteT h_g hc1
   obtain ⟨rv, h_rv, h_g⟩ := bnd h_g
   obtain rfl := sj h_g
   exact (rl 2 [1] 10 Tryz.call139 (zsw h_rv) rgg)
  replace h_g := iteF h_g hc1
  obtain rfl := sj h_g
  exact rgg
 obtain rfl := sj h
 exact zp lzz
theorem znc (v : Str) (v2 : Str) (v3 : Int) : ItOk Tryz.prog 118 [.bp Rp.str 9 911800 [] v, .bp Rp.str 9 911801 [] v2, .bp (Rp.int .i64) 3 911802 [] v3] (fun x : Str => [kS x]) (fun {σ : Type} (kf : Rnd σ Str) (sg : σ) => zdq v v2 v3 kf sg) := by
 refine zss 52 [(1, .ptr 911800 0), (2, .ptr 911801 0), (3, .ptr 911802 0)] [⟨911800, 9, [kS v]⟩, ⟨911801, 9, [kS v2]⟩, ⟨911802, 3, [kI v3]⟩] Tryz.func118 rfl rfl rfl rfl (.cons Rp.str 9 911800 [] v [kS v] rfl rfl (.cons Rp.str 9 911801 [] v2 [kS v2] rfl rfl (.cons (Rp.int .i64) 3 911802 [] v3 [kI v3] rfl rfl (.nil _)))) ?_
 intro σ kf sg s1 h l I hI F_ hT
 replace h : zdq v v2 v3 kf sg = some s1 := h
 refine zh ?_
 refine zjT (E' := ⟨[(0, .lf (.val (.func (.yield l) #[] #[]))), (1, .ptr 911800 0), (2, .ptr 911801 0), (3, .ptr 911802 0)], [⟨911800, 9, [kS v]⟩, ⟨911801, 9, [kS v2]⟩, ⟨911802, 3, [kI v3]⟩]⟩) (fun _ _ _ hs => hs) ?_
 unfold zdq at h
 refine jp ?_
 rcases zg h with ⟨hc1, h⟩ | ⟨hc1, h⟩
 ·
  refine jT hc1 ?_
  refine zn ?_
  obtain ⟨q, h_q, h⟩ := bnd h
  refine zpN (fun s : (Str × σ) => zfD kf s.1 s.2) (fun s => ⟨⟨52, []⟩, itX I hI F_ s.2, false, #[]⟩) (fun s => ⟨[(0, .lf (.val (.func (.yield l) #[] #[]))), (2, .ptr 911801 0)], [⟨911801, 9, [kS s.1]⟩]⟩) (fun o e a w => match o with | (.inl v_) => e = .exit 0 ∧ Sx ⟨⟨52, []⟩, itX I hI F_ v_, false, #[]⟩ ⟨[], []⟩ a w | (.inr v_) => e = .ret ∧ Sx ⟨⟨52, []⟩, itX I hI F_ v_, false, #[]⟩ ⟨[], []⟩ a w) ?_ h_q rfl lzz ?_
  ·
   clear h
   intro s o h
   obtain ⟨f, sg2⟩ := s
   refine zh ?_
   replace h : zfD kf f sg2 = some o := h
   unfold zfD at h
   refine jp ?_
   rcases zg h with ⟨hc2, h⟩ | ⟨hc2, h⟩
   ·
    refine jT hc2 ?_
    refine zn ?_
    obtain ⟨rv, h_rv, h⟩ := bnd h
    refine jr (rl 1 [1] 10 Tryz.call119 (zid h_rv) rf) ?_
    obtain ⟨v4, h_v4, h⟩ := bnd h
    obtain ⟨y, h_y, h⟩ := bnd h
    refine znv (E' := ⟨[(0, .lf (.val (.func (.yield l) #[] #[]))), (2, .ptr 911801 0), (6, kI rv.2), (25, kB (!y.1))], [⟨911801, 9, [kS f]⟩]⟩) (x := v4) (b := y.1) (s' := y.2) 4 (some 24) [.tmp 23] [kS v4] [kS v4] ⟨[(0, .lf (.val (.func (.yield l) #[] #[]))), (2, .ptr 911801 0), (6, kI rv.2), (20, .lf (.val (.func (.yield l) #[] #[]))), (23, kS v4)], [⟨911801, 9, [kS f]⟩]⟩ hT rfl rfl rfl rfl rfl (ra 3 [kS f, kI rv.2] rfl (zoj none (some (kI rv.2)) rfl Tryz.underlying9 ⟨rfl, rfl⟩ ⟨rfl, rfl⟩ h_v4) rfl rgg) rfl ⟨rfl, trivial⟩ rfl ⟨AV.le_refl _, trivial⟩ rfl rfl h_y rgg ?_
    rcases zg h with ⟨hc3, h⟩ | ⟨hc3, h⟩
    ·
     refine jT hc3 ?_
     obtain rfl := sj h
     exact zaW lzz
    refine jF hc3 ?_
    obtain ⟨v5, h_v5, h⟩ := bnd h
    refine jr (ra 2 [kS f, kI rv.2] rfl (zoj (some (kI rv.2)) none rfl Tryz.underlying9 ⟨rfl, rfl⟩ ⟨rfl, rfl⟩ h_v5) rfl rf) ?_
    refine zaf ?_
    obtain rfl := sj h
    exact zJ lzz
   refine jF hc2 ?_
   obtain rfl := sj h
   exact zai rfl lzz
  rcases q with u | u2
  ·
   refine zaJ _ rfl ?_
   obtain rfl := sj h
   exact zCy lzz
  obtain rfl := sj h
  exact zuS lzz
 refine jF hc1 ?_
 refine zn ?_
 obtain ⟨q2, h_q2, h⟩ := bnd h
 refine zpN (fun s : (Str × σ) => zaL kf v v3 s.1 s.2) (fun s => ⟨⟨52, []⟩, itX I hI F_ s.2, false, #[]⟩) (fun s => ⟨[(0, .lf (.val (.func (.yield l) #[] #[]))), (1, .ptr 911800 0), (2, .ptr 911801 0), (3, .ptr 911802 0)], [⟨911800, 9, [kS v]⟩, ⟨911801, 9, [kS s.1]⟩, ⟨911802, 3, [kI v3]⟩]⟩) (fun o e a w => match o with | (.inl v_) => e = .exit 2 ∧ Sx ⟨⟨52, []⟩, itX I hI F_ v_.2, false, #[]⟩ ⟨[(0, .lf (.val (.func (.yield l) #[] #[]))), (2, .ptr 911801 0)], [⟨911801, 9, [kS v_.1]⟩]⟩ a w | (.inr v_) => e = .ret ∧ Sx ⟨⟨52, []⟩, itX I hI F_ v_, false, #[]⟩ ⟨[], []⟩ a w) ?_ h_q2 rfl lzz ?_
 ·
  clear h
  intro s o h
  obtain ⟨f2, sg5⟩ := s
  refine zh ?_
  replace h : zaL kf v v3 f2 sg5 = some o := h
  unfold zaL at h
  refine zn ?_
  obtain ⟨rv2, h_rv2, h⟩ := bnd h
  refine jr (rl 2 [1] 11 Tryz.call120 (zrb h_rv2) rf) ?_
  refine jp ?_
  rcases zg h with ⟨hc4, h⟩ | ⟨hc4, h⟩
  ·
   refine jT hc4 ?_
   obtain rfl := sj h
   exact zai rfl lzz
  refine jF hc4 ?_
  obtain ⟨v6, h_v6, h⟩ := bnd h
  refine jr (ra 4 [kS f2, kI (IntKind.i64.wrap (rv2 + v3))] rfl (zoj none (some (kI (IntKind.i64.wrap (rv2 + v3)))) rfl Tryz.underlying9 ⟨rfl, rfl⟩ ⟨rfl, rfl⟩ h_v6) rfl rf) ?_
  obtain ⟨y2, h_y2, h⟩ := bnd h
  refine znv (E' := ⟨[(0, .lf (.val (.func (.yield l) #[] #[]))), (1, .ptr 911800 0), (2, .ptr 911801 0), (3, .ptr 911802 0), (7, kI rv2), (42, kB (!y2.1))], [⟨911800, 9, [kS v]⟩, ⟨911801, 9, [kS f2]⟩, ⟨911802, 3, [kI v3]⟩]⟩) (x := v6) (b := y2.1) (s' := y2.2) 2 (some 41) [.tmp 40] [kS v6] [kS v6] ⟨[(0, .lf (.val (.func (.yield l) #[] #[]))), (1, .ptr 911800 0), (2, .ptr 911801 0), (3, .ptr 911802 0), (7, kI rv2), (39, .lf (.val (.func (.yield l) #[] #[]))), (40, kS v6)], [⟨911800, 9, [kS v]⟩, ⟨911801, 9, [kS f2]⟩, ⟨911802, 3, [kI v3]⟩]⟩ hT rfl rfl rfl rfl rfl rgg rfl ⟨rfl, trivial⟩ rfl ⟨AV.le_refl _, trivial⟩ rfl rfl h_y2 rgg ?_
  rcases zg h with ⟨hc5, h⟩ | ⟨hc5, h⟩
  ·
   refine jT hc5 ?_
   obtain rfl := sj h
   exact zaW lzz
  refine jF hc5 ?_
  obtain ⟨v7, h_v7, h⟩ := bnd h
  refine jr (ra 5 [kS f2, kI (IntKind.i64.wrap (rv2 + (v.length : Int)))] rfl (zoj (some (kI (IntKind.i64.wrap (rv2 + (v.length : Int))))) none rfl Tryz.underlying9 ⟨rfl, rfl⟩ ⟨rfl, rfl⟩ h_v7) rfl rf) ?_
  refine zaf ?_
  obtain rfl := sj h
  exact zJ lzz
 rcases q2 with u3 | u4
 ·
  refine zaJ _ rfl ?_
  obtain ⟨y3, h_y3, h⟩ := bnd h
  refine znv (E' := ⟨[], []⟩) (x := u3.1) (b := y3.1) (s' := y3.2) 2 (some 51) [.tmp 50] [kS u3.1] [kS u3.1] ⟨[(49, .lf (.val (.func (.yield l) #[] #[]))), (50, kS u3.1)], []⟩ hT rfl rfl rfl rfl rfl rgg rfl ⟨rfl, trivial⟩ rfl ⟨AV.le_refl _, trivial⟩ rfl rfl h_y3 rgg ?_
  obtain rfl := sj h
  exact zxx lzz
 obtain rfl := sj h
 exact zuS lzz
theorem zew {v : (List Str)} {r : (List Str)} (h : zag v = some r) : FnOk Tryz.prog 93 [.fv 123 [.ep (Rp.list Rp.str) [0] v 0]] [.own Rp.str 9 2 [] r] := by
 refine zo (E := ⟨[(2, .own Rp.str 9 2 [] r)], []⟩) 9 Tryz.func93 rfl rfl rfl ⟨rfl, trivial⟩ (fun Xt => ?_)
 refine zh ?_
 unfold zag at h
 refine jp ?_
 obtain ⟨rv, h_rv, h⟩ := bnd h
 refine jr (rl 1 [0] 10 Tryz.call121 (zei h_rv) rf) ?_
 obtain ⟨rv3, h_rv3, h⟩ := bnd h
 refine jr (rkl 1 [] ⟨[(3, .own Rp.str 9 12 [] rv), (6, .own Rp.str 9 12 [] rv)], []⟩ (zhu ⟨[(3, .own Rp.str 9 12 [] rv3), (6, .own Rp.str 9 12 [] rv3)], []⟩ (zou [.own Rp.str 9 12 [] rv] [(12, 2)] [1] 12 [] rfl Tryz.call122 (ziO h_rv3) rfl rfl (by kernel_rfl) rfl rfl rfl) rfl (by kernel_rfl) (by kernel_rfl) ⟨⟨_, rfl, zfX 0 rfl⟩, ⟨_, rfl, zfX 0 rfl⟩, trivial⟩ trivial rf)) ?_
 refine jp ?_
 obtain rfl := sj h
 refine zp ?_
 refine lk [2] [] 12 2 ?_
 exact lzz
theorem zra {m : zc} {name : Str} {r : (Int × Bool)} (h : zhP m name = some r) : FnOk Tryz.prog 55 [.rc zd [0] m, kS name] [kI r.1, kB r.2] := by
 refine zo (E := ⟨[(4, kI r.1), (5, kB r.2)], []⟩) 11 Tryz.func55 rfl rfl rfl ⟨rfl, rfl, trivial⟩ (fun Xt => ?_)
 refine zh ?_
 unfold zhP at h
 refine jr (ra 0 [.rc zd [0] m] rfl (zgW 11 [kS m.Name, .sl za [0] m.Fields] [0] rfl rfl rfl rfl rfl) rfl (rfl' [908000])) ?_
 obtain ⟨rv, h_rv, h⟩ := bnd h
 refine jr (ra 1 [.ptr 908000 0] rfl (zpU (g := 80) [.tmp 3] [⟨908000, 9, [kS name]⟩] [.ep Rp.str [908000] name 0] rfl ⟨⟨rfl, rfl, rfl⟩, trivial⟩ rfl) rfl (rl 0 [0, 908000] 10 Tryz.call79 (ziM h_rv) rf)) ?_
 obtain rfl := sj h
 exact zp lzz
theorem znG {ways : (List (List Int))} {r : Bool} (h : zit ways = some r) : FnOk Tryz.prog 38 [.sl (Rp.list (Rp.int .i64)) [0] ways] [kB r] := by
 refine zo (E := ⟨[(2, kB r)], []⟩) 23 Tryz.func38 rfl rfl rfl ⟨rfl, trivial⟩ (fun Xt => ?_)
 refine zh ?_
 unfold zit at h
 refine jp ?_
 refine jp ?_
 refine jp ?_
 refine zn ?_
 obtain ⟨q, h_q, h⟩ := bnd h
 refine zam (fun s : ((List Int) × Int) => zcH ways s.1 s.2) (fun s => ⟨[(3, .sl (Rp.int .i64) [0] s.1), (6, .sl (Rp.list (Rp.int .i64)) [0] ways), (7, kI (ways.length : Int)), (8, kI s.2)], []⟩) (fun o e a w => match o with | (.inl v_) => e = .exit 0 ∧ Sx ⟨⟨23, []⟩, Xt, false, #[]⟩ ⟨[], []⟩ a w | (.inr v_) => e = .ret ∧ Sx ⟨⟨23, []⟩, Xt, false, #[]⟩ ⟨[(2, kB false)], []⟩ a w) ?_ h_q ?_ ?_
 ·
  clear h
  intro s o h
  obtain ⟨last, v⟩ := s
  refine zh ?_
  replace h : zcH ways last v = some o := h
  unfold zcH at h
  refine jp ?_
  rcases zg h with ⟨hc1, h⟩ | ⟨hc1, h⟩
  ·
   refine jT hc1 ?_
   refine zn ?_
   obtain ⟨x, h_x, h⟩ := bnd h
   refine jr (ra 0 [.sl (Rp.list (Rp.int .i64)) [0] ways, kI v] rfl (zW rfl zaF.el (zv _ _ _) h_x) rfl (ra 0 [.ep (Rp.list (Rp.int .i64)) [0] x 0] rfl (zaK (Rp.int .i64) x rfl rfl rfl) rfl rf)) ?_
   obtain ⟨g, h_g, h⟩ := bnd h
   refine zN ⟨[(5, .sl (Rp.int .i64) [0] x), (6, .sl (Rp.list (Rp.int .i64)) [0] ways), (7, kI (ways.length : Int)), (8, kI v), (20, kB g)], []⟩ ?_ ?_
   ·
    obtain ⟨rv, h_rv, h_g⟩ := bnd h_g
    refine (rl 2 [0] 10 Tryz.call42 (zjO h_rv) (rsl 2 [] 16 (decide (rv ≥ 0)) (fun hc2 => ?_) (fun hc2 => ?_)))
    ·
     replace h_g := iteT h_g hc2
     obtain rfl := sj h_g
     exact rgg
    replace h_g := iteF h_g hc2
    obtain ⟨rv2, h_rv2, h_g⟩ := bnd h_g
    obtain rfl := sj h_g
    exact (rl 2 [0] 10 Tryz.call48 (zpX h_rv2) rgg)
   rcases zg h with ⟨hc3, h⟩ | ⟨hc3, h⟩
   ·
    refine jT hc3 ?_
    refine jp ?_
    obtain rfl := sj h
    exact zaW lzz
   refine jF hc3 ?_
   refine jp ?_
   refine zaf ?_
   refine jp ?_
   obtain rfl := sj h
   exact zJ lzz
  refine jF hc1 ?_
  obtain rfl := sj h
  exact zai rfl lzz
 ·
  refine zaS ⟨[(3, kN), (6, .sl (Rp.list (Rp.int .i64)) [0] ways), (7, kI (ways.length : Int)), (8, kI 0)], []⟩ (by kernel_rfl) ?_
  refine zbL 3 (.sl (Rp.int .i64) [0] []) rfl (zze (Rp.int .i64) [0]) ?_
  exact lzz
 rcases q with u | u2
 ·
  refine zaJ _ rfl ?_
  refine jp ?_
  obtain rfl := sj h
  exact zp lzz
 obtain rfl := sj h
 exact zdi lzz
theorem zcc {v : (List (List Int))} {r : (List (List Int))} (h : zG v = some r) : FnOk Tryz.prog 40 [.fv 65 [.ep (Rp.list (Rp.list (Rp.int .i64))) [0] v 0], .lf (.val (.func (.func 42) #[] #[]))] [.own (Rp.list (Rp.int .i64)) 30 2 [3, 0] r] := by
 refine zo (E := ⟨[(4, .own (Rp.list (Rp.int .i64)) 30 2 [3, 0] r)], []⟩) 12 Tryz.func40 rfl rfl rfl ⟨rfl, trivial⟩ (fun Xt => ?_)
 refine zh ?_
 unfold zG at h
 refine jp ?_
 obtain ⟨rv, h_rv, h⟩ := bnd h
 refine jr (rl 1 [0] 11 Tryz.call63 (zeK h_rv) rf) ?_
 obtain ⟨rv3, h_rv3, h⟩ := bnd h
 refine jr (rkl 2 [] ⟨[(5, .own (Rp.list (Rp.int .i64)) 30 13 [14, 0] rv), (8, .own (Rp.list (Rp.int .i64)) 30 13 [14, 0] rv), (9, .lf (.val (.func (.func 42) #[] #[])))], []⟩ (zhu ⟨[(5, .own (Rp.list (Rp.int .i64)) 30 13 [14, 0] rv3), (8, .own (Rp.list (Rp.int .i64)) 30 13 [14, 0] rv3), (9, .lf (.val (.func (.func 42) #[] #[])))], []⟩ (zou [.own (Rp.list (Rp.int .i64)) 30 13 [14, 0] rv, .lf (.val (.func (.func 42) #[] #[]))] [(13, 2)] [14, 0] 14 [] rfl Tryz.call64 (zed h_rv3) rfl rfl (by kernel_rfl) rfl rfl rfl) rfl (by kernel_rfl) (by kernel_rfl) ⟨⟨_, rfl, zfX 0 rfl⟩, ⟨_, rfl, zfX 0 rfl⟩, ⟨_, rfl, zK rfl⟩, trivial⟩ trivial rf)) ?_
 refine jp ?_
 obtain rfl := sj h
 refine zp ?_
 refine lk [4] [] 13 2 ?_
 refine lk [4] [] 14 3 ?_
 exact lzz
theorem zmY {sv : (List zc)} {r : Bool} (h : zfp sv = some r) : FnOk Tryz.prog 56 [.sl zd [0] sv] [kB r] := by
 refine zo (E := ⟨[(2, kB r)], []⟩) 14 Tryz.func56 rfl rfl rfl ⟨rfl, trivial⟩ (fun Xt => ?_)
 refine zh ?_
 unfold zfp at h
 refine jp ?_
 obtain ⟨rv, h_rv, h⟩ := bnd h
 refine jr (rl 1 [0] 9 Tryz.call81 (zmU h_rv) rf) ?_
 refine jp ?_
 obtain rfl := sj h
 exact zp lzz
theorem zpq {m : zc} {number : Int} {r : (Int × Bool)} (h : zgN m number = some r) : FnOk Tryz.prog 74 [.rc zd [0] m, kI number] [kI r.1, kB r.2] := by
 refine zo (E := ⟨[(4, kI r.1), (5, kB r.2)], []⟩) 11 Tryz.func74 rfl rfl rfl ⟨rfl, rfl, trivial⟩ (fun Xt => ?_)
 refine zh ?_
 unfold zgN at h
 refine jr (ra 0 [.rc zd [0] m] rfl (zgW 11 [kS m.Name, .sl za [0] m.Fields] [0] rfl rfl rfl rfl rfl) rfl (rfl' [908600])) ?_
 obtain ⟨rv, h_rv, h⟩ := bnd h
 refine jr (ra 1 [.ptr 908600 0] rfl (zpU (g := 86) [.tmp 3] [⟨908600, 3, [kI number]⟩] [.ep (Rp.int .i64) [908600] number 0] rfl ⟨⟨rfl, rfl, rfl⟩, trivial⟩ rfl) rfl (rl 0 [0, 908600] 10 Tryz.call79 (zib h_rv) rf)) ?_
 obtain rfl := sj h
 exact zp lzz
theorem zft {m : zO} {number : Int} {r : Bool} (h : zfK m number = some r) : FnOk Tryz.prog 21 [.rc zat [0] m, kI number] [kB r] := by
 refine zo (E := ⟨[(4, kB r)], []⟩) 9 Tryz.func21 rfl rfl rfl ⟨rfl, trivial⟩ (fun Xt => ?_)
 refine zh ?_
 unfold zfK at h
 refine jr (ra 0 [.rc zat [0] m] rfl (zgW 11 [.sl (Rp.list (Rp.int .i64)) [0] m.Ways] [0] rfl rfl rfl rfl rfl) rfl (rfl' [904600])) ?_
 obtain ⟨rv, h_rv, h⟩ := bnd h
 refine jr (ra 2 [.ptr 904600 0] rfl (zpU (g := 46) [.tmp 3] [⟨904600, 3, [kI number]⟩] [.ep (Rp.int .i64) [904600] number 0] rfl ⟨⟨rfl, rfl, rfl⟩, trivial⟩ rfl) rfl (rl 0 [0, 904600] 10 Tryz.call45 (zeL h_rv) rf)) ?_
 obtain rfl := sj h
 exact zp lzz
theorem zge {sv : (List (List Int))} {v : (List Int)} {r : Int} (h : zbt sv v = some r) : FnOk Tryz.prog 67 [.sl (Rp.list (Rp.int .i64)) [0] sv, .fv 47 [.ep (Rp.list (Rp.int .i64)) [0] v 0]] [kI r] := by
 refine zo (E := ⟨[(4, kI r)], []⟩) 19 Tryz.func67 rfl rfl rfl ⟨rfl, trivial⟩ (fun Xt => ?_)
 refine zh ?_
 unfold zbt at h
 refine jp ?_
 refine jp ?_
 refine zn ?_
 obtain ⟨q, h_q, h⟩ := bnd h
 refine zam (fun s : Int => zA sv v s) (fun s => ⟨[(0, .sl (Rp.list (Rp.int .i64)) [0] sv), (1, .fv 47 [.ep (Rp.list (Rp.int .i64)) [0] v 0]), (7, kI (sv.length : Int)), (8, kI s)], []⟩) (fun o e a w => match o with | (.inl v_) => e = .exit 0 ∧ Sx ⟨⟨19, []⟩, Xt, false, #[]⟩ ⟨[], []⟩ a w | (.inr v_) => e = .ret ∧ Sx ⟨⟨19, []⟩, Xt, false, #[]⟩ ⟨[(4, kI v_)], []⟩ a w) ?_ h_q lzz ?_
 ·
  clear h
  intro v2 o h
  refine zh ?_
  replace h : zA sv v v2 = some o := h
  unfold zA at h
  refine jp ?_
  rcases zg h with ⟨hc1, h⟩ | ⟨hc1, h⟩
  ·
   refine jT hc1 ?_
   refine zn ?_
   refine jp ?_
   obtain ⟨x, h_x, h⟩ := bnd h
   obtain ⟨rv, h_rv, h⟩ := bnd h
   refine jr (ra 3 [.sl (Rp.list (Rp.int .i64)) [0] sv, kI v2] rfl (zW rfl zaF.el (zv _ _ _) h_x) rfl (ra 0 [.ep (Rp.list (Rp.int .i64)) [0] x 0] rfl (zaK (Rp.int .i64) x rfl rfl rfl) rfl (ra 0 [.fv 47 [.ep (Rp.list (Rp.int .i64)) [0] v 0], .sl (Rp.int .i64) [0] x] rfl (zjx (args := [.tmp 15]) [.sl (Rp.int .i64) [0] x] [0] 10 rfl (zof _ _) Tryz.call47 (ztz h_rv) rfl rfl rfl rfl rfl) rfl rf))) ?_
   rcases zg h with ⟨hc2, h⟩ | ⟨hc2, h⟩
   ·
    refine jT hc2 ?_
    refine jp ?_
    obtain rfl := sj h
    exact zaW lzz
   refine jF hc2 ?_
   refine zaf ?_
   refine jp ?_
   obtain rfl := sj h
   exact zJ lzz
  refine jF hc1 ?_
  obtain rfl := sj h
  exact zai rfl lzz
 rcases q with u | u2
 ·
  refine zaJ _ rfl ?_
  refine jp ?_
  obtain rfl := sj h
  exact zp lzz
 obtain rfl := sj h
 exact zdi lzz
theorem zfh {sv : (List (List Int))} {v : (List (zI × Int))} {r : (List (List Int))} (h : zau sv v = some r) : zkj Tryz.prog 70 [.own (Rp.list (Rp.int .i64)) 30 2 [0] sv, .fv 72 [.em zae (Rp.int .i64) [0] v]] [.own (Rp.list (Rp.int .i64)) 30 2 [0] r] [.any, .any] := by
 refine zob (E := ⟨[(4, .own (Rp.list (Rp.int .i64)) 30 2 [0] r)], []⟩) 42 [] Tryz.func70 rfl rfl rfl ⟨rfl, trivial⟩ ⟨.inl rfl, .inl rfl, trivial⟩ rfl (fun Xt old => ?_)
 refine zh ?_
 unfold zau at h
 refine jp ?_
 obtain ⟨rv, h_rv, h⟩ := bnd h
 refine jr (rl 2 [2, 0] 9 Tryz.call67 (zfy h_rv) rf) ?_
 refine jp ?_
 rcases zg h with ⟨hc1, h⟩ | ⟨hc1, h⟩
 ·
  refine jT hc1 ?_
  refine jp ?_
  obtain rfl := sj h
  exact zkU lzz
 refine jF hc1 ?_
 refine jp ?_
 refine zn ?_
 obtain ⟨q, h_q, h⟩ := bnd h
 refine zam (fun s : ((List (List Int)) × Int × Int) => zw v s.1 s.2.1 s.2.2) (fun s => ⟨[(0, .own (Rp.list (Rp.int .i64)) 30 2 [0] s.1), (1, .fv 72 [.em zae (Rp.int .i64) [0] v]), (5, kI s.2.1), (6, kI s.2.2)], []⟩) (fun o e a w => e = .exit 0 ∧ Sx ⟨⟨42, []⟩, Xt, false, old⟩ ⟨[(0, .own (Rp.list (Rp.int .i64)) 30 2 [0] o.1), (5, kI o.2)], []⟩ a w) ?_ h_q lzz ?_
 ·
  clear h
  intro s o h
  obtain ⟨sv2, i, j⟩ := s
  refine zh ?_
  replace h : zw v sv2 i j = some o := h
  unfold zw at h
  refine jp ?_
  rcases zg h with ⟨hc2, h⟩ | ⟨hc2, h⟩
  ·
   refine jT hc2 ?_
   refine zn ?_
   obtain ⟨x, h_x, h⟩ := bnd h
   refine jr (ra 2 [.own (Rp.list (Rp.int .i64)) 30 2 [0] sv2, kI j] rfl (znA rfl zaF.el h_x) rfl (ra 0 [.own (Rp.list (Rp.int .i64)) 30 2 [0] sv2, .ptr 2 (Int.toNat j * (Rp.list (Rp.int .i64)).size)] rfl (zCE (r := (Rp.int .i64)) (e := 30) (ℓ := 2) (C := [0]) (xs := sv2) (.tmp 0) (Int.toNat j) x rfl rfl (zkS h_x)) rfl rf)) ?_
   obtain ⟨rv2, h_rv2, h⟩ := bnd h
   refine jr (ra 2 [.fv 72 [.em zae (Rp.int .i64) [0] v], .sl (Rp.int .i64) [0] x] rfl (zjx (args := [.tmp 27]) [.sl (Rp.int .i64) [0] x] [0] 10 rfl (zof _ _) Tryz.call72 (zkX h_rv2) rfl rfl rfl rfl rfl) rfl rf) ?_
   rcases zg h with ⟨hc3, h⟩ | ⟨hc3, h⟩
   ·
    refine jT hc3 ?_
    obtain ⟨x2, h_x2, h⟩ := bnd h
    refine jr (ra 3 [.own (Rp.list (Rp.int .i64)) 30 2 [0] sv2, kI i] rfl (znA rfl zaF.el h_x2) rfl (rkl 0 [] ⟨[(0, .own (Rp.list (Rp.int .i64)) 30 2 [0] sv2), (1, .fv 72 [.em zae (Rp.int .i64) [0] v]), (5, kI i), (6, kI j), (32, .sl (Rp.int .i64) [0] x), (33, .ptr 2 (Int.toNat i * (Rp.list (Rp.int .i64)).size))], []⟩ (zhu ⟨[(0, .own (Rp.list (Rp.int .i64)) 30 2 [0] (sv2.set (Int.toNat i) x)), (1, .fv 72 [.em zae (Rp.int .i64) [0] v]), (5, kI i), (6, kI j), (32, .sl (Rp.int .i64) [0] x), (33, .ptr 2 (Int.toNat i * (Rp.list (Rp.int .i64)).size))], []⟩ (zCM (a := .sl (Rp.int .i64) [0] x) (r := (Rp.list (Rp.int .i64))) (e := 30) (ℓ := 2) (C := [0]) (xs := sv2) (off := (Int.toNat i * (Rp.list (Rp.int .i64)).size)) (.tmp 0) (Int.toNat i) 0 x2 x [0] rfl rfl Tryz.sizeOf30 rfl (zkS h_x2) rfl (zot rfl _) rfl) rfl (by kernel_rfl) (by kernel_rfl) ⟨⟨_, rfl, zfX 0 rfl⟩, ⟨_, rfl, zK rfl⟩, ⟨_, rfl, zK rfl⟩, ⟨_, rfl, zK rfl⟩, ⟨_, rfl, zK rfl⟩, ⟨_, rfl, zK rfl⟩, trivial⟩ trivial rf))) ?_
    refine jp ?_
    refine zaf ?_
    refine jp ?_
    obtain rfl := sj h
    exact zJ lzz
   refine jF hc3 ?_
   refine zaf ?_
   refine jp ?_
   obtain rfl := sj h
   exact zJ lzz
  refine jF hc2 ?_
  obtain rfl := sj h
  exact zai rfl lzz
 refine zaJ _ rfl ?_
 obtain ⟨v2, h_v2, h⟩ := bnd h
 refine jr (ra 2 [.own (Rp.list (Rp.int .i64)) 30 2 [0] q.1, kI q.2] rfl (zBV rfl zaF.el h_v2) rfl (rkl 0 [] ⟨[(0, .own (Rp.list (Rp.int .i64)) 30 2 [0] q.1), (5, kI q.2), (38, .tl 2 (Int.toNat q.2 * (Rp.list (Rp.int .i64)).size) (q.1.length - Int.toNat q.2))], []⟩ (zhu ⟨[(0, .own (Rp.list (Rp.int .i64)) 30 2 [0] (q.1.take (Int.toNat q.2) ++ List.replicate (q.1.length - (Int.toNat q.2)) ([] : (List Int)))), (5, kI q.2), (38, .tl 2 (Int.toNat q.2 * (Rp.list (Rp.int .i64)).size) (q.1.length - Int.toNat q.2))], []⟩ (zCL (r := (Rp.list (Rp.int .i64))) (e := 30) (ℓ := 2) (C := [0]) (xs := q.1) (i := (Int.toNat q.2)) (.tmp 0) rfl zaF rfl) rfl (by kernel_rfl) (by kernel_rfl) ⟨⟨_, rfl, zfX 0 rfl⟩, ⟨_, rfl, zK rfl⟩, ⟨_, rfl, zK rfl⟩, trivial⟩ trivial rf))) ?_
 obtain ⟨v3, h_v3, h⟩ := bnd h
 refine jr (ra 2 [.own (Rp.list (Rp.int .i64)) 30 2 [0] (q.1.take (Int.toNat q.2) ++ List.replicate (q.1.length - (Int.toNat q.2)) ([] : (List Int))), kI q.2] rfl (zyG rfl zaF.el h_v3) rfl rf) ?_
 obtain rfl := sj h
 exact zkU lzz
end Go.Proofs.YtglkepeofhonlaaGreatDoor

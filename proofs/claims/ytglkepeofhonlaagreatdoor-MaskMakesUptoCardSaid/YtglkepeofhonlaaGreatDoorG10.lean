/-
  The Go functions do what the plain functions say. No condition.
-/
import Derived.Test.YtglkepeofhonlaaGreatDoorG9
namespace Go.Proofs.YtglkepeofhonlaaGreatDoor
open Go Go.RowKit
set_option linter.unusedVariables false
set_option maxRecDepth 100000
set_option maxHeartbeats 3200000
theorem zfz  {r : Bool} (h : zcF = some r) : FnOk Tryz.prog 7 [] [kB r] := by
 refine zo (E := ⟨[(0, kB r)], []⟩) 33 Tryz.func7 rfl rfl rfl ⟨rfl, trivial⟩ (fun Xt => ?_)
 refine zh ?_
 unfold zcF at h
 refine jp ?_
 refine jr (rc 0 rfl (zbR (r := za) [kS [97], kI 7, kI 17] [] (⟨[97], 7, 17, false, false, 0⟩ : zb) rfl zwS rfl rfl) (rc 0 rfl (zbR (r := za) [kS [98], kI 2, kI 1] [] (⟨[98], 2, 1, false, false, 0⟩ : zb) rfl zwS rfl rfl) (rc 0 rfl (zbR (r := za) [kS [99], kI 3, kI 1] [] (⟨[99], 3, 1, false, false, 0⟩ : zb) rfl zwS rfl rfl) (rc 0 rfl (zdO [.rc za [] (⟨[97], 7, 17, false, false, 0⟩ : zb), .rc za [] (⟨[98], 2, 1, false, false, 0⟩ : zb), .rc za [] (⟨[99], 3, 1, false, false, 0⟩ : zb)] 11 [] ([(⟨[97], 7, 17, false, false, 0⟩ : zb), (⟨[98], 2, 1, false, false, 0⟩ : zb), (⟨[99], 3, 1, false, false, 0⟩ : zb)] : (List zb)) rfl ziw rfl rfl rfl rfl) (ra 0 [kS [109], .own za 62 11 [] ([(⟨[97], 7, 17, false, false, 0⟩ : zb), (⟨[98], 2, 1, false, false, 0⟩ : zb), (⟨[99], 3, 1, false, false, 0⟩ : zb)] : (List zb))] rfl (zet [kS [109], .own za 62 11 [] ([(⟨[97], 7, 17, false, false, 0⟩ : zb), (⟨[98], 2, 1, false, false, 0⟩ : zb), (⟨[99], 3, 1, false, false, 0⟩ : zb)] : (List zb))] [kS [109], .own za 62 11 [] ([(⟨[97], 7, 17, false, false, 0⟩ : zb), (⟨[98], 2, 1, false, false, 0⟩ : zb), (⟨[99], 3, 1, false, false, 0⟩ : zb)] : (List zb))] rfl zDm rfl) rfl (rc 0 rfl (zL.le (ins' := [(.tmp 8, .ag [kS [109], .own za 62 11 [] ([(⟨[97], 7, 17, false, false, 0⟩ : zb), (⟨[98], 2, 1, false, false, 0⟩ : zb), (⟨[99], 3, 1, false, false, 0⟩ : zb)] : (List zb))])]) (zdO [.rc zd [11] (⟨[109], ([(⟨[97], 7, 17, false, false, 0⟩ : zb), (⟨[98], 2, 1, false, false, 0⟩ : zb), (⟨[99], 3, 1, false, false, 0⟩ : zb)] : (List zb))⟩ : zc)] 12 [11] ([(⟨[109], ([(⟨[97], 7, 17, false, false, 0⟩ : zb), (⟨[98], 2, 1, false, false, 0⟩ : zb), (⟨[99], 3, 1, false, false, 0⟩ : zb)] : (List zb))⟩ : zc)] : (List zc)) rfl zhD rfl rfl rfl rfl) ⟨⟨rfl, zcA zd [11] (⟨[109], ([(⟨[97], 7, 17, false, false, 0⟩ : zb), (⟨[98], 2, 1, false, false, 0⟩ : zb), (⟨[99], 3, 1, false, false, 0⟩ : zb)] : (List zb))⟩ : zc) [kS [109], .own za 62 11 [] ([(⟨[97], 7, 17, false, false, 0⟩ : zb), (⟨[98], 2, 1, false, false, 0⟩ : zb), (⟨[99], 3, 1, false, false, 0⟩ : zb)] : (List zb))] rfl rfl⟩, trivial⟩) rf)))))) ?_
 obtain ⟨rv, h_rv, h⟩ := bnd h
 refine jr (rc 1 rfl (zdO [kS [97, 46, 98], kS [97], kS [97, 46, 99]] 13 [] ([[97, 46, 98], [97], [97, 46, 99]] : (List Str)) rfl zfY rfl rfl rfl rfl) (rl 0 [12, 11, 13] 12 Tryz.call14 (zka h_rv) (rfl' [18]))) ?_
 obtain ⟨g, h_g, h⟩ := bnd h
 refine zN ⟨[(0, kB g)], []⟩ ?_ ?_
 ·
  refine (rsl 4 [] 19 ((IntKind.i64.wrap rv.2) == 0) (fun hc1 => ?_) (fun hc1 => ?_))
  ·
   replace h_g := iteT h_g hc1
   refine (rsl 6 [] 25 ((rv.1.Ways.length : Int) == 1) (fun hc2 => ?_) (fun hc2 => ?_))
   ·
    replace h_g := iteT h_g hc2
    obtain ⟨x, h_x, h_g⟩ := bnd h_g
    obtain ⟨rv2, h_rv2, h_g⟩ := bnd h_g
    obtain rfl := sj h_g
    exact (ra 2 [.own (Rp.list (Rp.int .i64)) 30 15 [16, 17] rv.1.Ways, kI 0] rfl (zW rfl zaF.el (zbF _ _ _ _ _) h_x) rfl (ra 0 [.ep (Rp.list (Rp.int .i64)) [15, 16, 17] x 0] rfl (zaK (Rp.int .i64) x rfl rfl rfl) rfl (rc 0 rfl (zdO [kI 7] 19 [] ([7] : (List Int)) rfl zel rfl rfl rfl rfl) (rl 0 [15, 16, 17, 19] 18 Tryz.call13 (zey h_rv2) rgg))))
   replace h_g := iteF h_g hc2
   obtain rfl := sj h_g
   exact rgg
  replace h_g := iteF h_g hc1
  obtain rfl := sj h_g
  exact rgg
 obtain rfl := sj h
 exact zp lzz
theorem ziE {sv : (List zc)} {root : Int} {ways : (List (List Int))} {r : Bool} (h : zdT sv root ways = some r) : FnOk Tryz.prog 17 [.sl zd [0] sv, kI root, .sl (Rp.list (Rp.int .i64)) [0] ways] [kB r] := by
 refine zo (E := ⟨[(6, kB r)], []⟩) 83 Tryz.func17 rfl rfl rfl ⟨rfl, trivial⟩ (fun Xt => ?_)
 refine zh ?_
 unfold zdT at h
 refine jp ?_
 obtain ⟨rv, h_rv, h⟩ := bnd h
 refine jr (ra 3 [.sl (Rp.list (Rp.int .i64)) [0] ways] rfl (zet [.sl (Rp.list (Rp.int .i64)) [0] ways] [.sl (Rp.list (Rp.int .i64)) [0] ways] rfl zlU rfl) rfl (rl 0 [0] 9 Tryz.call28 (zoJ h_rv) rf)) ?_
 obtain ⟨rv2, h_rv2, h⟩ := bnd h
 refine jr (rl 2 [0] 10 Tryz.call31 (zhd h_rv2) rf) ?_
 refine jp ?_
 rcases zg h with ⟨hc1, h⟩ | ⟨hc1, h⟩
 ·
  refine jT hc1 ?_
  refine zN ⟨[(6, kB (((IntKind.i64.wrap rv.2) == rv2) && ((rv.1.length : Int) == 0)))], []⟩ ?_ ?_
  ·
   refine (rsl 5 [] 32 ((IntKind.i64.wrap rv.2) == rv2) (fun hc2 => ?_) (fun hc2 => ?_))
   · exact (rbl [] 6 ((rv.1.length : Int) == 0) (((IntKind.i64.wrap rv.2) == rv2) && ((rv.1.length : Int) == 0)) (by rw [hc2] <;> rfl))
   exact (rbl [] 6 false (((IntKind.i64.wrap rv.2) == rv2) && ((rv.1.length : Int) == 0)) (by rw [hc2] <;> rfl))
  obtain rfl := sj h
  exact zp lzz
 refine jF hc1 ?_
 refine jp ?_
 obtain ⟨rv3, h_rv3, h⟩ := bnd h
 obtain ⟨rv4, h_rv4, h⟩ := bnd h
 refine jr (rl 1 [0] 10 Tryz.call18 (zeq h_rv3) (rl 1 [12, 13, 0] 12 Tryz.call16 (zU h_rv4) rf)) ?_
 refine jp ?_
 refine zn ?_
 obtain ⟨q, h_q, h⟩ := bnd h
 refine zam (fun s : ((List Str) × Bool × Int) => zar root sv ways s.1 s.2.1 s.2.2) (fun s => ⟨[(0, .sl zd [0] sv), (1, kI root), (2, .sl (Rp.list (Rp.int .i64)) [0] ways), (7, .own Rp.str 9 11 [] rv.1), (8, k8 rv.2), (10, .own Rp.str 9 16 [] s.1), (11, kB s.2.1), (12, kI s.2.2)], []⟩) (fun o e a w => e = .exit 0 ∧ Sx ⟨⟨83, []⟩, Xt, false, #[]⟩ ⟨[(7, .own Rp.str 9 11 [] rv.1), (8, k8 rv.2), (10, .own Rp.str 9 16 [] o.1), (11, kB o.2)], []⟩ a w) ?_ h_q ?_ ?_
 ·
  clear h
  intro s o h
  obtain ⟨want, ok, i⟩ := s
  refine zh ?_
  replace h : zar root sv ways want ok i = some o := h
  unfold zar at h
  refine zN ⟨[(0, .sl zd [0] sv), (1, kI root), (2, .sl (Rp.list (Rp.int .i64)) [0] ways), (7, .own Rp.str 9 11 [] rv.1), (8, k8 rv.2), (10, .own Rp.str 9 16 [] want), (11, kB ok), (12, kI i), (47, kB ((decide (i < (ways.length : Int))) && ok))], []⟩ ?_ ?_
  ·
   refine (rsl 5 [] 45 (decide (i < (ways.length : Int))) (fun hc3 => ?_) (fun hc3 => ?_))
   · exact (rbl [] 47 ok ((decide (i < (ways.length : Int))) && ok) (by rw [hc3] <;> rfl))
   exact (rbl [] 47 false ((decide (i < (ways.length : Int))) && ok) (by rw [hc3] <;> rfl))
  rcases zg h with ⟨hc4, h⟩ | ⟨hc4, h⟩
  ·
   refine jT hc4 ?_
   refine zn ?_
   obtain ⟨x, h_x, h⟩ := bnd h
   obtain ⟨rv5, h_rv5, h⟩ := bnd h
   refine jr (ra 4 [.sl (Rp.list (Rp.int .i64)) [0] ways, kI i] rfl (zW rfl zaF.el (zv _ _ _) h_x) rfl (ra 0 [.ep (Rp.list (Rp.int .i64)) [0] x 0] rfl (zaK (Rp.int .i64) x rfl rfl rfl) rfl (rl 0 [0] 15 Tryz.call34 (znq h_rv5) rf))) ?_
   obtain ⟨v3, h_v3, h⟩ := bnd h
   refine jr (rc 2 rfl (zdO [kS rv5.1] 17 [] ([rv5.1] : (List Str)) rfl zfY rfl rfl rfl rfl) (ra 0 [.own Rp.str 9 16 [] want, .own Rp.str 9 17 [] ([rv5.1] : (List Str))] rfl (zes 16 [] rfl zfY.el rfl (zbA _ _ _ _ _) (zbF _ _ _ _ _) h_v3 (.inl zlO) rfl) rfl rf)) ?_
   refine jp ?_
   refine zaf ?_
   refine jp ?_
   obtain rfl := sj h
   exact zJ lzz
  refine jF hc4 ?_
  obtain rfl := sj h
  exact zai rfl lzz
 ·
  refine zaS ⟨[(0, .sl zd [0] sv), (1, kI root), (2, .sl (Rp.list (Rp.int .i64)) [0] ways), (7, .own Rp.str 9 11 [] rv.1), (8, k8 rv.2), (10, kN), (11, kB rv4), (12, kI 0)], []⟩ (by kernel_rfl) ?_
  refine zbL 10 (.own Rp.str 9 16 [] []) rfl (zY Rp.str 9 16 [] rfl) ?_
  exact lzz
 refine zaJ _ rfl ?_
 refine jp ?_
 rcases zg h with ⟨hc5, h⟩ | ⟨hc5, h⟩
 ·
  refine jT hc5 ?_
  refine zN ⟨[(6, kB (((IntKind.i64.wrap rv.2) == 10) && ((rv.1.length : Int) == 0)))], []⟩ ?_ ?_
  ·
   refine (rsl 4 [] 70 ((IntKind.i64.wrap rv.2) == 10) (fun hc6 => ?_) (fun hc6 => ?_))
   · exact (rbl [] 6 ((rv.1.length : Int) == 0) (((IntKind.i64.wrap rv.2) == 10) && ((rv.1.length : Int) == 0)) (by rw [hc6] <;> rfl))
   exact (rbl [] 6 false (((IntKind.i64.wrap rv.2) == 10) && ((rv.1.length : Int) == 0)) (by rw [hc6] <;> rfl))
  obtain rfl := sj h
  exact zp lzz
 refine jF hc5 ?_
 obtain ⟨g, h_g, h⟩ := bnd h
 refine zN ⟨[(6, kB g)], []⟩ ?_ ?_
 ·
  refine (rsl 4 [] 78 ((IntKind.i64.wrap rv.2) == 0) (fun hc7 => ?_) (fun hc7 => ?_))
  ·
   replace h_g := iteT h_g hc7
   obtain ⟨rv6, h_rv6, h_g⟩ := bnd h_g
   obtain rfl := sj h_g
   exact (rl 2 [11, 16] 16 Tryz.call35 (zno h_rv6) rgg)
  replace h_g := iteF h_g hc7
  obtain rfl := sj h_g
  exact rgg
 obtain rfl := sj h
 exact zp lzz
theorem zkB {fuel : Nat} {sv : (List zc)} {root : Int} {paths : (List Str)} {ways : (List (List Int))} {r : Bool} (h : zdI fuel sv root paths ways = some r) : FnOk Tryz.prog 3 [.sl zd [0] sv, kI root, .sl Rp.str [0] paths, .sl (Rp.list (Rp.int .i64)) [0] ways] [kB r] := by
 refine zo (E := ⟨[(8, kB r)], []⟩) 107 Tryz.func3 rfl rfl rfl ⟨rfl, trivial⟩ (fun Xt => ?_)
 refine zh ?_
 unfold zdI at h
 refine jp ?_
 obtain ⟨rv, h_rv, h⟩ := bnd h
 refine jr (rl 0 [1] 9 Tryz.call7 (zfz h_rv) rf) ?_
 rcases zg h with ⟨hc1, h⟩ | ⟨hc1, h⟩
 ·
  refine jT hc1 ?_
  refine jp ?_
  obtain rfl := sj h
  exact zp lzz
 refine jF hc1 ?_
 obtain ⟨g, h_g, h⟩ := bnd h
 refine zN ⟨[(0, .sl zd [0] sv), (1, kI root), (2, .sl Rp.str [0] paths), (3, .sl (Rp.list (Rp.int .i64)) [0] ways), (30, kB g)], []⟩ ?_ ?_
 ·
  obtain ⟨rv2, h_rv2, h_g⟩ := bnd h_g
  refine (rl 1 [0] 9 Tryz.call8 (zjR h_rv2) (rsl 2 [] 23 (!rv2) (fun hc2 => ?_) (fun hc2 => ?_)))
  ·
   replace h_g := iteT h_g hc2
   obtain rfl := sj h_g
   exact rgg
  replace h_g := iteF h_g hc2
  obtain ⟨rv3, h_rv3, h_g⟩ := bnd h_g
  refine (rl 1 [0] 9 Tryz.call9 (zjo h_rv3) (rsl 2 [] 27 rv3 (fun hc3 => ?_) (fun hc3 => ?_)))
  ·
   replace h_g := iteT h_g hc3
   obtain rfl := sj h_g
   exact rgg
  replace h_g := iteF h_g hc3
  obtain ⟨rv4, h_rv4, h_g⟩ := bnd h_g
  obtain rfl := sj h_g
  exact (rl 1 [0] 9 Tryz.call10 (zeH h_rv4) rgg)
 rcases zg h with ⟨hc4, h⟩ | ⟨hc4, h⟩
 ·
  refine jT hc4 ?_
  refine jp ?_
  obtain rfl := sj h
  exact zp lzz
 refine jF hc4 ?_
 refine jp ?_
 refine zn ?_
 obtain ⟨q, h_q, h⟩ := bnd h
 refine zam (fun s : Int => zan fuel paths root sv s) (fun s => ⟨[(0, .sl zd [0] sv), (1, kI root), (2, .sl Rp.str [0] paths), (3, .sl (Rp.list (Rp.int .i64)) [0] ways), (9, kI s)], []⟩) (fun o e a w => match o with | (.inl v_) => e = .exit 0 ∧ Sx ⟨⟨107, []⟩, Xt, false, #[]⟩ ⟨[(0, .sl zd [0] sv), (1, kI root), (2, .sl Rp.str [0] paths), (3, .sl (Rp.list (Rp.int .i64)) [0] ways)], []⟩ a w | (.inr v_) => e = .ret ∧ Sx ⟨⟨107, []⟩, Xt, false, #[]⟩ ⟨[(8, kB false)], []⟩ a w) ?_ h_q lzz ?_
 ·
  clear h
  intro i o h
  refine zh ?_
  replace h : zan fuel paths root sv i = some o := h
  unfold zan at h
  refine zN ⟨[(0, .sl zd [0] sv), (1, kI root), (2, .sl Rp.str [0] paths), (3, .sl (Rp.list (Rp.int .i64)) [0] ways), (9, kI i), (38, kB ((decide (i < (paths.length : Int))) && (decide (i < 8))))], []⟩ ?_ ?_
  ·
   refine (rsl 5 [] 35 (decide (i < (paths.length : Int))) (fun hc5 => ?_) (fun hc5 => ?_))
   · exact (rbl [] 38 (decide (i < 8)) ((decide (i < (paths.length : Int))) && (decide (i < 8))) (by rw [hc5] <;> rfl))
   exact (rbl [] 38 false ((decide (i < (paths.length : Int))) && (decide (i < 8))) (by rw [hc5] <;> rfl))
  rcases zg h with ⟨hc6, h⟩ | ⟨hc6, h⟩
  ·
   refine jT hc6 ?_
   refine zn ?_
   obtain ⟨x, h_x, h⟩ := bnd h
   obtain ⟨rv5, h_rv5, h⟩ := bnd h
   refine jr (ra 4 [.sl Rp.str [0] paths, kI i] rfl (zW rfl zfY.el (zv _ _ _) h_x) rfl (rl 1 [0] 10 Tryz.call11 (zmL h_rv5) rf)) ?_
   obtain ⟨x2, h_x2, h⟩ := bnd h
   obtain ⟨rv6, h_rv6, h⟩ := bnd h
   refine jr (ra 4 [.sl Rp.str [0] paths, kI i] rfl (zW rfl zfY.el (zv _ _ _) h_x2) rfl (rl 1 [0] 11 Tryz.call12 (zij h_rv6) rf)) ?_
   obtain ⟨rv7, h_rv7, h⟩ := bnd h
   refine zN ⟨[(0, .sl zd [0] sv), (1, kI root), (2, .sl Rp.str [0] paths), (3, .sl (Rp.list (Rp.int .i64)) [0] ways), (9, kI i), (70, kB ((!rv7) || ((IntKind.i64.wrap rv5.2) != rv6.2)))], []⟩ ?_ ?_
   ·
    refine (rl 2 [12, 13] 12 Tryz.call13 (zey h_rv7) (rsl 2 [] 65 (!rv7) (fun hc7 => ?_) (fun hc7 => ?_)))
    · exact (rbl [] 70 true ((!rv7) || ((IntKind.i64.wrap rv5.2) != rv6.2)) (by rw [hc7] <;> rfl))
    exact (rbl [] 70 ((IntKind.i64.wrap rv5.2) != rv6.2) ((!rv7) || ((IntKind.i64.wrap rv5.2) != rv6.2)) (by rw [hc7] <;> rfl))
   rcases zg h with ⟨hc8, h⟩ | ⟨hc8, h⟩
   ·
    refine jT hc8 ?_
    refine jp ?_
    obtain rfl := sj h
    exact zaW lzz
   refine jF hc8 ?_
   refine zaf ?_
   refine jp ?_
   obtain rfl := sj h
   exact zJ lzz
  refine jF hc6 ?_
  obtain rfl := sj h
  exact zai rfl lzz
 rcases q with u | u2
 ·
  refine zaJ _ rfl ?_
  obtain ⟨rv8, h_rv8, h⟩ := bnd h
  refine jr (rl 3 [0] 12 Tryz.call14 (zka h_rv8) (rfl' [18])) ?_
  obtain ⟨rv9, h_rv9, h⟩ := bnd h
  refine jr (rl 3 [0] 17 Tryz.call15 (znp h_rv9) rf) ?_
  obtain ⟨rv10, h_rv10, h⟩ := bnd h
  refine zN ⟨[(0, .sl zd [0] sv), (1, kI root), (3, .sl (Rp.list (Rp.int .i64)) [0] ways), (14, .ptr 18 0), (95, kB ((!rv10) || ((IntKind.i64.wrap rv8.2) != rv9.2)))], [⟨18, 38, [.own (Rp.list (Rp.int .i64)) 30 15 [16, 17] rv8.1.Ways]⟩]⟩ ?_ ?_
  ·
   refine (rl 3 [15, 16, 17, 19, 20, 21, 22] 21 Tryz.call16 (zU h_rv10) (rsl 2 [] 90 (!rv10) (fun hc9 => ?_) (fun hc9 => ?_)))
   · exact (rbl [] 95 true ((!rv10) || ((IntKind.i64.wrap rv8.2) != rv9.2)) (by rw [hc9] <;> rfl))
   exact (rbl [] 95 ((IntKind.i64.wrap rv8.2) != rv9.2) ((!rv10) || ((IntKind.i64.wrap rv8.2) != rv9.2)) (by rw [hc9] <;> rfl))
  rcases zg h with ⟨hc10, h⟩ | ⟨hc10, h⟩
  ·
   refine jT hc10 ?_
   refine jp ?_
   obtain rfl := sj h
   exact zp lzz
  refine jF hc10 ?_
  obtain ⟨g2, h_g2, h⟩ := bnd h
  refine zN ⟨[(8, kB g2)], []⟩ ?_ ?_
  ·
   obtain ⟨rv11, h_rv11, h_g2⟩ := bnd h_g2
   refine (rl 4 [0, 15, 16, 17] 21 Tryz.call17 (ziE h_rv11) (rsl 1 [] 101 rv11 (fun hc11 => ?_) (fun hc11 => ?_)))
   ·
    replace h_g2 := iteT h_g2 hc11
    obtain ⟨rv12, h_rv12, h_g2⟩ := bnd h_g2
    obtain rfl := sj h_g2
    exact (rl 3 [0] 21 Tryz.call17 (ziE h_rv12) rgg)
   replace h_g2 := iteF h_g2 hc11
   obtain rfl := sj h_g2
   exact rgg
  obtain rfl := sj h
  exact zp lzz
 obtain rfl := sj h
 exact zdi lzz
theorem zli {av : (List (List Int))} {b : (List (List Int))} {number : Int} {way : (List Int)} {r : Bool} (h : zeg av b number way = some r) : FnOk Tryz.prog 4 [.sl (Rp.list (Rp.int .i64)) [0] av, .sl (Rp.list (Rp.int .i64)) [0] b, kI number, .sl (Rp.int .i64) [0] way] [kB r] := by
 refine zo (E := ⟨[(8, kB r)], []⟩) 145 Tryz.func4 rfl rfl rfl ⟨rfl, trivial⟩ (fun Xt => ?_)
 refine zh ?_
 unfold zeg at h
 refine jp ?_
 obtain ⟨rv, h_rv, h⟩ := bnd h
 refine jr (rl 0 [1] 9 Tryz.call7 (zfz h_rv) rf) ?_
 rcases zg h with ⟨hc1, h⟩ | ⟨hc1, h⟩
 ·
  refine jT hc1 ?_
  refine jp ?_
  obtain rfl := sj h
  exact zp lzz
 refine jF hc1 ?_
 obtain ⟨g, h_g, h⟩ := bnd h
 refine zN ⟨[(0, .sl (Rp.list (Rp.int .i64)) [0] av), (1, .sl (Rp.list (Rp.int .i64)) [0] b), (2, kI number), (3, .sl (Rp.int .i64) [0] way), (30, kB g)], []⟩ ?_ ?_
 ·
  obtain ⟨rv2, h_rv2, h_g⟩ := bnd h_g
  refine (rl 1 [0] 9 Tryz.call10 (zeH h_rv2) (rsl 1 [] 22 rv2 (fun hc2 => ?_) (fun hc2 => ?_)))
  ·
   replace h_g := iteT h_g hc2
   obtain rfl := sj h_g
   exact rgg
  replace h_g := iteF h_g hc2
  obtain ⟨rv3, h_rv3, h_g⟩ := bnd h_g
  refine (rl 1 [0] 9 Tryz.call10 (zeH h_rv3) (rsl 2 [] 26 rv3 (fun hc3 => ?_) (fun hc3 => ?_)))
  ·
   replace h_g := iteT h_g hc3
   obtain rfl := sj h_g
   exact rgg
  replace h_g := iteF h_g hc3
  obtain rfl := sj h_g
  exact rgg
 rcases zg h with ⟨hc4, h⟩ | ⟨hc4, h⟩
 ·
  refine jT hc4 ?_
  refine jp ?_
  obtain rfl := sj h
  exact zp lzz
 refine jF hc4 ?_
 obtain ⟨rv4, h_rv4, h⟩ := bnd h
 obtain ⟨rv5, h_rv5, h⟩ := bnd h
 refine jr (rl 1 [0] 9 Tryz.call18 (zeq h_rv4) (rl 1 [0] 11 Tryz.call18 (zeq h_rv5) rf)) ?_
 refine jr (ra 1 [.sl (Rp.list (Rp.int .i64)) [0] av] rfl (zet [.sl (Rp.list (Rp.int .i64)) [0] av] [.sl (Rp.list (Rp.int .i64)) [0] av] rfl zlU rfl) rfl (rfl' [15])) ?_
 obtain ⟨rv6, h_rv6, h⟩ := bnd h
 refine jr (rl 2 [0] 14 Tryz.call19 (zoY h_rv6) (rfl' [20])) ?_
 obtain ⟨g2, h_g2, h⟩ := bnd h
 refine zhU (R := fun e a w => e = .normal ∧ Sx ⟨⟨145, []⟩, Xt, false, #[]⟩ ⟨[(0, .sl (Rp.list (Rp.int .i64)) [0] av), (1, .sl (Rp.list (Rp.int .i64)) [0] b), (9, .own (Rp.list (Rp.int .i64)) 30 11 [12, 0] rv4), (10, .own (Rp.list (Rp.int .i64)) 30 13 [14, 0] rv5), (11, .ptr 15 0), (84, kB g2)], [⟨15, 38, [.sl (Rp.list (Rp.int .i64)) [0] av]⟩]⟩ a w) ?_ (zko ?_)
 ·
  refine zh ?_
  obtain ⟨rv7, h_rv7, h_g2⟩ := bnd h_g2
  obtain ⟨rv8, h_rv8, h_g2⟩ := bnd h_g2
  rcases Bool.eq_false_or_eq_true (!rv8) with hc5 | hc5
  ·
   replace h_g2 := iteT h_g2 hc5
   obtain rfl := sj h_g2
   refine jd [0, 1, 9, 10, 11, 84] [15] zcB (by exact (lw_e (lx (lf1 20 (zac [.sl (Rp.list (Rp.int .i64)) [0] av] [0] 19 rfl Tryz.call20 (zcV h_rv7) rfl rfl rfl rfl rfl)) (ly [.ag [.own (Rp.list (Rp.int .i64)) 30 22 [23, 24] rv7.Ways]] (zhn (.own (Rp.list (Rp.int .i64)) 30 22 [23, 24] rv7.Ways) rfl Tryz.underlying38 rfl Tryz.isAgg25 rfl) rfl (lw_e (lx (lf1 16 (zac [.own (Rp.list (Rp.int .i64)) 30 22 [23, 24] rv7.Ways, .own (Rp.list (Rp.int .i64)) 30 11 [12, 0] rv4] [22, 23, 24, 11, 12, 0] 23 rfl Tryz.call16 (zU h_rv8) rfl rfl rfl rfl rfl)) (lw_e (lx (zbv ⟨[(48, kB (!rv8))], []⟩ (by kernel_rfl) hc5) l0)))))))) ?_
   exact zJ lzz
  replace h_g2 := iteF h_g2 hc5
  obtain ⟨rv9, h_rv9, h_g2⟩ := bnd h_g2
  obtain ⟨rv10, h_rv10, h_g2⟩ := bnd h_g2
  rcases Bool.eq_false_or_eq_true (!(rv9 == rv10)) with hc6 | hc6
  ·
   replace h_g2 := iteT h_g2 hc6
   obtain rfl := sj h_g2
   refine jd [0, 1, 9, 10, 11, 84] [15] zcB (by exact (lw_e (lx (lf1 20 (zac [.sl (Rp.list (Rp.int .i64)) [0] av] [0] 19 rfl Tryz.call20 (zcV h_rv7) rfl rfl rfl rfl rfl)) (ly [.ag [.own (Rp.list (Rp.int .i64)) 30 22 [23, 24] rv7.Ways]] (zhn (.own (Rp.list (Rp.int .i64)) 30 22 [23, 24] rv7.Ways) rfl Tryz.underlying38 rfl Tryz.isAgg25 rfl) rfl (lw_e (lx (lf1 16 (zac [.own (Rp.list (Rp.int .i64)) 30 22 [23, 24] rv7.Ways, .own (Rp.list (Rp.int .i64)) 30 11 [12, 0] rv4] [22, 23, 24, 11, 12, 0] 23 rfl Tryz.call16 (zU h_rv8) rfl rfl rfl rfl rfl)) (lw_e (lx (zbv ⟨[(48, kB (!rv8))], []⟩ (by kernel_rfl) hc5) (ly [.ptr 15 0] (zdm (b := ⟨15, 38, [.sl (Rp.list (Rp.int .i64)) [0] av]⟩) [.sl (Rp.list (Rp.int .i64)) [0] av] rfl ⟨Tryz.isAgg38, Tryz.sizeOf38⟩ rfl rfl) rfl (lw_e (lx (lf1 21 (zL.le (ins' := [(.tmp 50, .ag [.sl (Rp.list (Rp.int .i64)) [0] av]), (.tmp 51, kI number)]) (zac (args := [.tmp 50, .tmp 51]) [.rc zat [0] (⟨av⟩ : zO), kI number] [0] 23 rfl Tryz.call21 (zft h_rv9) rfl rfl rfl rfl rfl) ⟨⟨rfl, zcA zat [0] (⟨av⟩ : zO) [.sl (Rp.list (Rp.int .i64)) [0] av] rfl rfl⟩, ⟨rfl, AV.le_refl _⟩, trivial⟩)) (lw_e (lw_e (lx (lf1 22 (zac [.own (Rp.list (Rp.int .i64)) 30 11 [12, 0] rv4, kI number] [11, 12, 0] 23 rfl Tryz.call22 (zfA h_rv10) rfl rfl rfl rfl rfl)) (lw_e (lw_e (lx (zbv ⟨[(57, kB (!(rv9 == rv10)))], []⟩ (by kernel_rfl) hc6) l0))))))))))))))))) ?_
   exact zJ lzz
  replace h_g2 := iteF h_g2 hc6
  obtain ⟨rv11, h_rv11, h_g2⟩ := bnd h_g2
  obtain ⟨rv12, h_rv12, h_g2⟩ := bnd h_g2
  rcases Bool.eq_false_or_eq_true (!rv12) with hc7 | hc7
  ·
   replace h_g2 := iteT h_g2 hc7
   obtain rfl := sj h_g2
   refine jd [0, 1, 9, 10, 11, 84] [15] zcB (by exact (lw_e (lx (lf1 20 (zac [.sl (Rp.list (Rp.int .i64)) [0] av] [0] 19 rfl Tryz.call20 (zcV h_rv7) rfl rfl rfl rfl rfl)) (ly [.ag [.own (Rp.list (Rp.int .i64)) 30 22 [23, 24] rv7.Ways]] (zhn (.own (Rp.list (Rp.int .i64)) 30 22 [23, 24] rv7.Ways) rfl Tryz.underlying38 rfl Tryz.isAgg25 rfl) rfl (lw_e (lx (lf1 16 (zac [.own (Rp.list (Rp.int .i64)) 30 22 [23, 24] rv7.Ways, .own (Rp.list (Rp.int .i64)) 30 11 [12, 0] rv4] [22, 23, 24, 11, 12, 0] 23 rfl Tryz.call16 (zU h_rv8) rfl rfl rfl rfl rfl)) (lw_e (lx (zbv ⟨[(48, kB (!rv8))], []⟩ (by kernel_rfl) hc5) (ly [.ptr 15 0] (zdm (b := ⟨15, 38, [.sl (Rp.list (Rp.int .i64)) [0] av]⟩) [.sl (Rp.list (Rp.int .i64)) [0] av] rfl ⟨Tryz.isAgg38, Tryz.sizeOf38⟩ rfl rfl) rfl (lw_e (lx (lf1 21 (zL.le (ins' := [(.tmp 50, .ag [.sl (Rp.list (Rp.int .i64)) [0] av]), (.tmp 51, kI number)]) (zac (args := [.tmp 50, .tmp 51]) [.rc zat [0] (⟨av⟩ : zO), kI number] [0] 23 rfl Tryz.call21 (zft h_rv9) rfl rfl rfl rfl rfl) ⟨⟨rfl, zcA zat [0] (⟨av⟩ : zO) [.sl (Rp.list (Rp.int .i64)) [0] av] rfl rfl⟩, ⟨rfl, AV.le_refl _⟩, trivial⟩)) (lw_e (lw_e (lx (lf1 22 (zac [.own (Rp.list (Rp.int .i64)) 30 11 [12, 0] rv4, kI number] [11, 12, 0] 23 rfl Tryz.call22 (zfA h_rv10) rfl rfl rfl rfl rfl)) (lw_e (lw_e (lx (zbv ⟨[(57, kB (!(rv9 == rv10)))], []⟩ (by kernel_rfl) hc6) (lw_e (lw_e (lw_e (lw_e (lx (lf1 23 (zac [.own (Rp.list (Rp.int .i64)) 30 11 [12, 0] rv4, kI number] [11, 12, 0] 23 rfl Tryz.call23 (zeh h_rv11) rfl rfl rfl rfl rfl)) (lx (lf1 16 (zac [.own (Rp.list (Rp.int .i64)) 30 17 [18, 19] rv6.1.Ways, .own (Rp.list (Rp.int .i64)) 30 25 [26, 11, 12, 0] rv11] [17, 18, 19, 25, 26, 11, 12, 0] 25 rfl Tryz.call16 (zU h_rv12) rfl rfl rfl rfl rfl)) (lw_e (lw_e (lx (zbv ⟨[(66, kB (!rv12))], []⟩ (by kernel_rfl) hc7) l0)))))))))))))))))))))))))) ?_
   exact zJ lzz
  replace h_g2 := iteF h_g2 hc7
  obtain ⟨rv13, h_rv13, h_g2⟩ := bnd h_g2
  rcases Bool.eq_false_or_eq_true (!(rv6.2 == (decide ((rv13.length : Int) > 0)))) with hc8 | hc8
  ·
   replace h_g2 := iteT h_g2 hc8
   obtain rfl := sj h_g2
   refine jd [0, 1, 9, 10, 11, 84] [15] zcB (by exact (lw_e (lx (lf1 20 (zac [.sl (Rp.list (Rp.int .i64)) [0] av] [0] 19 rfl Tryz.call20 (zcV h_rv7) rfl rfl rfl rfl rfl)) (ly [.ag [.own (Rp.list (Rp.int .i64)) 30 22 [23, 24] rv7.Ways]] (zhn (.own (Rp.list (Rp.int .i64)) 30 22 [23, 24] rv7.Ways) rfl Tryz.underlying38 rfl Tryz.isAgg25 rfl) rfl (lw_e (lx (lf1 16 (zac [.own (Rp.list (Rp.int .i64)) 30 22 [23, 24] rv7.Ways, .own (Rp.list (Rp.int .i64)) 30 11 [12, 0] rv4] [22, 23, 24, 11, 12, 0] 23 rfl Tryz.call16 (zU h_rv8) rfl rfl rfl rfl rfl)) (lw_e (lx (zbv ⟨[(48, kB (!rv8))], []⟩ (by kernel_rfl) hc5) (ly [.ptr 15 0] (zdm (b := ⟨15, 38, [.sl (Rp.list (Rp.int .i64)) [0] av]⟩) [.sl (Rp.list (Rp.int .i64)) [0] av] rfl ⟨Tryz.isAgg38, Tryz.sizeOf38⟩ rfl rfl) rfl (lw_e (lx (lf1 21 (zL.le (ins' := [(.tmp 50, .ag [.sl (Rp.list (Rp.int .i64)) [0] av]), (.tmp 51, kI number)]) (zac (args := [.tmp 50, .tmp 51]) [.rc zat [0] (⟨av⟩ : zO), kI number] [0] 23 rfl Tryz.call21 (zft h_rv9) rfl rfl rfl rfl rfl) ⟨⟨rfl, zcA zat [0] (⟨av⟩ : zO) [.sl (Rp.list (Rp.int .i64)) [0] av] rfl rfl⟩, ⟨rfl, AV.le_refl _⟩, trivial⟩)) (lw_e (lw_e (lx (lf1 22 (zac [.own (Rp.list (Rp.int .i64)) 30 11 [12, 0] rv4, kI number] [11, 12, 0] 23 rfl Tryz.call22 (zfA h_rv10) rfl rfl rfl rfl rfl)) (lw_e (lw_e (lx (zbv ⟨[(57, kB (!(rv9 == rv10)))], []⟩ (by kernel_rfl) hc6) (lw_e (lw_e (lw_e (lw_e (lx (lf1 23 (zac [.own (Rp.list (Rp.int .i64)) 30 11 [12, 0] rv4, kI number] [11, 12, 0] 23 rfl Tryz.call23 (zeh h_rv11) rfl rfl rfl rfl rfl)) (lx (lf1 16 (zac [.own (Rp.list (Rp.int .i64)) 30 17 [18, 19] rv6.1.Ways, .own (Rp.list (Rp.int .i64)) 30 25 [26, 11, 12, 0] rv11] [17, 18, 19, 25, 26, 11, 12, 0] 25 rfl Tryz.call16 (zU h_rv12) rfl rfl rfl rfl rfl)) (lw_e (lw_e (lx (zbv ⟨[(66, kB (!rv12))], []⟩ (by kernel_rfl) hc7) (lw_e (lw_e (lw_e (lx (lf1 23 (zac [.own (Rp.list (Rp.int .i64)) 30 11 [12, 0] rv4, kI number] [11, 12, 0] 25 rfl Tryz.call23 (zeh h_rv13) rfl rfl rfl rfl rfl)) (lw_e (lw_e (lw_e (lw_e (lx (zbv ⟨[(75, kB (!(rv6.2 == (decide ((rv13.length : Int) > 0)))))], []⟩ (by kernel_rfl) hc8) l0))))))))))))))))))))))))))))))))))) ?_
   exact zJ lzz
  replace h_g2 := iteF h_g2 hc8
  obtain ⟨rv14, h_rv14, h_g2⟩ := bnd h_g2
  obtain ⟨rv15, h_rv15, h_g2⟩ := bnd h_g2
  obtain rfl := sj h_g2
  refine jd [0, 1, 9, 10, 11, 84] [15] zcB (by exact (lw_e (lx (lf1 20 (zac [.sl (Rp.list (Rp.int .i64)) [0] av] [0] 19 rfl Tryz.call20 (zcV h_rv7) rfl rfl rfl rfl rfl)) (ly [.ag [.own (Rp.list (Rp.int .i64)) 30 22 [23, 24] rv7.Ways]] (zhn (.own (Rp.list (Rp.int .i64)) 30 22 [23, 24] rv7.Ways) rfl Tryz.underlying38 rfl Tryz.isAgg25 rfl) rfl (lw_e (lx (lf1 16 (zac [.own (Rp.list (Rp.int .i64)) 30 22 [23, 24] rv7.Ways, .own (Rp.list (Rp.int .i64)) 30 11 [12, 0] rv4] [22, 23, 24, 11, 12, 0] 23 rfl Tryz.call16 (zU h_rv8) rfl rfl rfl rfl rfl)) (lw_e (lx (zbv ⟨[(48, kB (!rv8))], []⟩ (by kernel_rfl) hc5) (ly [.ptr 15 0] (zdm (b := ⟨15, 38, [.sl (Rp.list (Rp.int .i64)) [0] av]⟩) [.sl (Rp.list (Rp.int .i64)) [0] av] rfl ⟨Tryz.isAgg38, Tryz.sizeOf38⟩ rfl rfl) rfl (lw_e (lx (lf1 21 (zL.le (ins' := [(.tmp 50, .ag [.sl (Rp.list (Rp.int .i64)) [0] av]), (.tmp 51, kI number)]) (zac (args := [.tmp 50, .tmp 51]) [.rc zat [0] (⟨av⟩ : zO), kI number] [0] 23 rfl Tryz.call21 (zft h_rv9) rfl rfl rfl rfl rfl) ⟨⟨rfl, zcA zat [0] (⟨av⟩ : zO) [.sl (Rp.list (Rp.int .i64)) [0] av] rfl rfl⟩, ⟨rfl, AV.le_refl _⟩, trivial⟩)) (lw_e (lw_e (lx (lf1 22 (zac [.own (Rp.list (Rp.int .i64)) 30 11 [12, 0] rv4, kI number] [11, 12, 0] 23 rfl Tryz.call22 (zfA h_rv10) rfl rfl rfl rfl rfl)) (lw_e (lw_e (lx (zbv ⟨[(57, kB (!(rv9 == rv10)))], []⟩ (by kernel_rfl) hc6) (lw_e (lw_e (lw_e (lw_e (lx (lf1 23 (zac [.own (Rp.list (Rp.int .i64)) 30 11 [12, 0] rv4, kI number] [11, 12, 0] 23 rfl Tryz.call23 (zeh h_rv11) rfl rfl rfl rfl rfl)) (lx (lf1 16 (zac [.own (Rp.list (Rp.int .i64)) 30 17 [18, 19] rv6.1.Ways, .own (Rp.list (Rp.int .i64)) 30 25 [26, 11, 12, 0] rv11] [17, 18, 19, 25, 26, 11, 12, 0] 25 rfl Tryz.call16 (zU h_rv12) rfl rfl rfl rfl rfl)) (lw_e (lw_e (lx (zbv ⟨[(66, kB (!rv12))], []⟩ (by kernel_rfl) hc7) (lw_e (lw_e (lw_e (lx (lf1 23 (zac [.own (Rp.list (Rp.int .i64)) 30 11 [12, 0] rv4, kI number] [11, 12, 0] 25 rfl Tryz.call23 (zeh h_rv13) rfl rfl rfl rfl rfl)) (lw_e (lw_e (lw_e (lw_e (lx (zbv ⟨[(75, kB (!(rv6.2 == (decide ((rv13.length : Int) > 0)))))], []⟩ (by kernel_rfl) hc8) (ly [.ptr 15 0] (zdm (b := ⟨15, 38, [.sl (Rp.list (Rp.int .i64)) [0] av]⟩) [.sl (Rp.list (Rp.int .i64)) [0] av] rfl ⟨Tryz.isAgg38, Tryz.sizeOf38⟩ rfl rfl) rfl (lw_e (lx (lf1 24 (zL.le (ins' := [(.tmp 77, .ag [.sl (Rp.list (Rp.int .i64)) [0] av]), (.tmp 78, .sl (Rp.int .i64) [0] way)]) (zac (args := [.tmp 77, .tmp 78]) [.rc zat [0] (⟨av⟩ : zO), .sl (Rp.int .i64) [0] way] [0] 27 rfl Tryz.call24 (zcX h_rv14) rfl rfl rfl rfl rfl) ⟨⟨rfl, zcA zat [0] (⟨av⟩ : zO) [.sl (Rp.list (Rp.int .i64)) [0] av] rfl rfl⟩, ⟨rfl, AV.le_refl _⟩, trivial⟩)) (lw_e (lw_e (lx (lf1 25 (zac [.sl (Rp.list (Rp.int .i64)) [0] av, .sl (Rp.int .i64) [0] way] [0] 27 rfl Tryz.call25 (zhF h_rv15) rfl rfl rfl rfl rfl)) l0))))))))))))))))))))))))))))))))))))))))) ?_
  exact zJ lzz
 rcases zg h with ⟨hc9, h⟩ | ⟨hc9, h⟩
 ·
  refine jT hc9 ?_
  refine jp ?_
  obtain rfl := sj h
  exact zp lzz
 refine jF hc9 ?_
 refine jp ?_
 refine jp ?_
 refine zn ?_
 obtain ⟨q, h_q, h⟩ := bnd h
 refine zam (fun s : ((List (List Int)) × Int) => zaC rv4 rv5 s.1 s.2) (fun s => ⟨[(0, .sl (Rp.list (Rp.int .i64)) [0] av), (1, .sl (Rp.list (Rp.int .i64)) [0] b), (9, .own (Rp.list (Rp.int .i64)) 30 11 [12, 0] rv4), (10, .own (Rp.list (Rp.int .i64)) 30 13 [14, 0] rv5), (11, .ptr 15 0), (14, .own (Rp.list (Rp.int .i64)) 30 31 [29, 11, 12, 0] s.1), (15, kI s.2)], [⟨15, 38, [.sl (Rp.list (Rp.int .i64)) [0] av]⟩]⟩) (fun o e a w => e = .exit 0 ∧ Sx ⟨⟨145, []⟩, Xt, false, #[]⟩ ⟨[(0, .sl (Rp.list (Rp.int .i64)) [0] av), (1, .sl (Rp.list (Rp.int .i64)) [0] b), (9, .own (Rp.list (Rp.int .i64)) 30 11 [12, 0] rv4), (10, .own (Rp.list (Rp.int .i64)) 30 13 [14, 0] rv5), (11, .ptr 15 0), (14, .own (Rp.list (Rp.int .i64)) 30 31 [29, 11, 12, 0] o)], [⟨15, 38, [.sl (Rp.list (Rp.int .i64)) [0] av]⟩]⟩ a w) ?_ h_q ?_ ?_
 ·
  clear h
  intro s o h
  obtain ⟨meet, i⟩ := s
  refine zh ?_
  replace h : zaC rv4 rv5 meet i = some o := h
  unfold zaC at h
  refine jp ?_
  rcases zg h with ⟨hc10, h⟩ | ⟨hc10, h⟩
  ·
   refine jT hc10 ?_
   refine zn ?_
   obtain ⟨x, h_x, h⟩ := bnd h
   obtain ⟨rv16, h_rv16, h⟩ := bnd h
   refine jr (ra 3 [.own (Rp.list (Rp.int .i64)) 30 11 [12, 0] rv4, kI i] rfl (zW rfl zaF.el (zbF _ _ _ _ _) h_x) rfl (ra 0 [.ep (Rp.list (Rp.int .i64)) [11, 12, 0] x 0] rfl (zaK (Rp.int .i64) x rfl rfl rfl) rfl (rl 0 [13, 14, 0, 11, 12] 31 Tryz.call25 (zhF h_rv16) rf))) ?_
   rcases zg h with ⟨hc11, h⟩ | ⟨hc11, h⟩
   ·
    refine jT hc11 ?_
    obtain ⟨x2, h_x2, h⟩ := bnd h
    obtain ⟨v3, h_v3, h⟩ := bnd h
    refine jr (ra 3 [.own (Rp.list (Rp.int .i64)) 30 11 [12, 0] rv4, kI i] rfl (zW rfl zaF.el (zbF _ _ _ _ _) h_x2) rfl (ra 0 [.ep (Rp.list (Rp.int .i64)) [11, 12, 0] x2 0] rfl (zaK (Rp.int .i64) x2 rfl rfl rfl) rfl (rc 0 rfl (zdO [.sl (Rp.int .i64) [11, 12, 0] x2] 33 [11, 12, 0] ([x2] : (List (List Int))) rfl zaF rfl rfl rfl rfl) (ra 0 [.own (Rp.list (Rp.int .i64)) 30 31 [29, 11, 12, 0] meet, .own (Rp.list (Rp.int .i64)) 30 33 [11, 12, 0] ([x2] : (List (List Int)))] rfl (zes 31 [29, 11, 12, 0, 33] rfl zaF.el rfl (zbA _ _ _ _ _) (zbF _ _ _ _ _) h_v3 (.inr rfl) rfl) rfl rf)))) ?_
    refine zaf ?_
    refine jp ?_
    obtain rfl := sj h
    refine zJ ?_
    refine lk [0, 1, 9, 10, 11, 14, 15] [15] 33 12 ?_
    refine zaS ⟨[(0, .sl (Rp.list (Rp.int .i64)) [0] av), (1, .sl (Rp.list (Rp.int .i64)) [0] b), (9, .own (Rp.list (Rp.int .i64)) 30 11 [12, 0] rv4), (10, .own (Rp.list (Rp.int .i64)) 30 13 [14, 0] rv5), (11, .ptr 15 0), (14, .own (Rp.list (Rp.int .i64)) 30 31 [29, 11, 12, 0, 12] v3), (15, kI (IntKind.i64.wrap (i + 1)))], [⟨15, 38, [.sl (Rp.list (Rp.int .i64)) [0] av]⟩]⟩ (by kernel_rfl) ?_
    refine zbL 14 (.own (Rp.list (Rp.int .i64)) 30 31 [29, 11, 12, 0] v3) rfl (zgb _ _ _ _ _ _ rfl rfl) ?_
    exact lzz
   refine jF hc11 ?_
   refine zaf ?_
   refine jp ?_
   obtain rfl := sj h
   exact zJ lzz
  refine jF hc10 ?_
  obtain rfl := sj h
  exact zai rfl lzz
 ·
  refine zaS ⟨[(0, .sl (Rp.list (Rp.int .i64)) [0] av), (1, .sl (Rp.list (Rp.int .i64)) [0] b), (9, .own (Rp.list (Rp.int .i64)) 30 11 [12, 0] rv4), (10, .own (Rp.list (Rp.int .i64)) 30 13 [14, 0] rv5), (11, .ptr 15 0), (14, kN), (15, kI 0)], [⟨15, 38, [.sl (Rp.list (Rp.int .i64)) [0] av]⟩]⟩ (by kernel_rfl) ?_
  refine zbL 14 (.own (Rp.list (Rp.int .i64)) 30 31 [29, 11, 12, 0] []) rfl (zY (Rp.list (Rp.int .i64)) 30 31 [29, 11, 12, 0] rfl) ?_
  exact lzz
 refine zaJ _ rfl ?_
 refine jp ?_
 refine zn ?_
 obtain ⟨q2, h_q2, h⟩ := bnd h
 refine zam (fun s : ((List (List Int)) × Int) => zaD rv4 rv5 s.1 s.2) (fun s => ⟨[(0, .sl (Rp.list (Rp.int .i64)) [0] av), (1, .sl (Rp.list (Rp.int .i64)) [0] b), (9, .own (Rp.list (Rp.int .i64)) 30 11 [12, 0] rv4), (10, .own (Rp.list (Rp.int .i64)) 30 13 [14, 0] rv5), (11, .ptr 15 0), (14, .own (Rp.list (Rp.int .i64)) 30 31 [29, 11, 12, 0, 34, 13, 14] s.1), (16, kI s.2)], [⟨15, 38, [.sl (Rp.list (Rp.int .i64)) [0] av]⟩]⟩) (fun o e a w => e = .exit 2 ∧ Sx ⟨⟨145, []⟩, Xt, false, #[]⟩ ⟨[(0, .sl (Rp.list (Rp.int .i64)) [0] av), (1, .sl (Rp.list (Rp.int .i64)) [0] b), (11, .ptr 15 0), (14, .own (Rp.list (Rp.int .i64)) 30 31 [29, 11, 12, 0, 34, 13, 14] o)], [⟨15, 38, [.sl (Rp.list (Rp.int .i64)) [0] av]⟩]⟩ a w) ?_ h_q2 ?_ ?_
 ·
  clear h
  intro s o h
  obtain ⟨meet3, i2⟩ := s
  refine zh ?_
  replace h : zaD rv4 rv5 meet3 i2 = some o := h
  unfold zaD at h
  refine jp ?_
  rcases zg h with ⟨hc12, h⟩ | ⟨hc12, h⟩
  ·
   refine jT hc12 ?_
   refine zn ?_
   obtain ⟨x3, h_x3, h⟩ := bnd h
   obtain ⟨rv17, h_rv17, h⟩ := bnd h
   refine jr (ra 3 [.own (Rp.list (Rp.int .i64)) 30 13 [14, 0] rv5, kI i2] rfl (zW rfl zaF.el (zbF _ _ _ _ _) h_x3) rfl (ra 0 [.ep (Rp.list (Rp.int .i64)) [13, 14, 0] x3 0] rfl (zaK (Rp.int .i64) x3 rfl rfl rfl) rfl (rl 0 [11, 12, 0, 13, 14] 35 Tryz.call25 (zhF h_rv17) rf))) ?_
   rcases zg h with ⟨hc13, h⟩ | ⟨hc13, h⟩
   ·
    refine jT hc13 ?_
    obtain ⟨x4, h_x4, h⟩ := bnd h
    obtain ⟨v4, h_v4, h⟩ := bnd h
    refine jr (ra 3 [.own (Rp.list (Rp.int .i64)) 30 13 [14, 0] rv5, kI i2] rfl (zW rfl zaF.el (zbF _ _ _ _ _) h_x4) rfl (ra 0 [.ep (Rp.list (Rp.int .i64)) [13, 14, 0] x4 0] rfl (zaK (Rp.int .i64) x4 rfl rfl rfl) rfl (rc 0 rfl (zdO [.sl (Rp.int .i64) [13, 14, 0] x4] 37 [13, 14, 0] ([x4] : (List (List Int))) rfl zaF rfl rfl rfl rfl) (ra 0 [.own (Rp.list (Rp.int .i64)) 30 31 [29, 11, 12, 0, 34, 13, 14] meet3, .own (Rp.list (Rp.int .i64)) 30 37 [13, 14, 0] ([x4] : (List (List Int)))] rfl (zes 31 [29, 11, 12, 0, 34, 13, 14, 37] rfl zaF.el rfl (zbA _ _ _ _ _) (zbF _ _ _ _ _) h_v4 (.inr rfl) rfl) rfl rf)))) ?_
    refine zaf ?_
    refine jp ?_
    obtain rfl := sj h
    refine zJ ?_
    refine lk [0, 1, 9, 10, 11, 14, 16] [15] 37 14 ?_
    refine zaS ⟨[(0, .sl (Rp.list (Rp.int .i64)) [0] av), (1, .sl (Rp.list (Rp.int .i64)) [0] b), (9, .own (Rp.list (Rp.int .i64)) 30 11 [12, 0] rv4), (10, .own (Rp.list (Rp.int .i64)) 30 13 [14, 0] rv5), (11, .ptr 15 0), (14, .own (Rp.list (Rp.int .i64)) 30 31 [29, 11, 12, 0, 34, 13, 14, 14] v4), (16, kI (IntKind.i64.wrap (i2 + 1)))], [⟨15, 38, [.sl (Rp.list (Rp.int .i64)) [0] av]⟩]⟩ (by kernel_rfl) ?_
    refine zbL 14 (.own (Rp.list (Rp.int .i64)) 30 31 [29, 11, 12, 0, 34, 13, 14] v4) rfl (zgb _ _ _ _ _ _ rfl rfl) ?_
    exact lzz
   refine jF hc13 ?_
   refine zaf ?_
   refine jp ?_
   obtain rfl := sj h
   exact zJ lzz
  refine jF hc12 ?_
  obtain rfl := sj h
  exact zai rfl lzz
 ·
  refine zaS ⟨[(0, .sl (Rp.list (Rp.int .i64)) [0] av), (1, .sl (Rp.list (Rp.int .i64)) [0] b), (9, .own (Rp.list (Rp.int .i64)) 30 11 [12, 0] rv4), (10, .own (Rp.list (Rp.int .i64)) 30 13 [14, 0] rv5), (11, .ptr 15 0), (14, .own (Rp.list (Rp.int .i64)) 30 31 [29, 11, 12, 0] q), (16, kI 0)], [⟨15, 38, [.sl (Rp.list (Rp.int .i64)) [0] av]⟩]⟩ (by kernel_rfl) ?_
  refine zbL 14 (.own (Rp.list (Rp.int .i64)) 30 31 [29, 11, 12, 0, 34, 13, 14] q) rfl (zgb _ _ _ _ _ _ rfl rfl) ?_
  exact lzz
 refine zaJ _ rfl ?_
 refine jr (ra 1 [.sl (Rp.list (Rp.int .i64)) [0] b] rfl (zet [.sl (Rp.list (Rp.int .i64)) [0] b] [.sl (Rp.list (Rp.int .i64)) [0] b] rfl zlU rfl) rfl (rfl' [38])) ?_
 obtain ⟨g3, h_g3, h⟩ := bnd h
 refine zN ⟨[(8, kB g3)], []⟩ ?_ ?_
 ·
  obtain ⟨rv18, h_rv18, h_g3⟩ := bnd h_g3
  obtain ⟨v5, h_v5, h_g3⟩ := bnd h_g3
  obtain ⟨v6, h_v6, h_g3⟩ := bnd h_g3
  obtain ⟨rv19, h_rv19, h_g3⟩ := bnd h_g3
  obtain ⟨rv20, h_rv20, h_g3⟩ := bnd h_g3
  refine (rl 2 [0] 37 Tryz.call26 (zji h_rv18) (ra 0 [.ag [.own (Rp.list (Rp.int .i64)) 30 40 [41, 42] rv18.Ways]] rfl (zhn (.own (Rp.list (Rp.int .i64)) 30 40 [41, 42] rv18.Ways) rfl Tryz.underlying38 rfl Tryz.isAgg25 rfl) rfl (rc 0 rfl (zdO [] 43 [] ([] : (List (List Int))) rfl zaF rfl rfl rfl rfl) (ra 1 [.own (Rp.list (Rp.int .i64)) 30 43 [] ([] : (List (List Int))), .sl (Rp.list (Rp.int .i64)) [0] av] rfl (zes 43 [0] rfl zaF.el rfl (zbA _ _ _ _ _) (zv _ _ _) h_v5 (.inr rfl) rfl) rfl (ra 1 [.own (Rp.list (Rp.int .i64)) 30 43 [0] v5, .sl (Rp.list (Rp.int .i64)) [0] b] rfl (zes 43 [0] rfl zaF.el rfl (zbA _ _ _ _ _) (zv _ _ _) h_v6 (.inr rfl) rfl) rfl (rl 0 [43, 0] 42 Tryz.call18 (zeq h_rv19) (rl 0 [40, 41, 42, 44, 45, 43, 0] 44 Tryz.call16 (zU h_rv20) (rsl 1 [] 136 rv20 (fun hc14 => ?_) (fun hc14 => ?_)))))))))
  ·
   replace h_g3 := iteT h_g3 hc14
   obtain ⟨rv21, h_rv21, h_g3⟩ := bnd h_g3
   obtain ⟨rv22, h_rv22, h_g3⟩ := bnd h_g3
   obtain ⟨rv23, h_rv23, h_g3⟩ := bnd h_g3
   obtain rfl := sj h_g3
   exact (rl 2 [0] 44 Tryz.call27 (zmr h_rv21) (ra 0 [.ag [.own (Rp.list (Rp.int .i64)) 30 47 [48, 49] rv21.Ways]] rfl (zhn (.own (Rp.list (Rp.int .i64)) 30 47 [48, 49] rv21.Ways) rfl Tryz.underlying38 rfl Tryz.isAgg25 rfl) rfl (rl 1 [31, 29, 11, 12, 0, 34, 13, 14] 48 Tryz.call18 (zeq h_rv22) (rl 0 [47, 48, 49, 50, 51, 31, 29, 11, 12, 0, 34, 13, 14] 50 Tryz.call16 (zU h_rv23) rgg))))
  replace h_g3 := iteF h_g3 hc14
  obtain rfl := sj h_g3
  exact rgg
 obtain rfl := sj h
 exact zp lzz
theorem zlh {av : (List (List Int))} {b : (List (List Int))} {way : (List Int)} {r : Bool} (h : zef av b way = some r) : FnOk Tryz.prog 5 [.sl (Rp.list (Rp.int .i64)) [0] av, .sl (Rp.list (Rp.int .i64)) [0] b, .sl (Rp.int .i64) [0] way] [kB r] := by
 refine zo (E := ⟨[(6, kB r)], []⟩) 123 Tryz.func5 rfl rfl rfl ⟨rfl, trivial⟩ (fun Xt => ?_)
 refine zh ?_
 unfold zef at h
 refine jp ?_
 obtain ⟨rv, h_rv, h⟩ := bnd h
 refine jr (rl 0 [1] 9 Tryz.call7 (zfz h_rv) rf) ?_
 rcases zg h with ⟨hc1, h⟩ | ⟨hc1, h⟩
 ·
  refine jT hc1 ?_
  refine jp ?_
  obtain rfl := sj h
  exact zp lzz
 refine jF hc1 ?_
 obtain ⟨g, h_g, h⟩ := bnd h
 refine zN ⟨[(0, .sl (Rp.list (Rp.int .i64)) [0] av), (1, .sl (Rp.list (Rp.int .i64)) [0] b), (2, .sl (Rp.int .i64) [0] way), (26, kB g)], []⟩ ?_ ?_
 ·
  obtain ⟨rv2, h_rv2, h_g⟩ := bnd h_g
  refine (rl 1 [0] 9 Tryz.call10 (zeH h_rv2) (rsl 1 [] 18 rv2 (fun hc2 => ?_) (fun hc2 => ?_)))
  ·
   replace h_g := iteT h_g hc2
   obtain rfl := sj h_g
   exact rgg
  replace h_g := iteF h_g hc2
  obtain ⟨rv3, h_rv3, h_g⟩ := bnd h_g
  refine (rl 1 [0] 9 Tryz.call10 (zeH h_rv3) (rsl 2 [] 22 rv3 (fun hc3 => ?_) (fun hc3 => ?_)))
  ·
   replace h_g := iteT h_g hc3
   obtain rfl := sj h_g
   exact rgg
  replace h_g := iteF h_g hc3
  obtain rfl := sj h_g
  exact rgg
 rcases zg h with ⟨hc4, h⟩ | ⟨hc4, h⟩
 ·
  refine jT hc4 ?_
  refine jp ?_
  obtain rfl := sj h
  exact zp lzz
 refine jF hc4 ?_
 obtain ⟨rv4, h_rv4, h⟩ := bnd h
 obtain ⟨rv5, h_rv5, h⟩ := bnd h
 refine jr (rl 1 [0] 9 Tryz.call20 (zcV h_rv4) (rl 1 [0] 13 Tryz.call20 (zcV h_rv5) (rfl' [19, 20]))) ?_
 obtain ⟨rv6, h_rv6, h⟩ := bnd h
 obtain ⟨rv7, h_rv7, h⟩ := bnd h
 refine jd [0, 2, 7, 8, 9, 10] [19, 20] zcB (by exact (ly [.ptr 19 0] (zdm (b := ⟨19, 38, [.own (Rp.list (Rp.int .i64)) 30 12 [13, 14] rv4.Ways]⟩) [.own (Rp.list (Rp.int .i64)) 30 12 [13, 14] rv4.Ways] rfl ⟨Tryz.isAgg38, Tryz.sizeOf38⟩ rfl rfl) rfl (lw_e (lx (lf1 24 (zL.le (ins' := [(.tmp 31, .ag [.own (Rp.list (Rp.int .i64)) 30 12 [13, 14] rv4.Ways]), (.tmp 32, .sl (Rp.int .i64) [0] way)]) (zac (args := [.tmp 31, .tmp 32]) [.rc zat [12, 13, 14] rv4, .sl (Rp.int .i64) [0] way] [12, 13, 14, 0] 19 rfl Tryz.call24 (zcX h_rv6) rfl rfl rfl rfl rfl) ⟨⟨rfl, zcA zat [12, 13, 14] rv4 [.own (Rp.list (Rp.int .i64)) 30 12 [13, 14] rv4.Ways] rfl rfl⟩, ⟨rfl, AV.le_refl _⟩, trivial⟩)) (ly [.ptr 20 0] (zdm (b := ⟨20, 38, [.own (Rp.list (Rp.int .i64)) 30 16 [17, 18] rv5.Ways]⟩) [.own (Rp.list (Rp.int .i64)) 30 16 [17, 18] rv5.Ways] rfl ⟨Tryz.isAgg38, Tryz.sizeOf38⟩ rfl rfl) rfl (lw_e (lx (lf1 24 (zL.le (ins' := [(.tmp 34, .ag [.own (Rp.list (Rp.int .i64)) 30 16 [17, 18] rv5.Ways]), (.tmp 35, .sl (Rp.int .i64) [0] way)]) (zac (args := [.tmp 34, .tmp 35]) [.rc zat [16, 17, 18] rv5, .sl (Rp.int .i64) [0] way] [16, 17, 18, 0] 19 rfl Tryz.call24 (zcX h_rv7) rfl rfl rfl rfl rfl) ⟨⟨rfl, zcA zat [16, 17, 18] rv5 [.own (Rp.list (Rp.int .i64)) 30 16 [17, 18] rv5.Ways] rfl rfl⟩, ⟨rfl, AV.le_refl _⟩, trivial⟩)) l0))))))) ?_
 obtain ⟨rv8, h_rv8, h⟩ := bnd h
 obtain ⟨rv9, h_rv9, h⟩ := bnd h
 refine jd [0, 2, 7, 9, 10, 11, 12] [19, 29, 30] zcB (by exact (ly [.ptr 19 0] (zdm (b := ⟨19, 38, [.own (Rp.list (Rp.int .i64)) 30 12 [13, 14] rv4.Ways]⟩) [.own (Rp.list (Rp.int .i64)) 30 12 [13, 14] rv4.Ways] rfl ⟨Tryz.isAgg38, Tryz.sizeOf38⟩ rfl rfl) rfl (ly [.ptr 20 0] (zdm (b := ⟨20, 38, [.own (Rp.list (Rp.int .i64)) 30 16 [17, 18] rv5.Ways]⟩) [.own (Rp.list (Rp.int .i64)) 30 16 [17, 18] rv5.Ways] rfl ⟨Tryz.isAgg38, Tryz.sizeOf38⟩ rfl rfl) rfl (lx (lf1 26 (zL.le (ins' := [(.tmp 37, .ag [.own (Rp.list (Rp.int .i64)) 30 12 [13, 14] rv4.Ways]), (.tmp 38, .ag [.own (Rp.list (Rp.int .i64)) 30 16 [17, 18] rv5.Ways])]) (zac (args := [.tmp 37, .tmp 38]) [.rc zat [12, 13, 14] rv4, .rc zat [16, 17, 18] rv5] [12, 13, 14, 16, 17, 18] 19 rfl Tryz.call26 (zji h_rv8) rfl rfl rfl rfl rfl) ⟨⟨rfl, zcA zat [12, 13, 14] rv4 [.own (Rp.list (Rp.int .i64)) 30 12 [13, 14] rv4.Ways] rfl rfl⟩, ⟨rfl, zcA zat [16, 17, 18] rv5 [.own (Rp.list (Rp.int .i64)) 30 16 [17, 18] rv5.Ways] rfl rfl⟩, trivial⟩)) (ly [.ptr 19 0] (zdm (b := ⟨19, 38, [.own (Rp.list (Rp.int .i64)) 30 12 [13, 14] rv4.Ways]⟩) [.own (Rp.list (Rp.int .i64)) 30 12 [13, 14] rv4.Ways] rfl ⟨Tryz.isAgg38, Tryz.sizeOf38⟩ rfl rfl) rfl (ly [.ptr 20 0] (zdm (b := ⟨20, 38, [.own (Rp.list (Rp.int .i64)) 30 16 [17, 18] rv5.Ways]⟩) [.own (Rp.list (Rp.int .i64)) 30 16 [17, 18] rv5.Ways] rfl ⟨Tryz.isAgg38, Tryz.sizeOf38⟩ rfl rfl) rfl (lx (lf1 27 (zL.le (ins' := [(.tmp 40, .ag [.own (Rp.list (Rp.int .i64)) 30 12 [13, 14] rv4.Ways]), (.tmp 41, .ag [.own (Rp.list (Rp.int .i64)) 30 16 [17, 18] rv5.Ways])]) (zac (args := [.tmp 40, .tmp 41]) [.rc zat [12, 13, 14] rv4, .rc zat [16, 17, 18] rv5] [12, 13, 14, 16, 17, 18] 23 rfl Tryz.call27 (zmr h_rv9) rfl rfl rfl rfl rfl) ⟨⟨rfl, zcA zat [12, 13, 14] rv4 [.own (Rp.list (Rp.int .i64)) 30 12 [13, 14] rv4.Ways] rfl rfl⟩, ⟨rfl, zcA zat [16, 17, 18] rv5 [.own (Rp.list (Rp.int .i64)) 30 16 [17, 18] rv5.Ways] rfl rfl⟩, trivial⟩)) (lx (zlI 29 [kN] rfl Tryz.zeroValue38 rfl) (lx (zlI 30 [kN] rfl Tryz.zeroValue38 rfl) (ly [.ptr 29 0, .ag [.own (Rp.list (Rp.int .i64)) 30 22 [23, 24] rv8.Ways]] (zom (b := ⟨29, 38, [kN]⟩) (off := 0) [.own (Rp.list (Rp.int .i64)) 30 22 [23, 24] rv8.Ways] rfl Tryz.sizeOf38 rfl rfl rfl) rfl (ly [.ptr 30 0, .ag [.own (Rp.list (Rp.int .i64)) 30 26 [27, 28] rv9.Ways]] (zom (b := ⟨30, 38, [kN]⟩) (off := 0) [.own (Rp.list (Rp.int .i64)) 30 26 [27, 28] rv9.Ways] rfl Tryz.sizeOf38 rfl rfl rfl) rfl l0))))))))))) ?_
 obtain ⟨g2, h_g2, h⟩ := bnd h
 refine zN ⟨[(2, .sl (Rp.int .i64) [0] way), (7, .ptr 19 0), (11, .ptr 29 0), (68, kB g2)], [⟨19, 38, [.own (Rp.list (Rp.int .i64)) 30 12 [13, 14] rv4.Ways]⟩, ⟨29, 38, [.own (Rp.list (Rp.int .i64)) 30 22 [23, 24] rv8.Ways]⟩]⟩ ?_ ?_
 ·
  obtain ⟨rv10, h_rv10, h_g2⟩ := bnd h_g2
  refine (rl 2 [22, 23, 24, 0] 29 Tryz.call24 (zcX h_rv10) (rsl 2 [] 47 rv6 (fun hc5 => ?_) (fun hc5 => ?_)))
  ·
   replace h_g2 := iteT h_g2 hc5
   refine (rsl 4 [] 51 (!(rv10 == true)) (fun hc6 => ?_) (fun hc6 => ?_))
   ·
    replace h_g2 := iteT h_g2 hc6
    obtain rfl := sj h_g2
    exact (rel [] lzz)
   replace h_g2 := iteF h_g2 hc6
   obtain ⟨rv11, h_rv11, h_g2⟩ := bnd h_g2
   refine (rl 2 [26, 27, 28, 0] 29 Tryz.call24 (zcX h_rv11) (rsl 2 [] 56 rv6 (fun hc7 => ?_) (fun hc7 => ?_)))
   ·
    replace h_g2 := iteT h_g2 hc7
    refine (rsl 5 [] 61 (!(rv11 == rv7)) (fun hc8 => ?_) (fun hc8 => ?_))
    ·
     replace h_g2 := iteT h_g2 hc8
     obtain rfl := sj h_g2
     exact (rel [] lzz)
    replace h_g2 := iteF h_g2 hc8
    obtain ⟨rv12, h_rv12, h_g2⟩ := bnd h_g2
    obtain rfl := sj h_g2
    exact (ra 1 [.sl (Rp.list (Rp.int .i64)) [0] av] rfl (zet [.sl (Rp.list (Rp.int .i64)) [0] av] [.sl (Rp.list (Rp.int .i64)) [0] av] rfl zlU rfl) rfl (rl 1 [0] 29 Tryz.call24 (zcX h_rv12) (rel [] lzz)))
   replace h_g2 := iteF h_g2 hc7
   refine (rsl 5 [] 61 (!(rv11 == false)) (fun hc9 => ?_) (fun hc9 => ?_))
   ·
    replace h_g2 := iteT h_g2 hc9
    obtain rfl := sj h_g2
    exact (rel [] lzz)
   replace h_g2 := iteF h_g2 hc9
   obtain ⟨rv13, h_rv13, h_g2⟩ := bnd h_g2
   obtain rfl := sj h_g2
   exact (ra 1 [.sl (Rp.list (Rp.int .i64)) [0] av] rfl (zet [.sl (Rp.list (Rp.int .i64)) [0] av] [.sl (Rp.list (Rp.int .i64)) [0] av] rfl zlU rfl) rfl (rl 1 [0] 29 Tryz.call24 (zcX h_rv13) (rel [] lzz)))
  replace h_g2 := iteF h_g2 hc5
  refine (rsl 4 [] 51 (!(rv10 == rv7)) (fun hc10 => ?_) (fun hc10 => ?_))
  ·
   replace h_g2 := iteT h_g2 hc10
   obtain rfl := sj h_g2
   exact (rel [] lzz)
  replace h_g2 := iteF h_g2 hc10
  obtain ⟨rv14, h_rv14, h_g2⟩ := bnd h_g2
  refine (rl 2 [26, 27, 28, 0] 29 Tryz.call24 (zcX h_rv14) (rsl 2 [] 56 rv6 (fun hc11 => ?_) (fun hc11 => ?_)))
  ·
   replace h_g2 := iteT h_g2 hc11
   refine (rsl 5 [] 61 (!(rv14 == rv7)) (fun hc12 => ?_) (fun hc12 => ?_))
   ·
    replace h_g2 := iteT h_g2 hc12
    obtain rfl := sj h_g2
    exact (rel [] lzz)
   replace h_g2 := iteF h_g2 hc12
   obtain ⟨rv15, h_rv15, h_g2⟩ := bnd h_g2
   obtain rfl := sj h_g2
   exact (ra 1 [.sl (Rp.list (Rp.int .i64)) [0] av] rfl (zet [.sl (Rp.list (Rp.int .i64)) [0] av] [.sl (Rp.list (Rp.int .i64)) [0] av] rfl zlU rfl) rfl (rl 1 [0] 29 Tryz.call24 (zcX h_rv15) (rel [] lzz)))
  replace h_g2 := iteF h_g2 hc11
  refine (rsl 5 [] 61 (!(rv14 == false)) (fun hc13 => ?_) (fun hc13 => ?_))
  ·
   replace h_g2 := iteT h_g2 hc13
   obtain rfl := sj h_g2
   exact (rel [] lzz)
  replace h_g2 := iteF h_g2 hc13
  obtain ⟨rv16, h_rv16, h_g2⟩ := bnd h_g2
  obtain rfl := sj h_g2
  exact (ra 1 [.sl (Rp.list (Rp.int .i64)) [0] av] rfl (zet [.sl (Rp.list (Rp.int .i64)) [0] av] [.sl (Rp.list (Rp.int .i64)) [0] av] rfl zlU rfl) rfl (rl 1 [0] 29 Tryz.call24 (zcX h_rv16) (rel [] lzz)))
 rcases zg h with ⟨hc14, h⟩ | ⟨hc14, h⟩
 ·
  refine jT hc14 ?_
  refine jp ?_
  obtain rfl := sj h
  exact zp lzz
 refine jF hc14 ?_
 refine jp ?_
 refine zn ?_
 obtain ⟨q, h_q, h⟩ := bnd h
 refine zam (fun s : Int => zaB rv4 rv8 way s) (fun s => ⟨[(2, .sl (Rp.int .i64) [0] way), (7, .ptr 19 0), (11, .ptr 29 0), (13, kI s)], [⟨19, 38, [.own (Rp.list (Rp.int .i64)) 30 12 [13, 14] rv4.Ways]⟩, ⟨29, 38, [.own (Rp.list (Rp.int .i64)) 30 22 [23, 24] rv8.Ways]⟩]⟩) (fun o e a w => match o with | (.inl v_) => e = .exit 0 ∧ Sx ⟨⟨123, []⟩, Xt, false, #[]⟩ ⟨[(7, .ptr 19 0)], [⟨19, 38, [.own (Rp.list (Rp.int .i64)) 30 12 [13, 14] rv4.Ways]⟩]⟩ a w | (.inr v_) => e = .ret ∧ Sx ⟨⟨123, []⟩, Xt, false, #[]⟩ ⟨[(6, kB false)], []⟩ a w) ?_ h_q lzz ?_
 ·
  clear h
  intro i o h
  refine zh ?_
  replace h : zaB rv4 rv8 way i = some o := h
  unfold zaB at h
  refine jp ?_
  rcases zg h with ⟨hc15, h⟩ | ⟨hc15, h⟩
  ·
   refine jT hc15 ?_
   refine zn ?_
   obtain ⟨g3, h_g3, h⟩ := bnd h
   refine zhU (R := fun e a w => e = .normal ∧ Sx ⟨⟨123, []⟩, Xt, false, #[]⟩ ⟨[(2, .sl (Rp.int .i64) [0] way), (7, .ptr 19 0), (11, .ptr 29 0), (13, kI i), (97, kB g3)], [⟨19, 38, [.own (Rp.list (Rp.int .i64)) 30 12 [13, 14] rv4.Ways]⟩, ⟨29, 38, [.own (Rp.list (Rp.int .i64)) 30 22 [23, 24] rv8.Ways]⟩]⟩ a w) ?_ (zko ?_)
   ·
    refine zh ?_
    obtain ⟨x, h_x, h_g3⟩ := bnd h_g3
    obtain ⟨v3, h_v3, h_g3⟩ := bnd h_g3
    obtain ⟨v4, h_v4, h_g3⟩ := bnd h_g3
    obtain ⟨rv17, h_rv17, h_g3⟩ := bnd h_g3
    rcases Bool.eq_false_or_eq_true (!rv17) with hc16 | hc16
    ·
     replace h_g3 := iteT h_g3 hc16
     obtain rfl := sj h_g3
     refine jd [2, 7, 11, 13, 97] [19, 29] zcB (by exact (ly [.ptr 19 0] (zdm (b := ⟨19, 38, [.own (Rp.list (Rp.int .i64)) 30 12 [13, 14] rv4.Ways]⟩) [.own (Rp.list (Rp.int .i64)) 30 12 [13, 14] rv4.Ways] rfl ⟨Tryz.isAgg38, Tryz.sizeOf38⟩ rfl rfl) rfl (lx (zdO [] 32 [] ([] : (List Int)) rfl zel rfl rfl rfl rfl) (lw_e (lw_e (lw_e (ly [.own (Rp.list (Rp.int .i64)) 30 12 [13, 14] rv4.Ways, kI i] (zW rfl zaF.el (zbF _ _ _ _ _) h_x) rfl (ly [.ep (Rp.list (Rp.int .i64)) [12, 13, 14] x 0] (zaK (Rp.int .i64) x rfl rfl rfl) rfl (ly [.own (Rp.int .i64) 3 32 [] ([] : (List Int)), .sl (Rp.int .i64) [12, 13, 14] x] (zes 32 [] rfl zel.el rfl (zbA _ _ _ _ _) (zv _ _ _) h_v3 (.inl (zkh _)) rfl) rfl (lw_e (ly [.own (Rp.int .i64) 3 32 [] v3, .sl (Rp.int .i64) [0] way] (zes 32 [] rfl zel.el rfl (zbA _ _ _ _ _) (zv _ _ _) h_v4 (.inl (zkh _)) rfl) rfl (lx (lf1 24 (zL.le (ins' := [(.tmp 76, .ag [.own (Rp.list (Rp.int .i64)) 30 12 [13, 14] rv4.Ways]), (.tmp 85, .own (Rp.int .i64) 3 32 [] v4)]) (zac (args := [.tmp 76, .tmp 85]) [.rc zat [12, 13, 14] rv4, .own (Rp.int .i64) 3 32 [] v4] [12, 13, 14, 32] 31 rfl Tryz.call24 (zcX h_rv17) rfl rfl rfl rfl rfl) ⟨⟨rfl, zcA zat [12, 13, 14] rv4 [.own (Rp.list (Rp.int .i64)) 30 12 [13, 14] rv4.Ways] rfl rfl⟩, ⟨rfl, AV.le_refl _⟩, trivial⟩)) (lw_e (lx (zbv ⟨[(87, kB (!rv17))], []⟩ (by kernel_rfl) hc16) l0)))))))))))))) ?_
     exact zJ lzz
    replace h_g3 := iteF h_g3 hc16
    obtain ⟨x2, h_x2, h_g3⟩ := bnd h_g3
    obtain ⟨rv18, h_rv18, h_g3⟩ := bnd h_g3
    obtain rfl := sj h_g3
    refine jd [2, 7, 11, 13, 97] [19, 29] zcB (by exact (ly [.ptr 19 0] (zdm (b := ⟨19, 38, [.own (Rp.list (Rp.int .i64)) 30 12 [13, 14] rv4.Ways]⟩) [.own (Rp.list (Rp.int .i64)) 30 12 [13, 14] rv4.Ways] rfl ⟨Tryz.isAgg38, Tryz.sizeOf38⟩ rfl rfl) rfl (lx (zdO [] 32 [] ([] : (List Int)) rfl zel rfl rfl rfl rfl) (lw_e (lw_e (lw_e (ly [.own (Rp.list (Rp.int .i64)) 30 12 [13, 14] rv4.Ways, kI i] (zW rfl zaF.el (zbF _ _ _ _ _) h_x) rfl (ly [.ep (Rp.list (Rp.int .i64)) [12, 13, 14] x 0] (zaK (Rp.int .i64) x rfl rfl rfl) rfl (ly [.own (Rp.int .i64) 3 32 [] ([] : (List Int)), .sl (Rp.int .i64) [12, 13, 14] x] (zes 32 [] rfl zel.el rfl (zbA _ _ _ _ _) (zv _ _ _) h_v3 (.inl (zkh _)) rfl) rfl (lw_e (ly [.own (Rp.int .i64) 3 32 [] v3, .sl (Rp.int .i64) [0] way] (zes 32 [] rfl zel.el rfl (zbA _ _ _ _ _) (zv _ _ _) h_v4 (.inl (zkh _)) rfl) rfl (lx (lf1 24 (zL.le (ins' := [(.tmp 76, .ag [.own (Rp.list (Rp.int .i64)) 30 12 [13, 14] rv4.Ways]), (.tmp 85, .own (Rp.int .i64) 3 32 [] v4)]) (zac (args := [.tmp 76, .tmp 85]) [.rc zat [12, 13, 14] rv4, .own (Rp.int .i64) 3 32 [] v4] [12, 13, 14, 32] 31 rfl Tryz.call24 (zcX h_rv17) rfl rfl rfl rfl rfl) ⟨⟨rfl, zcA zat [12, 13, 14] rv4 [.own (Rp.list (Rp.int .i64)) 30 12 [13, 14] rv4.Ways] rfl rfl⟩, ⟨rfl, AV.le_refl _⟩, trivial⟩)) (lw_e (lx (zbv ⟨[(87, kB (!rv17))], []⟩ (by kernel_rfl) hc16) (ly [.ptr 29 0] (zdm (b := ⟨29, 38, [.own (Rp.list (Rp.int .i64)) 30 22 [23, 24] rv8.Ways]⟩) [.own (Rp.list (Rp.int .i64)) 30 22 [23, 24] rv8.Ways] rfl ⟨Tryz.isAgg38, Tryz.sizeOf38⟩ rfl rfl) rfl (lw_e (lw_e (lw_e (ly [.own (Rp.list (Rp.int .i64)) 30 12 [13, 14] rv4.Ways, kI i] (zW rfl zaF.el (zbF _ _ _ _ _) h_x2) rfl (ly [.ep (Rp.list (Rp.int .i64)) [12, 13, 14] x2 0] (zaK (Rp.int .i64) x2 rfl rfl rfl) rfl (lx (lf1 24 (zL.le (ins' := [(.tmp 89, .ag [.own (Rp.list (Rp.int .i64)) 30 22 [23, 24] rv8.Ways]), (.tmp 94, .sl (Rp.int .i64) [12, 13, 14] x2)]) (zac (args := [.tmp 89, .tmp 94]) [.rc zat [22, 23, 24] rv8, .sl (Rp.int .i64) [12, 13, 14] x2] [22, 23, 24, 12, 13, 14] 31 rfl Tryz.call24 (zcX h_rv18) rfl rfl rfl rfl rfl) ⟨⟨rfl, zcA zat [22, 23, 24] rv8 [.own (Rp.list (Rp.int .i64)) 30 22 [23, 24] rv8.Ways] rfl rfl⟩, ⟨rfl, AV.le_refl _⟩, trivial⟩)) l0))))))))))))))))))))) ?_
    exact zJ lzz
   rcases zg h with ⟨hc17, h⟩ | ⟨hc17, h⟩
   ·
    refine jT hc17 ?_
    refine jp ?_
    obtain rfl := sj h
    exact zaW lzz
   refine jF hc17 ?_
   refine zaf ?_
   refine jp ?_
   obtain rfl := sj h
   exact zJ lzz
  refine jF hc15 ?_
  obtain rfl := sj h
  exact zai rfl lzz
 rcases q with u | u2
 ·
  refine zaJ _ rfl ?_
  obtain ⟨g4, h_g4, h⟩ := bnd h
  refine zhU (R := fun e a w => e = .normal ∧ Sx ⟨⟨123, []⟩, Xt, false, #[]⟩ ⟨[(6, kB g4)], []⟩ a w) ?_ (zko ?_)
  ·
   refine zh ?_
   obtain ⟨rv19, h_rv19, h_g4⟩ := bnd h_g4
   obtain ⟨rv20, h_rv20, h_g4⟩ := bnd h_g4
   rcases Bool.eq_false_or_eq_true rv20 with hc18 | hc18
   ·
    replace h_g4 := iteT h_g4 hc18
    obtain ⟨rv21, h_rv21, h_g4⟩ := bnd h_g4
    obtain ⟨rv22, h_rv22, h_g4⟩ := bnd h_g4
    rcases Bool.eq_false_or_eq_true rv22 with hc19 | hc19
    ·
     replace h_g4 := iteT h_g4 hc19
     obtain ⟨rv23, h_rv23, h_g4⟩ := bnd h_g4
     obtain ⟨rv24, h_rv24, h_g4⟩ := bnd h_g4
     obtain rfl := sj h_g4
     refine jd [6] [] zcB (by exact (lw_e (lw_e (lx (lf1 20 (zac [.own (Rp.list (Rp.int .i64)) 30 12 [13, 14] rv4.Ways] [12, 13, 14] 31 rfl Tryz.call20 (zcV h_rv19) rfl rfl rfl rfl rfl)) (ly [.ag [.own (Rp.list (Rp.int .i64)) 30 34 [35, 36] rv19.Ways]] (zhn (.own (Rp.list (Rp.int .i64)) 30 34 [35, 36] rv19.Ways) rfl Tryz.underlying38 rfl Tryz.isAgg25 rfl) rfl (lw_e (lw_e (lx (lf1 16 (zac [.own (Rp.list (Rp.int .i64)) 30 34 [35, 36] rv19.Ways, .own (Rp.list (Rp.int .i64)) 30 12 [13, 14] rv4.Ways] [34, 35, 36, 12, 13, 14] 35 rfl Tryz.call16 (zU h_rv20) rfl rfl rfl rfl rfl)) (lx (zbv ⟨[(104, kB rv20)], []⟩ (by kernel_rfl) hc18) (ly [.ptr 19 0] (zdm (b := ⟨19, 38, [.own (Rp.list (Rp.int .i64)) 30 12 [13, 14] rv4.Ways]⟩) [.own (Rp.list (Rp.int .i64)) 30 12 [13, 14] rv4.Ways] rfl ⟨Tryz.isAgg38, Tryz.sizeOf38⟩ rfl rfl) rfl (ly [.ptr 19 0] (zdm (b := ⟨19, 38, [.own (Rp.list (Rp.int .i64)) 30 12 [13, 14] rv4.Ways]⟩) [.own (Rp.list (Rp.int .i64)) 30 12 [13, 14] rv4.Ways] rfl ⟨Tryz.isAgg38, Tryz.sizeOf38⟩ rfl rfl) rfl (lx (lf1 26 (zL.le (ins' := [(.tmp 106, .ag [.own (Rp.list (Rp.int .i64)) 30 12 [13, 14] rv4.Ways]), (.tmp 107, .ag [.own (Rp.list (Rp.int .i64)) 30 12 [13, 14] rv4.Ways])]) (zac (args := [.tmp 106, .tmp 107]) [.rc zat [12, 13, 14] rv4, .rc zat [12, 13, 14] rv4] [12, 13, 14] 35 rfl Tryz.call26 (zji h_rv21) rfl rfl rfl rfl rfl) ⟨⟨rfl, zcA zat [12, 13, 14] rv4 [.own (Rp.list (Rp.int .i64)) 30 12 [13, 14] rv4.Ways] rfl rfl⟩, ⟨rfl, zcA zat [12, 13, 14] rv4 [.own (Rp.list (Rp.int .i64)) 30 12 [13, 14] rv4.Ways] rfl rfl⟩, trivial⟩)) (ly [.ag [.own (Rp.list (Rp.int .i64)) 30 38 [39, 40] rv21.Ways]] (zhn (.own (Rp.list (Rp.int .i64)) 30 38 [39, 40] rv21.Ways) rfl Tryz.underlying38 rfl Tryz.isAgg25 rfl) rfl (lw_e (lw_e (lx (lf1 16 (zac [.own (Rp.list (Rp.int .i64)) 30 38 [39, 40] rv21.Ways, .own (Rp.list (Rp.int .i64)) 30 12 [13, 14] rv4.Ways] [38, 39, 40, 12, 13, 14] 39 rfl Tryz.call16 (zU h_rv22) rfl rfl rfl rfl rfl)) (lw_e (lx (zbv ⟨[(113, kB rv22)], []⟩ (by kernel_rfl) hc19) (ly [.ptr 19 0] (zdm (b := ⟨19, 38, [.own (Rp.list (Rp.int .i64)) 30 12 [13, 14] rv4.Ways]⟩) [.own (Rp.list (Rp.int .i64)) 30 12 [13, 14] rv4.Ways] rfl ⟨Tryz.isAgg38, Tryz.sizeOf38⟩ rfl rfl) rfl (ly [.ptr 19 0] (zdm (b := ⟨19, 38, [.own (Rp.list (Rp.int .i64)) 30 12 [13, 14] rv4.Ways]⟩) [.own (Rp.list (Rp.int .i64)) 30 12 [13, 14] rv4.Ways] rfl ⟨Tryz.isAgg38, Tryz.sizeOf38⟩ rfl rfl) rfl (lx (lf1 27 (zL.le (ins' := [(.tmp 115, .ag [.own (Rp.list (Rp.int .i64)) 30 12 [13, 14] rv4.Ways]), (.tmp 116, .ag [.own (Rp.list (Rp.int .i64)) 30 12 [13, 14] rv4.Ways])]) (zac (args := [.tmp 115, .tmp 116]) [.rc zat [12, 13, 14] rv4, .rc zat [12, 13, 14] rv4] [12, 13, 14] 39 rfl Tryz.call27 (zmr h_rv23) rfl rfl rfl rfl rfl) ⟨⟨rfl, zcA zat [12, 13, 14] rv4 [.own (Rp.list (Rp.int .i64)) 30 12 [13, 14] rv4.Ways] rfl rfl⟩, ⟨rfl, zcA zat [12, 13, 14] rv4 [.own (Rp.list (Rp.int .i64)) 30 12 [13, 14] rv4.Ways] rfl rfl⟩, trivial⟩)) (ly [.ag [.own (Rp.list (Rp.int .i64)) 30 42 [43, 44] rv23.Ways]] (zhn (.own (Rp.list (Rp.int .i64)) 30 42 [43, 44] rv23.Ways) rfl Tryz.underlying38 rfl Tryz.isAgg25 rfl) rfl (lw_e (lw_e (lx (lf1 16 (zac [.own (Rp.list (Rp.int .i64)) 30 42 [43, 44] rv23.Ways, .own (Rp.list (Rp.int .i64)) 30 12 [13, 14] rv4.Ways] [42, 43, 44, 12, 13, 14] 43 rfl Tryz.call16 (zU h_rv24) rfl rfl rfl rfl rfl)) l0))))))))))))))))))))))))) ?_
     exact zJ lzz
    replace h_g4 := iteF h_g4 hc19
    obtain rfl := sj h_g4
    refine jd [6] [] zcB (by exact (lw_e (lw_e (lx (lf1 20 (zac [.own (Rp.list (Rp.int .i64)) 30 12 [13, 14] rv4.Ways] [12, 13, 14] 31 rfl Tryz.call20 (zcV h_rv19) rfl rfl rfl rfl rfl)) (ly [.ag [.own (Rp.list (Rp.int .i64)) 30 34 [35, 36] rv19.Ways]] (zhn (.own (Rp.list (Rp.int .i64)) 30 34 [35, 36] rv19.Ways) rfl Tryz.underlying38 rfl Tryz.isAgg25 rfl) rfl (lw_e (lw_e (lx (lf1 16 (zac [.own (Rp.list (Rp.int .i64)) 30 34 [35, 36] rv19.Ways, .own (Rp.list (Rp.int .i64)) 30 12 [13, 14] rv4.Ways] [34, 35, 36, 12, 13, 14] 35 rfl Tryz.call16 (zU h_rv20) rfl rfl rfl rfl rfl)) (lx (zbv ⟨[(104, kB rv20)], []⟩ (by kernel_rfl) hc18) (ly [.ptr 19 0] (zdm (b := ⟨19, 38, [.own (Rp.list (Rp.int .i64)) 30 12 [13, 14] rv4.Ways]⟩) [.own (Rp.list (Rp.int .i64)) 30 12 [13, 14] rv4.Ways] rfl ⟨Tryz.isAgg38, Tryz.sizeOf38⟩ rfl rfl) rfl (ly [.ptr 19 0] (zdm (b := ⟨19, 38, [.own (Rp.list (Rp.int .i64)) 30 12 [13, 14] rv4.Ways]⟩) [.own (Rp.list (Rp.int .i64)) 30 12 [13, 14] rv4.Ways] rfl ⟨Tryz.isAgg38, Tryz.sizeOf38⟩ rfl rfl) rfl (lx (lf1 26 (zL.le (ins' := [(.tmp 106, .ag [.own (Rp.list (Rp.int .i64)) 30 12 [13, 14] rv4.Ways]), (.tmp 107, .ag [.own (Rp.list (Rp.int .i64)) 30 12 [13, 14] rv4.Ways])]) (zac (args := [.tmp 106, .tmp 107]) [.rc zat [12, 13, 14] rv4, .rc zat [12, 13, 14] rv4] [12, 13, 14] 35 rfl Tryz.call26 (zji h_rv21) rfl rfl rfl rfl rfl) ⟨⟨rfl, zcA zat [12, 13, 14] rv4 [.own (Rp.list (Rp.int .i64)) 30 12 [13, 14] rv4.Ways] rfl rfl⟩, ⟨rfl, zcA zat [12, 13, 14] rv4 [.own (Rp.list (Rp.int .i64)) 30 12 [13, 14] rv4.Ways] rfl rfl⟩, trivial⟩)) (ly [.ag [.own (Rp.list (Rp.int .i64)) 30 38 [39, 40] rv21.Ways]] (zhn (.own (Rp.list (Rp.int .i64)) 30 38 [39, 40] rv21.Ways) rfl Tryz.underlying38 rfl Tryz.isAgg25 rfl) rfl (lw_e (lw_e (lx (lf1 16 (zac [.own (Rp.list (Rp.int .i64)) 30 38 [39, 40] rv21.Ways, .own (Rp.list (Rp.int .i64)) 30 12 [13, 14] rv4.Ways] [38, 39, 40, 12, 13, 14] 39 rfl Tryz.call16 (zU h_rv22) rfl rfl rfl rfl rfl)) (lw_e (lx (zbv ⟨[(113, kB rv22)], []⟩ (by kernel_rfl) hc19) l0)))))))))))))))))) ?_
    exact zJ lzz
   replace h_g4 := iteF h_g4 hc18
   obtain rfl := sj h_g4
   refine jd [6] [] zcB (by exact (lw_e (lw_e (lx (lf1 20 (zac [.own (Rp.list (Rp.int .i64)) 30 12 [13, 14] rv4.Ways] [12, 13, 14] 31 rfl Tryz.call20 (zcV h_rv19) rfl rfl rfl rfl rfl)) (ly [.ag [.own (Rp.list (Rp.int .i64)) 30 34 [35, 36] rv19.Ways]] (zhn (.own (Rp.list (Rp.int .i64)) 30 34 [35, 36] rv19.Ways) rfl Tryz.underlying38 rfl Tryz.isAgg25 rfl) rfl (lw_e (lw_e (lx (lf1 16 (zac [.own (Rp.list (Rp.int .i64)) 30 34 [35, 36] rv19.Ways, .own (Rp.list (Rp.int .i64)) 30 12 [13, 14] rv4.Ways] [34, 35, 36, 12, 13, 14] 35 rfl Tryz.call16 (zU h_rv20) rfl rfl rfl rfl rfl)) (lx (zbv ⟨[(104, kB rv20)], []⟩ (by kernel_rfl) hc18) l0))))))))) ?_
   exact zJ lzz
  obtain rfl := sj h
  exact zp lzz
 obtain rfl := sj h
 exact zdi lzz
theorem zkC {sv : (List zc)} {root : Int} {paths : (List Str)} {r : Bool} (h : zdJ sv root paths = some r) : FnOk Tryz.prog 6 [.sl zd [0] sv, kI root, .sl Rp.str [0] paths] [kB r] := by
 refine zo (E := ⟨[(6, kB r)], []⟩) 111 Tryz.func6 rfl rfl rfl ⟨rfl, trivial⟩ (fun Xt => ?_)
 refine zh ?_
 unfold zdJ at h
 refine jp ?_
 obtain ⟨rv, h_rv, h⟩ := bnd h
 refine jr (rl 0 [1] 9 Tryz.call7 (zfz h_rv) rf) ?_
 rcases zg h with ⟨hc1, h⟩ | ⟨hc1, h⟩
 ·
  refine jT hc1 ?_
  refine jp ?_
  obtain rfl := sj h
  exact zp lzz
 refine jF hc1 ?_
 obtain ⟨g, h_g, h⟩ := bnd h
 refine zN ⟨[(0, .sl zd [0] sv), (1, kI root), (2, .sl Rp.str [0] paths), (24, kB g)], []⟩ ?_ ?_
 ·
  obtain ⟨rv2, h_rv2, h_g⟩ := bnd h_g
  refine (rl 1 [0] 9 Tryz.call8 (zjR h_rv2) (rsl 2 [] 21 (!rv2) (fun hc2 => ?_) (fun hc2 => ?_)))
  ·
   replace h_g := iteT h_g hc2
   obtain rfl := sj h_g
   exact rgg
  replace h_g := iteF h_g hc2
  obtain ⟨rv3, h_rv3, h_g⟩ := bnd h_g
  obtain rfl := sj h_g
  exact (rl 1 [0] 9 Tryz.call9 (zjo h_rv3) rgg)
 rcases zg h with ⟨hc3, h⟩ | ⟨hc3, h⟩
 ·
  refine jT hc3 ?_
  refine jp ?_
  obtain rfl := sj h
  exact zp lzz
 refine jF hc3 ?_
 obtain ⟨rv4, h_rv4, h⟩ := bnd h
 refine jr (rl 3 [0] 9 Tryz.call14 (zka h_rv4) (rfl' [15])) ?_
 refine jp ?_
 rcases zg h with ⟨hc4, h⟩ | ⟨hc4, h⟩
 ·
  refine jT hc4 ?_
  refine jp ?_
  obtain rfl := sj h
  exact zp lzz
 refine jF hc4 ?_
 obtain ⟨rv5, h_rv5, h⟩ := bnd h
 refine jr (rl 3 [0, 12, 13, 14] 14 Tryz.call28 (zoJ h_rv5) rf) ?_
 obtain ⟨rv6, h_rv6, h⟩ := bnd h
 refine jr (rl 3 [0, 16] 15 Tryz.call14 (zka h_rv6) (rfl' [21])) ?_
 obtain ⟨g2, h_g2, h⟩ := bnd h
 refine zN ⟨[(0, .sl zd [0] sv), (1, kI root), (2, .sl Rp.str [0] paths), (7, .ptr 15 0), (81, kB g2)], [⟨15, 38, [.own (Rp.list (Rp.int .i64)) 30 12 [13, 14] rv4.1.Ways]⟩]⟩ ?_ ?_
 ·
  refine (rsl 7 [] 59 ((IntKind.i64.wrap ((IntKind.i64.wrap rv5.2) + (IntKind.i64.wrap rv6.2))) != 0) (fun hc5 => ?_) (fun hc5 => ?_))
  ·
   replace h_g2 := iteT h_g2 hc5
   obtain rfl := sj h_g2
   exact (rel [] lzz)
  replace h_g2 := iteF h_g2 hc5
  refine (rsl 8 [] 67 ((rv5.1.length : Int) != (rv4.1.Ways.length : Int)) (fun hc6 => ?_) (fun hc6 => ?_))
  ·
   replace h_g2 := iteT h_g2 hc6
   obtain rfl := sj h_g2
   exact (rel [] lzz)
  replace h_g2 := iteF h_g2 hc6
  refine (rsl 7 [] 74 (decide ((rv5.1.length : Int) > (paths.length : Int))) (fun hc7 => ?_) (fun hc7 => ?_))
  ·
   replace h_g2 := iteT h_g2 hc7
   obtain rfl := sj h_g2
   exact (rel [] lzz)
  replace h_g2 := iteF h_g2 hc7
  obtain ⟨rv7, h_rv7, h_g2⟩ := bnd h_g2
  obtain rfl := sj h_g2
  exact (rl 4 [18, 19, 20, 12, 13, 14] 20 Tryz.call16 (zU h_rv7) (rel [] lzz))
 rcases zg h with ⟨hc8, h⟩ | ⟨hc8, h⟩
 ·
  refine jT hc8 ?_
  refine jp ?_
  obtain rfl := sj h
  exact zp lzz
 refine jF hc8 ?_
 refine jp ?_
 refine zn ?_
 obtain ⟨q, h_q, h⟩ := bnd h
 refine zam (fun s : Int => zao paths root rv4 sv s) (fun s => ⟨[(0, .sl zd [0] sv), (1, kI root), (2, .sl Rp.str [0] paths), (7, .ptr 15 0), (13, kI s)], [⟨15, 38, [.own (Rp.list (Rp.int .i64)) 30 12 [13, 14] rv4.1.Ways]⟩]⟩) (fun o e a w => match o with | (.inl v_) => e = .exit 0 ∧ Sx ⟨⟨111, []⟩, Xt, false, #[]⟩ ⟨[], []⟩ a w | (.inr v_) => e = .ret ∧ Sx ⟨⟨111, []⟩, Xt, false, #[]⟩ ⟨[(6, kB false)], []⟩ a w) ?_ h_q lzz ?_
 ·
  clear h
  intro i o h
  refine zh ?_
  replace h : zao paths root rv4 sv i = some o := h
  unfold zao at h
  refine zN ⟨[(0, .sl zd [0] sv), (1, kI root), (2, .sl Rp.str [0] paths), (7, .ptr 15 0), (13, kI i), (89, kB ((decide (i < (paths.length : Int))) && (decide (i < 20))))], [⟨15, 38, [.own (Rp.list (Rp.int .i64)) 30 12 [13, 14] rv4.1.Ways]⟩]⟩ ?_ ?_
  ·
   refine (rsl 5 [] 86 (decide (i < (paths.length : Int))) (fun hc9 => ?_) (fun hc9 => ?_))
   · exact (rbl [] 89 (decide (i < 20)) ((decide (i < (paths.length : Int))) && (decide (i < 20))) (by rw [hc9] <;> rfl))
   exact (rbl [] 89 false ((decide (i < (paths.length : Int))) && (decide (i < 20))) (by rw [hc9] <;> rfl))
  rcases zg h with ⟨hc10, h⟩ | ⟨hc10, h⟩
  ·
   refine jT hc10 ?_
   refine zn ?_
   obtain ⟨x, h_x, h⟩ := bnd h
   obtain ⟨rv8, h_rv8, h⟩ := bnd h
   refine jr (ra 4 [.sl Rp.str [0] paths, kI i] rfl (zW rfl zfY.el (zv _ _ _) h_x) rfl (rl 1 [0] 21 Tryz.call11 (zmL h_rv8) rf)) ?_
   obtain ⟨g3, h_g3, h⟩ := bnd h
   refine zN ⟨[(0, .sl zd [0] sv), (1, kI root), (2, .sl Rp.str [0] paths), (7, .ptr 15 0), (13, kI i), (110, kB g3)], [⟨15, 38, [.own (Rp.list (Rp.int .i64)) 30 12 [13, 14] rv4.1.Ways]⟩]⟩ ?_ ?_
   ·
    refine (rsl 4 [] 105 ((IntKind.i64.wrap rv8.2) != 0) (fun hc11 => ?_) (fun hc11 => ?_))
    ·
     replace h_g3 := iteT h_g3 hc11
     obtain rfl := sj h_g3
     exact (rel [] lzz)
    replace h_g3 := iteF h_g3 hc11
    obtain ⟨rv9, h_rv9, h_g3⟩ := bnd h_g3
    obtain rfl := sj h_g3
    exact (rl 2 [12, 13, 14, 23] 22 Tryz.call24 (zcX h_rv9) (rel [] lzz))
   rcases zg h with ⟨hc12, h⟩ | ⟨hc12, h⟩
   ·
    refine jT hc12 ?_
    refine jp ?_
    obtain rfl := sj h
    exact zaW lzz
   refine jF hc12 ?_
   refine zaf ?_
   refine jp ?_
   obtain rfl := sj h
   exact zJ lzz
  refine jF hc10 ?_
  obtain rfl := sj h
  exact zai rfl lzz
 rcases q with u | u2
 ·
  refine zaJ _ rfl ?_
  refine jp ?_
  obtain rfl := sj h
  exact zp lzz
 obtain rfl := sj h
 exact zdi lzz
end Go.Proofs.YtglkepeofhonlaaGreatDoor

/-
  The Go functions do what the plain functions say. No condition.
-/
import Derived.Test.YtdpolccecmaajaaG4
namespace Go.Proofs.Ytdpolccecmaajaa
open Go Go.RowKit
set_option linter.unusedVariables false
set_option maxRecDepth 100000
theorem zdQ {m : zi} {b : (List UInt8)} {fromv : Int} {r : Bool} (h : zaO m b fromv = some r) : FnOk Try.prog 3 [.rc zk [0] m, .sl Rp.byte [0] b, kI fromv] [kB r] := by
 refine zz (E := ⟨[(6, kB r)], []⟩) 99 Try.func3 rfl rfl rfl ⟨rfl, trivial⟩ (fun Xt => ?_)
 refine zr ?_
 unfold zaO at h
 refine jr (ra 0 [.rc zk [0] m] rfl (zbO 11 [kS m.Name, .sl za [0] m.Fields] [0] rfl rfl rfl rfl rfl) rfl rf) ?_
 obtain ⟨rv, h_rv, h⟩ := bnd h
 refine jr (rl 0 [1] 10 Try.call6 (zbF h_rv) rf) ?_
 rcases zm h with ⟨hc1, h⟩ | ⟨hc1, h⟩
 ·
  refine jT hc1 ?_
  refine jp ?_
  obtain rfl := sj h
  exact zv lzz
 refine jF hc1 ?_
 obtain ⟨rv2, h_rv2, h⟩ := bnd h
 refine zR ⟨[(1, .sl Rp.byte [0] b), (2, kI fromv), (3, .ptr 11 0), (26, kB (rv2 || (decide ((b.length : Int) > 2000))))], [⟨11, 24, [kS m.Name, .sl za [0] m.Fields]⟩]⟩ ?_ ?_
 ·
  refine (rl 1 [0] 10 Try.call7 (zbJ h_rv2) (rsl 1 [] 22 rv2 (fun hc2 => ?_) (fun hc2 => ?_)))
  · exact (rbl [] 26 true (rv2 || (decide ((b.length : Int) > 2000))) (by rw [hc2] <;> rfl))
  exact (rbl [] 26 (decide ((b.length : Int) > 2000)) (rv2 || (decide ((b.length : Int) > 2000))) (by rw [hc2] <;> rfl))
 rcases zm h with ⟨hc3, h⟩ | ⟨hc3, h⟩
 ·
  refine jT hc3 ?_
  refine jp ?_
  obtain rfl := sj h
  exact zv lzz
 refine jF hc3 ?_
 obtain ⟨rv3, h_rv3, h⟩ := bnd h
 refine jr (rl 3 [0] 10 Try.call8 (zkp h_rv3) (rfl' [12])) ?_
 obtain ⟨rv4, h_rv4, h⟩ := bnd h
 refine jr (rl 3 [0] 11 Try.call9 (zcZ h_rv4) (rfl' [13])) ?_
 obtain ⟨rv5, h_rv5, h⟩ := bnd h
 refine jr (rl 2 [0] 12 Try.call10 (zbS h_rv5) rf) ?_
 obtain ⟨rv6, h_rv6, h⟩ := bnd h
 refine jr (rl 2 [0] 13 Try.call11 (zdl h_rv6) rf) ?_
 obtain ⟨g, h_g, h⟩ := bnd h
 refine zR ⟨[(11, .own zc 31 14 [] rv5.1), (14, .own zp 37 15 [] rv6.1), (82, kB g)], []⟩ ?_ ?_
 ·
  refine (rsl 5 [] 59 ((IntKind.i64.wrap rv3.2) != rv4.2) (fun hc4 => ?_) (fun hc4 => ?_))
  ·
   replace h_g := iteT h_g hc4
   obtain rfl := sj h_g
   exact rgg
  replace h_g := iteF h_g hc4
  refine (rsl 6 [] 65 ((IntKind.i64.wrap rv5.2.2) != rv6.2.2) (fun hc5 => ?_) (fun hc5 => ?_))
  ·
   replace h_g := iteT h_g hc5
   obtain rfl := sj h_g
   exact rgg
  replace h_g := iteF h_g hc5
  refine (rsl 5 [] 70 (rv5.2.1 != rv6.2.1) (fun hc6 => ?_) (fun hc6 => ?_))
  ·
   replace h_g := iteT h_g hc6
   obtain rfl := sj h_g
   exact rgg
  replace h_g := iteF h_g hc6
  refine (rsl 7 [] 77 ((rv5.1.length : Int) != (rv6.1.length : Int)) (fun hc7 => ?_) (fun hc7 => ?_))
  ·
   replace h_g := iteT h_g hc7
   obtain rfl := sj h_g
   exact rgg
  replace h_g := iteF h_g hc7
  obtain ⟨rv7, h_rv7, h_g⟩ := bnd h_g
  obtain rfl := sj h_g
  exact (lb 0 zc [] rv3.1 (lb 0 zp [] rv4.1 (rl 0 [1] 14 Try.call12 (zbK h_rv7) rgg)))
 rcases zm h with ⟨hc8, h⟩ | ⟨hc8, h⟩
 ·
  refine jT hc8 ?_
  refine jp ?_
  obtain rfl := sj h
  exact zv lzz
 refine jF hc8 ?_
 refine jp ?_
 refine zQ ?_
 obtain ⟨q, h_q, h⟩ := bnd h
 refine zbA (fun s : Int => zH rv5 rv6 s) (fun s => ⟨[(11, .own zc 31 14 [] rv5.1), (14, .own zp 37 15 [] rv6.1), (17, kI s)], []⟩) (fun o e a w => match o with | (.inl v_) => e = .exit 0 ∧ Sx ⟨⟨99, []⟩, Xt, false, #[]⟩ ⟨[], []⟩ a w | (.inr v_) => e = .ret ∧ Sx ⟨⟨99, []⟩, Xt, false, #[]⟩ ⟨[(6, kB false)], []⟩ a w) ?_ h_q lzz ?_
 ·
  clear h
  intro i o h
  refine zr ?_
  replace h : zH rv5 rv6 i = some o := h
  unfold zH at h
  refine jp ?_
  rcases zm h with ⟨hc9, h⟩ | ⟨hc9, h⟩
  ·
   refine jT hc9 ?_
   refine zQ ?_
   obtain ⟨x, h_x, h⟩ := bnd h
   obtain ⟨x2, h_x2, h⟩ := bnd h
   obtain ⟨rv8, h_rv8, h⟩ := bnd h
   refine jd [11, 14, 17, 98] [] zdE (by exact (lw_e (lw_e (ly [.own zc 31 14 [] rv5.1, kI i] (zbx rfl zev.el (zay _ _ _ _ _) h_x) rfl (ly [.ep zc [14] x 0] (zeh rfl ⟨Try.isAgg31, Try.sizeOf31⟩) rfl (lw_e (lw_e (ly [.own zp 37 15 [] rv6.1, kI i] (zbx rfl zjE.el (zay _ _ _ _ _) h_x2) rfl (ly [.ep zp [15] x2 0] (zeh rfl ⟨Try.isAgg37, Try.sizeOf37⟩) rfl (lx (lf1 12 (zbp [.rc zc [14] x, .rc zp [15] x2] [14, 15] 15 rfl Try.call12 (zbK h_rv8) rfl rfl rfl rfl rfl)) l0)))))))))) ?_
   rcases zm h with ⟨hc10, h⟩ | ⟨hc10, h⟩
   ·
    refine jT hc10 ?_
    refine jp ?_
    obtain rfl := sj h
    exact zdW lzz
   refine jF hc10 ?_
   refine zaY ?_
   refine jp ?_
   obtain rfl := sj h
   exact zW lzz
  refine jF hc9 ?_
  obtain rfl := sj h
  exact zbB rfl lzz
 rcases q with u | u2
 ·
  refine zch _ rfl ?_
  refine jp ?_
  obtain rfl := sj h
  exact zv lzz
 obtain rfl := sj h
 exact zez lzz
theorem zlj {m : zi} {b : (List UInt8)} {number : Int} {r : Bool} (h : zfn m b number = some r) : FnOk Try.prog 17 [.rc zk [0] m, .sl Rp.byte [0] b, kI number] [kB r] := by
 refine zz (E := ⟨[(6, kB r)], []⟩) 13 Try.func17 rfl rfl rfl ⟨rfl, trivial⟩ (fun Xt => ?_)
 refine zr ?_
 unfold zfn at h
 refine jr (ra 0 [.rc zk [0] m] rfl (zbO 11 [kS m.Name, .sl za [0] m.Fields] [0] rfl rfl rfl rfl rfl) rfl rf) ?_
 obtain ⟨rv, h_rv, h⟩ := bnd h
 refine jr (rl 3 [0] 10 Try.call13 (zcl h_rv) rf) ?_
 obtain rfl := sj h
 exact zv lzz
theorem zdS {m : zi} {b : (List UInt8)} {atv : Int} {r : Bool} (h : zaQ m b atv = some r) : FnOk Try.prog 5 [.rc zk [0] m, .sl Rp.byte [0] b, kI atv] [kB r] := by
 refine zz (E := ⟨[(6, kB r)], []⟩) 161 Try.func5 rfl rfl rfl ⟨rfl, trivial⟩ (fun Xt => ?_)
 refine zr ?_
 unfold zaQ at h
 refine jr (ra 0 [.rc zk [0] m] rfl (zbO 11 [kS m.Name, .sl za [0] m.Fields] [0] rfl rfl rfl rfl rfl) rfl rf) ?_
 obtain ⟨rv, h_rv, h⟩ := bnd h
 refine jr (rl 0 [1] 10 Try.call6 (zbF h_rv) rf) ?_
 rcases zm h with ⟨hc1, h⟩ | ⟨hc1, h⟩
 ·
  refine jT hc1 ?_
  refine jp ?_
  obtain rfl := sj h
  exact zv lzz
 refine jF hc1 ?_
 obtain ⟨rv2, h_rv2, h⟩ := bnd h
 refine zR ⟨[(1, .sl Rp.byte [0] b), (2, kI atv), (3, .ptr 11 0), (28, kB (rv2 || (decide ((b.length : Int) > 2000))))], [⟨11, 24, [kS m.Name, .sl za [0] m.Fields]⟩]⟩ ?_ ?_
 ·
  refine (rl 1 [0] 10 Try.call7 (zbJ h_rv2) (rsl 1 [] 24 rv2 (fun hc2 => ?_) (fun hc2 => ?_)))
  · exact (rbl [] 28 true (rv2 || (decide ((b.length : Int) > 2000))) (by rw [hc2] <;> rfl))
  exact (rbl [] 28 (decide ((b.length : Int) > 2000)) (rv2 || (decide ((b.length : Int) > 2000))) (by rw [hc2] <;> rfl))
 rcases zm h with ⟨hc3, h⟩ | ⟨hc3, h⟩
 ·
  refine jT hc3 ?_
  refine jp ?_
  obtain rfl := sj h
  exact zv lzz
 refine jF hc3 ?_
 obtain ⟨rv3, h_rv3, h⟩ := bnd h
 refine jr (rl 2 [0] 10 Try.call10 (zbS h_rv3) rf) ?_
 refine jp ?_
 rcases zm h with ⟨hc4, h⟩ | ⟨hc4, h⟩
 ·
  refine jT hc4 ?_
  refine jp ?_
  obtain rfl := sj h
  exact zv lzz
 refine jF hc4 ?_
 obtain ⟨rv4, h_rv4, h⟩ := bnd h
 refine jr (rl 2 [0] 11 Try.call15 (zgw h_rv4) rf) ?_
 obtain ⟨rv5, h_rv5, h⟩ := bnd h
 refine jr (rl 2 [0] 12 Try.call14 (zcg h_rv5) rf) ?_
 refine jp ?_
 refine jp ?_
 refine zQ ?_
 obtain ⟨q, h_q, h⟩ := bnd h
 refine zbA (fun s : (Int × Int) => zJ rv5 s.1 s.2) (fun s => ⟨[(1, .sl Rp.byte [0] b), (2, kI atv), (3, .ptr 11 0), (7, .own zc 31 12 [] rv3.1), (10, .own Rp.byte 5 13 [] rv4.1), (11, k8 rv4.2), (12, .own (Rp.list Rp.byte) 25 14 [15] rv5), (13, kI s.1), (14, kI s.2)], [⟨11, 24, [kS m.Name, .sl za [0] m.Fields]⟩]⟩) (fun o e a w => e = .exit 0 ∧ Sx ⟨⟨161, []⟩, Xt, false, #[]⟩ ⟨[(1, .sl Rp.byte [0] b), (2, kI atv), (3, .ptr 11 0), (7, .own zc 31 12 [] rv3.1), (10, .own Rp.byte 5 13 [] rv4.1), (11, k8 rv4.2), (12, .own (Rp.list Rp.byte) 25 14 [15] rv5), (13, kI o)], [⟨11, 24, [kS m.Name, .sl za [0] m.Fields]⟩]⟩ a w) ?_ h_q lzz ?_
 ·
  clear h
  intro s o h
  obtain ⟨n, i⟩ := s
  refine zr ?_
  replace h : zJ rv5 n i = some o := h
  unfold zJ at h
  refine jp ?_
  rcases zm h with ⟨hc5, h⟩ | ⟨hc5, h⟩
  ·
   refine jT hc5 ?_
   refine zQ ?_
   obtain ⟨x, h_x, h⟩ := bnd h
   refine jr (ra 3 [.own (Rp.list Rp.byte) 25 14 [15] rv5, kI i] rfl (zbx rfl ziL.el (zay _ _ _ _ _) h_x) rfl (ra 0 [.ep (Rp.list Rp.byte) [14, 15] x 0] rfl (zjY Rp.byte x rfl rfl rfl) rfl rf)) ?_
   refine zaY ?_
   refine jp ?_
   obtain rfl := sj h
   exact zW lzz
  refine jF hc5 ?_
  obtain rfl := sj h
  exact zbB rfl lzz
 refine zch _ rfl ?_
 obtain ⟨g, h_g, h⟩ := bnd h
 refine zR ⟨[(1, .sl Rp.byte [0] b), (2, kI atv), (3, .ptr 11 0), (7, .own zc 31 12 [] rv3.1), (12, .own (Rp.list Rp.byte) 25 14 [15] rv5), (81, kB g)], [⟨11, 24, [kS m.Name, .sl za [0] m.Fields]⟩]⟩ ?_ ?_
 ·
  refine (rsl 4 [] 69 ((IntKind.i64.wrap rv4.2) != 0) (fun hc6 => ?_) (fun hc6 => ?_))
  ·
   replace h_g := iteT h_g hc6
   obtain rfl := sj h_g
   exact (rel [] lzz)
  replace h_g := iteF h_g hc6
  refine (rsl 6 [] 75 (q != (b.length : Int)) (fun hc7 => ?_) (fun hc7 => ?_))
  ·
   replace h_g := iteT h_g hc7
   obtain rfl := sj h_g
   exact (rel [] lzz)
  replace h_g := iteF h_g hc7
  obtain ⟨rv6, h_rv6, h_g⟩ := bnd h_g
  obtain rfl := sj h_g
  exact (rl 2 [0, 13] 15 Try.call14 (zcg h_rv6) (rel [] lzz))
 rcases zm h with ⟨hc8, h⟩ | ⟨hc8, h⟩
 ·
  refine jT hc8 ?_
  refine jp ?_
  obtain rfl := sj h
  exact zv lzz
 refine jF hc8 ?_
 refine zR ⟨[(1, .sl Rp.byte [0] b), (2, kI atv), (3, .ptr 11 0), (7, .own zc 31 12 [] rv3.1), (12, .own (Rp.list Rp.byte) 25 14 [15] rv5), (90, kB ((decide (atv < 0)) || (decide (atv ≥ (m.Fields.length : Int)))))], [⟨11, 24, [kS m.Name, .sl za [0] m.Fields]⟩]⟩ ?_ ?_
 ·
  refine (rsl 3 [] 84 (decide (atv < 0)) (fun hc9 => ?_) (fun hc9 => ?_))
  · exact (rbl [] 90 true ((decide (atv < 0)) || (decide (atv ≥ (m.Fields.length : Int)))) (by rw [hc9] <;> rfl))
  exact (rbl [] 90 (decide (atv ≥ (m.Fields.length : Int))) ((decide (atv < 0)) || (decide (atv ≥ (m.Fields.length : Int)))) (by rw [hc9] <;> rfl))
 rcases zm h with ⟨hc10, h⟩ | ⟨hc10, h⟩
 ·
  refine jT hc10 ?_
  refine jp ?_
  obtain rfl := sj h
  exact zv lzz
 refine jF hc10 ?_
 obtain ⟨v4, h_v4, h⟩ := bnd h
 obtain ⟨v5, h_v5, h⟩ := bnd h
 obtain ⟨v6, h_v6, h⟩ := bnd h
 obtain ⟨v7, h_v7, h⟩ := bnd h
 refine jd [1, 2, 3, 7, 12, 15] [11, 20] zdE (by exact (lw_e (lw_e (lx (zff [] 19 [] ([] : (List zd)) rfl zfp rfl rfl rfl rfl) (lw_e (lw_e (lw_e (ly [.sl za [0] m.Fields, kI atv] (zeE none (some (kI atv)) rfl zfp.el (zai _ _ _) ⟨rfl, rfl⟩ ⟨rfl, rfl⟩ h_v4) rfl (ly [.own za 55 19 [] ([] : (List zd)), .sl za [0] v4] (zeD 19 [] rfl zfp.el rfl (zbV _ _ _ _ _) (zai _ _ _) h_v5 (.inl zaA) rfl) rfl (lw_e (lw_e (lw_e (lw_e (ly [.sl za [0] m.Fields, kI (IntKind.i64.wrap (atv + 1))] (zeE (some (kI (IntKind.i64.wrap (atv + 1)))) none rfl zfp.el (zai _ _ _) ⟨rfl, rfl⟩ ⟨rfl, rfl⟩ h_v6) rfl (ly [.own za 55 19 [] v5, .sl za [0] v6] (zeD 19 [] rfl zfp.el rfl (zbV _ _ _ _ _) (zai _ _ _) h_v7 (.inl zaA) rfl) rfl (ly [kS m.Name, .own za 55 19 [] v7] (zjn [kS m.Name, .own za 55 19 [] v7] [kS m.Name, .own za 55 19 [] v7] rfl zpA rfl) rfl (lx (znS 20 [kS [], kN] rfl Try.zeroValue24 rfl) (ly [.ptr 20 0, .ag [kS m.Name, .own za 55 19 [] v7]] (zmt (b := ⟨20, 24, [kS [], kN]⟩) (off := 0) [kS m.Name, .own za 55 19 [] v7] rfl Try.sizeOf24 rfl rfl rfl) rfl l0)))))))))))))))))) ?_
 obtain ⟨x2, h_x2, h⟩ := bnd h
 refine jr (ra 3 [.sl za [0] m.Fields, kI atv] rfl (zbx rfl zfp.el (zai _ _ _) h_x2) rfl rf) ?_
 obtain ⟨rv7, h_rv7, h⟩ := bnd h
 refine jr (rl 2 [19] 19 Try.call18 (zcC h_rv7) rf) ?_
 rcases zm h with ⟨hc11, h⟩ | ⟨hc11, h⟩
 ·
  refine jT hc11 ?_
  refine jp ?_
  obtain rfl := sj h
  exact zv lzz
 refine jF hc11 ?_
 obtain ⟨rv8, h_rv8, h⟩ := bnd h
 refine jr (rl 2 [19, 0] 19 Try.call10 (zbS h_rv8) rf) ?_
 obtain ⟨g2, h_g2, h⟩ := bnd h
 refine zcv (R := fun e a w => e = .normal ∧ Sx ⟨⟨161, []⟩, Xt, false, #[]⟩ ⟨[(6, kB g2)], []⟩ a w) ?_ (zef ?_)
 ·
  refine zr ?_
  rcases Bool.eq_false_or_eq_true ((IntKind.i64.wrap rv8.2.2) == 0) with hc12 | hc12
  ·
   replace h_g2 := iteT h_g2 hc12
   rcases Bool.eq_false_or_eq_true ((rv8.1.length : Int) == (rv3.1.length : Int)) with hc13 | hc13
   ·
    replace h_g2 := iteT h_g2 hc13
    obtain ⟨rv9, h_rv9, h_g2⟩ := bnd h_g2
    obtain ⟨rv10, h_rv10, h_g2⟩ := bnd h_g2
    rcases Bool.eq_false_or_eq_true ((rv9.length : Int) == (rv10.length : Int)) with hc14 | hc14
    ·
     replace h_g2 := iteT h_g2 hc14
     obtain ⟨rv11, h_rv11, h_g2⟩ := bnd h_g2
     obtain ⟨rv12, h_rv12, h_g2⟩ := bnd h_g2
     obtain rfl := sj h_g2
     refine jd [6] [] zdE (by exact (lw_e (lw_e (lw_e (lx (zci ⟨[(125, kB ((IntKind.i64.wrap rv8.2.2) == 0))], []⟩ (by kernel_rfl) hc12) (lw_e (lw_e (lw_e (lw_e (lw_e (lw_e (lx (zci ⟨[(132, kB ((rv8.1.length : Int) == (rv3.1.length : Int)))], []⟩ (by kernel_rfl) hc13) (ly [.ptr 20 0] (zdr (b := ⟨20, 24, [kS m.Name, .own za 55 19 [] v7]⟩) [kS m.Name, .own za 55 19 [] v7] rfl ⟨Try.isAgg24, Try.sizeOf24⟩ rfl rfl) rfl (lw_e (lw_e (lx (lf1 13 (zy.le (ins' := [(.tmp 134, .ag [kS m.Name, .own za 55 19 [] v7]), (.tmp 135, .sl Rp.byte [0] b), (.tmp 136, kI x2.Number)]) (zbp (args := [.tmp 134, .tmp 135, .tmp 136]) [.rc zk [19] (⟨m.Name, v7⟩ : zi), .sl Rp.byte [0] b, kI x2.Number] [19, 0] 20 rfl Try.call13 (zcl h_rv9) rfl rfl rfl rfl rfl) ⟨⟨rfl, zcw zk [19] (⟨m.Name, v7⟩ : zi) [kS m.Name, .own za 55 19 [] v7] rfl rfl⟩, ⟨rfl, AV.le_refl _⟩, ⟨rfl, AV.le_refl _⟩, trivial⟩)) (lw_e (ly [.ptr 11 0] (zdr (b := ⟨11, 24, [kS m.Name, .sl za [0] m.Fields]⟩) [kS m.Name, .sl za [0] m.Fields] rfl ⟨Try.isAgg24, Try.sizeOf24⟩ rfl rfl) rfl (lw_e (lw_e (lx (lf1 13 (zy.le (ins' := [(.tmp 139, .ag [kS m.Name, .sl za [0] m.Fields]), (.tmp 140, .sl Rp.byte [0] b), (.tmp 141, kI x2.Number)]) (zbp (args := [.tmp 139, .tmp 140, .tmp 141]) [.rc zk [0] m, .sl Rp.byte [0] b, kI x2.Number] [0] 21 rfl Try.call13 (zcl h_rv10) rfl rfl rfl rfl rfl) ⟨⟨rfl, zcw zk [0] m [kS m.Name, .sl za [0] m.Fields] rfl rfl⟩, ⟨rfl, AV.le_refl _⟩, ⟨rfl, AV.le_refl _⟩, trivial⟩)) (lw_e (lw_e (lw_e (lx (zci ⟨[(145, kB ((rv9.length : Int) == (rv10.length : Int)))], []⟩ (by kernel_rfl) hc14) (ly [.ptr 20 0] (zdr (b := ⟨20, 24, [kS m.Name, .own za 55 19 [] v7]⟩) [kS m.Name, .own za 55 19 [] v7] rfl ⟨Try.isAgg24, Try.sizeOf24⟩ rfl rfl) rfl (lw_e (lx (lf1 14 (zy.le (ins' := [(.tmp 147, .ag [kS m.Name, .own za 55 19 [] v7]), (.tmp 148, .sl Rp.byte [0] b)]) (zbp (args := [.tmp 147, .tmp 148]) [.rc zk [19] (⟨m.Name, v7⟩ : zi), .sl Rp.byte [0] b] [19, 0] 22 rfl Try.call14 (zcg h_rv11) rfl rfl rfl rfl rfl) ⟨⟨rfl, zcw zk [19] (⟨m.Name, v7⟩ : zi) [kS m.Name, .own za 55 19 [] v7] rfl rfl⟩, ⟨rfl, AV.le_refl _⟩, trivial⟩)) (lw_e (lw_e (lw_e (ly [.ptr 11 0] (zdr (b := ⟨11, 24, [kS m.Name, .sl za [0] m.Fields]⟩) [kS m.Name, .sl za [0] m.Fields] rfl ⟨Try.isAgg24, Try.sizeOf24⟩ rfl rfl) rfl (lw_e (lw_e (lx (lf1 13 (zy.le (ins' := [(.tmp 153, .ag [kS m.Name, .sl za [0] m.Fields]), (.tmp 154, .sl Rp.byte [0] b), (.tmp 155, kI x2.Number)]) (zbp (args := [.tmp 153, .tmp 154, .tmp 155]) [.rc zk [0] m, .sl Rp.byte [0] b, kI x2.Number] [0] 24 rfl Try.call13 (zcl h_rv12) rfl rfl rfl rfl rfl) ⟨⟨rfl, zcw zk [0] m [kS m.Name, .sl za [0] m.Fields] rfl rfl⟩, ⟨rfl, AV.le_refl _⟩, ⟨rfl, AV.le_refl _⟩, trivial⟩)) l0))))))))))))))))))))))))))))))))))) ?_
     exact zW lzz
    replace h_g2 := iteF h_g2 hc14
    obtain rfl := sj h_g2
    refine jd [6] [] zdE (by exact (lw_e (lw_e (lw_e (lx (zci ⟨[(125, kB ((IntKind.i64.wrap rv8.2.2) == 0))], []⟩ (by kernel_rfl) hc12) (lw_e (lw_e (lw_e (lw_e (lw_e (lw_e (lx (zci ⟨[(132, kB ((rv8.1.length : Int) == (rv3.1.length : Int)))], []⟩ (by kernel_rfl) hc13) (ly [.ptr 20 0] (zdr (b := ⟨20, 24, [kS m.Name, .own za 55 19 [] v7]⟩) [kS m.Name, .own za 55 19 [] v7] rfl ⟨Try.isAgg24, Try.sizeOf24⟩ rfl rfl) rfl (lw_e (lw_e (lx (lf1 13 (zy.le (ins' := [(.tmp 134, .ag [kS m.Name, .own za 55 19 [] v7]), (.tmp 135, .sl Rp.byte [0] b), (.tmp 136, kI x2.Number)]) (zbp (args := [.tmp 134, .tmp 135, .tmp 136]) [.rc zk [19] (⟨m.Name, v7⟩ : zi), .sl Rp.byte [0] b, kI x2.Number] [19, 0] 20 rfl Try.call13 (zcl h_rv9) rfl rfl rfl rfl rfl) ⟨⟨rfl, zcw zk [19] (⟨m.Name, v7⟩ : zi) [kS m.Name, .own za 55 19 [] v7] rfl rfl⟩, ⟨rfl, AV.le_refl _⟩, ⟨rfl, AV.le_refl _⟩, trivial⟩)) (lw_e (ly [.ptr 11 0] (zdr (b := ⟨11, 24, [kS m.Name, .sl za [0] m.Fields]⟩) [kS m.Name, .sl za [0] m.Fields] rfl ⟨Try.isAgg24, Try.sizeOf24⟩ rfl rfl) rfl (lw_e (lw_e (lx (lf1 13 (zy.le (ins' := [(.tmp 139, .ag [kS m.Name, .sl za [0] m.Fields]), (.tmp 140, .sl Rp.byte [0] b), (.tmp 141, kI x2.Number)]) (zbp (args := [.tmp 139, .tmp 140, .tmp 141]) [.rc zk [0] m, .sl Rp.byte [0] b, kI x2.Number] [0] 21 rfl Try.call13 (zcl h_rv10) rfl rfl rfl rfl rfl) ⟨⟨rfl, zcw zk [0] m [kS m.Name, .sl za [0] m.Fields] rfl rfl⟩, ⟨rfl, AV.le_refl _⟩, ⟨rfl, AV.le_refl _⟩, trivial⟩)) (lw_e (lw_e (lw_e (lx (zci ⟨[(145, kB ((rv9.length : Int) == (rv10.length : Int)))], []⟩ (by kernel_rfl) hc14) l0))))))))))))))))))))))))) ?_
    exact zW lzz
   replace h_g2 := iteF h_g2 hc13
   obtain rfl := sj h_g2
   refine jd [6] [] zdE (by exact (lw_e (lw_e (lw_e (lx (zci ⟨[(125, kB ((IntKind.i64.wrap rv8.2.2) == 0))], []⟩ (by kernel_rfl) hc12) (lw_e (lw_e (lw_e (lw_e (lw_e (lw_e (lx (zci ⟨[(132, kB ((rv8.1.length : Int) == (rv3.1.length : Int)))], []⟩ (by kernel_rfl) hc13) l0)))))))))))) ?_
   exact zW lzz
  replace h_g2 := iteF h_g2 hc12
  obtain rfl := sj h_g2
  refine jd [6] [] zdE (by exact (lw_e (lw_e (lw_e (lx (zci ⟨[(125, kB ((IntKind.i64.wrap rv8.2.2) == 0))], []⟩ (by kernel_rfl) hc12) l0))))) ?_
  exact zW lzz
 obtain rfl := sj h
 exact zv lzz
end Go.Proofs.Ytdpolccecmaajaa

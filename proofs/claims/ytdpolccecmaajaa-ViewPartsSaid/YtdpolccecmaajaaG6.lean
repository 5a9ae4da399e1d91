/-
  The Go functions do what the plain functions say. No condition.
-/
import Derived.Test.YtdpolccecmaajaaG5
namespace Go.Proofs.Ytdpolccecmaajaa
open Go Go.RowKit
set_option linter.unusedVariables false
set_option maxRecDepth 100000
theorem zdR {m : zi} {b : (List UInt8)} {number : Int} {r : Bool} (h : zaP m b number = some r) : FnOk Try.prog 4 [.rc zk [0] m, .sl Rp.byte [0] b, kI number] [kB r] := by
 refine zz (E := ⟨[(6, kB r)], []⟩) 145 Try.func4 rfl rfl rfl ⟨rfl, trivial⟩ (fun Xt => ?_)
 refine zr ?_
 unfold zaP at h
 refine jr (ra 0 [.rc zk [0] m] rfl (zbO 11 [kS m.Name, .sl za [0] m.Fields] [0] rfl rfl rfl rfl rfl) rfl rf) ?_
 obtain ⟨rv, h_rv, h⟩ := bnd h
 refine jr (rl 0 [1] 10 Try.call6 (zbF h_rv) rf) ?_
 rcases zm h with ⟨hc1, h⟩ | ⟨hc1, h⟩
 ·
  refine jT hc1 ?_
  refine jp ?_
  obtain rfl := sj h
  exact zv lzz
 refine jF hc1 ?_
 obtain ⟨rv2, h_rv2, h⟩ := bnd h
 refine zR ⟨[(1, .sl Rp.byte [0] b), (2, kI number), (3, .ptr 11 0), (27, kB (rv2 || (decide ((b.length : Int) > 2000))))], [⟨11, 24, [kS m.Name, .sl za [0] m.Fields]⟩]⟩ ?_ ?_
 ·
  refine (rl 1 [0] 10 Try.call7 (zbJ h_rv2) (rsl 1 [] 23 rv2 (fun hc2 => ?_) (fun hc2 => ?_)))
  · exact (rbl [] 27 true (rv2 || (decide ((b.length : Int) > 2000))) (by rw [hc2] <;> rfl))
  exact (rbl [] 27 (decide ((b.length : Int) > 2000)) (rv2 || (decide ((b.length : Int) > 2000))) (by rw [hc2] <;> rfl))
 rcases zm h with ⟨hc3, h⟩ | ⟨hc3, h⟩
 ·
  refine jT hc3 ?_
  refine jp ?_
  obtain rfl := sj h
  exact zv lzz
 refine jF hc3 ?_
 obtain ⟨rv3, h_rv3, h⟩ := bnd h
 refine jr (rl 2 [0] 10 Try.call11 (zdl h_rv3) rf) ?_
 obtain ⟨rv4, h_rv4, h⟩ := bnd h
 obtain ⟨rv5, h_rv5, h⟩ := bnd h
 refine jd [1, 2, 3, 7, 9, 10, 11] [11] zdE (by exact (ly [.ptr 11 0] (zdr (b := ⟨11, 24, [kS m.Name, .sl za [0] m.Fields]⟩) [kS m.Name, .sl za [0] m.Fields] rfl ⟨Try.isAgg24, Try.sizeOf24⟩ rfl rfl) rfl (lw_e (lw_e (lx (lf1 13 (zy.le (ins' := [(.tmp 35, .ag [kS m.Name, .sl za [0] m.Fields]), (.tmp 36, .sl Rp.byte [0] b), (.tmp 37, kI number)]) (zbp (args := [.tmp 35, .tmp 36, .tmp 37]) [.rc zk [0] m, .sl Rp.byte [0] b, kI number] [0] 11 rfl Try.call13 (zcl h_rv4) rfl rfl rfl rfl rfl) ⟨⟨rfl, zcw zk [0] m [kS m.Name, .sl za [0] m.Fields] rfl rfl⟩, ⟨rfl, AV.le_refl _⟩, ⟨rfl, AV.le_refl _⟩, trivial⟩)) (ly [.ptr 11 0] (zdr (b := ⟨11, 24, [kS m.Name, .sl za [0] m.Fields]⟩) [kS m.Name, .sl za [0] m.Fields] rfl ⟨Try.isAgg24, Try.sizeOf24⟩ rfl rfl) rfl (lw_e (lx (lf1 14 (zy.le (ins' := [(.tmp 39, .ag [kS m.Name, .sl za [0] m.Fields]), (.tmp 40, .sl Rp.byte [0] b)]) (zbp (args := [.tmp 39, .tmp 40]) [.rc zk [0] m, .sl Rp.byte [0] b] [0] 12 rfl Try.call14 (zcg h_rv5) rfl rfl rfl rfl rfl) ⟨⟨rfl, zcw zk [0] m [kS m.Name, .sl za [0] m.Fields] rfl rfl⟩, ⟨rfl, AV.le_refl _⟩, trivial⟩)) l0)))))))) ?_
 obtain ⟨rv6, h_rv6, h⟩ := bnd h
 refine jr (rl 2 [0] 14 Try.call15 (zgw h_rv6) rf) ?_
 refine jp ?_
 refine jp ?_
 refine jp ?_
 refine zQ ?_
 obtain ⟨q, h_q, h⟩ := bnd h
 refine zbA (fun s : (Int × Int × (List UInt8) × Int) => zI b number rv3 rv4 rv5 s.1 s.2.1 s.2.2.1 s.2.2.2) (fun s => ⟨[(1, .sl Rp.byte [0] b), (2, kI number), (3, .ptr 11 0), (7, .own zp 37 12 [] rv3.1), (9, kI rv3.2.2), (10, .own zc 31 13 [] rv4), (11, .own (Rp.list Rp.byte) 25 14 [15] rv5), (12, .own Rp.byte 5 16 [] rv6.1), (13, k8 rv6.2), (14, kI s.1), (15, kI s.2.1), (16, .own Rp.byte 5 19 [] s.2.2.1), (17, kI s.2.2.2)], [⟨11, 24, [kS m.Name, .sl za [0] m.Fields]⟩]⟩) (fun o e a w => match o with | (.inl v_) => e = .exit 0 ∧ Sx ⟨⟨145, []⟩, Xt, false, #[]⟩ ⟨[(1, .sl Rp.byte [0] b), (2, kI number), (3, .ptr 11 0), (9, kI rv3.2.2), (10, .own zc 31 13 [] rv4), (11, .own (Rp.list Rp.byte) 25 14 [15] rv5), (12, .own Rp.byte 5 16 [] rv6.1), (13, k8 rv6.2), (14, kI v_.1), (15, kI v_.2.1), (16, .own Rp.byte 5 19 [] v_.2.2)], [⟨11, 24, [kS m.Name, .sl za [0] m.Fields]⟩]⟩ a w | (.inr v_) => e = .ret ∧ Sx ⟨⟨145, []⟩, Xt, false, #[]⟩ ⟨[(6, kB false)], []⟩ a w) ?_ h_q ?_ ?_
 ·
  clear h
  intro s o h
  obtain ⟨n, k, want, i⟩ := s
  refine zr ?_
  replace h : zI b number rv3 rv4 rv5 n k want i = some o := h
  unfold zI at h
  refine jp ?_
  rcases zm h with ⟨hc4, h⟩ | ⟨hc4, h⟩
  ·
   refine jT hc4 ?_
   refine zQ ?_
   obtain ⟨x, h_x, h⟩ := bnd h
   refine jr (ra 2 [.own zp 37 12 [] rv3.1, kI i] rfl (zbx rfl zjE.el (zay _ _ _ _ _) h_x) rfl (ra 1 [.ep zp [12] x 0] rfl (zpd zg x.R rfl ⟨Try.isAgg35, Try.sizeOf35⟩ rfl) rfl (rfl' [20]))) ?_
   refine jp ?_
   obtain ⟨p, h_p, h⟩ := bnd h
   refine zcv (R := fun e a w => match p with | (.inl v_) => e = .normal ∧ Sx ⟨⟨145, []⟩, Xt, false, #[]⟩ ⟨[(1, .sl Rp.byte [0] b), (2, kI number), (3, .ptr 11 0), (7, .own zp 37 12 [] rv3.1), (9, kI rv3.2.2), (10, .own zc 31 13 [] rv4), (11, .own (Rp.list Rp.byte) 25 14 [15] rv5), (12, .own Rp.byte 5 16 [] rv6.1), (13, k8 rv6.2), (14, kI v_), (15, kI k), (16, .own Rp.byte 5 19 [] want), (17, kI i), (18, .ptr 20 0)], [⟨11, 24, [kS m.Name, .sl za [0] m.Fields]⟩, ⟨20, 35, [kI x.R.Number, kI x.R.Wire, kI x.R.From, kI x.R.At, kI x.R.To]⟩]⟩ a w | (.inr v_) => e = .ret ∧ Sx ⟨⟨145, []⟩, Xt, false, #[]⟩ ⟨[(6, kB false)], []⟩ a w) ?_ ?_
   ·
    replace h := h_p
    refine zr ?_
    rcases zm h with ⟨hc5, h⟩ | ⟨hc5, h⟩
    ·
     refine jT hc5 ?_
     obtain ⟨g, h_g, h⟩ := bnd h
     refine zcv (R := fun e a w => e = .normal ∧ Sx ⟨⟨145, []⟩, Xt, false, #[]⟩ ⟨[(1, .sl Rp.byte [0] b), (2, kI number), (3, .ptr 11 0), (7, .own zp 37 12 [] rv3.1), (9, kI rv3.2.2), (10, .own zc 31 13 [] rv4), (11, .own (Rp.list Rp.byte) 25 14 [15] rv5), (12, .own Rp.byte 5 16 [] rv6.1), (13, k8 rv6.2), (14, kI n), (15, kI k), (16, .own Rp.byte 5 19 [] want), (17, kI i), (18, .ptr 20 0), (78, kB g)], [⟨11, 24, [kS m.Name, .sl za [0] m.Fields]⟩, ⟨20, 35, [kI x.R.Number, kI x.R.Wire, kI x.R.From, kI x.R.At, kI x.R.To]⟩]⟩ a w) ?_ (zef ?_)
     ·
      refine zr ?_
      rcases Bool.eq_false_or_eq_true (decide (n ≥ (rv4.length : Int))) with hc6 | hc6
      ·
       replace h_g := iteT h_g hc6
       obtain rfl := sj h_g
       refine jd [1, 2, 3, 7, 9, 10, 11, 12, 13, 14, 15, 16, 17, 18, 78] [11, 20] zdE (by exact (lw_e (lw_e (lw_e (lw_e (lx (zci ⟨[(66, kB (decide (n ≥ (rv4.length : Int))))], []⟩ (by kernel_rfl) hc6) l0)))))) ?_
       exact zW lzz
      replace h_g := iteF h_g hc6
      obtain ⟨x2, h_x2, h_g⟩ := bnd h_g
      obtain ⟨x3, h_x3, h_g⟩ := bnd h_g
      obtain ⟨rv7, h_rv7, h_g⟩ := bnd h_g
      obtain rfl := sj h_g
      refine jd [1, 2, 3, 7, 9, 10, 11, 12, 13, 14, 15, 16, 17, 18, 78] [11, 20] zdE (by exact (lw_e (lw_e (lw_e (lw_e (lx (zci ⟨[(66, kB (decide (n ≥ (rv4.length : Int))))], []⟩ (by kernel_rfl) hc6) (lw_e (lw_e (ly [.own zc 31 13 [] rv4, kI n] (zbx rfl zev.el (zay _ _ _ _ _) h_x2) rfl (ly [.ep zc [13] x2 0] (zeh rfl ⟨Try.isAgg31, Try.sizeOf31⟩) rfl (lw_e (lw_e (ly [.own zp 37 12 [] rv3.1, kI i] (zbx rfl zjE.el (zay _ _ _ _ _) h_x3) rfl (ly [.ep zp [12] x3 0] (zeh rfl ⟨Try.isAgg37, Try.sizeOf37⟩) rfl (lx (lf1 12 (zbp [.rc zc [13] x2, .rc zp [12] x3] [13, 12] 19 rfl Try.call12 (zbK h_rv7) rfl rfl rfl rfl rfl)) l0))))))))))))))) ?_
      exact zW lzz
     rcases zm h with ⟨hc7, h⟩ | ⟨hc7, h⟩
     ·
      refine jT hc7 ?_
      refine jp ?_
      obtain rfl := sj h
      exact zv lzz
     refine jF hc7 ?_
     refine jp ?_
     obtain rfl := sj h
     exact zW lzz
    refine jF hc5 ?_
    obtain rfl := sj h
    exact zW lzz
   rcases p with u | u2
   ·
    refine zef ?_
    obtain ⟨x4, h_x4, h⟩ := bnd h
    refine jr (ra 2 [.own zp 37 12 [] rv3.1, kI i] rfl (zbx rfl zjE.el (zay _ _ _ _ _) h_x4) rfl rf) ?_
    rcases zm h with ⟨hc8, h⟩ | ⟨hc8, h⟩
    ·
     refine jT hc8 ?_
     obtain ⟨v3, h_v3, h⟩ := bnd h
     obtain ⟨v4, h_v4, h⟩ := bnd h
     refine jr (ra 6 [.sl Rp.byte [0] b, kI x.R.From, kI x.R.To] rfl (zeE (some (kI x.R.From)) (some (kI x.R.To)) rfl zcG.el (zai _ _ _) ⟨rfl, rfl⟩ ⟨rfl, rfl⟩ h_v3) rfl (ra 0 [.own Rp.byte 5 19 [] want, .sl Rp.byte [0] v3] rfl (zeD 19 [] rfl zcG.el rfl (zbV _ _ _ _ _) (zai _ _ _) h_v4 (.inl zfT) rfl) rfl rf)) ?_
     refine zoS _ rfl ?_
     refine jp ?_
     obtain rfl := sj h
     exact zW lzz
    refine jF hc8 ?_
    obtain ⟨g2, h_g2, h⟩ := bnd h
    refine zcv (R := fun e a w => e = .normal ∧ Sx ⟨⟨145, []⟩, Xt, false, #[]⟩ ⟨[(1, .sl Rp.byte [0] b), (2, kI number), (3, .ptr 11 0), (7, .own zp 37 12 [] rv3.1), (9, kI rv3.2.2), (10, .own zc 31 13 [] rv4), (11, .own (Rp.list Rp.byte) 25 14 [15] rv5), (12, .own Rp.byte 5 16 [] rv6.1), (13, k8 rv6.2), (14, kI u), (15, kI k), (16, .own Rp.byte 5 19 [] want), (17, kI i), (112, kB g2)], [⟨11, 24, [kS m.Name, .sl za [0] m.Fields]⟩]⟩ a w) ?_ (zef ?_)
    ·
     refine zr ?_
     rcases Bool.eq_false_or_eq_true (decide (k ≥ (rv5.length : Int))) with hc9 | hc9
     ·
      replace h_g2 := iteT h_g2 hc9
      obtain rfl := sj h_g2
      refine jd [1, 2, 3, 7, 9, 10, 11, 12, 13, 14, 15, 16, 17, 112] [11] zdE (by exact (lw_e (lw_e (lw_e (lw_e (lx (zci ⟨[(98, kB (decide (k ≥ (rv5.length : Int))))], []⟩ (by kernel_rfl) hc9) l0)))))) ?_
      exact zW lzz
     replace h_g2 := iteF h_g2 hc9
     obtain ⟨x5, h_x5, h_g2⟩ := bnd h_g2
     obtain ⟨v5, h_v5, h_g2⟩ := bnd h_g2
     obtain ⟨rv8, h_rv8, h_g2⟩ := bnd h_g2
     obtain rfl := sj h_g2
     refine jd [1, 2, 3, 7, 9, 10, 11, 12, 13, 14, 15, 16, 17, 112] [11] zdE (by exact (lw_e (lw_e (lw_e (lw_e (lx (zci ⟨[(98, kB (decide (k ≥ (rv5.length : Int))))], []⟩ (by kernel_rfl) hc9) (lw_e (lw_e (ly [.own (Rp.list Rp.byte) 25 14 [15] rv5, kI k] (zbx rfl ziL.el (zay _ _ _ _ _) h_x5) rfl (ly [.ep (Rp.list Rp.byte) [14, 15] x5 0] (zjY Rp.byte x5 rfl rfl rfl) rfl (lw_e (lw_e (lw_e (lw_e (lw_e (ly [.sl Rp.byte [0] b, kI x.R.From, kI x.R.To] (zeE (some (kI x.R.From)) (some (kI x.R.To)) rfl zcG.el (zai _ _ _) ⟨rfl, rfl⟩ ⟨rfl, rfl⟩ h_v5) rfl (lx (lf1 16 (zbp [.sl Rp.byte [14, 15] x5, .sl Rp.byte [0] v5] [14, 15, 0] 19 rfl Try.call16 (zcY h_rv8) rfl rfl rfl rfl rfl)) l0))))))))))))))))) ?_
     exact zW lzz
    rcases zm h with ⟨hc10, h⟩ | ⟨hc10, h⟩
    ·
     refine jT hc10 ?_
     refine jp ?_
     obtain rfl := sj h
     exact zdW lzz
    refine jF hc10 ?_
    refine jp ?_
    refine zaY ?_
    refine jp ?_
    obtain rfl := sj h
    exact zW lzz
   obtain rfl := sj h
   exact zoW lzz
  refine jF hc4 ?_
  obtain rfl := sj h
  exact zbB rfl lzz
 ·
  refine zeP ⟨[(1, .sl Rp.byte [0] b), (2, kI number), (3, .ptr 11 0), (7, .own zp 37 12 [] rv3.1), (9, kI rv3.2.2), (10, .own zc 31 13 [] rv4), (11, .own (Rp.list Rp.byte) 25 14 [15] rv5), (12, .own Rp.byte 5 16 [] rv6.1), (13, k8 rv6.2), (14, kI 0), (15, kI 0), (16, kN), (17, kI 0)], [⟨11, 24, [kS m.Name, .sl za [0] m.Fields]⟩]⟩ (by kernel_rfl) ?_
  refine zem 16 (.own Rp.byte 5 19 [] []) rfl (zaZ Rp.byte 5 19 [] rfl) ?_
  exact lzz
 rcases q with u3 | u4
 ·
  refine zch _ rfl ?_
  obtain ⟨g3, h_g3, h⟩ := bnd h
  refine zR ⟨[(6, kB g3)], []⟩ ?_ ?_
  ·
   refine (rsl 5 [] 119 (u3.1 == (rv4.length : Int)) (fun hc11 => ?_) (fun hc11 => ?_))
   ·
    replace h_g3 := iteT h_g3 hc11
    refine (rsl 6 [] 125 (u3.2.1 == (rv5.length : Int)) (fun hc12 => ?_) (fun hc12 => ?_))
    ·
     replace h_g3 := iteT h_g3 hc12
     obtain ⟨rv9, h_rv9, h_g3⟩ := bnd h_g3
     refine (rl 3 [0] 19 Try.call17 (zlj h_rv9) (rsl 5 [] 134 (rv9 == (decide (u3.1 > 0))) (fun hc13 => ?_) (fun hc13 => ?_)))
     ·
      replace h_g3 := iteT h_g3 hc13
      refine (rsl 6 [] 140 ((IntKind.i64.wrap rv6.2) == rv3.2.2) (fun hc14 => ?_) (fun hc14 => ?_))
      ·
       replace h_g3 := iteT h_g3 hc14
       obtain ⟨rv10, h_rv10, h_g3⟩ := bnd h_g3
       obtain rfl := sj h_g3
       exact (rl 2 [16, 19] 19 Try.call16 (zcY h_rv10) rgg)
      replace h_g3 := iteF h_g3 hc14
      obtain rfl := sj h_g3
      exact rgg
     replace h_g3 := iteF h_g3 hc13
     obtain rfl := sj h_g3
     exact rgg
    replace h_g3 := iteF h_g3 hc12
    obtain rfl := sj h_g3
    exact rgg
   replace h_g3 := iteF h_g3 hc11
   obtain rfl := sj h_g3
   exact rgg
  obtain rfl := sj h
  exact zv lzz
 obtain rfl := sj h
 exact zez lzz
end Go.Proofs.Ytdpolccecmaajaa

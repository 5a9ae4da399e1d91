/-
  The Go functions do what the plain functions say. No condition.
-/
import Derived.Test.YtdpolccecmaajaaG3
namespace Go.Proofs.Ytdpolccecmaajaa
open Go Go.RowKit
set_option linter.unusedVariables false
set_option maxRecDepth 100000
theorem zgx {m : zi} {b : (List UInt8)} {fromv : Int} {met : (List (zo × zq))} {r : (zb × Int × (List (zo × zq)))} (h : zdz m b fromv met = some r) : zhB Try.prog 19 [.rc zk [0] m, .sl Rp.byte [0] b, kI fromv, .om zt zu 2 [0] met] [.rc zc [] r.1, k8 r.2.1] [.any, .any, .any, .om zt zu 2 [0] r.2.2] := by
 refine zmK (E := ⟨[(3, .om zt zu 2 [0] r.2.2), (8, .ptr 3 0), (9, k8 r.2.1)], [⟨3, 31, [kI r.1.Record.Number, kI r.1.Record.Wire, kI r.1.Record.From, kI r.1.Record.At, kI r.1.Record.To, kI r.1.Field, kB r.1.Run]⟩]⟩) 56 [3] Try.func19 rfl rfl rfl ⟨⟨_, _, rfl, rfl, rfl, rfl, ⟨Try.isAgg31, Try.sizeOf31⟩⟩, rfl, trivial⟩ ⟨.inl rfl, .inl rfl, .inl rfl, .inr ⟨rfl, rfl⟩, trivial⟩ rfl (fun Xt old => ?_)
 refine zr ?_
 unfold zdz at h
 refine jr (ra 0 [.rc zk [0] m] rfl (zbO 13 [kS m.Name, .sl za [0] m.Fields] [0] rfl rfl rfl rfl rfl) rfl (rfl' [14])) ?_
 obtain ⟨rv, h_rv, h⟩ := bnd h
 refine jr (rl 2 [0] 13 Try.call25 (zit h_rv) (rfl' [15])) ?_
 refine jp ?_
 rcases zm h with ⟨hc1, h⟩ | ⟨hc1, h⟩
 ·
  refine jT hc1 ?_
  refine jr (rc 0 rfl (zF (r := zc) [] [] (⟨(⟨0, 0, 0, 0, 0⟩ : ze), 0, false⟩ : zb) rfl zos rfl rfl) rf) ?_
  obtain rfl := sj h
  refine znA ?_
  refine lk [3, 8, 9] [14] 14 3 ?_
  exact lzz
 refine jF hc1 ?_
 refine jr (rc 4 rfl (zF (r := zt) [kI rv.1.Number, kI rv.1.Wire] [] (⟨rv.1.Number, rv.1.Wire⟩ : zo) rfl zqm rfl rfl) (rfl' [16])) ?_
 refine jr (lb 1 zt [] (⟨rv.1.Number, rv.1.Wire⟩ : zo) (ra 0 [.om zt zu 2 [0] met, .rc zt [] (⟨rv.1.Number, rv.1.Wire⟩ : zo)] rfl (zkM (rk := zt) (rv := zu) (m := met) (k := (⟨rv.1.Number, rv.1.Wire⟩ : zo)) (.rc zu [2, 0] ((mget met (⟨rv.1.Number, rv.1.Wire⟩ : zo)).getD (⟨0, false, 0⟩ : zq))) rfl znV (zmq _ _ _ _ _) (zbr rfl) (zmk rfl)) rfl (rfl' [17]))) ?_
 refine jp ?_
 obtain ⟨p, h_p, h⟩ := bnd h
 refine zcv (R := fun e a w => e = .normal ∧ Sx ⟨⟨56, [3]⟩, Xt, false, old⟩ ⟨[(3, .om zt zu 2 [0] p.1), (8, .ptr 14 0), (10, .ptr 15 0), (13, .ptr 17 0)], [⟨14, 31, [kI 0, kI 0, kI 0, kI 0, kI 0, kI 0, kB false]⟩, ⟨15, 29, [kI rv.1.Number, kI rv.1.Wire, kI rv.1.From, kI rv.1.At, kI rv.1.To]⟩, ⟨17, 69, [kI p.2.1, kB p.2.2.1, k8 p.2.2.2]⟩]⟩ a w) ?_ ?_
 ·
  replace h := h_p
  refine zr ?_
  rcases zm h with ⟨hc2, h⟩ | ⟨hc2, h⟩
  ·
   refine jT hc2 ?_
   obtain ⟨rv2, h_rv2, h⟩ := bnd h
   refine jr (lb 1 zt [] (⟨rv.1.Number, rv.1.Wire⟩ : zo) (rl 0 [0] 16 Try.call26 (ziH h_rv2) rf)) ?_
   refine jr (lb 1 zt [] (⟨rv.1.Number, rv.1.Wire⟩ : zo) (lb 0 zu [] rv2 (rkl 0 [] ⟨[(3, .om zt zu 2 [0] met), (8, .ptr 14 0), (10, .ptr 15 0), (13, .ptr 17 0), (41, .om zt zu 2 [0] met), (42, .rc zt [] (⟨rv.1.Number, rv.1.Wire⟩ : zo)), (43, .rc zu [] rv2)], [⟨14, 31, [kI 0, kI 0, kI 0, kI 0, kI 0, kI 0, kB false]⟩, ⟨15, 29, [kI rv.1.Number, kI rv.1.Wire, kI rv.1.From, kI rv.1.At, kI rv.1.To]⟩, ⟨17, 69, [kI rv2.field, kB rv2.run, k8 rv2.e]⟩]⟩ (zkh ⟨[(3, .om zt zu 2 [0] (mput met (⟨rv.1.Number, rv.1.Wire⟩ : zo) rv2)), (8, .ptr 14 0), (10, .ptr 15 0), (13, .ptr 17 0), (41, .om zt zu 2 [0] (mput met (⟨rv.1.Number, rv.1.Wire⟩ : zo) rv2)), (42, .rc zt [] (⟨rv.1.Number, rv.1.Wire⟩ : zo)), (43, .rc zu [] rv2)], [⟨14, 31, [kI 0, kI 0, kI 0, kI 0, kI 0, kI 0, kB false]⟩, ⟨15, 29, [kI rv.1.Number, kI rv.1.Wire, kI rv.1.From, kI rv.1.At, kI rv.1.To]⟩, ⟨17, 69, [kI rv2.field, kB rv2.run, k8 rv2.e]⟩]⟩ (zpp (rk := zt) (rv := zu) (m := met) (ℓ := 2) (C := [0]) (C1 := []) (D := []) (⟨rv.1.Number, rv.1.Wire⟩ : zo) rv2 [0] znV (.inl rfl) (zbr rfl) (zbr rfl) rfl) rfl (by kernel_rfl) (by kernel_rfl) ⟨⟨_, rfl, zlg 0 rfl⟩, ⟨_, rfl, zO rfl⟩, ⟨_, rfl, zO rfl⟩, ⟨_, rfl, zO rfl⟩, ⟨_, rfl, zlg 0 rfl⟩, ⟨_, rfl, zO rfl⟩, ⟨_, rfl, zO rfl⟩, trivial⟩ ⟨⟨_, rfl, rfl, rfl, ⟨zO rfl, zO rfl, zO rfl, zO rfl, zO rfl, zO rfl, zO rfl, trivial⟩⟩, ⟨_, rfl, rfl, rfl, ⟨zO rfl, zO rfl, zO rfl, zO rfl, zO rfl, trivial⟩⟩, ⟨_, rfl, rfl, rfl, ⟨zO rfl, zO rfl, zO rfl, trivial⟩⟩, trivial⟩ rf)))) ?_
   obtain rfl := sj h
   exact zW lzz
  refine jF hc2 ?_
  obtain rfl := sj h
  exact zW lzz
 refine zef ?_
 refine jp ?_
 rcases zm h with ⟨hc3, h⟩ | ⟨hc3, h⟩
 ·
  refine jT hc3 ?_
  refine jd [3, 8, 9] [14] zdE (by exact (lx (zF (r := zc) [] [] (⟨(⟨0, 0, 0, 0, 0⟩ : ze), 0, false⟩ : zb) rfl zos rfl rfl) (lw_e (lw_e (ly [.ptr 14 0, .rc zc [] (⟨(⟨0, 0, 0, 0, 0⟩ : ze), 0, false⟩ : zb)] (zpP (r := zc) (b := ⟨14, 31, [kI 0, kI 0, kI 0, kI 0, kI 0, kI 0, kB false]⟩) (off := 0) [kI 0, kI 0, kI 0, kI 0, kI 0, kI 0, kB false] rfl Try.sizeOf31 rfl rfl rfl rfl) rfl l0))))) ?_
  obtain rfl := sj h
  refine znA ?_
  refine lk [3, 8, 9] [14] 14 3 ?_
  exact lzz
 refine jF hc3 ?_
 refine jr (lb 0 zg [] rv.1 (rc 4 rfl (zF (r := zc) [.rc zg [] rv.1, kI p.2.1, kB p.2.2.1] [] (⟨rv.1, p.2.1, p.2.2.1⟩ : zb) rfl zos rfl rfl) rf)) ?_
 obtain rfl := sj h
 refine znA ?_
 refine lk [3, 8, 9] [14] 14 3 ?_
 exact lzz
theorem zbS {m : zi} {b : (List UInt8)} {r : ((List zb) × Int × Int)} (h : zbC m b = some r) : FnOk Try.prog 10 [.rc zk [0] m, .sl Rp.byte [0] b] [.own zc 31 2 [] r.1, kI r.2.1, k8 r.2.2] := by
 refine zz (E := ⟨[(4, .own zc 31 2 [] r.1), (5, kI r.2.1), (6, k8 r.2.2)], []⟩) 36 Try.func10 rfl rfl rfl ⟨rfl, rfl, rfl, trivial⟩ (fun Xt => ?_)
 refine zr ?_
 unfold zbC at h
 refine jr (ra 0 [.rc zk [0] m] rfl (zbO 19 [kS m.Name, .sl za [0] m.Fields] [0] rfl rfl rfl rfl rfl) rfl rf) ?_
 refine jr (rc 0 rfl (zhZ (rk := zt) (rv := zu) 20 rfl) rf) ?_
 refine jp ?_
 refine zQ ?_
 obtain ⟨q, h_q, h⟩ := bnd h
 refine zbA (fun s : ((List zb) × (List (zo × zq)) × Int) => zaw b m s.1 s.2.1 s.2.2) (fun s => ⟨[(1, .sl Rp.byte [0] b), (2, .ptr 19 0), (4, .own zc 31 26 [] s.1), (7, .om zt zu 20 [0] s.2.1), (8, kI s.2.2)], [⟨19, 24, [kS m.Name, .sl za [0] m.Fields]⟩]⟩) (fun o e a w => match o with | (.inl v_) => e = .exit 0 ∧ Sx ⟨⟨36, []⟩, Xt, false, #[]⟩ ⟨[(4, .own zc 31 26 [] v_)], []⟩ a w | (.inr v_) => e = .ret ∧ Sx ⟨⟨36, []⟩, Xt, false, #[]⟩ ⟨[(4, kN), (5, kI v_.1), (6, k8 v_.2)], []⟩ a w) ?_ h_q ?_ ?_
 ·
  clear h
  intro s o h
  obtain ⟨l, met, fromv⟩ := s
  refine zr ?_
  replace h : zaw b m l met fromv = some o := h
  unfold zaw at h
  refine jp ?_
  rcases zm h with ⟨hc1, h⟩ | ⟨hc1, h⟩
  ·
   refine jT hc1 ?_
   refine zQ ?_
   obtain ⟨rv2, h_rv2, h⟩ := bnd h
   refine jr (rkl 4 [] ⟨[(1, .sl Rp.byte [0] b), (2, .ptr 19 0), (4, .own zc 31 26 [] l), (7, .om zt zu 20 [0] met), (8, kI fromv), (17, .ag [kS m.Name, .sl za [0] m.Fields]), (18, .sl Rp.byte [0] b), (19, kI fromv), (20, .om zt zu 20 [0] met)], [⟨19, 24, [kS m.Name, .sl za [0] m.Fields]⟩]⟩ (zkh ⟨[(1, .sl Rp.byte [0] b), (2, .ptr 19 0), (4, .own zc 31 26 [] l), (7, .om zt zu 20 [0] rv2.2.2), (8, kI fromv), (17, .ag [kS m.Name, .sl za [0] m.Fields]), (18, .sl Rp.byte [0] b), (19, kI fromv), (20, .om zt zu 20 [0] rv2.2.2)], [⟨19, 24, [kS m.Name, .sl za [0] m.Fields]⟩]⟩ (zga.le (ins' := [(.tmp 17, .ag [kS m.Name, .sl za [0] m.Fields]), (.tmp 18, .sl Rp.byte [0] b), (.tmp 19, kI fromv), (.tmp 20, .om zt zu 20 [0] met)]) (zmz (args := [.tmp 17, .tmp 18, .tmp 19, .tmp 20]) [.rc zk [0] m, .sl Rp.byte [0] b, kI fromv, .om zt zu 20 [0] met] [(20, 2)] [0] 26 [] rfl Try.call19 (zgx h_rv2) rfl rfl (by kernel_rfl) rfl rfl rfl) ⟨⟨rfl, zcw zk [0] m [kS m.Name, .sl za [0] m.Fields] rfl rfl⟩, ⟨rfl, AV.le_refl _⟩, ⟨rfl, AV.le_refl _⟩, ⟨rfl, AV.le_refl _⟩, trivial⟩) rfl (by kernel_rfl) (by kernel_rfl) ⟨⟨_, rfl, zO rfl⟩, ⟨_, rfl, zO rfl⟩, ⟨_, rfl, zO rfl⟩, ⟨_, rfl, zlg 0 rfl⟩, ⟨_, rfl, zO rfl⟩, ⟨_, rfl, zO rfl⟩, ⟨_, rfl, zO rfl⟩, ⟨_, rfl, zO rfl⟩, ⟨_, rfl, zlg 0 rfl⟩, trivial⟩ ⟨⟨_, rfl, rfl, rfl, ⟨zO rfl, zO rfl, trivial⟩⟩, trivial⟩ (rfl' [29]))) ?_
   refine jp ?_
   rcases zm h with ⟨hc2, h⟩ | ⟨hc2, h⟩
   ·
    refine jT hc2 ?_
    refine jp ?_
    obtain rfl := sj h
    exact zdW lzz
   refine jF hc2 ?_
   obtain ⟨v, h_v, h⟩ := bnd h
   refine jr (lb 1 zc [] rv2.1 (rc 0 rfl (zff [.rc zc [] rv2.1] 30 [] ([rv2.1] : (List zb)) rfl zev rfl rfl rfl rfl) (ra 0 [.own zc 31 26 [] l, .own zc 31 30 [] ([rv2.1] : (List zb))] rfl (zeD 26 [] rfl zev.el rfl (zbV _ _ _ _ _) (zay _ _ _ _ _) h_v (.inl zcx) rfl) rfl rf))) ?_
   refine jp ?_
   refine zaY ?_
   obtain rfl := sj h
   exact zW lzz
  refine jF hc1 ?_
  obtain rfl := sj h
  exact zbB rfl lzz
 ·
  refine zeP ⟨[(1, .sl Rp.byte [0] b), (2, .ptr 19 0), (4, kN), (7, .om zt zu 20 [] ([] : (List (zo × zq)))), (8, kI 0)], [⟨19, 24, [kS m.Name, .sl za [0] m.Fields]⟩]⟩ (by kernel_rfl) ?_
  refine zem 4 (.own zc 31 26 [] []) rfl (zaZ zc 31 26 [] rfl) ?_
  refine zem 7 (.om zt zu 20 [0] ([] : (List (zo × zq)))) rfl (zqf _ _ _ _ rfl rfl) ?_
  exact lzz
 rcases q with u | u2
 ·
  refine zch _ rfl ?_
  refine jp ?_
  obtain rfl := sj h
  refine zv ?_
  refine lk [4, 5, 6] [] 26 2 ?_
  exact lzz
 obtain rfl := sj h
 refine zez ?_
 refine zeP ⟨[(4, kN), (5, kI u2.1), (6, k8 u2.2)], []⟩ (by kernel_rfl) ?_
 refine zem 4 (.own zc 31 2 [] (([], u2.1, u2.2) : ((List zb) × Int × Int)).1) rfl (zaZ zc 31 2 [] rfl) ?_
 exact lzz
theorem zkp {m : zi} {b : (List UInt8)} {fromv : Int} {r : (zb × Int)} (h : zes m b fromv = some r) : FnOk Try.prog 8 [.rc zk [0] m, .sl Rp.byte [0] b, kI fromv] [.rc zc [] r.1, k8 r.2] := by
 refine zz (E := ⟨[(6, .ptr 2 0), (7, k8 r.2)], [⟨2, 31, [kI r.1.Record.Number, kI r.1.Record.Wire, kI r.1.Record.From, kI r.1.Record.At, kI r.1.Record.To, kI r.1.Field, kB r.1.Run]⟩]⟩) 15 Try.func8 rfl rfl rfl ⟨⟨_, _, rfl, rfl, rfl, rfl, ⟨Try.isAgg31, Try.sizeOf31⟩⟩, rfl, trivial⟩ (fun Xt => ?_)
 refine zr ?_
 unfold zes at h
 refine jr (ra 0 [.rc zk [0] m] rfl (zbO 13 [kS m.Name, .sl za [0] m.Fields] [0] rfl rfl rfl rfl rfl) rfl (rfl' [14])) ?_
 obtain ⟨rv2, h_rv2, h⟩ := bnd h
 refine jr (rc 3 rfl (zhZ (rk := zt) (rv := zu) 15 rfl) (rkl 0 [] ⟨[(6, .ptr 14 0), (8, .ag [kS m.Name, .sl za [0] m.Fields]), (9, .sl Rp.byte [0] b), (10, kI fromv), (11, .om zt zu 15 [] ([] : (List (zo × zq))))], [⟨14, 31, [kI 0, kI 0, kI 0, kI 0, kI 0, kI 0, kB false]⟩]⟩ (zkh ⟨[(6, .ptr 14 0), (8, .ag [kS m.Name, .sl za [0] m.Fields]), (9, .sl Rp.byte [0] b), (10, kI fromv), (11, .om zt zu 15 [0] rv2.2.2)], [⟨14, 31, [kI 0, kI 0, kI 0, kI 0, kI 0, kI 0, kB false]⟩]⟩ (zga.le (ins' := [(.tmp 8, .ag [kS m.Name, .sl za [0] m.Fields]), (.tmp 9, .sl Rp.byte [0] b), (.tmp 10, kI fromv), (.tmp 11, .om zt zu 15 [] ([] : (List (zo × zq))))]) (zmz (args := [.tmp 8, .tmp 9, .tmp 10, .tmp 11]) [.rc zk [0] m, .sl Rp.byte [0] b, kI fromv, .om zt zu 15 [] ([] : (List (zo × zq)))] [(15, 2)] [0] 15 [] rfl Try.call19 (zgx h_rv2) rfl rfl (by kernel_rfl) rfl rfl rfl) ⟨⟨rfl, zcw zk [0] m [kS m.Name, .sl za [0] m.Fields] rfl rfl⟩, ⟨rfl, AV.le_refl _⟩, ⟨rfl, AV.le_refl _⟩, ⟨rfl, AV.le_refl _⟩, trivial⟩) rfl (by kernel_rfl) (by kernel_rfl) ⟨⟨_, rfl, zO rfl⟩, ⟨_, rfl, zO rfl⟩, ⟨_, rfl, zO rfl⟩, ⟨_, rfl, zO rfl⟩, ⟨_, rfl, zlg 0 rfl⟩, trivial⟩ ⟨⟨_, rfl, rfl, rfl, ⟨zO rfl, zO rfl, zO rfl, zO rfl, zO rfl, zO rfl, zO rfl, trivial⟩⟩, trivial⟩ rf))) ?_
 obtain rfl := sj h
 refine zv ?_
 refine lk [6, 7] [14] 14 2 ?_
 exact lzz
theorem zbF  {r : Bool} (h : zap = some r) : FnOk Try.prog 6 [] [kB r] := by
 refine zz (E := ⟨[(0, kB r)], []⟩) 50 Try.func6 rfl rfl rfl ⟨rfl, trivial⟩ (fun Xt => ?_)
 refine zr ?_
 unfold zap at h
 refine jp ?_
 refine jr (rc 0 rfl (zF (r := za) [kI 1, kI 1, kB true] [] (⟨[], 1, 1, true, false, 0⟩ : zd) rfl zql rfl rfl) (rc 0 rfl (zff [.rc za [] (⟨[], 1, 1, true, false, 0⟩ : zd)] 11 [] ([(⟨[], 1, 1, true, false, 0⟩ : zd)] : (List zd)) rfl zfp rfl rfl rfl rfl) (ra 0 [.own za 55 11 [] ([(⟨[], 1, 1, true, false, 0⟩ : zd)] : (List zd))] rfl (zjn [.own za 55 11 [] ([(⟨[], 1, 1, true, false, 0⟩ : zd)] : (List zd))] [kS [], .own za 55 11 [] ([(⟨[], 1, 1, true, false, 0⟩ : zd)] : (List zd))] rfl zpA rfl) rfl (rfl' [12])))) ?_
 obtain ⟨rv, h_rv, h⟩ := bnd h
 refine jr (rc 1 rfl (zff [.lf (.int .u8 8), .lf (.int .u8 1), .lf (.int .u8 10), .lf (.int .u8 1), .lf (.int .u8 1), .lf (.int .u8 16), .lf (.int .u8 1)] 13 [] [(8 : UInt8), (1 : UInt8), (10 : UInt8), (1 : UInt8), (1 : UInt8), (16 : UInt8), (1 : UInt8)] rfl zcG rfl rfl rfl rfl) (rl 0 [11, 13] 12 Try.call10 (zbS h_rv) rf)) ?_
 obtain ⟨g, h_g, h⟩ := bnd h
 refine zR ⟨[(0, kB g)], []⟩ ?_ ?_
 ·
  refine (rsl 4 [] 18 ((IntKind.i64.wrap rv.2.2) == 0) (fun hc1 => ?_) (fun hc1 => ?_))
  ·
   replace h_g := iteT h_g hc1
   refine (rsl 5 [] 23 ((rv.1.length : Int) == 3) (fun hc2 => ?_) (fun hc2 => ?_))
   ·
    replace h_g := iteT h_g hc2
    obtain ⟨x, h_x, h_g⟩ := bnd h_g
    refine (ra 1 [.own zc 31 14 [] rv.1, kI 0] rfl (zbx rfl zev.el (zay _ _ _ _ _) h_x) rfl (rsl 5 [] 30 (x.Field == 0) (fun hc3 => ?_) (fun hc3 => ?_)))
    ·
     replace h_g := iteT h_g hc3
     obtain ⟨x2, h_x2, h_g⟩ := bnd h_g
     refine (ra 1 [.own zc 31 14 [] rv.1, kI 0] rfl (zbx rfl zev.el (zay _ _ _ _ _) h_x2) rfl (rsl 5 [] 37 (!x2.Run) (fun hc4 => ?_) (fun hc4 => ?_)))
     ·
      replace h_g := iteT h_g hc4
      obtain ⟨x3, h_x3, h_g⟩ := bnd h_g
      refine (ra 1 [.own zc 31 14 [] rv.1, kI 1] rfl (zbx rfl zev.el (zay _ _ _ _ _) h_x3) rfl (rsl 4 [] 43 x3.Run (fun hc5 => ?_) (fun hc5 => ?_)))
      ·
       replace h_g := iteT h_g hc5
       obtain ⟨x4, h_x4, h_g⟩ := bnd h_g
       obtain rfl := sj h_g
       exact (ra 1 [.own zc 31 14 [] rv.1, kI 2] rfl (zbx rfl zev.el (zay _ _ _ _ _) h_x4) rfl rgg)
      replace h_g := iteF h_g hc5
      obtain rfl := sj h_g
      exact rgg
     replace h_g := iteF h_g hc4
     obtain rfl := sj h_g
     exact rgg
    replace h_g := iteF h_g hc3
    obtain rfl := sj h_g
    exact rgg
   replace h_g := iteF h_g hc2
   obtain rfl := sj h_g
   exact rgg
  replace h_g := iteF h_g hc1
  obtain rfl := sj h_g
  exact rgg
 obtain rfl := sj h
 exact zv lzz
theorem zcl {m : zi} {b : (List UInt8)} {number : Int} {r : (List zb)} (h : zcQ m b number = some r) : FnOk Try.prog 13 [.rc zk [0] m, .sl Rp.byte [0] b, kI number] [.own zc 31 2 [] r] := by
 refine zz (E := ⟨[(6, .own zc 31 2 [] r)], []⟩) 37 Try.func13 rfl rfl rfl ⟨rfl, trivial⟩ (fun Xt => ?_)
 refine zr ?_
 unfold zcQ at h
 refine jr (ra 0 [.rc zk [0] m] rfl (zbO 17 [kS m.Name, .sl za [0] m.Fields] [0] rfl rfl rfl rfl rfl) rfl rf) ?_
 obtain ⟨rv, h_rv, h⟩ := bnd h
 refine jr (rl 2 [0] 16 Try.call10 (zbS h_rv) rf) ?_
 refine jp ?_
 refine jp ?_
 refine zQ ?_
 obtain ⟨q, h_q, h⟩ := bnd h
 refine zbA (fun s : ((List zb) × Int) => zbl number rv s.1 s.2) (fun s => ⟨[(2, kI number), (10, .own zc 31 22 [] s.1), (20, .own zc 31 18 [] rv.1), (21, kI (rv.1.length : Int)), (22, kI s.2)], []⟩) (fun o e a w => e = .exit 0 ∧ Sx ⟨⟨37, []⟩, Xt, false, #[]⟩ ⟨[(10, .own zc 31 22 [] o)], []⟩ a w) ?_ h_q ?_ ?_
 ·
  clear h
  intro s o h
  obtain ⟨l, v⟩ := s
  refine zr ?_
  replace h : zbl number rv l v = some o := h
  unfold zbl at h
  refine jp ?_
  rcases zm h with ⟨hc1, h⟩ | ⟨hc1, h⟩
  ·
   refine jT hc1 ?_
   refine zQ ?_
   obtain ⟨x, h_x, h⟩ := bnd h
   refine jr (ra 0 [.own zc 31 18 [] rv.1, kI v] rfl (zbx rfl zev.el (zay _ _ _ _ _) h_x) rfl (ra 0 [.ep zc [18] x 0] rfl (zeh rfl ⟨Try.isAgg31, Try.sizeOf31⟩) rfl (rfl' [23]))) ?_
   refine jp ?_
   rcases zm h with ⟨hc2, h⟩ | ⟨hc2, h⟩
   ·
    refine jT hc2 ?_
    obtain ⟨v2, h_v2, h⟩ := bnd h
    refine jr (lb 1 zc [] x (rc 0 rfl (zff [.rc zc [] x] 24 [] ([x] : (List zb)) rfl zev rfl rfl rfl rfl) (ra 0 [.own zc 31 22 [] l, .own zc 31 24 [] ([x] : (List zb))] rfl (zeD 22 [] rfl zev.el rfl (zbV _ _ _ _ _) (zay _ _ _ _ _) h_v2 (.inl zcx) rfl) rfl rf))) ?_
    refine zaY ?_
    refine jp ?_
    obtain rfl := sj h
    exact zW lzz
   refine jF hc2 ?_
   refine zaY ?_
   refine jp ?_
   obtain rfl := sj h
   exact zW lzz
  refine jF hc1 ?_
  obtain rfl := sj h
  exact zbB rfl lzz
 ·
  refine zeP ⟨[(2, kI number), (10, kN), (20, .own zc 31 18 [] rv.1), (21, kI (rv.1.length : Int)), (22, kI 0)], []⟩ (by kernel_rfl) ?_
  refine zem 10 (.own zc 31 22 [] []) rfl (zaZ zc 31 22 [] rfl) ?_
  exact lzz
 refine zch _ rfl ?_
 refine jp ?_
 obtain rfl := sj h
 refine zv ?_
 refine lk [6] [] 22 2 ?_
 exact lzz
theorem zcg {m : zi} {b : (List UInt8)} {r : (List (List UInt8))} (h : zaR m b = some r) : FnOk Try.prog 14 [.rc zk [0] m, .sl Rp.byte [0] b] [.own (Rp.list Rp.byte) 25 2 [3] r] := by
 refine zz (E := ⟨[(4, .own (Rp.list Rp.byte) 25 2 [3] r)], []⟩) 36 Try.func14 rfl rfl rfl ⟨rfl, trivial⟩ (fun Xt => ?_)
 refine zr ?_
 unfold zaR at h
 refine jr (ra 0 [.rc zk [0] m] rfl (zbO 18 [kS m.Name, .sl za [0] m.Fields] [0] rfl rfl rfl rfl rfl) rfl rf) ?_
 obtain ⟨rv, h_rv, h⟩ := bnd h
 refine jr (rl 2 [0] 17 Try.call10 (zbS h_rv) rf) ?_
 refine jp ?_
 refine jp ?_
 refine zQ ?_
 obtain ⟨q, h_q, h⟩ := bnd h
 refine zbA (fun s : ((List (List UInt8)) × Int) => zah b rv s.1 s.2) (fun s => ⟨[(1, .sl Rp.byte [0] b), (8, .own (Rp.list Rp.byte) 25 24 [20] s.1), (18, .own zc 31 19 [] rv.1), (19, kI (rv.1.length : Int)), (20, kI s.2)], []⟩) (fun o e a w => e = .exit 0 ∧ Sx ⟨⟨36, []⟩, Xt, false, #[]⟩ ⟨[(8, .own (Rp.list Rp.byte) 25 24 [20] o)], []⟩ a w) ?_ h_q ?_ ?_
 ·
  clear h
  intro s o h
  obtain ⟨l, v⟩ := s
  refine zr ?_
  replace h : zah b rv l v = some o := h
  unfold zah at h
  refine jp ?_
  rcases zm h with ⟨hc1, h⟩ | ⟨hc1, h⟩
  ·
   refine jT hc1 ?_
   refine zQ ?_
   obtain ⟨x, h_x, h⟩ := bnd h
   refine jr (ra 0 [.own zc 31 19 [] rv.1, kI v] rfl (zbx rfl zev.el (zay _ _ _ _ _) h_x) rfl (ra 0 [.ep zc [19] x 0] rfl (zeh rfl ⟨Try.isAgg31, Try.sizeOf31⟩) rfl (rfl' [28]))) ?_
   refine jp ?_
   rcases zm h with ⟨hc2, h⟩ | ⟨hc2, h⟩
   ·
    refine jT hc2 ?_
    obtain ⟨rv2, h_rv2, h⟩ := bnd h
    obtain ⟨v2, h_v2, h⟩ := bnd h
    refine jr (lb 3 zg [] x.Record (rl 0 [0] 27 Try.call24 (zhn h_rv2) (rc 0 rfl (zff [.own Rp.byte 5 29 [] rv2] 30 [29] ([rv2] : (List (List UInt8))) rfl ziL rfl rfl rfl rfl) (ra 0 [.own (Rp.list Rp.byte) 25 24 [20] l, .own (Rp.list Rp.byte) 25 30 [29] ([rv2] : (List (List UInt8)))] rfl (zeD 24 [20, 30, 29] rfl ziL.el rfl (zbV _ _ _ _ _) (zay _ _ _ _ _) h_v2 (.inr rfl) rfl) rfl rf)))) ?_
    refine zaY ?_
    refine jp ?_
    obtain rfl := sj h
    refine zW ?_
    refine lk [1, 8, 18, 19, 20] [] 30 20 ?_
    refine lk [1, 8, 18, 19, 20] [] 29 20 ?_
    refine zeP ⟨[(1, .sl Rp.byte [0] b), (8, .own (Rp.list Rp.byte) 25 24 [20, 20, 20] v2), (18, .own zc 31 19 [] rv.1), (19, kI (rv.1.length : Int)), (20, kI (IntKind.i64.wrap (v + 1)))], []⟩ (by kernel_rfl) ?_
    refine zem 8 (.own (Rp.list Rp.byte) 25 24 [20] v2) rfl (zpI _ _ _ _ _ _ rfl rfl) ?_
    exact lzz
   refine jF hc2 ?_
   refine zaY ?_
   refine jp ?_
   obtain rfl := sj h
   exact zW lzz
  refine jF hc1 ?_
  obtain rfl := sj h
  exact zbB rfl lzz
 ·
  refine zeP ⟨[(1, .sl Rp.byte [0] b), (8, kN), (18, .own zc 31 19 [] rv.1), (19, kI (rv.1.length : Int)), (20, kI 0)], []⟩ (by kernel_rfl) ?_
  refine zem 8 (.own (Rp.list Rp.byte) 25 24 [20] []) rfl (zaZ (Rp.list Rp.byte) 25 24 [20] rfl) ?_
  exact lzz
 refine zch _ rfl ?_
 refine jp ?_
 obtain rfl := sj h
 refine zv ?_
 refine lk [4] [] 24 2 ?_
 refine lk [4] [] 20 3 ?_
 exact lzz
theorem zgw {m : zi} {b : (List UInt8)} {r : ((List UInt8) × Int)} (h : zdy m b = some r) : FnOk Try.prog 15 [.rc zk [0] m, .sl Rp.byte [0] b] [.own Rp.byte 5 2 [] r.1, k8 r.2] := by
 refine zz (E := ⟨[(4, .own Rp.byte 5 2 [] r.1), (5, k8 r.2)], []⟩) 43 Try.func15 rfl rfl rfl ⟨rfl, rfl, trivial⟩ (fun Xt => ?_)
 refine zr ?_
 unfold zdy at h
 refine jr (ra 0 [.rc zk [0] m] rfl (zbO 16 [kS m.Name, .sl za [0] m.Fields] [0] rfl rfl rfl rfl rfl) rfl rf) ?_
 obtain ⟨rv, h_rv, h⟩ := bnd h
 refine jr (rl 2 [0] 15 Try.call10 (zbS h_rv) rf) ?_
 refine jp ?_
 rcases zm h with ⟨hc1, h⟩ | ⟨hc1, h⟩
 ·
  refine jT hc1 ?_
  refine jp ?_
  obtain rfl := sj h
  refine zv ?_
  refine zeP ⟨[(4, kN), (5, k8 rv.2.2)], []⟩ (by kernel_rfl) ?_
  refine zem 4 (.own Rp.byte 5 2 [] (([], rv.2.2) : ((List UInt8) × Int)).1) rfl (zaZ Rp.byte 5 2 [] rfl) ?_
  exact lzz
 refine jF hc1 ?_
 refine jp ?_
 refine jp ?_
 refine zQ ?_
 obtain ⟨q, h_q, h⟩ := bnd h
 refine zbA (fun s : ((List UInt8) × Int) => zaG b rv s.1 s.2) (fun s => ⟨[(1, .sl Rp.byte [0] b), (9, .own Rp.byte 5 20 [] s.1), (22, .own zc 31 17 [] rv.1), (23, kI (rv.1.length : Int)), (24, kI s.2)], []⟩) (fun o e a w => e = .exit 0 ∧ Sx ⟨⟨43, []⟩, Xt, false, #[]⟩ ⟨[(9, .own Rp.byte 5 20 [] o)], []⟩ a w) ?_ h_q ?_ ?_
 ·
  clear h
  intro s o h
  obtain ⟨c, v⟩ := s
  refine zr ?_
  replace h : zaG b rv c v = some o := h
  unfold zaG at h
  refine jp ?_
  rcases zm h with ⟨hc2, h⟩ | ⟨hc2, h⟩
  ·
   refine jT hc2 ?_
   refine zQ ?_
   obtain ⟨x, h_x, h⟩ := bnd h
   refine jr (ra 0 [.own zc 31 17 [] rv.1, kI v] rfl (zbx rfl zev.el (zay _ _ _ _ _) h_x) rfl (ra 0 [.ep zc [17] x 0] rfl (zeh rfl ⟨Try.isAgg31, Try.sizeOf31⟩) rfl (rfl' [21]))) ?_
   refine jp ?_
   rcases zm h with ⟨hc3, h⟩ | ⟨hc3, h⟩
   ·
    refine jT hc3 ?_
    obtain ⟨v2, h_v2, h⟩ := bnd h
    obtain ⟨v3, h_v3, h⟩ := bnd h
    refine jr (ra 8 [.sl Rp.byte [0] b, kI x.Record.From, kI x.Record.To] rfl (zeE (some (kI x.Record.From)) (some (kI x.Record.To)) rfl zcG.el (zai _ _ _) ⟨rfl, rfl⟩ ⟨rfl, rfl⟩ h_v2) rfl (ra 0 [.own Rp.byte 5 20 [] c, .sl Rp.byte [0] v2] rfl (zeD 20 [] rfl zcG.el rfl (zbV _ _ _ _ _) (zai _ _ _) h_v3 (.inl zfT) rfl) rfl rf)) ?_
    refine zaY ?_
    refine jp ?_
    obtain rfl := sj h
    exact zW lzz
   refine jF hc3 ?_
   refine zaY ?_
   refine jp ?_
   obtain rfl := sj h
   exact zW lzz
  refine jF hc2 ?_
  obtain rfl := sj h
  exact zbB rfl lzz
 ·
  refine zeP ⟨[(1, .sl Rp.byte [0] b), (9, kN), (22, .own zc 31 17 [] rv.1), (23, kI (rv.1.length : Int)), (24, kI 0)], []⟩ (by kernel_rfl) ?_
  refine zem 9 (.own Rp.byte 5 20 [] []) rfl (zaZ Rp.byte 5 20 [] rfl) ?_
  exact lzz
 refine zch _ rfl ?_
 refine jp ?_
 obtain rfl := sj h
 refine zv ?_
 refine lk [4, 5] [] 20 2 ?_
 exact lzz
end Go.Proofs.Ytdpolccecmaajaa

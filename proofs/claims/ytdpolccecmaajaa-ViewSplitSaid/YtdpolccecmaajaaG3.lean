/-
  The Go functions do what the plain functions say. No condition.
-/
import Derived.Test.YtdpolccecmaajaaG2
namespace Go.Proofs.Ytdpolccecmaajaa
open Go Go.RowKit
set_option linter.unusedVariables false
set_option maxRecDepth 100000
theorem zit {b : (List UInt8)} {fromv : Int} {r : (ze × Int)} (h : zde b fromv = some r) : FnOk Try.prog 25 [.sl Rp.byte [0] b, kI fromv] [.rc zg [] r.1, k8 r.2] := by
 refine zz (E := ⟨[(4, .ptr 2 0), (5, k8 r.2)], [⟨2, 29, [kI r.1.Number, kI r.1.Wire, kI r.1.From, kI r.1.At, kI r.1.To]⟩]⟩) 62 Try.func25 rfl rfl rfl ⟨⟨_, _, rfl, rfl, rfl, rfl, ⟨Try.isAgg29, Try.sizeOf29⟩⟩, rfl, trivial⟩ (fun Xt => ?_)
 refine zr ?_
 unfold zde at h
 refine jq [12] ?_
 refine zR ⟨[(0, .sl Rp.byte [0] b), (1, kI fromv), (4, .ptr 12 0), (19, kB ((decide (fromv < 0)) || (decide (fromv ≥ (b.length : Int)))))], [⟨12, 29, [kI 0, kI 0, kI 0, kI 0, kI 0]⟩]⟩ ?_ ?_
 ·
  refine (rsl 3 [] 14 (decide (fromv < 0)) (fun hc1 => ?_) (fun hc1 => ?_))
  · exact (rbl [] 19 true ((decide (fromv < 0)) || (decide (fromv ≥ (b.length : Int)))) (by rw [hc1] <;> rfl))
  exact (rbl [] 19 (decide (fromv ≥ (b.length : Int))) ((decide (fromv < 0)) || (decide (fromv ≥ (b.length : Int)))) (by rw [hc1] <;> rfl))
 rcases zm h with ⟨hc2, h⟩ | ⟨hc2, h⟩
 ·
  refine jT hc2 ?_
  refine jr (rc 0 rfl (zF (r := zg) [] [] (⟨0, 0, 0, 0, 0⟩ : ze) rfl zmA rfl rfl) rf) ?_
  obtain rfl := sj h
  refine zv ?_
  refine lk [4, 5] [12] 12 2 ?_
  exact lzz
 refine jF hc2 ?_
 obtain ⟨v2, h_v2, h⟩ := bnd h
 obtain ⟨rv, h_rv, h⟩ := bnd h
 refine jr (ra 2 [.sl Rp.byte [0] b, kI fromv] rfl (zeE (some (kI fromv)) none rfl zcG.el (zai _ _ _) ⟨rfl, rfl⟩ ⟨rfl, rfl⟩ h_v2) rfl (rl 0 [0] 11 Try.call30 (zlf h_rv) (rfl' [13]))) ?_
 refine jp ?_
 rcases zm h with ⟨hc3, h⟩ | ⟨hc3, h⟩
 ·
  refine jT hc3 ?_
  refine jr (rc 0 rfl (zF (r := zg) [] [] (⟨0, 0, 0, 0, 0⟩ : ze) rfl zmA rfl rfl) rf) ?_
  obtain rfl := sj h
  refine zv ?_
  refine lk [4, 5] [12] 12 2 ?_
  exact lzz
 refine jF hc3 ?_
 refine jp ?_
 obtain ⟨v3, h_v3, h⟩ := bnd h
 obtain ⟨rv2, h_rv2, h⟩ := bnd h
 refine jd [1, 4, 6, 8, 9, 10, 11] [12, 13] zdE (by exact (lw_e (lw_e (lw_e (lw_e (ly [.sl Rp.byte [0] b, kI (IntKind.i64.wrap (fromv + rv.2.1))] (zeE (some (kI (IntKind.i64.wrap (fromv + rv.2.1)))) none rfl zcG.el (zai _ _ _) ⟨rfl, rfl⟩ ⟨rfl, rfl⟩ h_v3) rfl (lx (lf1 31 (zbp [kI rv.1.Wire, .sl Rp.byte [0] v3] [0] 12 rfl Try.call31 (ziu h_rv2) rfl rfl rfl rfl rfl)) l0))))))) ?_
 refine jp ?_
 rcases zm h with ⟨hc4, h⟩ | ⟨hc4, h⟩
 ·
  refine jT hc4 ?_
  refine jr (rc 0 rfl (zF (r := zg) [] [] (⟨0, 0, 0, 0, 0⟩ : ze) rfl zmA rfl rfl) rf) ?_
  obtain rfl := sj h
  refine zv ?_
  refine lk [4, 5] [12] 12 2 ?_
  exact lzz
 refine jF hc4 ?_
 refine jr (rc 11 rfl (zF (r := zg) [kI rv.1.Number, kI rv.1.Wire, kI fromv, kI (IntKind.i64.wrap ((IntKind.i64.wrap (fromv + rv.2.1)) + rv2.1)), kI (IntKind.i64.wrap ((IntKind.i64.wrap (fromv + rv.2.1)) + rv2.2.1))] [] (⟨rv.1.Number, rv.1.Wire, fromv, (IntKind.i64.wrap ((IntKind.i64.wrap (fromv + rv.2.1)) + rv2.1)), (IntKind.i64.wrap ((IntKind.i64.wrap (fromv + rv.2.1)) + rv2.2.1))⟩ : ze) rfl zmA rfl rfl) rf) ?_
 obtain rfl := sj h
 refine zv ?_
 refine lk [4, 5] [12] 12 2 ?_
 exact lzz
theorem ziR {f : zd} {wire : Int} {r : Bool} (h : zdO f wire = some r) : FnOk Try.prog 33 [.rc za [0] f, kI wire] [kB r] := by
 refine zz (E := ⟨[(4, kB r)], []⟩) 16 Try.func33 rfl rfl rfl ⟨rfl, trivial⟩ (fun Xt => ?_)
 refine zr ?_
 unfold zdO at h
 refine jq [11] ?_
 obtain ⟨g, h_g, h⟩ := bnd h
 refine zR ⟨[(4, kB g)], []⟩ ?_ ?_
 ·
  refine (rsl 3 [] 7 f.Repeated (fun hc1 => ?_) (fun hc1 => ?_))
  ·
   replace h_g := iteT h_g hc1
   refine (rsl 4 [] 11 (wire == 2) (fun hc2 => ?_) (fun hc2 => ?_))
   ·
    replace h_g := iteT h_g hc2
    obtain ⟨rv, h_rv, h_g⟩ := bnd h_g
    obtain rfl := sj h_g
    exact (rl 2 [1] 10 Try.call42 (zhY h_rv) rgg)
   replace h_g := iteF h_g hc2
   obtain rfl := sj h_g
   exact rgg
  replace h_g := iteF h_g hc1
  obtain rfl := sj h_g
  exact rgg
 obtain rfl := sj h
 exact zv lzz
theorem zcZ {m : zi} {b : (List UInt8)} {fromv : Int} {r : (zn × Int)} (h : zaL m b fromv = some r) : FnOk Try.prog 9 [.rc zk [0] m, .sl Rp.byte [0] b, kI fromv] [.rc zp [] r.1, kI r.2] := by
 refine zz (E := ⟨[(6, .ptr 2 0), (7, kI r.2)], [⟨2, 37, [kI r.1.R.Number, kI r.1.R.Wire, kI r.1.R.From, kI r.1.R.At, kI r.1.R.To, kI r.1.Field, kB r.1.Run]⟩]⟩) 66 Try.func9 rfl rfl rfl ⟨⟨_, _, rfl, rfl, rfl, rfl, ⟨Try.isAgg37, Try.sizeOf37⟩⟩, rfl, trivial⟩ (fun Xt => ?_)
 refine zr ?_
 unfold zaL at h
 refine jr (ra 0 [.rc zk [0] m] rfl (zbO 13 [kS m.Name, .sl za [0] m.Fields] [0] rfl rfl rfl rfl rfl) rfl (rfl' [14])) ?_
 obtain ⟨rv, h_rv, h⟩ := bnd h
 refine jr (rl 2 [0] 13 Try.call20 (zfb h_rv) (rfl' [15])) ?_
 refine jp ?_
 rcases zm h with ⟨hc1, h⟩ | ⟨hc1, h⟩
 ·
  refine jT hc1 ?_
  refine jr (rc 0 rfl (zF (r := zp) [] [] (⟨(⟨0, 0, 0, 0, 0⟩ : ze), 0, false⟩ : zn) rfl zle rfl rfl) rf) ?_
  obtain rfl := sj h
  refine zv ?_
  refine lk [6, 7] [14] 14 2 ?_
  exact lzz
 refine jF hc1 ?_
 obtain ⟨rv2, h_rv2, h⟩ := bnd h
 refine jr (rl 3 [0] 14 Try.call18 (zcC h_rv2) rf) ?_
 refine jp ?_
 rcases zm h with ⟨hc2, h⟩ | ⟨hc2, h⟩
 ·
  refine jT hc2 ?_
  refine jr (lb 0 zg [] rv.1 (rc 0 rfl (zF (r := zp) [.rc zg [] rv.1, kI (-1)] [] (⟨rv.1, (-1), false⟩ : zn) rfl zle rfl rfl) rf)) ?_
  obtain rfl := sj h
  refine zv ?_
  refine lk [6, 7] [14] 14 2 ?_
  exact lzz
 refine jF hc2 ?_
 obtain ⟨x, h_x, h⟩ := bnd h
 refine jr (ra 3 [.sl za [0] m.Fields, kI rv2] rfl (zbx rfl zfp.el (zai _ _ _) h_x) rfl (ra 0 [.ep za [0] x 0] rfl (zeh rfl ⟨Try.isAgg55, Try.sizeOf55⟩) rfl (rfl' [16]))) ?_
 obtain ⟨g, h_g, h⟩ := bnd h
 refine zR ⟨[(6, .ptr 14 0), (8, .ptr 15 0), (10, kI rv2), (11, .ptr 16 0), (46, kB g)], [⟨14, 37, [kI 0, kI 0, kI 0, kI 0, kI 0, kI 0, kB false]⟩, ⟨15, 35, [kI rv.1.Number, kI rv.1.Wire, kI rv.1.From, kI rv.1.At, kI rv.1.To]⟩, ⟨16, 55, [kS x.Name, kI x.Number, kI x.Kind, kB x.Repeated, kB x.Packed, kI x.Of]⟩]⟩ ?_ ?_
 ·
  refine (rsl 3 [] 37 x.Repeated (fun hc3 => ?_) (fun hc3 => ?_))
  ·
   replace h_g := iteT h_g hc3
   obtain ⟨rv3, h_rv3, h_g⟩ := bnd h_g
   refine (rl 2 [1] 15 Try.call21 (zex h_rv3) (rsl 2 [] 42 rv3 (fun hc4 => ?_) (fun hc4 => ?_)))
   ·
    replace h_g := iteT h_g hc4
    obtain rfl := sj h_g
    exact (rel [] lzz)
   replace h_g := iteF h_g hc4
   obtain rfl := sj h_g
   exact (rel [] lzz)
  replace h_g := iteF h_g hc3
  obtain rfl := sj h_g
  exact (rel [] lzz)
 rcases zm h with ⟨hc5, h⟩ | ⟨hc5, h⟩
 ·
  refine jT hc5 ?_
  refine jr (lb 0 zg [] rv.1 (rc 1 rfl (zF (r := zp) [.rc zg [] rv.1, kI rv2, kB true] [] (⟨rv.1, rv2, true⟩ : zn) rfl zle rfl rfl) rf)) ?_
  obtain rfl := sj h
  refine zv ?_
  refine lk [6, 7] [14] 14 2 ?_
  exact lzz
 refine jF hc5 ?_
 obtain ⟨g2, h_g2, h⟩ := bnd h
 refine zcv (R := fun e a w => e = .normal ∧ Sx ⟨⟨66, []⟩, Xt, false, #[]⟩ ⟨[(6, .ptr 14 0), (8, .ptr 15 0), (10, kI rv2), (61, kB g2)], [⟨14, 37, [kI 0, kI 0, kI 0, kI 0, kI 0, kI 0, kB false]⟩, ⟨15, 35, [kI rv.1.Number, kI rv.1.Wire, kI rv.1.From, kI rv.1.At, kI rv.1.To]⟩]⟩ a w) ?_ (zef ?_)
 ·
  refine zr ?_
  obtain ⟨rv4, h_rv4, h_g2⟩ := bnd h_g2
  rcases Bool.eq_false_or_eq_true (!rv4) with hc6 | hc6
  ·
   replace h_g2 := iteT h_g2 hc6
   obtain rfl := sj h_g2
   refine jd [6, 8, 10, 61] [14, 15] zdE (by exact (lw_e (lw_e (lx (lf1 22 (zbp [kI x.Kind] [1] 15 rfl Try.call22 (zcB h_rv4) rfl rfl rfl rfl rfl)) (lw_e (lx (zci ⟨[(53, kB (!rv4))], []⟩ (by kernel_rfl) hc6) l0)))))) ?_
   exact zW lzz
  replace h_g2 := iteF h_g2 hc6
  obtain ⟨rv5, h_rv5, h_g2⟩ := bnd h_g2
  obtain rfl := sj h_g2
  refine jd [6, 8, 10, 61] [14, 15] zdE (by exact (lw_e (lw_e (lx (lf1 22 (zbp [kI x.Kind] [1] 15 rfl Try.call22 (zcB h_rv4) rfl rfl rfl rfl rfl)) (lw_e (lx (zci ⟨[(53, kB (!rv4))], []⟩ (by kernel_rfl) hc6) (lw_e (lw_e (lx (lf1 23 (zbp [kI x.Kind] [1] 15 rfl Try.call23 (zfc h_rv5) rfl rfl rfl rfl rfl)) l0))))))))) ?_
  exact zW lzz
 rcases zm h with ⟨hc7, h⟩ | ⟨hc7, h⟩
 ·
  refine jT hc7 ?_
  refine jr (rc 0 rfl (zF (r := zp) [] [] (⟨(⟨0, 0, 0, 0, 0⟩ : ze), 0, false⟩ : zn) rfl zle rfl rfl) rf) ?_
  obtain rfl := sj h
  refine zv ?_
  refine lk [6, 7] [14] 14 2 ?_
  exact lzz
 refine jF hc7 ?_
 refine jr (lb 0 zg [] rv.1 (rc 1 rfl (zF (r := zp) [.rc zg [] rv.1, kI rv2] [] (⟨rv.1, rv2, false⟩ : zn) rfl zle rfl rfl) rf)) ?_
 obtain rfl := sj h
 refine zv ?_
 refine lk [6, 7] [14] 14 2 ?_
 exact lzz
theorem zhn {b : (List UInt8)} {rv : ze} {r : (List UInt8)} (h : zcy b rv = some r) : FnOk Try.prog 24 [.sl Rp.byte [0] b, .rc zg [0] rv] [.own Rp.byte 5 2 [] r] := by
 refine zz (E := ⟨[(4, .own Rp.byte 5 2 [] r)], []⟩) 11 Try.func24 rfl rfl rfl ⟨rfl, trivial⟩ (fun Xt => ?_)
 refine zr ?_
 unfold zcy at h
 refine jq [13] ?_
 obtain ⟨rv2, h_rv2, h⟩ := bnd h
 refine jr (rl 5 [0] 12 Try.call29 (zho h_rv2) rf) ?_
 obtain rfl := sj h
 refine zv ?_
 refine lk [4] [] 14 2 ?_
 exact lzz
theorem ziH {m : zi} {hv : zo} {r : zq} (h : zcq m hv = some r) : FnOk Try.prog 26 [.rc zk [0] m, .rc zt [0] hv] [.rc zu [] r] := by
 refine zz (E := ⟨[(4, .ptr 2 0)], [⟨2, 69, [kI r.field, kB r.run, k8 r.e]⟩]⟩) 38 Try.func26 rfl rfl rfl ⟨⟨_, _, rfl, rfl, rfl, rfl, ⟨Try.isAgg69, Try.sizeOf69⟩⟩, trivial⟩ (fun Xt => ?_)
 refine zr ?_
 unfold zcq at h
 refine jr (ra 0 [.rc zk [0] m] rfl (zbO 14 [kS m.Name, .sl za [0] m.Fields] [0] rfl rfl rfl rfl rfl) rfl (rfl' [15, 16])) ?_
 obtain ⟨rv, h_rv, h⟩ := bnd h
 refine jr (rl 3 [0] 15 Try.call32 (ziQ h_rv) rf) ?_
 refine jp ?_
 rcases zm h with ⟨hc1, h⟩ | ⟨hc1, h⟩
 ·
  refine jT hc1 ?_
  refine jr (rc 0 rfl (zF (r := zu) [kI (-1)] [] (⟨(-1), false, 0⟩ : zq) rfl zot rfl rfl) rf) ?_
  obtain rfl := sj h
  refine zv ?_
  refine lk [4] [16] 16 2 ?_
  exact lzz
 refine jF hc1 ?_
 obtain ⟨x, h_x, h⟩ := bnd h
 refine jr (ra 3 [.sl za [0] m.Fields, kI rv] rfl (zbx rfl zfp.el (zai _ _ _) h_x) rfl (ra 0 [.ep za [0] x 0] rfl (zeh rfl ⟨Try.isAgg55, Try.sizeOf55⟩) rfl (rfl' [17]))) ?_
 obtain ⟨rv2, h_rv2, h⟩ := bnd h
 refine jr (lb 0 za [] x (rl 2 [1] 16 Try.call33 (ziR h_rv2) rf)) ?_
 obtain ⟨g, h_g, h⟩ := bnd h
 refine zR ⟨[(4, .ptr 16 0), (5, kI rv), (7, kB rv2), (33, kB g)], [⟨16, 69, [kI 0, kB false, k8 0]⟩]⟩ ?_ ?_
 ·
  refine (rsl 3 [] 26 (!rv2) (fun hc2 => ?_) (fun hc2 => ?_))
  ·
   replace h_g := iteT h_g hc2
   obtain ⟨rv3, h_rv3, h_g⟩ := bnd h_g
   obtain rfl := sj h_g
   exact (rl 4 [1] 16 Try.call34 (zkq h_rv3) (rel [] lzz))
  replace h_g := iteF h_g hc2
  obtain rfl := sj h_g
  exact (rel [] lzz)
 rcases zm h with ⟨hc3, h⟩ | ⟨hc3, h⟩
 ·
  refine jT hc3 ?_
  refine jr (rc 0 rfl (zF (r := zu) [k8 6] [] (⟨0, false, 6⟩ : zq) rfl zot rfl rfl) rf) ?_
  obtain rfl := sj h
  refine zv ?_
  refine lk [4] [16] 16 2 ?_
  exact lzz
 refine jF hc3 ?_
 refine jr (rc 2 rfl (zF (r := zu) [kI rv, kB rv2] [] (⟨rv, rv2, 0⟩ : zq) rfl zot rfl rfl) rf) ?_
 obtain rfl := sj h
 refine zv ?_
 refine lk [4] [16] 16 2 ?_
 exact lzz
theorem zdl {m : zi} {b : (List UInt8)} {r : ((List zn) × Int × Int)} (h : zaU m b = some r) : FnOk Try.prog 11 [.rc zk [0] m, .sl Rp.byte [0] b] [.own zp 37 2 [] r.1, kI r.2.1, kI r.2.2] := by
 refine zz (E := ⟨[(4, .own zp 37 2 [] r.1), (5, kI r.2.1), (6, kI r.2.2)], []⟩) 34 Try.func11 rfl rfl rfl ⟨rfl, rfl, rfl, trivial⟩ (fun Xt => ?_)
 refine zr ?_
 unfold zaU at h
 refine jr (ra 0 [.rc zk [0] m] rfl (zbO 16 [kS m.Name, .sl za [0] m.Fields] [0] rfl rfl rfl rfl rfl) rfl rf) ?_
 refine jp ?_
 refine jp ?_
 refine zQ ?_
 obtain ⟨q, h_q, h⟩ := bnd h
 refine zbA (fun s : ((List zn) × Int) => zK b m s.1 s.2) (fun s => ⟨[(1, .sl Rp.byte [0] b), (2, .ptr 16 0), (7, .own zp 37 20 [] s.1), (8, kI s.2)], [⟨16, 24, [kS m.Name, .sl za [0] m.Fields]⟩]⟩) (fun o e a w => match o with | (.inl v_) => e = .exit 0 ∧ Sx ⟨⟨34, []⟩, Xt, false, #[]⟩ ⟨[(7, .own zp 37 20 [] v_)], []⟩ a w | (.inr v_) => e = .ret ∧ Sx ⟨⟨34, []⟩, Xt, false, #[]⟩ ⟨[(4, kN), (5, kI v_.1), (6, kI v_.2)], []⟩ a w) ?_ h_q ?_ ?_
 ·
  clear h
  intro s o h
  obtain ⟨out, atv⟩ := s
  refine zr ?_
  replace h : zK b m out atv = some o := h
  unfold zK at h
  refine jp ?_
  rcases zm h with ⟨hc1, h⟩ | ⟨hc1, h⟩
  ·
   refine jT hc1 ?_
   refine zQ ?_
   obtain ⟨rv, h_rv, h⟩ := bnd h
   refine jr (rl 3 [0] 19 Try.call9 (zcZ h_rv) (rfl' [21])) ?_
   refine jp ?_
   rcases zm h with ⟨hc2, h⟩ | ⟨hc2, h⟩
   ·
    refine jT hc2 ?_
    refine jp ?_
    obtain rfl := sj h
    exact zdW lzz
   refine jF hc2 ?_
   obtain ⟨v3, h_v3, h⟩ := bnd h
   refine jr (lb 1 zp [] rv.1 (rc 0 rfl (zff [.rc zp [] rv.1] 22 [] ([rv.1] : (List zn)) rfl zjE rfl rfl rfl rfl) (ra 0 [.own zp 37 20 [] out, .own zp 37 22 [] ([rv.1] : (List zn))] rfl (zeD 20 [] rfl zjE.el rfl (zbV _ _ _ _ _) (zay _ _ _ _ _) h_v3 (.inl zgp) rfl) rfl rf))) ?_
   refine jp ?_
   refine zaY ?_
   obtain rfl := sj h
   exact zW lzz
  refine jF hc1 ?_
  obtain rfl := sj h
  exact zbB rfl lzz
 ·
  refine zeP ⟨[(1, .sl Rp.byte [0] b), (2, .ptr 16 0), (7, kN), (8, kI 0)], [⟨16, 24, [kS m.Name, .sl za [0] m.Fields]⟩]⟩ (by kernel_rfl) ?_
  refine zem 7 (.own zp 37 20 [] []) rfl (zaZ zp 37 20 [] rfl) ?_
  exact lzz
 rcases q with u | u2
 ·
  refine zch _ rfl ?_
  refine jp ?_
  obtain rfl := sj h
  refine zv ?_
  refine lk [4, 5, 6] [] 20 2 ?_
  exact lzz
 obtain rfl := sj h
 refine zez ?_
 refine zeP ⟨[(4, kN), (5, kI u2.1), (6, kI u2.2)], []⟩ (by kernel_rfl) ?_
 refine zem 4 (.own zp 37 2 [] (([], u2.1, u2.2) : ((List zn) × Int × Int)).1) rfl (zaZ zp 37 2 [] rfl) ?_
 exact lzz
end Go.Proofs.Ytdpolccecmaajaa

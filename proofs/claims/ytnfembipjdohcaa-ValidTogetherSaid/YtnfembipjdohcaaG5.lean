/-
  The Go functions do what the plain functions say. No condition.
-/
import Derived.Test.YtnfembipjdohcaaG4
namespace Go.Proofs.Ytnfembipjdohcaa
open Go Go.RowKit
set_option linter.unusedVariables false
set_option maxRecDepth 100000
set_option maxHeartbeats 3200000
theorem ziN {sv : (List zr)} {r : Bool} (h : zcO sv = some r) : FnOk Try.prog 12 [.sl zi [0] sv] [kB r] := by
 refine zx (E := ⟨[(2, kB r)], []⟩) 12 Try.func12 rfl rfl rfl ⟨rfl, trivial⟩ (fun Xt => ?_)
 refine zv ?_
 unfold zcO at h
 refine jp ?_
 obtain ⟨rv, h_rv, h⟩ := bnd h
 refine jr (rl 1 [0] 9 Try.call15 (ziM h_rv) (rfl' [11])) ?_
 refine jp ?_
 obtain rfl := sj h
 exact zw lzz
theorem zmp {m : zr} {b : (List UInt8)} {fromv : Int} {r : (zb × Int)} (h : zeU m b fromv = some r) : FnOk Try.prog 17 [.rc zi [0] m, .sl Rp.byte [0] b, kI fromv] [.rc zd [] r.1, k8 r.2] := by
 refine zx (E := ⟨[(6, .ptr 2 0), (7, k8 r.2)], [⟨2, 49, [kI r.1.Record.Number, kI r.1.Record.Wire, kI r.1.Record.From, kI r.1.Record.At, kI r.1.Record.To, kI r.1.Field, kB r.1.Run]⟩]⟩) 15 Try.func17 rfl rfl rfl ⟨⟨_, _, rfl, rfl, rfl, rfl, ⟨Try.isAgg49, Try.sizeOf49⟩⟩, rfl, trivial⟩ (fun Xt => ?_)
 refine zv ?_
 unfold zeU at h
 refine jr (ra 0 [.rc zi [0] m] rfl (zhX 13 [kS m.Name, .sl za [0] m.Fields] [0] rfl rfl rfl rfl rfl) rfl (rfl' [14])) ?_
 obtain ⟨rv2, h_rv2, h⟩ := bnd h
 refine jr (rc 3 rfl (zfL (rk := zA) (rv := zD) 15 rfl) (rkl 0 [] ⟨[(6, .ptr 14 0), (8, .ag [kS m.Name, .sl za [0] m.Fields]), (9, .sl Rp.byte [0] b), (10, kI fromv), (11, .om zA zD 15 [] ([] : (List (zz × zE))))], [⟨14, 49, [kI 0, kI 0, kI 0, kI 0, kI 0, kI 0, kB false]⟩]⟩ (zct ⟨[(6, .ptr 14 0), (8, .ag [kS m.Name, .sl za [0] m.Fields]), (9, .sl Rp.byte [0] b), (10, kI fromv), (11, .om zA zD 15 [0] rv2.2.2)], [⟨14, 49, [kI 0, kI 0, kI 0, kI 0, kI 0, kI 0, kB false]⟩]⟩ (zhc.le (ins' := [(.tmp 8, .ag [kS m.Name, .sl za [0] m.Fields]), (.tmp 9, .sl Rp.byte [0] b), (.tmp 10, kI fromv), (.tmp 11, .om zA zD 15 [] ([] : (List (zz × zE))))]) (zfm (args := [.tmp 8, .tmp 9, .tmp 10, .tmp 11]) [.rc zi [0] m, .sl Rp.byte [0] b, kI fromv, .om zA zD 15 [] ([] : (List (zz × zE)))] [(15, 2)] [0] 15 [] rfl Try.call24 (zmr h_rv2) rfl rfl (by kernel_rfl) rfl rfl rfl) ⟨⟨rfl, ziW zi [0] m [kS m.Name, .sl za [0] m.Fields] rfl rfl⟩, ⟨rfl, AV.le_refl _⟩, ⟨rfl, AV.le_refl _⟩, ⟨rfl, AV.le_refl _⟩, trivial⟩) rfl (by kernel_rfl) (by kernel_rfl) ⟨⟨_, rfl, zn rfl⟩, ⟨_, rfl, zn rfl⟩, ⟨_, rfl, zn rfl⟩, ⟨_, rfl, zn rfl⟩, ⟨_, rfl, zbr 0 rfl⟩, trivial⟩ ⟨⟨_, rfl, rfl, rfl, ⟨zn rfl, zn rfl, zn rfl, zn rfl, zn rfl, zn rfl, zn rfl, trivial⟩⟩, trivial⟩ rf))) ?_
 obtain rfl := sj h
 refine zw ?_
 refine lk [6, 7] [14] 14 2 ?_
 exact lzz
theorem zkK {k : Int} {b : (List UInt8)} {r : (Int × (List UInt8))} (h : zfl k b = some r) : FnOk Try.prog 39 [kI k, .sl Rp.byte [0] b] [.fv 52 [.bp (Rp.int .i64) 3 905200 [] r.1, .bp (Rp.list Rp.byte) 24 905201 [0] r.2]] := by
 refine zx (E := ⟨[(4, .fv 52 [.bp (Rp.int .i64) 3 905200 [] r.1, .bp (Rp.list Rp.byte) 24 905201 [0] r.2])], []⟩) 6 Try.func39 rfl rfl rfl ⟨rfl, trivial⟩ (fun Xt => ?_)
 refine zv ?_
 unfold zfl at h
 refine jq [905200, 905201] ?_
 refine jr (ra 0 [.ptr 905200 0, .ptr 905201 0] rfl (zsj (g := 52) [.tmp 2, .tmp 3] [⟨905200, 3, [kI k]⟩, ⟨905201, 24, [.sl Rp.byte [0] b]⟩] [.bp (Rp.int .i64) 3 905200 [] k, .bp (Rp.list Rp.byte) 24 905201 [0] b] rfl ⟨⟨rfl, rfl, rfl, rfl⟩, ⟨rfl, rfl, rfl, rfl⟩, trivial⟩ rfl) rfl rf) ?_
 obtain rfl := sj h
 exact zw lzz
theorem zkM {sv : (List zr)} {root : Int} {d : Int} {r : Int} (h : zec sv root d = some r) : FnOk Try.prog 10 [.sl zi [0] sv, kI root, kI d] [k8 r] := by
 refine zx (E := ⟨[(6, k8 r)], []⟩) 28 Try.func10 rfl rfl rfl ⟨rfl, trivial⟩ (fun Xt => ?_)
 refine zv ?_
 unfold zec at h
 refine jp ?_
 refine zN ?_
 obtain ⟨rv, h_rv, h⟩ := bnd h
 refine jr (rl 1 [0] 9 Try.call12 (ziN h_rv) rf) ?_
 rcases zq h with ⟨hc1, h⟩ | ⟨hc1, h⟩
 ·
  refine jT hc1 ?_
  refine jp ?_
  obtain rfl := sj h
  exact zw lzz
 refine jF hc1 ?_
 refine zU ⟨[(11, kB ((decide (root < 0)) || ((decide (root ≥ (sv.length : Int))) || ((decide (d < 0)) || (decide (d > 64))))))], []⟩ ?_ ?_
 ·
  refine (rsl 3 [] 14 (decide (root < 0)) (fun hc2 => ?_) (fun hc2 => ?_))
  · exact (rbl [] 11 true ((decide (root < 0)) || ((decide (root ≥ (sv.length : Int))) || ((decide (d < 0)) || (decide (d > 64))))) (by rw [hc2] <;> rfl))
  refine (rsl 6 [] 20 (decide (root ≥ (sv.length : Int))) (fun hc3 => ?_) (fun hc3 => ?_))
  · exact (rbl [] 11 true ((decide (root < 0)) || ((decide (root ≥ (sv.length : Int))) || ((decide (d < 0)) || (decide (d > 64))))) (by rw [hc2, hc3] <;> rfl))
  refine (rsl 4 [] 24 (decide (d < 0)) (fun hc4 => ?_) (fun hc4 => ?_))
  · exact (rbl [] 11 true ((decide (root < 0)) || ((decide (root ≥ (sv.length : Int))) || ((decide (d < 0)) || (decide (d > 64))))) (by rw [hc2, hc3, hc4] <;> rfl))
  exact (rbl [] 11 (decide (d > 64)) ((decide (root < 0)) || ((decide (root ≥ (sv.length : Int))) || ((decide (d < 0)) || (decide (d > 64))))) (by rw [hc2, hc3, hc4] <;> rfl))
 rcases zq h with ⟨hc5, h⟩ | ⟨hc5, h⟩
 ·
  refine jT hc5 ?_
  refine jp ?_
  obtain rfl := sj h
  exact zw lzz
 refine jF hc5 ?_
 refine zav ?_
 refine jp ?_
 obtain rfl := sj h
 exact zw lzz
theorem zgX {wv : zG} {message : Int} {fromv : Int} {tov : Int} {r : (zb × Int × (List (zf × zb)))} (h : zbL wv message fromv tov = some r) : zcH Try.prog 13 [.ag [.sl zi [0] wv.s, .sl Rp.byte [0] wv.b, .om zc zd 2 [0] wv.met], kI message, kI fromv, kI tov] [.rc zd [] r.1, k8 r.2.1] [.ag [.any, .any, .om zc zd 2 [0] r.2.2], .any, .any, .any] := by
 refine zdJ (E := ⟨[(0, .ag [.any, .any, .om zc zd 2 [0] r.2.2]), (8, .ptr 3 0), (9, k8 r.2.1)], [⟨3, 49, [kI r.1.Record.Number, kI r.1.Record.Wire, kI r.1.Record.From, kI r.1.Record.At, kI r.1.Record.To, kI r.1.Field, kB r.1.Run]⟩]⟩) 67 [0] Try.func13 rfl rfl rfl ⟨⟨_, _, rfl, rfl, rfl, rfl, ⟨Try.isAgg49, Try.sizeOf49⟩⟩, rfl, trivial⟩ ⟨.inr ⟨rfl, rfl⟩, .inl rfl, .inl rfl, .inl rfl, trivial⟩ rfl (fun Xt old => ?_)
 refine zv ?_
 unfold zbL at h
 refine jq [13, 14] ?_
 obtain ⟨v, h_v, h⟩ := bnd h
 refine jr (ra 3 [.sl Rp.byte [0] wv.b, kI tov] rfl (zfe none (some (kI tov)) rfl zdz.el (zas _ _ _) ⟨rfl, rfl⟩ ⟨rfl, rfl⟩ h_v) rfl rf) ?_
 obtain ⟨rv, h_rv, h⟩ := bnd h
 refine jr (rl 2 [0] 13 Try.call16 (zfT h_rv) (rfl' [15])) ?_
 refine jp ?_
 rcases zq h with ⟨hc1, h⟩ | ⟨hc1, h⟩
 ·
  refine jT hc1 ?_
  refine jr (rc 0 rfl (zB (r := zd) [] [] (⟨(⟨0, 0, 0, 0, 0⟩ : zo), 0, false⟩ : zb) rfl znm rfl rfl) rf) ?_
  obtain rfl := sj h
  refine zbS ?_
  refine lk [0, 8, 9] [14] 14 3 ?_
  refine zbV ⟨[(0, .ag [.sl zi [0] wv.s, .sl Rp.byte [0] wv.b, .om zc zd 2 [0] wv.met]), (8, .ptr 3 0), (9, k8 rv.2)], [⟨3, 49, [kI 0, kI 0, kI 0, kI 0, kI 0, kI 0, kB false]⟩]⟩ (by kernel_rfl) ?_
  refine zch 0 (.ag [.any, .any, .om zc zd 2 [0] (((⟨(⟨0, 0, 0, 0, 0⟩ : zo), 0, false⟩ : zb), rv.2, wv.met) : (zb × Int × (List (zf × zb)))).2.2]) rfl (zcg ⟨zad _, zad _, AV.le_refl _, trivial⟩) ?_
  exact lzz
 refine jF hc1 ?_
 refine jr (rc 5 rfl (zB (r := zc) [kI message, kI rv.1.Number, kI rv.1.Wire] [] (⟨message, rv.1.Number, rv.1.Wire⟩ : zf) rfl ztQ rfl rfl) (rfl' [16])) ?_
 refine jr (lb 2 zc [] (⟨message, rv.1.Number, rv.1.Wire⟩ : zf) (ra 0 [.om zc zd 2 [0] wv.met, .rc zc [] (⟨message, rv.1.Number, rv.1.Wire⟩ : zf)] rfl (zjR (rk := zc) (rv := zd) (m := wv.met) (k := (⟨message, rv.1.Number, rv.1.Wire⟩ : zf)) (.rc zd [2, 0] ((mget wv.met (⟨message, rv.1.Number, rv.1.Wire⟩ : zf)).getD (⟨(⟨0, 0, 0, 0, 0⟩ : zo), 0, false⟩ : zb))) rfl zqY (zfa _ _ _ _ _) (zay rfl) (zlN rfl)) rfl (rfl' [17]))) ?_
 refine jp ?_
 rcases zq h with ⟨hc2, h⟩ | ⟨hc2, h⟩
 ·
  refine jT hc2 ?_
  obtain ⟨x, h_x, h⟩ := bnd h
  obtain ⟨rv2, h_rv2, h⟩ := bnd h
  refine jr (ra 3 [.sl zi [0] wv.s, kI message] rfl (zdD rfl ziG.el (zas _ _ _) h_x) rfl (ra 0 [.ep zi [0] x 0] rfl (zhZ rfl ⟨Try.isAgg36, Try.sizeOf36⟩) rfl (rl 2 [0] 16 Try.call17 (zmp h_rv2) rf))) ?_
  refine jp ?_
  rcases zq h with ⟨hc3, h⟩ | ⟨hc3, h⟩
  ·
   refine jT hc3 ?_
   refine jr (rc 0 rfl (zB (r := zd) [] [] (⟨(⟨0, 0, 0, 0, 0⟩ : zo), 0, false⟩ : zb) rfl znm rfl rfl) rf) ?_
   obtain rfl := sj h
   refine zbS ?_
   refine lk [0, 8, 9] [14] 14 3 ?_
   refine zbV ⟨[(0, .ag [.sl zi [0] wv.s, .sl Rp.byte [0] wv.b, .om zc zd 2 [0] wv.met]), (8, .ptr 3 0), (9, k8 rv2.2)], [⟨3, 49, [kI 0, kI 0, kI 0, kI 0, kI 0, kI 0, kB false]⟩]⟩ (by kernel_rfl) ?_
   refine zch 0 (.ag [.any, .any, .om zc zd 2 [0] (((⟨(⟨0, 0, 0, 0, 0⟩ : zo), 0, false⟩ : zb), rv2.2, wv.met) : (zb × Int × (List (zf × zb)))).2.2]) rfl (zcg ⟨zad _, zad _, AV.le_refl _, trivial⟩) ?_
   exact lzz
  refine jF hc3 ?_
  refine jr (lb 2 zc [] (⟨message, rv.1.Number, rv.1.Wire⟩ : zf) (lb 0 zd [] rv2.1 (rkl 0 [] ⟨[(0, .ag [.sl zi [0] wv.s, .sl Rp.byte [0] wv.b, .om zc zd 2 [0] wv.met]), (8, .ptr 14 0), (11, .ptr 15 0), (14, .ptr 17 0), (61, .om zc zd 2 [0] wv.met), (62, .rc zc [] (⟨message, rv.1.Number, rv.1.Wire⟩ : zf)), (63, .rc zd [] rv2.1)], [⟨14, 49, [kI 0, kI 0, kI 0, kI 0, kI 0, kI 0, kB false]⟩, ⟨15, 47, [kI rv.1.Number, kI rv.1.Wire, kI rv.1.From, kI rv.1.At, kI rv.1.To]⟩, ⟨17, 49, [kI rv2.1.Record.Number, kI rv2.1.Record.Wire, kI rv2.1.Record.From, kI rv2.1.Record.At, kI rv2.1.Record.To, kI rv2.1.Field, kB rv2.1.Run]⟩]⟩ (zct ⟨[(0, .ag [.sl zi [0] wv.s, .sl Rp.byte [0] wv.b, .om zc zd 2 [0] (mput wv.met (⟨message, rv.1.Number, rv.1.Wire⟩ : zf) rv2.1)]), (8, .ptr 14 0), (11, .ptr 15 0), (14, .ptr 17 0), (61, .om zc zd 2 [0] (mput wv.met (⟨message, rv.1.Number, rv.1.Wire⟩ : zf) rv2.1)), (62, .rc zc [] (⟨message, rv.1.Number, rv.1.Wire⟩ : zf)), (63, .rc zd [] rv2.1)], [⟨14, 49, [kI 0, kI 0, kI 0, kI 0, kI 0, kI 0, kB false]⟩, ⟨15, 47, [kI rv.1.Number, kI rv.1.Wire, kI rv.1.From, kI rv.1.At, kI rv.1.To]⟩, ⟨17, 49, [kI rv2.1.Record.Number, kI rv2.1.Record.Wire, kI rv2.1.Record.From, kI rv2.1.Record.At, kI rv2.1.Record.To, kI rv2.1.Field, kB rv2.1.Run]⟩]⟩ (zhG (rk := zc) (rv := zd) (m := wv.met) (ℓ := 2) (C := [0]) (C1 := []) (D := []) (⟨message, rv.1.Number, rv.1.Wire⟩ : zf) rv2.1 [0] zqY (.inl rfl) (zay rfl) (zay rfl) rfl) rfl (by kernel_rfl) (by kernel_rfl) ⟨⟨_, rfl, zeP ⟨zn rfl, zn rfl, zbr 0 rfl, trivial⟩⟩, ⟨_, rfl, zn rfl⟩, ⟨_, rfl, zn rfl⟩, ⟨_, rfl, zn rfl⟩, ⟨_, rfl, zbr 0 rfl⟩, ⟨_, rfl, zn rfl⟩, ⟨_, rfl, zn rfl⟩, trivial⟩ ⟨⟨_, rfl, rfl, rfl, ⟨zn rfl, zn rfl, zn rfl, zn rfl, zn rfl, zn rfl, zn rfl, trivial⟩⟩, ⟨_, rfl, rfl, rfl, ⟨zn rfl, zn rfl, zn rfl, zn rfl, zn rfl, trivial⟩⟩, ⟨_, rfl, rfl, rfl, ⟨zn rfl, zn rfl, zn rfl, zn rfl, zn rfl, zn rfl, zn rfl, trivial⟩⟩, trivial⟩ rf)))) ?_
  refine jr (lb 0 zO [] rv.1 rf) ?_
  refine jr (lb 0 zd [] (⟨rv.1, rv2.1.Field, rv2.1.Run⟩ : zb) rf) ?_
  obtain rfl := sj h
  refine zbS ?_
  refine lk [0, 8, 9] [14] 14 3 ?_
  refine zbV ⟨[(0, .ag [.sl zi [0] wv.s, .sl Rp.byte [0] wv.b, .om zc zd 2 [0] (mput wv.met (⟨message, rv.1.Number, rv.1.Wire⟩ : zf) rv2.1)]), (8, .ptr 3 0), (9, k8 0)], [⟨3, 49, [kI rv.1.Number, kI rv.1.Wire, kI rv.1.From, kI rv.1.At, kI rv.1.To, kI rv2.1.Field, kB rv2.1.Run]⟩]⟩ (by kernel_rfl) ?_
  refine zch 0 (.ag [.any, .any, .om zc zd 2 [0] (((⟨rv.1, rv2.1.Field, rv2.1.Run⟩ : zb), 0, (mput wv.met (⟨message, rv.1.Number, rv.1.Wire⟩ : zf) rv2.1)) : (zb × Int × (List (zf × zb)))).2.2]) rfl (zcg ⟨zad _, zad _, AV.le_refl _, trivial⟩) ?_
  exact lzz
 refine jF hc2 ?_
 refine jr (lb 0 zO [] rv.1 rf) ?_
 refine jr (lb 0 zd [] (⟨rv.1, ((mget wv.met (⟨message, rv.1.Number, rv.1.Wire⟩ : zf)).getD (⟨(⟨0, 0, 0, 0, 0⟩ : zo), 0, false⟩ : zb)).Field, ((mget wv.met (⟨message, rv.1.Number, rv.1.Wire⟩ : zf)).getD (⟨(⟨0, 0, 0, 0, 0⟩ : zo), 0, false⟩ : zb)).Run⟩ : zb) rf) ?_
 obtain rfl := sj h
 refine zbS ?_
 refine lk [0, 8, 9] [14] 14 3 ?_
 refine zbV ⟨[(0, .ag [.sl zi [0] wv.s, .sl Rp.byte [0] wv.b, .om zc zd 2 [0] wv.met]), (8, .ptr 3 0), (9, k8 0)], [⟨3, 49, [kI rv.1.Number, kI rv.1.Wire, kI rv.1.From, kI rv.1.At, kI rv.1.To, kI (((mget wv.met (⟨message, rv.1.Number, rv.1.Wire⟩ : zf)).getD (⟨(⟨0, 0, 0, 0, 0⟩ : zo), 0, false⟩ : zb)).Field), kB (((mget wv.met (⟨message, rv.1.Number, rv.1.Wire⟩ : zf)).getD (⟨(⟨0, 0, 0, 0, 0⟩ : zo), 0, false⟩ : zb)).Run)]⟩]⟩ (by kernel_rfl) ?_
 refine zch 0 (.ag [.any, .any, .om zc zd 2 [0] (((⟨rv.1, (((mget wv.met (⟨message, rv.1.Number, rv.1.Wire⟩ : zf)).getD (⟨(⟨0, 0, 0, 0, 0⟩ : zo), 0, false⟩ : zb)).Field), (((mget wv.met (⟨message, rv.1.Number, rv.1.Wire⟩ : zf)).getD (⟨(⟨0, 0, 0, 0, 0⟩ : zo), 0, false⟩ : zb)).Run)⟩ : zb), 0, wv.met) : (zb × Int × (List (zf × zb)))).2.2]) rfl (zcg ⟨zad _, zad _, AV.le_refl _, trivial⟩) ?_
 exact lzz
theorem zmg {k : Int} {b : (List UInt8)} {r : (Int × Int)} (h : zeJ k b = some r) : FnOk Try.prog 25 [kI k, .sl Rp.byte [0] b] [kI r.1, k8 r.2] := by
 refine zpj (E := ⟨[(4, .ptr 2 0), (5, .ptr 3 0)], [⟨2, 3, [kI r.1]⟩, ⟨3, 28, [k8 r.2]⟩]⟩) 20 Try.func25 rfl rfl rfl ⟨⟨_, _, rfl, rfl, rfl, rfl⟩, ⟨_, _, rfl, rfl, rfl, rfl⟩, trivial⟩ rfl rfl (fun Xt => ?_)
 refine zv ?_
 unfold zeJ at h
 refine jq [13, 14] ?_
 refine jq [15] ?_
 obtain ⟨rv, h_rv, h⟩ := bnd h
 refine jr (rl 2 [0] 0 Try.call39 (zkK h_rv) rf) ?_
 refine zN ?_
 obtain ⟨q, h_q, h⟩ := bnd h
 refine zli (E' := ⟨[(4, .ptr 13 0), (5, .ptr 14 0), (6, .ptr 15 0), (11, .fv 52 [.bp (Rp.int .i64) 3 905200 [] rv.1, .bp (Rp.list Rp.byte) 24 905201 [0] rv.2])], [⟨13, 3, [kI 0]⟩, ⟨14, 28, [k8 0]⟩, ⟨15, 3, [kI 0]⟩]⟩) ?_ ?_
 · exact lzz
 refine zqz (it := fun {σ : Type} (kf : Rnd σ ((List UInt8) × Int)) (sg : σ) => zbG rv.1 rv.2 kf sg) (ziK rv.1 rv.2) [905200, 905201] [4, 5, 6] [13, 14, 15] [(4, .ptr 13 0), (5, .ptr 14 0), (6, .ptr 15 0)] (fun s : Int => [⟨13, 3, [kI 0]⟩, ⟨14, 28, [k8 0]⟩, ⟨15, 3, [kI s]⟩]) (fun o : (Int × Int) => [⟨13, 3, [kI 0]⟩, ⟨14, 28, [k8 o.1]⟩, ⟨15, 3, [kI o.2]⟩]) (fun o : (Int × Int) => .ret) (fun (s : Int) (x : ((List UInt8) × Int)) => zbq s x.1 x.2) (fun (s : Int) (x : ((List UInt8) × Int)) => ⟨[(4, .ptr 13 0), (5, .ptr 14 0), (6, .ptr 15 0), (8, k8 x.2)], [⟨13, 3, [kI 0]⟩, ⟨14, 28, [k8 0]⟩, ⟨15, 3, [kI s]⟩]⟩) rfl rfl Try.call52 rfl rfl rfl rfl rfl rfl (fun _ => rfl) (fun o => rfl) rfl rfl (fun _ => rfl) ?_ (fun _ _ => ⟨rfl, rfl⟩) ?_ h_q ?_
 ·
  clear h
  intro Xr old f x
  obtain ⟨x, x2⟩ := x
  refine zv ?_
  refine zli (E' := ⟨[(13, k8 x2), (12, .sl Rp.byte [0] x), (4, .ptr 13 0), (5, .ptr 14 0), (6, .ptr 15 0)], [⟨13, 3, [kI 0]⟩, ⟨14, 28, [k8 0]⟩, ⟨15, 3, [kI f]⟩]⟩) (fun _ _ _ hs => hs) ?_
  refine jp ?_
  exact zab lzz
 ·
  clear h
  intro Xr old f x o h
  obtain ⟨x, x2⟩ := x
  refine zv ?_
  refine zli (E' := ⟨[(4, .ptr 13 0), (5, .ptr 14 0), (6, .ptr 15 0), (8, k8 x2)], [⟨13, 3, [kI 0]⟩, ⟨14, 28, [k8 0]⟩, ⟨15, 3, [kI f]⟩]⟩) (fun _ _ _ hs => hs) ?_
  replace h : zbq f x x2 = some o := h
  unfold zbq at h
  refine zN ?_
  refine jp ?_
  rcases zq h with ⟨hc1, h⟩ | ⟨hc1, h⟩
  ·
   refine jT hc1 ?_
   refine jp ?_
   obtain rfl := sj h
   exact zrW lzz
  refine jF hc1 ?_
  refine jp ?_
  refine zav ?_
  obtain rfl := sj h
  exact zab lzz
 rcases q with u | j
 ·
  refine zli (E' := ⟨[(4, .ptr 13 0), (5, .ptr 14 0), (6, .ptr 15 0)], [⟨13, 3, [kI 0]⟩, ⟨14, 28, [k8 0]⟩, ⟨15, 3, [kI u]⟩]⟩) (fun _ _ _ hs => hs) ?_
  refine zav ?_
  refine jp ?_
  obtain rfl := sj h
  refine zw ?_
  refine lk [4, 5] [13, 14] 13 2 ?_
  refine lk [4, 5] [2, 14] 14 3 ?_
  exact lzz
 refine zli (E' := ⟨[(4, .ptr 13 0), (5, .ptr 14 0), (6, .ptr 15 0)], [⟨13, 3, [kI 0]⟩, ⟨14, 28, [k8 j.1]⟩, ⟨15, 3, [kI j.2]⟩]⟩) (fun _ _ _ hs => hs) ?_
 obtain rfl := sj h
 refine zw ?_
 refine lk [4, 5] [13, 14] 13 2 ?_
 refine lk [4, 5] [2, 14] 14 3 ?_
 exact lzz
end Go.Proofs.Ytnfembipjdohcaa

/-
  The Go functions do what the plain functions say. No condition.
-/
import Derived.Test.YtnfembipjdohcaaGreatG7
namespace Go.Proofs.YtnfembipjdohcaaGreat
open Go Go.RowKit
set_option linter.unusedVariables false
set_option maxRecDepth 100000
set_option maxHeartbeats 3200000
theorem zmX {f : zc} {isRun : Bool} {value : (List UInt8)} {r : Int} (h : zeZ f isRun value = some r) : FnOk Tryz.prog 41 [.rc za [0] f, kB isRun, .sl Rp.byte [0] value] [k8 r] := by
 refine zx (E := ⟨[(6, k8 r)], []⟩) 32 Tryz.func41 rfl rfl rfl ⟨rfl, trivial⟩ (fun Xt => ?_)
 refine zr ?_
 unfold zeZ at h
 refine jq [11] ?_
 refine zA ?_
 refine jp ?_
 rcases zm h with ⟨hc1, h⟩ | ⟨hc1, h⟩
 ·
  refine jT hc1 ?_
  obtain ⟨rv, h_rv, h⟩ := bnd h
  refine jr (rl 3 [0] 10 Tryz.call55 (zoO h_rv) rf) ?_
  refine jp ?_
  obtain rfl := sj h
  exact zv lzz
 refine jF hc1 ?_
 obtain ⟨g, h_g, h⟩ := bnd h
 refine zE ⟨[(3, .ptr 11 0), (19, kB g)], [⟨11, 39, [kS f.Name, kI f.Number, kI f.Kind, kB f.Repeated, kB f.Packed, kI f.Of]⟩]⟩ ?_ ?_
 ·
  refine (rsl 4 [] 23 (f.Kind == 15) (fun hc2 => ?_) (fun hc2 => ?_))
  ·
   replace h_g := iteT h_g hc2
   obtain ⟨rv2, h_rv2, h_g⟩ := bnd h_g
   obtain rfl := sj h_g
   exact (rl 1 [0] 10 Tryz.call56 (zoY h_rv2) (rel [] lzz))
  replace h_g := iteF h_g hc2
  obtain rfl := sj h_g
  exact (rel [] lzz)
 rcases zm h with ⟨hc3, h⟩ | ⟨hc3, h⟩
 ·
  refine jT hc3 ?_
  refine jp ?_
  obtain rfl := sj h
  exact zv lzz
 refine jF hc3 ?_
 refine jp ?_
 rcases zm h with ⟨hc4, h⟩ | ⟨hc4, h⟩
 ·
  refine jT hc4 ?_
  refine jp ?_
  obtain rfl := sj h
  exact zv lzz
 refine jF hc4 ?_
 refine zap ?_
 refine jp ?_
 obtain rfl := sj h
 exact zv lzz
theorem zhu {rec_valid_walk_message : zN → Int → Int → Int → Int → Option (zt × (List (zg × zb)))} {rec_valid_walk_value : zN → Int → zb → Int → Option (zt × (List (zg × zb)))} (hrec_valid_walk_message : ∀ {wv : zN} {message : Int} {fromv : Int} {tov : Int} {d : Int} {r : (zt × (List (zg × zb)))}, rec_valid_walk_message wv message fromv tov d = some r → zej Tryz.prog 19 [.ag [.sl zd [0] wv.s, .sl Rp.byte [0] wv.b, .om ze zf 2 [0] wv.met], kI message, kI fromv, kI tov, kI d] [.rc zS [] r.1] [.ag [.any, .any, .om ze zf 2 [0] r.2], .any, .any, .any, .any]) (hrec_valid_walk_value : ∀ {wv : zN} {message : Int} {v : zb} {d : Int} {r : (zt × (List (zg × zb)))}, rec_valid_walk_value wv message v d = some r → zej Tryz.prog 26 [.ag [.sl zd [0] wv.s, .sl Rp.byte [0] wv.b, .om ze zf 2 [0] wv.met], kI message, .rc zf [0] v, kI d] [.rc zS [] r.1] [.ag [.any, .any, .om ze zf 2 [0] r.2], .any, .any, .any]) {wv : zN} {message : Int} {fromv : Int} {tov : Int} {d : Int} {r : (zt × (List (zg × zb)))} (h : zbM rec_valid_walk_message rec_valid_walk_value wv message fromv tov d = some r) : zej Tryz.prog 19 [.ag [.sl zd [0] wv.s, .sl Rp.byte [0] wv.b, .om ze zf 2 [0] wv.met], kI message, kI fromv, kI tov, kI d] [.rc zS [] r.1] [.ag [.any, .any, .om ze zf 2 [0] r.2], .any, .any, .any, .any] := by
 refine zfq (E := ⟨[(0, .ag [.any, .any, .om ze zf 2 [0] r.2]), (10, .ptr 3 0)], [⟨3, 44, [kI r.1.depth, kI r.1.place, k8 r.1.e]⟩]⟩) 49 [0] Tryz.func19 rfl rfl rfl ⟨⟨_, _, rfl, rfl, rfl, rfl, ⟨Tryz.isAgg44, Tryz.sizeOf44⟩⟩, trivial⟩ ⟨.inr ⟨rfl, rfl⟩, .inl rfl, .inl rfl, .inl rfl, .inl rfl, trivial⟩ rfl (fun Xt old => ?_)
 refine zr ?_
 unfold zbM at h
 refine jq [13, 14] ?_
 refine jp ?_
 refine zA ?_
 obtain ⟨q, h_q, h⟩ := bnd h
 refine zaW (fun s : ((List (zg × zb)) × Int × Int) => zO d message rec_valid_walk_value tov wv s.1 s.2.1 s.2.2) (fun s => ⟨[(0, .ag [.sl zd [0] wv.s, .sl Rp.byte [0] wv.b, .om ze zf 2 [0] s.1]), (1, kI message), (2, kI s.2.1), (3, kI tov), (4, kI d), (5, .ptr 13 0), (10, .ptr 14 0), (11, kI s.2.2)], [⟨13, 48, [.sl zd [0] wv.s, .sl Rp.byte [0] wv.b, .om ze zf 2 [0] s.1]⟩, ⟨14, 44, [kI 0, kI 0, k8 0]⟩]⟩) (fun o e a w => match o with | (.inl v_) => e = .exit 0 ∧ Sx ⟨⟨49, [0]⟩, Xt, false, old⟩ ⟨[(0, .ag [.sl zd [0] wv.s, .sl Rp.byte [0] wv.b, .om ze zf 2 [0] v_.1]), (10, .ptr 14 0), (11, kI v_.2)], [⟨14, 44, [kI 0, kI 0, k8 0]⟩]⟩ a w | (.inr v_) => e = .ret ∧ Sx ⟨⟨49, [0]⟩, Xt, false, old⟩ ⟨[(0, .ag [.sl zd [0] wv.s, .sl Rp.byte [0] wv.b, .om ze zf 2 [0] v_.1]), (10, .ptr 14 0)], [⟨14, 44, [kI v_.2.1, kI v_.2.2.1, k8 v_.2.2.2]⟩]⟩ a w) ?_ h_q lzz ?_
 ·
  clear h
  intro s o h
  obtain ⟨wv2, fromv2, depth⟩ := s
  refine zr ?_
  replace h : zO d message rec_valid_walk_value tov wv wv2 fromv2 depth = some o := h
  unfold zO at h
  refine jp ?_
  rcases zm h with ⟨hc1, h⟩ | ⟨hc1, h⟩
  ·
   refine jT hc1 ?_
   refine zA ?_
   obtain ⟨rv2, h_rv2, h⟩ := bnd h
   refine jr (rkl 4 [] ⟨[(0, .ag [.sl zd [0] wv.s, .sl Rp.byte [0] wv.b, .om ze zf 2 [0] wv2]), (1, kI message), (2, kI fromv2), (3, kI tov), (4, kI d), (5, .ptr 13 0), (10, .ptr 14 0), (11, kI depth), (19, .ag [.sl zd [0] wv.s, .sl Rp.byte [0] wv.b, .om ze zf 2 [0] wv2]), (20, kI message), (21, kI fromv2), (22, kI tov)], [⟨13, 48, [.sl zd [0] wv.s, .sl Rp.byte [0] wv.b, .om ze zf 2 [0] wv2]⟩, ⟨14, 44, [kI 0, kI 0, k8 0]⟩]⟩ (zdU ⟨[(0, .ag [.sl zd [0] wv.s, .sl Rp.byte [0] wv.b, .om ze zf 2 [0] rv2.2.2]), (1, kI message), (2, kI fromv2), (3, kI tov), (4, kI d), (5, .ptr 13 0), (10, .ptr 14 0), (11, kI depth), (19, .ag [.sl zd [0] wv.s, .sl Rp.byte [0] wv.b, .om ze zf 2 [0] rv2.2.2]), (20, kI message), (21, kI fromv2), (22, kI tov)], [⟨13, 48, [.sl zd [0] wv.s, .sl Rp.byte [0] wv.b, .om ze zf 2 [0] rv2.2.2]⟩, ⟨14, 44, [kI 0, kI 0, k8 0]⟩]⟩ (zht [.ag [.sl zd [0] wv.s, .sl Rp.byte [0] wv.b, .om ze zf 2 [0] wv2], kI message, kI fromv2, kI tov] [(2, 2)] [0] 15 [] rfl Tryz.call25 (zjw h_rv2) rfl rfl (by kernel_rfl) rfl rfl rfl) rfl (by kernel_rfl) (by kernel_rfl) ⟨⟨_, rfl, zgU ⟨zq rfl, zq rfl, zcB 0 rfl, trivial⟩⟩, ⟨_, rfl, zq rfl⟩, ⟨_, rfl, zq rfl⟩, ⟨_, rfl, zq rfl⟩, ⟨_, rfl, zq rfl⟩, ⟨_, rfl, zq rfl⟩, ⟨_, rfl, zq rfl⟩, ⟨_, rfl, zq rfl⟩, ⟨_, rfl, zgU ⟨zq rfl, zq rfl, zcB 0 rfl, trivial⟩⟩, ⟨_, rfl, zq rfl⟩, ⟨_, rfl, zq rfl⟩, ⟨_, rfl, zq rfl⟩, trivial⟩ ⟨⟨_, rfl, rfl, rfl, ⟨zq rfl, zq rfl, zcB 0 rfl, trivial⟩⟩, ⟨_, rfl, rfl, rfl, ⟨zq rfl, zq rfl, zq rfl, trivial⟩⟩, trivial⟩ (rfl' [18]))) ?_
   refine jp ?_
   rcases zm h with ⟨hc2, h⟩ | ⟨hc2, h⟩
   ·
    refine jT hc2 ?_
    refine jr (rc 2 rfl (zC (r := zS) [kI fromv2, k8 rv2.2.1] [] (⟨0, fromv2, rv2.2.1⟩ : zt) rfl zoc rfl rfl) rf) ?_
    obtain rfl := sj h
    exact zaY lzz
   refine jF hc2 ?_
   obtain ⟨rv4, h_rv4, h⟩ := bnd h
   refine jr (lb 2 zf [] rv2.1 (rkl 1 [] ⟨[(0, .ag [.sl zd [0] wv.s, .sl Rp.byte [0] wv.b, .om ze zf 2 [0] rv2.2.2]), (1, kI message), (3, kI tov), (4, kI d), (5, .ptr 13 0), (10, .ptr 14 0), (11, kI depth), (12, .ptr 18 0), (31, .ag [.sl zd [0] wv.s, .sl Rp.byte [0] wv.b, .om ze zf 2 [0] rv2.2.2]), (32, kI message), (33, .rc zf [] rv2.1), (34, kI d)], [⟨13, 48, [.sl zd [0] wv.s, .sl Rp.byte [0] wv.b, .om ze zf 2 [0] rv2.2.2]⟩, ⟨14, 44, [kI 0, kI 0, k8 0]⟩, ⟨18, 68, [kI rv2.1.Record.Number, kI rv2.1.Record.Wire, kI rv2.1.Record.From, kI rv2.1.Record.At, kI rv2.1.Record.To, kI rv2.1.Field, kB rv2.1.Run]⟩]⟩ (zdU ⟨[(0, .ag [.sl zd [0] wv.s, .sl Rp.byte [0] wv.b, .om ze zf 2 [0] rv4.2]), (1, kI message), (3, kI tov), (4, kI d), (5, .ptr 13 0), (10, .ptr 14 0), (11, kI depth), (12, .ptr 18 0), (31, .ag [.sl zd [0] wv.s, .sl Rp.byte [0] wv.b, .om ze zf 2 [0] rv4.2]), (32, kI message), (33, .rc zf [] rv2.1), (34, kI d)], [⟨13, 48, [.sl zd [0] wv.s, .sl Rp.byte [0] wv.b, .om ze zf 2 [0] rv4.2]⟩, ⟨14, 44, [kI 0, kI 0, k8 0]⟩, ⟨18, 68, [kI rv2.1.Record.Number, kI rv2.1.Record.Wire, kI rv2.1.Record.From, kI rv2.1.Record.At, kI rv2.1.Record.To, kI rv2.1.Field, kB rv2.1.Run]⟩]⟩ (zht [.ag [.sl zd [0] wv.s, .sl Rp.byte [0] wv.b, .om ze zf 2 [0] rv2.2.2], kI message, .rc zf [] rv2.1, kI d] [(2, 2)] [0] 18 [] rfl Tryz.call26 (hrec_valid_walk_value h_rv4) rfl rfl (by kernel_rfl) rfl rfl rfl) rfl (by kernel_rfl) (by kernel_rfl) ⟨⟨_, rfl, zgU ⟨zq rfl, zq rfl, zcB 0 rfl, trivial⟩⟩, ⟨_, rfl, zq rfl⟩, ⟨_, rfl, zq rfl⟩, ⟨_, rfl, zq rfl⟩, ⟨_, rfl, zq rfl⟩, ⟨_, rfl, zq rfl⟩, ⟨_, rfl, zq rfl⟩, ⟨_, rfl, zq rfl⟩, ⟨_, rfl, zgU ⟨zq rfl, zq rfl, zcB 0 rfl, trivial⟩⟩, ⟨_, rfl, zq rfl⟩, ⟨_, rfl, zq rfl⟩, ⟨_, rfl, zq rfl⟩, trivial⟩ ⟨⟨_, rfl, rfl, rfl, ⟨zq rfl, zq rfl, zcB 0 rfl, trivial⟩⟩, ⟨_, rfl, rfl, rfl, ⟨zq rfl, zq rfl, zq rfl, trivial⟩⟩, ⟨_, rfl, rfl, rfl, ⟨zq rfl, zq rfl, zq rfl, zq rfl, zq rfl, zq rfl, zq rfl, trivial⟩⟩, trivial⟩ (rfl' [21])))) ?_
   refine jp ?_
   rcases zm h with ⟨hc3, h⟩ | ⟨hc3, h⟩
   ·
    refine jT hc3 ?_
    refine jr (lb 0 zS [] rv4.1 rf) ?_
    obtain rfl := sj h
    exact zaY lzz
   refine jF hc3 ?_
   refine jp ?_
   refine jp ?_
   refine zap ?_
   obtain rfl := sj h
   exact zF lzz
  refine jF hc1 ?_
  obtain rfl := sj h
  exact zaX rfl lzz
 rcases q with u | u2
 ·
  refine zbI _ rfl ?_
  refine jr (rc 1 rfl (zC (r := zS) [kI u.2] [] (⟨u.2, 0, 0⟩ : zt) rfl zoc rfl rfl) rf) ?_
  obtain rfl := sj h
  refine zdp ?_
  refine lk [0, 10] [14] 14 3 ?_
  refine zcK ⟨[(0, .ag [.sl zd [0] wv.s, .sl Rp.byte [0] wv.b, .om ze zf 2 [0] u.1]), (10, .ptr 3 0)], [⟨3, 44, [kI u.2, kI 0, k8 0]⟩]⟩ (by kernel_rfl) ?_
  refine zcQ 0 (.ag [.any, .any, .om ze zf 2 [0] (((⟨u.2, 0, 0⟩ : zt), u.1) : (zt × (List (zg × zb)))).2]) rfl (zdG ⟨zaw _, zaw _, AV.le_refl _, trivial⟩) ?_
  exact lzz
 obtain rfl := sj h
 refine zwz ?_
 refine lk [0, 10] [14] 14 3 ?_
 refine zcK ⟨[(0, .ag [.sl zd [0] wv.s, .sl Rp.byte [0] wv.b, .om ze zf 2 [0] u2.1]), (10, .ptr 3 0)], [⟨3, 44, [kI u2.2.1, kI u2.2.2.1, k8 u2.2.2.2]⟩]⟩ (by kernel_rfl) ?_
 refine zcQ 0 (.ag [.any, .any, .om ze zf 2 [0] (((⟨u2.2.1, u2.2.2.1, u2.2.2.2⟩ : zt), u2.1) : (zt × (List (zg × zb)))).2]) rfl (zdG ⟨zaw _, zaw _, AV.le_refl _, trivial⟩) ?_
 exact lzz
theorem ziz {rec_valid_walk_message : zN → Int → Int → Int → Int → Option (zt × (List (zg × zb)))} {rec_valid_walk_value : zN → Int → zb → Int → Option (zt × (List (zg × zb)))} (hrec_valid_walk_message : ∀ {wv : zN} {message : Int} {fromv : Int} {tov : Int} {d : Int} {r : (zt × (List (zg × zb)))}, rec_valid_walk_message wv message fromv tov d = some r → zej Tryz.prog 19 [.ag [.sl zd [0] wv.s, .sl Rp.byte [0] wv.b, .om ze zf 2 [0] wv.met], kI message, kI fromv, kI tov, kI d] [.rc zS [] r.1] [.ag [.any, .any, .om ze zf 2 [0] r.2], .any, .any, .any, .any]) (hrec_valid_walk_value : ∀ {wv : zN} {message : Int} {v : zb} {d : Int} {r : (zt × (List (zg × zb)))}, rec_valid_walk_value wv message v d = some r → zej Tryz.prog 26 [.ag [.sl zd [0] wv.s, .sl Rp.byte [0] wv.b, .om ze zf 2 [0] wv.met], kI message, .rc zf [0] v, kI d] [.rc zS [] r.1] [.ag [.any, .any, .om ze zf 2 [0] r.2], .any, .any, .any]) {wv : zN} {message : Int} {v : zb} {d : Int} {r : (zt × (List (zg × zb)))} (h : zbE rec_valid_walk_message rec_valid_walk_value wv message v d = some r) : zej Tryz.prog 26 [.ag [.sl zd [0] wv.s, .sl Rp.byte [0] wv.b, .om ze zf 2 [0] wv.met], kI message, .rc zf [0] v, kI d] [.rc zS [] r.1] [.ag [.any, .any, .om ze zf 2 [0] r.2], .any, .any, .any] := by
 refine zfq (E := ⟨[(0, .ag [.any, .any, .om ze zf 2 [0] r.2]), (8, .ptr 3 0)], [⟨3, 44, [kI r.1.depth, kI r.1.place, k8 r.1.e]⟩]⟩) 71 [0] Tryz.func26 rfl rfl rfl ⟨⟨_, _, rfl, rfl, rfl, rfl, ⟨Tryz.isAgg44, Tryz.sizeOf44⟩⟩, trivial⟩ ⟨.inr ⟨rfl, rfl⟩, .inl rfl, .inl rfl, .inl rfl, trivial⟩ rfl (fun Xt old => ?_)
 refine zr ?_
 unfold zbE at h
 refine jq [14, 15, 16] ?_
 refine jp ?_
 rcases zm h with ⟨hc1, h⟩ | ⟨hc1, h⟩
 ·
  refine jT hc1 ?_
  refine jr (rc 0 rfl (zC (r := zS) [] [] (⟨0, 0, 0⟩ : zt) rfl zoc rfl rfl) rf) ?_
  obtain rfl := sj h
  refine zdp ?_
  refine lk [0, 8] [16] 16 3 ?_
  refine zcK ⟨[(0, .ag [.sl zd [0] wv.s, .sl Rp.byte [0] wv.b, .om ze zf 2 [0] wv.met]), (8, .ptr 3 0)], [⟨3, 44, [kI 0, kI 0, k8 0]⟩]⟩ (by kernel_rfl) ?_
  refine zcQ 0 (.ag [.any, .any, .om ze zf 2 [0] (((⟨0, 0, 0⟩ : zt), wv.met) : (zt × (List (zg × zb)))).2]) rfl (zdG ⟨zaw _, zaw _, AV.le_refl _, trivial⟩) ?_
  exact lzz
 refine jF hc1 ?_
 obtain ⟨x, h_x, h⟩ := bnd h
 obtain ⟨x2, h_x2, h⟩ := bnd h
 refine jd [0, 3, 4, 6, 8, 9] [14, 15, 16, 17] zdQ (by exact (lw_e (lw_e (lw_e (ly [.sl zd [0] wv.s, kI message] (zbx rfl zet.el (zR _ _ _) h_x) rfl (lw_e (ly [.ep zd [0] x 1] (zgs za x.Fields rfl rfl rfl) rfl (lw_e (lw_e (ly [.sl za [0] x.Fields, kI v.Field] (zbx rfl zhD.el (zR _ _ _) h_x2) rfl (ly [.ep za [0] x2 0] (zgr rfl ⟨Tryz.isAgg39, Tryz.sizeOf39⟩) rfl (lx (zjR 17 [kS [], kI 0, kI 0, kB false, kB false, kI 0] rfl Tryz.zeroValue39 rfl) (ly [.ptr 17 0, .rc za [0] x2] (zky (r := za) (b := ⟨17, 39, [kS [], kI 0, kI 0, kB false, kB false, kI 0]⟩) (off := 0) [kS x2.Name, kI x2.Number, kI x2.Kind, kB x2.Repeated, kB x2.Packed, kI x2.Of] rfl Tryz.sizeOf39 rfl rfl rfl rfl) rfl l0))))))))))))) ?_
 refine zE ⟨[(0, .ag [.sl zd [0] wv.s, .sl Rp.byte [0] wv.b, .om ze zf 2 [0] wv.met]), (3, kI d), (4, .ptr 14 0), (6, .ptr 15 0), (8, .ptr 16 0), (9, .ptr 17 0), (32, kB ((x2.Kind == 17) && (decide (d > 0))))], [⟨14, 48, [.sl zd [0] wv.s, .sl Rp.byte [0] wv.b, .om ze zf 2 [0] wv.met]⟩, ⟨15, 68, [kI v.Record.Number, kI v.Record.Wire, kI v.Record.From, kI v.Record.At, kI v.Record.To, kI v.Field, kB v.Run]⟩, ⟨16, 44, [kI 0, kI 0, k8 0]⟩, ⟨17, 39, [kS x2.Name, kI x2.Number, kI x2.Kind, kB x2.Repeated, kB x2.Packed, kI x2.Of]⟩]⟩ ?_ ?_
 ·
  refine (rsl 4 [] 29 (x2.Kind == 17) (fun hc2 => ?_) (fun hc2 => ?_))
  · exact (rbl [] 32 (decide (d > 0)) ((x2.Kind == 17) && (decide (d > 0))) (by rw [hc2] <;> rfl))
  exact (rbl [] 32 false ((x2.Kind == 17) && (decide (d > 0))) (by rw [hc2] <;> rfl))
 rcases zm h with ⟨hc3, h⟩ | ⟨hc3, h⟩
 ·
  refine jT hc3 ?_
  obtain ⟨rv2, h_rv2, h⟩ := bnd h
  refine jr (rkl 11 [] ⟨[(0, .ag [.sl zd [0] wv.s, .sl Rp.byte [0] wv.b, .om ze zf 2 [0] wv.met]), (8, .ptr 16 0), (33, .ag [.sl zd [0] wv.s, .sl Rp.byte [0] wv.b, .om ze zf 2 [0] wv.met]), (35, kI x2.Of), (38, kI v.Record.At), (41, kI v.Record.To), (43, kI (IntKind.i64.wrap (d - 1)))], [⟨16, 44, [kI 0, kI 0, k8 0]⟩]⟩ (zdU ⟨[(0, .ag [.sl zd [0] wv.s, .sl Rp.byte [0] wv.b, .om ze zf 2 [0] rv2.2]), (8, .ptr 16 0), (33, .ag [.sl zd [0] wv.s, .sl Rp.byte [0] wv.b, .om ze zf 2 [0] rv2.2]), (35, kI x2.Of), (38, kI v.Record.At), (41, kI v.Record.To), (43, kI (IntKind.i64.wrap (d - 1)))], [⟨16, 44, [kI 0, kI 0, k8 0]⟩]⟩ (zht [.ag [.sl zd [0] wv.s, .sl Rp.byte [0] wv.b, .om ze zf 2 [0] wv.met], kI x2.Of, kI v.Record.At, kI v.Record.To, kI (IntKind.i64.wrap (d - 1))] [(2, 2)] [0] 17 [] rfl Tryz.call19 (hrec_valid_walk_message h_rv2) rfl rfl (by kernel_rfl) rfl rfl rfl) rfl (by kernel_rfl) (by kernel_rfl) ⟨⟨_, rfl, zgU ⟨zq rfl, zq rfl, zcB 0 rfl, trivial⟩⟩, ⟨_, rfl, zq rfl⟩, ⟨_, rfl, zgU ⟨zq rfl, zq rfl, zcB 0 rfl, trivial⟩⟩, ⟨_, rfl, zq rfl⟩, ⟨_, rfl, zq rfl⟩, ⟨_, rfl, zq rfl⟩, ⟨_, rfl, zq rfl⟩, trivial⟩ ⟨⟨_, rfl, rfl, rfl, ⟨zq rfl, zq rfl, zq rfl, trivial⟩⟩, trivial⟩ (rfl' [20]))) ?_
  refine jp ?_
  refine jr (lb 0 zS [] (⟨(IntKind.i64.wrap (rv2.1.depth + 1)), rv2.1.place, rv2.1.e⟩ : zt) rf) ?_
  obtain rfl := sj h
  refine zdp ?_
  refine lk [0, 8] [16] 16 3 ?_
  refine zcK ⟨[(0, .ag [.sl zd [0] wv.s, .sl Rp.byte [0] wv.b, .om ze zf 2 [0] rv2.2]), (8, .ptr 3 0)], [⟨3, 44, [kI (IntKind.i64.wrap (rv2.1.depth + 1)), kI rv2.1.place, k8 rv2.1.e]⟩]⟩ (by kernel_rfl) ?_
  refine zcQ 0 (.ag [.any, .any, .om ze zf 2 [0] (((⟨(IntKind.i64.wrap (rv2.1.depth + 1)), rv2.1.place, rv2.1.e⟩ : zt), rv2.2) : (zt × (List (zg × zb)))).2]) rfl (zdG ⟨zaw _, zaw _, AV.le_refl _, trivial⟩) ?_
  exact lzz
 refine jF hc3 ?_
 obtain ⟨v3, h_v3, h⟩ := bnd h
 obtain ⟨rv3, h_rv3, h⟩ := bnd h
 refine jd [0, 6, 8, 11] [15, 16] zdQ (by exact (ly [.ptr 17 0] (ztW (r := za) (b := ⟨17, 39, [kS x2.Name, kI x2.Number, kI x2.Kind, kB x2.Repeated, kB x2.Packed, kI x2.Of]⟩) x2 [] rfl ⟨Tryz.isAgg39, Tryz.sizeOf39⟩ rfl rfl) rfl (lw_e (lw_e (lw_e (lw_e (lw_e (lw_e (lw_e (lw_e (lw_e (lw_e (ly [.sl Rp.byte [0] wv.b, kI v.Record.At, kI v.Record.To] (zfD (some (kI v.Record.At)) (some (kI v.Record.To)) rfl zde.el (zR _ _ _) ⟨rfl, rfl⟩ ⟨rfl, rfl⟩ h_v3) rfl (lx (lf1 41 (zhk [.rc za [] x2, kB v.Run, .sl Rp.byte [0] v3] [0] 19 rfl Tryz.call41 (zmX h_rv3) rfl rfl rfl rfl rfl)) l0)))))))))))))) ?_
 refine jp ?_
 rcases zm h with ⟨hc4, h⟩ | ⟨hc4, h⟩
 ·
  refine jT hc4 ?_
  refine jr (rc 4 rfl (zC (r := zS) [kI v.Record.From, k8 rv3] [] (⟨0, v.Record.From, rv3⟩ : zt) rfl zoc rfl rfl) rf) ?_
  obtain rfl := sj h
  refine zdp ?_
  refine lk [0, 8] [16] 16 3 ?_
  refine zcK ⟨[(0, .ag [.sl zd [0] wv.s, .sl Rp.byte [0] wv.b, .om ze zf 2 [0] wv.met]), (8, .ptr 3 0)], [⟨3, 44, [kI 0, kI v.Record.From, k8 rv3]⟩]⟩ (by kernel_rfl) ?_
  refine zcQ 0 (.ag [.any, .any, .om ze zf 2 [0] (((⟨0, v.Record.From, rv3⟩ : zt), wv.met) : (zt × (List (zg × zb)))).2]) rfl (zdG ⟨zaw _, zaw _, AV.le_refl _, trivial⟩) ?_
  exact lzz
 refine jF hc4 ?_
 refine jr (rc 0 rfl (zC (r := zS) [] [] (⟨0, 0, 0⟩ : zt) rfl zoc rfl rfl) rf) ?_
 obtain rfl := sj h
 refine zdp ?_
 refine lk [0, 8] [16] 16 3 ?_
 refine zcK ⟨[(0, .ag [.sl zd [0] wv.s, .sl Rp.byte [0] wv.b, .om ze zf 2 [0] wv.met]), (8, .ptr 3 0)], [⟨3, 44, [kI 0, kI 0, k8 0]⟩]⟩ (by kernel_rfl) ?_
 refine zcQ 0 (.ag [.any, .any, .om ze zf 2 [0] (((⟨0, 0, 0⟩ : zt), wv.met) : (zt × (List (zg × zb)))).2]) rfl (zdG ⟨zaw _, zaw _, AV.le_refl _, trivial⟩) ?_
 exact lzz
theorem zcX (fuel : Nat) : (∀ {wv : zN} {message : Int} {fromv : Int} {tov : Int} {d : Int} {r : (zt × (List (zg × zb)))}, zaq fuel wv message fromv tov d = some r → zej Tryz.prog 19 [.ag [.sl zd [0] wv.s, .sl Rp.byte [0] wv.b, .om ze zf 2 [0] wv.met], kI message, kI fromv, kI tov, kI d] [.rc zS [] r.1] [.ag [.any, .any, .om ze zf 2 [0] r.2], .any, .any, .any, .any]) ∧ (∀ {wv : zN} {message : Int} {v : zb} {d : Int} {r : (zt × (List (zg × zb)))}, zbD fuel wv message v d = some r → zej Tryz.prog 26 [.ag [.sl zd [0] wv.s, .sl Rp.byte [0] wv.b, .om ze zf 2 [0] wv.met], kI message, .rc zf [0] v, kI d] [.rc zS [] r.1] [.ag [.any, .any, .om ze zf 2 [0] r.2], .any, .any, .any]) := by
  induction fuel with
  | zero => exact ⟨fun h => absurd h nofun, fun h => absurd h nofun⟩
  | succ fuel ih => exact ⟨fun h => zhu (fun hh => ih.1 hh) (fun hh => ih.2 hh) h, fun h => ziz (fun hh => ih.1 hh) (fun hh => ih.2 hh) h⟩
theorem zhP {fuel : Nat} {wv : zN} {message : Int} {fromv : Int} {tov : Int} {d : Int} {r : (zt × (List (zg × zb)))} (h : zaq fuel wv message fromv tov d = some r) : zej Tryz.prog 19 [.ag [.sl zd [0] wv.s, .sl Rp.byte [0] wv.b, .om ze zf 2 [0] wv.met], kI message, kI fromv, kI tov, kI d] [.rc zS [] r.1] [.ag [.any, .any, .om ze zf 2 [0] r.2], .any, .any, .any, .any] := (zcX fuel).1 h
end Go.Proofs.YtnfembipjdohcaaGreat

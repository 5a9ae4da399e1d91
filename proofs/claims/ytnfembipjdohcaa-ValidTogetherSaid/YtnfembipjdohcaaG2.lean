/-
  The Go functions do what the plain functions say. No condition.
-/
import Derived.Test.YtnfembipjdohcaaG1
import Derived.Test.YtnfembipjdohcaaY
namespace Go.Proofs.Ytnfembipjdohcaa
open Go Go.RowKit
set_option linter.unusedVariables false
set_option maxRecDepth 100000
set_option maxHeartbeats 3200000
theorem zmV  {r : (List Int)} (h : zfJ = some r) : FnOk Try.prog 19 [] [.own (Rp.int .i64) 3 2 [] r] := by
 refine zx (E := ⟨[(0, .own (Rp.int .i64) 3 2 [] r)], []⟩) 4 Try.func19 rfl rfl rfl ⟨rfl, trivial⟩ (fun Xt => ?_)
 refine zv ?_
 unfold zfJ at h
 refine jp ?_
 obtain ⟨rv, h_rv, h⟩ := bnd h
 obtain ⟨v, h_v, h⟩ := bnd h
 refine jr (rl 0 [1] 11 Try.call29 (zgx h_rv) (rkl 0 [] ⟨[(1, .om (Rp.int .i64) zt 13 [] rv)], []⟩ (zrk (rv := zt) (m := rv) 14 zsv rfl rfl rfl rfl rfl rfl Try.call28 Try.call27 rfl (zfa _ _ _ _ _) h_v rfl rf))) ?_
 obtain rfl := sj h
 refine zw ?_
 refine lk [0] [] 14 2 ?_
 exact lzz
theorem zeN {name : Str} {r : Bool} (h : zbN name = some r) : FnOk Try.prog 30 [kS name] [kB r] := by
 refine zx (E := ⟨[(2, kB r)], []⟩) 34 Try.func30 rfl rfl rfl ⟨rfl, trivial⟩ (fun Xt => ?_)
 refine zv ?_
 unfold zbN at h
 refine jp ?_
 obtain ⟨g, h_g, h⟩ := bnd h
 refine zU ⟨[(0, kS name), (15, kB g)], []⟩ ?_ ?_
 ·
  refine (rsl 3 [] 6 (name == []) (fun hc1 => ?_) (fun hc1 => ?_))
  ·
   replace h_g := iteT h_g hc1
   obtain rfl := sj h_g
   exact rgg
  replace h_g := iteF h_g hc1
  refine (rsl 5 [] 11 (decide ((name.length : Int) > 60)) (fun hc2 => ?_) (fun hc2 => ?_))
  ·
   replace h_g := iteT h_g hc2
   obtain rfl := sj h_g
   exact rgg
  replace h_g := iteF h_g hc2
  obtain ⟨c, h_c, h_g⟩ := bnd h_g
  obtain ⟨rv, h_rv, h_g⟩ := bnd h_g
  obtain rfl := sj h_g
  exact (ra 1 [kS name, kI 0] rfl (znY rfl Try.underlying9 h_c) rfl (rl 0 [1] 9 Try.call44 (zen h_rv) rgg))
 rcases zq h with ⟨hc3, h⟩ | ⟨hc3, h⟩
 ·
  refine jT hc3 ?_
  refine jp ?_
  obtain rfl := sj h
  exact zw lzz
 refine jF hc3 ?_
 refine jp ?_
 refine zN ?_
 obtain ⟨q, h_q, h⟩ := bnd h
 refine zcr (fun s : Int => zah name s) (fun s => ⟨[(0, kS name), (17, kI (name.length : Int)), (18, kI s)], []⟩) (fun o e a w => match o with | (.inl v_) => e = .exit 0 ∧ Sx ⟨⟨34, []⟩, Xt, false, #[]⟩ ⟨[], []⟩ a w | (.inr v_) => e = .ret ∧ Sx ⟨⟨34, []⟩, Xt, false, #[]⟩ ⟨[(2, kB false)], []⟩ a w) ?_ h_q lzz ?_
 ·
  clear h
  intro v2 o h
  refine zv ?_
  replace h : zah name v2 = some o := h
  unfold zah at h
  refine jp ?_
  rcases zq h with ⟨hc4, h⟩ | ⟨hc4, h⟩
  ·
   refine jT hc4 ?_
   refine zN ?_
   refine jp ?_
   obtain ⟨g2, h_g2, h⟩ := bnd h
   refine zU ⟨[(0, kS name), (17, kI (name.length : Int)), (18, kI v2), (32, kB g2)], []⟩ ?_ ?_
   ·
    obtain ⟨c2, h_c2, h_g2⟩ := bnd h_g2
    obtain ⟨rv2, h_rv2, h_g2⟩ := bnd h_g2
    refine (ra 2 [kS name, kI v2] rfl (znY rfl Try.underlying9 h_c2) rfl (rl 0 [1] 10 Try.call45 (zgT h_rv2) (rsl 2 [] 26 (!rv2) (fun hc5 => ?_) (fun hc5 => ?_))))
    ·
     replace h_g2 := iteT h_g2 hc5
     obtain ⟨c3, h_c3, h_g2⟩ := bnd h_g2
     obtain ⟨rv3, h_rv3, h_g2⟩ := bnd h_g2
     obtain rfl := sj h_g2
     exact (ra 2 [kS name, kI v2] rfl (znY rfl Try.underlying9 h_c3) rfl (rl 0 [1] 10 Try.call44 (zen h_rv3) rgg))
    replace h_g2 := iteF h_g2 hc5
    obtain rfl := sj h_g2
    exact rgg
   rcases zq h with ⟨hc6, h⟩ | ⟨hc6, h⟩
   ·
    refine jT hc6 ?_
    refine jp ?_
    obtain rfl := sj h
    exact zcK lzz
   refine jF hc6 ?_
   refine zav ?_
   refine jp ?_
   obtain rfl := sj h
   exact zab lzz
  refine jF hc4 ?_
  obtain rfl := sj h
  exact zce rfl lzz
 rcases q with u | u2
 ·
  refine zdc _ rfl ?_
  refine jp ?_
  obtain rfl := sj h
  exact zw lzz
 obtain rfl := sj h
 exact zhV lzz
theorem zdv {sv : (List Int)} {v : Int} {r : Bool} (h : zaq sv v = some r) : FnOk Try.prog 32 [.sl (Rp.int .i64) [0] sv, kI v] [kB r] := by
 refine zx (E := ⟨[(4, kB r)], []⟩) 9 Try.func32 rfl rfl rfl ⟨rfl, trivial⟩ (fun Xt => ?_)
 refine zv ?_
 unfold zaq at h
 refine jp ?_
 obtain ⟨rv, h_rv, h⟩ := bnd h
 refine jr (rl 2 [0] 9 Try.call46 (zeb h_rv) rf) ?_
 obtain rfl := sj h
 exact zw lzz
theorem zhm {k : Int} {r : (Int × Int)} (h : zdK k = some r) : FnOk Try.prog 59 [kI k] [kI r.1, k8 r.2] := by
 refine zx (E := ⟨[(2, kI r.1), (3, k8 r.2)], []⟩) 16 Try.func59 rfl rfl rfl ⟨rfl, rfl, trivial⟩ (fun Xt => ?_)
 refine zv ?_
 unfold zdK at h
 refine jp ?_
 obtain ⟨rv, h_rv, h⟩ := bnd h
 refine jr (rl 0 [1] 9 Try.call29 (zgx h_rv) (ra 1 [.om (Rp.int .i64) zt 11 [] rv, kI k] rfl (zjR (rk := (Rp.int .i64)) (rv := zt) (m := rv) (k := k) (.rc zt [11] ((mget rv k).getD (⟨[], 0⟩ : zm))) rfl zbP (zfa _ _ _ _ _) (zbt rfl rfl) (zlN rfl)) rfl (rfl' [12]))) ?_
 refine jp ?_
 rcases zq h with ⟨hc1, h⟩ | ⟨hc1, h⟩
 ·
  refine jT hc1 ?_
  refine jp ?_
  obtain rfl := sj h
  exact zw lzz
 refine jF hc1 ?_
 refine jp ?_
 obtain rfl := sj h
 exact zw lzz
theorem zmm {t : zY} {r : Bool} (h : zeO t = some r) : FnOk Try.prog 36 [.rc zbs [0] t] [kB r] := by
 refine zx (E := ⟨[(2, kB r)], []⟩) 16 Try.func36 rfl rfl rfl ⟨rfl, trivial⟩ (fun Xt => ?_)
 refine zv ?_
 unfold zeO at h
 refine jq [11] ?_
 obtain ⟨g, h_g, h⟩ := bnd h
 refine zU ⟨[(2, kB g)], []⟩ ?_ ?_
 ·
  refine (rsl 4 [] 6 (decide (t.Number ≥ 1)) (fun hc1 => ?_) (fun hc1 => ?_))
  ·
   replace h_g := iteT h_g hc1
   refine (rsl 5 [] 11 (decide (t.Number ≤ 536870911)) (fun hc2 => ?_) (fun hc2 => ?_))
   ·
    replace h_g := iteT h_g hc2
    obtain ⟨rv, h_rv, h_g⟩ := bnd h_g
    obtain rfl := sj h_g
    exact (rl 2 [1] 10 Try.call48 (zir h_rv) rgg)
   replace h_g := iteF h_g hc2
   obtain rfl := sj h_g
   exact rgg
  replace h_g := iteF h_g hc1
  obtain rfl := sj h_g
  exact rgg
 obtain rfl := sj h
 exact zw lzz
theorem zgc {b : (List UInt8)} {r : (Int × Int)} (h : zcF b = some r) : FnOk Try.prog 37 [.sl Rp.byte [0] b] [kI r.1, k8 r.2] := by
 refine zx (E := ⟨[(2, kI r.1), (3, k8 r.2)], []⟩) 15 Try.func37 rfl rfl rfl ⟨rfl, rfl, trivial⟩ (fun Xt => ?_)
 refine zv ?_
 unfold zcF at h
 refine jp ?_
 obtain ⟨rv, h_rv, h⟩ := bnd h
 refine jr (rl 1 [0] 9 Try.call35 (zee h_rv) rf) ?_
 refine jp ?_
 obtain rfl := sj h
 exact zw lzz
theorem zaU {sv : (List ze)} {v : Int} {r : Int} (h : zJ sv v = some r) : FnOk Try.prog 60 [.sl za [0] sv, .fv 61 [.ep (Rp.int .i64) [0] v 0]] [kI r] := by
 refine zx (E := ⟨[(4, kI r)], []⟩) 19 Try.func60 rfl rfl rfl ⟨rfl, trivial⟩ (fun Xt => ?_)
 refine zv ?_
 unfold zJ at h
 refine jp ?_
 refine jp ?_
 refine zN ?_
 obtain ⟨q, h_q, h⟩ := bnd h
 refine zcr (fun s : Int => zu sv v s) (fun s => ⟨[(0, .sl za [0] sv), (1, .fv 61 [.ep (Rp.int .i64) [0] v 0]), (7, kI (sv.length : Int)), (8, kI s)], []⟩) (fun o e a w => match o with | (.inl v_) => e = .exit 0 ∧ Sx ⟨⟨19, []⟩, Xt, false, #[]⟩ ⟨[], []⟩ a w | (.inr v_) => e = .ret ∧ Sx ⟨⟨19, []⟩, Xt, false, #[]⟩ ⟨[(4, kI v_)], []⟩ a w) ?_ h_q lzz ?_
 ·
  clear h
  intro v2 o h
  refine zv ?_
  replace h : zu sv v v2 = some o := h
  unfold zu at h
  refine jp ?_
  rcases zq h with ⟨hc1, h⟩ | ⟨hc1, h⟩
  ·
   refine jT hc1 ?_
   refine zN ?_
   refine jp ?_
   obtain ⟨x, h_x, h⟩ := bnd h
   obtain ⟨rv, h_rv, h⟩ := bnd h
   refine jr (ra 3 [.sl za [0] sv, kI v2] rfl (zdD rfl zlB.el (zas _ _ _) h_x) rfl (ra 0 [.ep za [0] x 0] rfl (zhZ rfl ⟨Try.isAgg33, Try.sizeOf33⟩) rfl (ra 0 [.fv 61 [.ep (Rp.int .i64) [0] v 0], .rc za [0] x] rfl (zqT (args := [.tmp 15]) [.rc za [0] x] [0] 10 rfl (zrU _ _) Try.call61 (ziR h_rv) rfl rfl rfl rfl rfl) rfl rf))) ?_
   rcases zq h with ⟨hc2, h⟩ | ⟨hc2, h⟩
   ·
    refine jT hc2 ?_
    refine jp ?_
    obtain rfl := sj h
    exact zcK lzz
   refine jF hc2 ?_
   refine zav ?_
   refine jp ?_
   obtain rfl := sj h
   exact zab lzz
  refine jF hc1 ?_
  obtain rfl := sj h
  exact zce rfl lzz
 rcases q with u | u2
 ·
  refine zdc _ rfl ?_
  refine jp ?_
  obtain rfl := sj h
  exact zw lzz
 obtain rfl := sj h
 exact zhV lzz
theorem zjn {wv : Int} {r : Int} (h : zdm wv = some r) : FnOk Try.prog 87 [kU wv] [.lf (.int .i32 r)] := by
 refine zx (E := ⟨[(2, .lf (.int .i32 r))], []⟩) 6 Try.func87 rfl rfl rfl ⟨rfl, trivial⟩ (fun Xt => ?_)
 refine zv ?_
 unfold zdm at h
 refine jp ?_
 obtain ⟨rv, h_rv, h⟩ := bnd h
 refine jr (rl 1 [1] 9 Try.call88 (zgv h_rv) rf) ?_
 obtain rfl := sj h
 exact zw lzz
theorem ziE {b : (List UInt8)} {r : Int} (h : zeS b = some r) : FnOk Try.prog 63 [.sl Rp.byte [0] b] [kI r] := by
 refine zx (E := ⟨[(2, kI r)], []⟩) 48 Try.func63 rfl rfl rfl ⟨rfl, trivial⟩ (fun Xt => ?_)
 refine zv ?_
 unfold zeS at h
 refine jp ?_
 refine jp ?_
 rcases zq h with ⟨hc1, h⟩ | ⟨hc1, h⟩
 ·
  refine jT hc1 ?_
  refine jp ?_
  obtain rfl := sj h
  exact zw lzz
 refine jF hc1 ?_
 obtain ⟨x, h_x, h⟩ := bnd h
 obtain ⟨rv, h_rv, h⟩ := bnd h
 refine jr (ra 1 [.sl Rp.byte [0] b, kI 0] rfl (zdD rfl zdz.el (zas _ _ _) h_x) rfl (rl 1 [1] 9 Try.call78 (znr h_rv) rf)) ?_
 refine zU ⟨[(0, .sl Rp.byte [0] b), (3, kI rv.1), (4, .lf (.int .u32 rv.2)), (24, kB ((rv.1 == 0) || (decide (rv.1 > (b.length : Int)))))], []⟩ ?_ ?_
 ·
  refine (rsl 3 [] 19 (rv.1 == 0) (fun hc2 => ?_) (fun hc2 => ?_))
  · exact (rbl [] 24 true ((rv.1 == 0) || (decide (rv.1 > (b.length : Int)))) (by rw [hc2] <;> rfl))
  exact (rbl [] 24 (decide (rv.1 > (b.length : Int))) ((rv.1 == 0) || (decide (rv.1 > (b.length : Int)))) (by rw [hc2] <;> rfl))
 rcases zq h with ⟨hc3, h⟩ | ⟨hc3, h⟩
 ·
  refine jT hc3 ?_
  refine jp ?_
  obtain rfl := sj h
  exact zw lzz
 refine jF hc3 ?_
 obtain ⟨v2, h_v2, h⟩ := bnd h
 refine jr (ra 2 [.sl Rp.byte [0] b, kI 1, kI rv.1] rfl (zfe (some (kI 1)) (some (kI rv.1)) rfl zdz.el (zas _ _ _) ⟨rfl, rfl⟩ ⟨rfl, rfl⟩ h_v2) rfl rf) ?_
 refine zN ?_
 obtain ⟨q, h_q, h⟩ := bnd h
 refine zcr (fun s : (Int × Int) => zaV v2 s.1 s.2) (fun s => ⟨[(3, kI rv.1), (4, .lf (.int .u32 s.1)), (27, .sl Rp.byte [0] v2), (28, kI (v2.length : Int)), (29, kI s.2)], []⟩) (fun o e a w => match o with | (.inl v_) => e = .exit 0 ∧ Sx ⟨⟨48, []⟩, Xt, false, #[]⟩ ⟨[(3, kI rv.1), (4, .lf (.int .u32 v_))], []⟩ a w | (.inr v_) => e = .ret ∧ Sx ⟨⟨48, []⟩, Xt, false, #[]⟩ ⟨[(2, kI 0)], []⟩ a w) ?_ h_q lzz ?_
 ·
  clear h
  intro s o h
  obtain ⟨wv, v3⟩ := s
  refine zv ?_
  replace h : zaV v2 wv v3 = some o := h
  unfold zaV at h
  refine jp ?_
  rcases zq h with ⟨hc4, h⟩ | ⟨hc4, h⟩
  ·
   refine jT hc4 ?_
   refine zN ?_
   obtain ⟨x2, h_x2, h⟩ := bnd h
   refine jr (ra 0 [.sl Rp.byte [0] v2, kI v3] rfl (zdD rfl zdz.el (zas _ _ _) h_x2) rfl rf) ?_
   refine jr (ra 1 [k8 (x2.toNat : Int), kU 6] rfl (zdB rfl rfl) rfl rf) ?_
   rcases zq h with ⟨hc5, h⟩ | ⟨hc5, h⟩
   ·
    refine jT hc5 ?_
    refine jp ?_
    obtain rfl := sj h
    exact zcK lzz
   refine jF hc5 ?_
   refine jr (ra 1 [.lf (.int .u32 wv), kU 6] rfl (zqV rfl rfl) rfl rf) ?_
   refine zav ?_
   refine jp ?_
   obtain rfl := sj h
   exact zab lzz
  refine jF hc4 ?_
  obtain rfl := sj h
  exact zce rfl lzz
 rcases q with u | u2
 ·
  refine zdc _ rfl ?_
  obtain ⟨rv2, h_rv2, h⟩ := bnd h
  refine jr (rl 2 [1] 10 Try.call79 (znq h_rv2) rf) ?_
  rcases zq h with ⟨hc6, h⟩ | ⟨hc6, h⟩
  ·
   refine jT hc6 ?_
   refine jp ?_
   obtain rfl := sj h
   exact zw lzz
  refine jF hc6 ?_
  refine jp ?_
  obtain rfl := sj h
  exact zw lzz
 obtain rfl := sj h
 exact zhV lzz
theorem zeM {c : zP} {m : zr} {r : (Int × (List (zg × Bool)) × (List (zh × Bool)))} (h : zaT c m = some r) : zcH Try.prog 20 [.ag [kI c.size, .sl (Rp.int .i64) [0] c.kinds, .om zk Rp.bool 2 [0] c.names, .om zj Rp.bool 3 [0] c.numbers], .rc zi [0] m] [kI r.1] [.ag [.any, .any, .om zk Rp.bool 2 [0] r.2.1, .om zj Rp.bool 3 [0] r.2.2], .any] := by
 refine zdJ (E := ⟨[(0, .ag [.any, .any, .om zk Rp.bool 2 [0] r.2.1, .om zj Rp.bool 3 [0] r.2.2]), (4, kI r.1)], []⟩) 27 [0] Try.func20 rfl rfl rfl ⟨rfl, trivial⟩ ⟨.inr ⟨rfl, rfl⟩, .inl rfl, trivial⟩ rfl (fun Xt old => ?_)
 refine zv ?_
 unfold zaT at h
 refine jr (ral 1 [11] [.rc zi [0] m] rfl (zhX 12 [kS m.Name, .sl za [0] m.Fields] [0] rfl rfl rfl rfl rfl) rfl rf) ?_
 refine jr (rc 2 rfl (zB (r := zk) [kI (-1), kS m.Name] [] (⟨(-1), m.Name⟩ : zg) rfl zsS rfl rfl) (rfl' [13])) ?_
 refine zN ?_
 obtain ⟨rv, h_rv, h⟩ := bnd h
 refine jr (rl 2 [1] 12 Try.call30 (zeN h_rv) rf) ?_
 rcases zq h with ⟨hc1, h⟩ | ⟨hc1, h⟩
 ·
  refine jT hc1 ?_
  refine jp ?_
  obtain rfl := sj h
  refine zbS ?_
  refine zbV ⟨[(0, .ag [kI c.size, .sl (Rp.int .i64) [0] c.kinds, .om zk Rp.bool 2 [0] c.names, .om zj Rp.bool 3 [0] c.numbers]), (4, kI 2)], []⟩ (by kernel_rfl) ?_
  refine zch 0 (.ag [.any, .any, .om zk Rp.bool 2 [0] ((2, c.names, c.numbers) : (Int × (List (zg × Bool)) × (List (zh × Bool)))).2.1, .om zj Rp.bool 3 [0] ((2, c.names, c.numbers) : (Int × (List (zg × Bool)) × (List (zh × Bool)))).2.2]) rfl (zcg ⟨zad _, zad _, AV.le_refl _, AV.le_refl _, trivial⟩) ?_
  exact lzz
 refine jF hc1 ?_
 refine jr (lb 2 zk [] (⟨(-1), m.Name⟩ : zg) (ra 0 [.om zk Rp.bool 2 [0] c.names, .rc zk [] (⟨(-1), m.Name⟩ : zg)] rfl (zlZ (rk := zk) (rv := Rp.bool) (m := c.names) (k := (⟨(-1), m.Name⟩ : zg)) (kB ((mget c.names (⟨(-1), m.Name⟩ : zg)).getD false)) rfl zma (zfa _ _ _ _ _) (zay rfl) (zlM rfl rfl rfl)) rfl rf)) ?_
 rcases zq h with ⟨hc2, h⟩ | ⟨hc2, h⟩
 ·
  refine jT hc2 ?_
  refine jp ?_
  obtain rfl := sj h
  refine zbS ?_
  refine zbV ⟨[(0, .ag [kI c.size, .sl (Rp.int .i64) [0] c.kinds, .om zk Rp.bool 2 [0] c.names, .om zj Rp.bool 3 [0] c.numbers]), (4, kI 3)], []⟩ (by kernel_rfl) ?_
  refine zch 0 (.ag [.any, .any, .om zk Rp.bool 2 [0] ((3, c.names, c.numbers) : (Int × (List (zg × Bool)) × (List (zh × Bool)))).2.1, .om zj Rp.bool 3 [0] ((3, c.names, c.numbers) : (Int × (List (zg × Bool)) × (List (zh × Bool)))).2.2]) rfl (zcg ⟨zad _, zad _, AV.le_refl _, AV.le_refl _, trivial⟩) ?_
  exact lzz
 refine jF hc2 ?_
 refine jp ?_
 rcases zq h with ⟨hc3, h⟩ | ⟨hc3, h⟩
 ·
  refine jT hc3 ?_
  refine jp ?_
  obtain rfl := sj h
  refine zbS ?_
  refine zbV ⟨[(0, .ag [kI c.size, .sl (Rp.int .i64) [0] c.kinds, .om zk Rp.bool 2 [0] c.names, .om zj Rp.bool 3 [0] c.numbers]), (4, kI 4)], []⟩ (by kernel_rfl) ?_
  refine zch 0 (.ag [.any, .any, .om zk Rp.bool 2 [0] ((4, c.names, c.numbers) : (Int × (List (zg × Bool)) × (List (zh × Bool)))).2.1, .om zj Rp.bool 3 [0] ((4, c.names, c.numbers) : (Int × (List (zg × Bool)) × (List (zh × Bool)))).2.2]) rfl (zcg ⟨zad _, zad _, AV.le_refl _, AV.le_refl _, trivial⟩) ?_
  exact lzz
 refine jF hc3 ?_
 refine zav ?_
 refine jr (lb 2 zk [] (⟨(-1), m.Name⟩ : zg) (rkl 0 [] ⟨[(0, .ag [kI c.size, .sl (Rp.int .i64) [0] c.kinds, .om zk Rp.bool 2 [0] c.names, .om zj Rp.bool 3 [0] c.numbers]), (25, .om zk Rp.bool 2 [0] c.names), (26, .rc zk [] (⟨(-1), m.Name⟩ : zg))], []⟩ (zct ⟨[(0, .ag [kI c.size, .sl (Rp.int .i64) [0] c.kinds, .om zk Rp.bool 2 [0] (mput c.names (⟨(-1), m.Name⟩ : zg) true), .om zj Rp.bool 3 [0] c.numbers]), (25, .om zk Rp.bool 2 [0] (mput c.names (⟨(-1), m.Name⟩ : zg) true)), (26, .rc zk [] (⟨(-1), m.Name⟩ : zg))], []⟩ (zhG (rk := zk) (rv := Rp.bool) (m := c.names) (ℓ := 2) (C := [0]) (C1 := []) (D := []) (⟨(-1), m.Name⟩ : zg) true [0] zma (.inl rfl) (zay rfl) (zbt rfl rfl) rfl) rfl (by kernel_rfl) (by kernel_rfl) ⟨⟨_, rfl, zeP ⟨zn rfl, zn rfl, zbr 0 rfl, zn rfl, trivial⟩⟩, ⟨_, rfl, zbr 0 rfl⟩, ⟨_, rfl, zn rfl⟩, trivial⟩ trivial rf))) ?_
 refine jp ?_
 obtain rfl := sj h
 refine zbS ?_
 refine zbV ⟨[(0, .ag [kI c.size, .sl (Rp.int .i64) [0] c.kinds, .om zk Rp.bool 2 [0] (mput c.names (⟨(-1), m.Name⟩ : zg) true), .om zj Rp.bool 3 [0] c.numbers]), (4, kI 0)], []⟩ (by kernel_rfl) ?_
 refine zch 0 (.ag [.any, .any, .om zk Rp.bool 2 [0] ((0, (mput c.names (⟨(-1), m.Name⟩ : zg) true), c.numbers) : (Int × (List (zg × Bool)) × (List (zh × Bool)))).2.1, .om zj Rp.bool 3 [0] ((0, (mput c.names (⟨(-1), m.Name⟩ : zg) true), c.numbers) : (Int × (List (zg × Bool)) × (List (zh × Bool)))).2.2]) rfl (zcg ⟨zad _, zad _, AV.le_refl _, AV.le_refl _, trivial⟩) ?_
 exact lzz
theorem zfK {k : Int} {r : Bool} (h : zcB k = some r) : FnOk Try.prog 47 [kI k] [kB r] := by
 refine zx (E := ⟨[(2, kB r)], []⟩) 16 Try.func47 rfl rfl rfl ⟨rfl, trivial⟩ (fun Xt => ?_)
 refine zv ?_
 unfold zcB at h
 refine jp ?_
 obtain ⟨rv, h_rv, h⟩ := bnd h
 refine jr (rl 1 [1] 9 Try.call59 (zhm h_rv) rf) ?_
 refine zU ⟨[(2, kB ((rv.2 == 0) && (rv.1 != 2)))], []⟩ ?_ ?_
 ·
  refine (rsl 3 [] 12 (rv.2 == 0) (fun hc1 => ?_) (fun hc1 => ?_))
  · exact (rbl [] 2 (rv.1 != 2) ((rv.2 == 0) && (rv.1 != 2)) (by rw [hc1] <;> rfl))
  exact (rbl [] 2 false ((rv.2 == 0) && (rv.1 != 2)) (by rw [hc1] <;> rfl))
 obtain rfl := sj h
 exact zw lzz
theorem znn {b : (List UInt8)} {r : (zY × Int × Int)} (h : zfW b = some r) : FnOk Try.prog 22 [.sl Rp.byte [0] b] [.rc zbs [] r.1, kI r.2.1, k8 r.2.2] := by
 refine zx (E := ⟨[(2, .ptr 2 0), (3, kI r.2.1), (4, k8 r.2.2)], [⟨2, 73, [kI r.1.Number, kI r.1.Wire]⟩]⟩) 35 Try.func22 rfl rfl rfl ⟨⟨_, _, rfl, rfl, rfl, rfl, ⟨Try.isAgg73, Try.sizeOf73⟩⟩, rfl, rfl, trivial⟩ (fun Xt => ?_)
 refine zv ?_
 unfold zfW at h
 refine jq [12] ?_
 obtain ⟨rv, h_rv, h⟩ := bnd h
 refine jr (rl 1 [0] 11 Try.call35 (zee h_rv) rf) ?_
 refine jp ?_
 rcases zq h with ⟨hc1, h⟩ | ⟨hc1, h⟩
 ·
  refine jT hc1 ?_
  refine jr (rc 0 rfl (zB (r := zbs) [] [] (⟨0, 0⟩ : zY) rfl zru rfl rfl) rf) ?_
  obtain rfl := sj h
  refine zw ?_
  refine lk [2, 3, 4] [12] 12 2 ?_
  exact lzz
 refine jF hc1 ?_
 refine jr (ra 1 [kU rv.1, kU 3] rfl (zdB rfl rfl) rfl rf) ?_
 refine jr (rc 5 rfl (zB (r := zbs) [kI (IntKind.i64.wrap (if (536870912 : Int) < (shrI .u64 rv.1 3) then 536870912 else (shrI .u64 rv.1 3))), kI (IntKind.i64.wrap (andI .u64 rv.1 7))] [] (⟨(IntKind.i64.wrap (if (536870912 : Int) < (shrI .u64 rv.1 3) then 536870912 else (shrI .u64 rv.1 3))), (IntKind.i64.wrap (andI .u64 rv.1 7))⟩ : zY) rfl zru rfl rfl) (rfl' [13])) ?_
 obtain ⟨rv2, h_rv2, h⟩ := bnd h
 refine jr (lb 0 zbs [] (⟨(IntKind.i64.wrap (if (536870912 : Int) < (shrI .u64 rv.1 3) then 536870912 else (shrI .u64 rv.1 3))), (IntKind.i64.wrap (andI .u64 rv.1 7))⟩ : zY) (rl 0 [1] 12 Try.call36 (zmm h_rv2) rf)) ?_
 rcases zq h with ⟨hc2, h⟩ | ⟨hc2, h⟩
 ·
  refine jT hc2 ?_
  refine jr (rc 0 rfl (zB (r := zbs) [] [] (⟨0, 0⟩ : zY) rfl zru rfl rfl) rf) ?_
  obtain rfl := sj h
  refine zw ?_
  refine lk [2, 3, 4] [12] 12 2 ?_
  exact lzz
 refine jF hc2 ?_
 refine jr (lb 0 zbs [] (⟨(IntKind.i64.wrap (if (536870912 : Int) < (shrI .u64 rv.1 3) then 536870912 else (shrI .u64 rv.1 3))), (IntKind.i64.wrap (andI .u64 rv.1 7))⟩ : zY) rf) ?_
 obtain rfl := sj h
 refine zw ?_
 refine lk [2, 3, 4] [12] 12 2 ?_
 exact lzz
theorem zkj {wire : Int} {b : (List UInt8)} {r : (Int × Int × Int)} (h : zds wire b = some r) : FnOk Try.prog 23 [kI wire, .sl Rp.byte [0] b] [kI r.1, kI r.2.1, k8 r.2.2] := by
 refine zx (E := ⟨[(4, kI r.1), (5, kI r.2.1), (6, k8 r.2.2)], []⟩) 45 Try.func23 rfl rfl rfl ⟨rfl, rfl, rfl, trivial⟩ (fun Xt => ?_)
 refine zv ?_
 unfold zds at h
 refine jp ?_
 refine jp ?_
 refine jp ?_
 refine zN ?_
 refine jp ?_
 rcases zq h with ⟨hc1, h⟩ | ⟨hc1, h⟩
 ·
  refine jT hc1 ?_
  obtain ⟨rv, h_rv, h⟩ := bnd h
  refine jr (rl 1 [0] 9 Try.call37 (zgc h_rv) rf) ?_
  refine jp ?_
  obtain rfl := sj h
  exact zw lzz
 refine jF hc1 ?_
 refine jp ?_
 obtain ⟨p, h_p, h⟩ := bnd h
 refine zel (R := fun e a w => e = .normal ∧ Sx ⟨⟨45, []⟩, Xt, false, #[]⟩ ⟨[(1, .sl Rp.byte [0] b), (4, kI p.1), (6, k8 p.2.1), (7, kU p.2.2)], []⟩ a w) ?_ ?_
 ·
  replace h := h_p
  refine zv ?_
  rcases zq h with ⟨hc2, h⟩ | ⟨hc2, h⟩
  ·
   refine jT hc2 ?_
   refine jp ?_
   obtain rfl := sj h
   exact zab lzz
  refine jF hc2 ?_
  refine jp ?_
  rcases zq h with ⟨hc3, h⟩ | ⟨hc3, h⟩
  ·
   refine jT hc3 ?_
   refine jp ?_
   obtain rfl := sj h
   exact zab lzz
  refine jF hc3 ?_
  refine jp ?_
  rcases zq h with ⟨hc4, h⟩ | ⟨hc4, h⟩
  ·
   refine jT hc4 ?_
   obtain ⟨rv2, h_rv2, h⟩ := bnd h
   refine jr (rl 1 [0] 9 Try.call35 (zee h_rv2) rf) ?_
   obtain rfl := sj h
   exact zab lzz
  refine jF hc4 ?_
  obtain rfl := sj h
  exact zab lzz
 refine zgM ?_
 refine zav ?_
 refine jp ?_
 rcases zq h with ⟨hc5, h⟩ | ⟨hc5, h⟩
 ·
  refine jT hc5 ?_
  refine jp ?_
  obtain rfl := sj h
  exact zw lzz
 refine jF hc5 ?_
 refine jp ?_
 rcases zq h with ⟨hc6, h⟩ | ⟨hc6, h⟩
 ·
  refine jT hc6 ?_
  refine jp ?_
  obtain rfl := sj h
  exact zw lzz
 refine jF hc6 ?_
 refine jp ?_
 obtain rfl := sj h
 exact zw lzz
theorem zkN {m : zr} {number : Int} {r : Int} (h : zef m number = some r) : FnOk Try.prog 49 [.rc zi [0] m, kI number] [kI r] := by
 refine zx (E := ⟨[(4, kI r)], []⟩) 9 Try.func49 rfl rfl rfl ⟨rfl, trivial⟩ (fun Xt => ?_)
 refine zv ?_
 unfold zef at h
 refine jr (ra 0 [.rc zi [0] m] rfl (zhX 11 [kS m.Name, .sl za [0] m.Fields] [0] rfl rfl rfl rfl rfl) rfl (rfl' [906100])) ?_
 obtain ⟨rv, h_rv, h⟩ := bnd h
 refine jr (ra 2 [.ptr 906100 0] rfl (zsi (g := 61) [.tmp 3] [⟨906100, 3, [kI number]⟩] [.ep (Rp.int .i64) [906100] number 0] rfl ⟨⟨rfl, rfl, rfl⟩, trivial⟩ rfl) rfl (rl 0 [0, 906100] 10 Try.call60 (zaU h_rv) rf)) ?_
 obtain rfl := sj h
 exact zw lzz
theorem zmq {k : Int} {wire : Int} {r : Bool} (h : zeV k wire = some r) : FnOk Try.prog 51 [kI k, kI wire] [kB r] := by
 refine zx (E := ⟨[(4, kB r)], []⟩) 19 Try.func51 rfl rfl rfl ⟨rfl, trivial⟩ (fun Xt => ?_)
 refine zv ?_
 unfold zeV at h
 refine jp ?_
 obtain ⟨rv, h_rv, h⟩ := bnd h
 refine jr (rl 1 [1] 9 Try.call59 (zhm h_rv) rf) ?_
 refine zU ⟨[(4, kB ((rv.2 == 0) && (rv.1 == wire)))], []⟩ ?_ ?_
 ·
  refine (rsl 3 [] 14 (rv.2 == 0) (fun hc1 => ?_) (fun hc1 => ?_))
  · exact (rbl [] 4 (rv.1 == wire) ((rv.2 == 0) && (rv.1 == wire)) (by rw [hc1] <;> rfl))
  exact (rbl [] 4 false ((rv.2 == 0) && (rv.1 == wire)) (by rw [hc1] <;> rfl))
 obtain rfl := sj h
 exact zw lzz
theorem zkI {k : Int} {wv : Int} {r : (Int × Int)} (h : zdT k wv = some r) : FnOk Try.prog 76 [kI k, kU wv] [kU r.1, k8 r.2] := by
 refine zx (E := ⟨[(4, kU r.1), (5, k8 r.2)], []⟩) 34 Try.func76 rfl rfl rfl ⟨rfl, rfl, trivial⟩ (fun Xt => ?_)
 refine zv ?_
 unfold zdT at h
 refine jp ?_
 refine jp ?_
 refine zN ?_
 refine jp ?_
 obtain ⟨p, h_p, h⟩ := bnd h
 refine zel (R := fun e a w => e = .normal ∧ Sx ⟨⟨34, []⟩, Xt, false, #[]⟩ ⟨[(1, kU wv), (6, kI k), (7, kB p)], []⟩ a w) ?_ ?_
 ·
  replace h := h_p
  refine zv ?_
  rcases zq h with ⟨hc1, h⟩ | ⟨hc1, h⟩
  ·
   refine jT hc1 ?_
   obtain rfl := sj h
   exact zab lzz
  refine jF hc1 ?_
  refine jp ?_
  obtain rfl := sj h
  exact zab lzz
 refine zgM ?_
 rcases zq h with ⟨hc2, h⟩ | ⟨hc2, h⟩
 ·
  refine jT hc2 ?_
  obtain ⟨rv, h_rv, h⟩ := bnd h
  obtain ⟨rv2, h_rv2, h⟩ := bnd h
  refine jr (rl 1 [1] 9 Try.call87 (zjn h_rv) (rl 0 [1] 9 Try.call86 (zjo h_rv2) rf)) ?_
  obtain rfl := sj h
  exact zw lzz
 refine jF hc2 ?_
 refine jp ?_
 obtain ⟨p2, h_p2, h⟩ := bnd h
 refine zel (R := fun e a w => e = .normal ∧ Sx ⟨⟨34, []⟩, Xt, false, #[]⟩ ⟨[(1, kU wv), (6, kI k), (13, kB p2)], []⟩ a w) ?_ ?_
 ·
  replace h := h_p2
  refine zv ?_
  rcases zq h with ⟨hc3, h⟩ | ⟨hc3, h⟩
  ·
   refine jT hc3 ?_
   obtain rfl := sj h
   exact zab lzz
  refine jF hc3 ?_
  refine jp ?_
  rcases zq h with ⟨hc4, h⟩ | ⟨hc4, h⟩
  ·
   refine jT hc4 ?_
   obtain rfl := sj h
   exact zab lzz
  refine jF hc4 ?_
  refine jp ?_
  rcases zq h with ⟨hc5, h⟩ | ⟨hc5, h⟩
  ·
   refine jT hc5 ?_
   obtain rfl := sj h
   exact zab lzz
  refine jF hc5 ?_
  refine jp ?_
  rcases zq h with ⟨hc6, h⟩ | ⟨hc6, h⟩
  ·
   refine jT hc6 ?_
   obtain rfl := sj h
   exact zab lzz
  refine jF hc6 ?_
  refine jp ?_
  obtain rfl := sj h
  exact zab lzz
 refine zgM ?_
 rcases zq h with ⟨hc7, h⟩ | ⟨hc7, h⟩
 ·
  refine jT hc7 ?_
  obtain ⟨rv3, h_rv3, h⟩ := bnd h
  refine jr (rl 1 [1] 9 Try.call88 (zgv h_rv3) rf) ?_
  obtain rfl := sj h
  exact zw lzz
 refine jF hc7 ?_
 refine jp ?_
 rcases zq h with ⟨hc8, h⟩ | ⟨hc8, h⟩
 ·
  refine jT hc8 ?_
  obtain ⟨rv4, h_rv4, h⟩ := bnd h
  refine jr (rl 1 [1] 9 Try.call89 (zkJ h_rv4) rf) ?_
  obtain rfl := sj h
  exact zw lzz
 refine jF hc8 ?_
 refine jp ?_
 obtain ⟨p3, h_p3, h⟩ := bnd h
 refine zel (R := fun e a w => e = .normal ∧ Sx ⟨⟨34, []⟩, Xt, false, #[]⟩ ⟨[(1, kU wv), (26, kB p3)], []⟩ a w) ?_ ?_
 ·
  replace h := h_p3
  refine zv ?_
  rcases zq h with ⟨hc9, h⟩ | ⟨hc9, h⟩
  ·
   refine jT hc9 ?_
   obtain rfl := sj h
   exact zab lzz
  refine jF hc9 ?_
  refine jp ?_
  rcases zq h with ⟨hc10, h⟩ | ⟨hc10, h⟩
  ·
   refine jT hc10 ?_
   obtain rfl := sj h
   exact zab lzz
  refine jF hc10 ?_
  refine jp ?_
  rcases zq h with ⟨hc11, h⟩ | ⟨hc11, h⟩
  ·
   refine jT hc11 ?_
   obtain rfl := sj h
   exact zab lzz
  refine jF hc11 ?_
  refine jp ?_
  rcases zq h with ⟨hc12, h⟩ | ⟨hc12, h⟩
  ·
   refine jT hc12 ?_
   obtain rfl := sj h
   exact zab lzz
  refine jF hc12 ?_
  refine jp ?_
  rcases zq h with ⟨hc13, h⟩ | ⟨hc13, h⟩
  ·
   refine jT hc13 ?_
   obtain rfl := sj h
   exact zab lzz
  refine jF hc13 ?_
  refine jp ?_
  obtain rfl := sj h
  exact zab lzz
 refine zgM ?_
 rcases zq h with ⟨hc14, h⟩ | ⟨hc14, h⟩
 ·
  refine jT hc14 ?_
  refine jp ?_
  obtain rfl := sj h
  exact zw lzz
 refine jF hc14 ?_
 refine zav ?_
 refine jp ?_
 obtain rfl := sj h
 exact zw lzz
theorem zmh {wide : Int} {b : (List UInt8)} {r : (Int × Int)} (h : zeK wide b = some r) : FnOk Try.prog 54 [kI wide, .sl Rp.byte [0] b] [kI r.1, k8 r.2] := by
 refine zx (E := ⟨[(4, kI r.1), (5, k8 r.2)], []⟩) 19 Try.func54 rfl rfl rfl ⟨rfl, rfl, trivial⟩ (fun Xt => ?_)
 refine zv ?_
 unfold zeK at h
 refine jp ?_
 refine zN ?_
 refine jp ?_
 rcases zq h with ⟨hc1, h⟩ | ⟨hc1, h⟩
 ·
  refine jT hc1 ?_
  obtain ⟨rv, h_rv, h⟩ := bnd h
  refine jr (rl 1 [0] 9 Try.call37 (zgc h_rv) rf) ?_
  obtain rfl := sj h
  exact zw lzz
 refine jF hc1 ?_
 refine jp ?_
 rcases zq h with ⟨hc2, h⟩ | ⟨hc2, h⟩
 ·
  refine jT hc2 ?_
  refine jp ?_
  obtain rfl := sj h
  exact zw lzz
 refine jF hc2 ?_
 refine zav ?_
 refine jp ?_
 obtain rfl := sj h
 exact zw lzz
theorem zns {b : (List UInt8)} {r : (Int × Int)} (h : zfZ b = some r) : FnOk Try.prog 55 [.sl Rp.byte [0] b] [kI r.1, kI r.2] := by
 refine zx (E := ⟨[(2, kI r.1), (3, kI r.2)], []⟩) 20 Try.func55 rfl rfl rfl ⟨rfl, rfl, trivial⟩ (fun Xt => ?_)
 refine zv ?_
 unfold zfZ at h
 refine jp ?_
 obtain ⟨rv, h_rv, h⟩ := bnd h
 refine jr (rl 1 [0] 9 Try.call63 (ziE h_rv) rf) ?_
 refine zN ?_
 obtain ⟨q, h_q, h⟩ := bnd h
 refine zcr (fun s : (Int × Int × Int) => zbc b s.1 s.2.1 s.2.2) (fun s => ⟨[(0, .sl Rp.byte [0] b), (2, kI s.1), (3, kI s.2.1), (4, kI s.2.2)], []⟩) (fun o e a w => e = .exit 0 ∧ Sx ⟨⟨20, []⟩, Xt, false, #[]⟩ ⟨[(2, kI o.1), (3, kI o.2)], []⟩ a w) ?_ h_q lzz ?_
 ·
  clear h
  intro s o h
  obtain ⟨atv, points, size⟩ := s
  refine zv ?_
  replace h : zbc b atv points size = some o := h
  unfold zbc at h
  refine jp ?_
  rcases zq h with ⟨hc1, h⟩ | ⟨hc1, h⟩
  ·
   refine jT hc1 ?_
   refine zN ?_
   refine jp ?_
   refine jp ?_
   refine zav ?_
   obtain ⟨v, h_v, h⟩ := bnd h
   obtain ⟨rv2, h_rv2, h⟩ := bnd h
   refine jr (ra 2 [.sl Rp.byte [0] b, kI (IntKind.i64.wrap (atv + size))] rfl (zfe (some (kI (IntKind.i64.wrap (atv + size)))) none rfl zdz.el (zas _ _ _) ⟨rfl, rfl⟩ ⟨rfl, rfl⟩ h_v) rfl (rl 0 [0] 10 Try.call63 (ziE h_rv2) rf)) ?_
   obtain rfl := sj h
   exact zab lzz
  refine jF hc1 ?_
  obtain rfl := sj h
  exact zce rfl lzz
 refine zdc _ rfl ?_
 refine jp ?_
 obtain rfl := sj h
 exact zw lzz
end Go.Proofs.Ytnfembipjdohcaa

/-
  The Go functions do what the plain functions say. No condition.
-/
import Derived.Test.YtcbkcblkecmjnaaGreatx1G1
import Derived.Test.YtcbkcblkecmjnaaGreatx1G2
import Derived.Test.YtcbkcblkecmjnaaGreatx1G3
import Derived.Test.YtcbkcblkecmjnaaGreatx1Y
namespace Go.Proofs.YtcbkcblkecmjnaaGreat
open Go Go.RowKit
set_option linter.unusedVariables false
set_option maxRecDepth 100000
set_option maxHeartbeats 3200000
theorem zxq {r:(List Int)} (h:zmQ=some r):FnOk Tryz.prog 103 [] [.own (Rp.int .i64) 3 2 [] r]:=by
 refine zB (E:=⟨[(0,.own (Rp.int .i64) 3 2 [] r)],[]⟩) 4 Tryz.func103 rfl rfl rfl ⟨rfl,trivial⟩ (fun Xt=>?_)
 refine zr ?_
 unfold zmQ at h
 refine jp ?_
 obtain ⟨rv,h_rv,h⟩:=bnd h
 obtain ⟨v,h_v,h⟩:=bnd h
 refine jr (rl 0 [1] 11 Tryz.call121 (zof h_rv) (rkl 0 [] ⟨[(1,.om (Rp.int .i64) zC 13 [] rv)],[]⟩ (zxO (rv:=zC) (m:=rv) 14 zDm rfl rfl rfl rfl rfl rfl Tryz.call120 Tryz.call59 rfl (zlG _ _ _ _ _) h_v rfl rf))) ?_
 obtain rfl:=sj h
 refine zx ?_
 refine lk [0] [] 14 2 ?_
 exact lzz
theorem zll {name:Str} {r:Bool} (h:zfT name=some r):FnOk Tryz.prog 122 [kS name] [kB r]:=by
 refine zB (E:=⟨[(2,kB r)],[]⟩) 34 Tryz.func122 rfl rfl rfl ⟨rfl,trivial⟩ (fun Xt=>?_)
 refine zr ?_
 unfold zfT at h
 refine jp ?_
 obtain ⟨g,h_g,h⟩:=bnd h
 refine zS ⟨[(0,kS name),(15,kB g)],[]⟩ ?_ ?_
 ·
  refine (rsl 3 [] 6 (name==[]) (fun hc1=>?_) (fun hc1=>?_))
  ·
   replace h_g:=iteT h_g hc1
   obtain rfl:=sj h_g
   exact rgg
  replace h_g:=iteF h_g hc1
  refine (rsl 5 [] 11 (decide ((name.length:Int)>60)) (fun hc2=>?_) (fun hc2=>?_))
  ·
   replace h_g:=iteT h_g hc2
   obtain rfl:=sj h_g
   exact rgg
  replace h_g:=iteF h_g hc2
  obtain ⟨c,h_c,h_g⟩:=bnd h_g
  obtain ⟨rv,h_rv,h_g⟩:=bnd h_g
  obtain rfl:=sj h_g
  exact (ra 1 [kS name,kI 0] rfl (zvN rfl Tryz.underlying9 h_c) rfl (rl 0 [1] 9 Tryz.call156 (zki h_rv) rgg))
 rcases zn h with ⟨hc3,h⟩| ⟨hc3,h⟩
 ·
  refine jT hc3 ?_
  refine jp ?_
  obtain rfl:=sj h
  exact zx lzz
 refine jF hc3 ?_
 refine jp ?_
 refine zy ?_
 obtain ⟨q,h_q,h⟩:=bnd h
 refine zah (fun s:Int=>zbB name s) (fun s=>⟨[(0,kS name),(17,kI (name.length:Int)),(18,kI s)],[]⟩) (fun o e a w=>match o with| (.inl v_)=>e= .exit 0∧Sx ⟨⟨34,[]⟩,Xt,false,#[]⟩ ⟨[],[]⟩ a w| (.inr v_)=>e= .ret∧Sx ⟨⟨34,[]⟩,Xt,false,#[]⟩ ⟨[(2,kB false)],[]⟩ a w) ?_ h_q lzz ?_
 ·
  clear h
  intro v2 o h
  refine zr ?_
  replace h:zbB name v2=some o:=h
  unfold zbB at h
  refine jp ?_
  rcases zn h with ⟨hc4,h⟩| ⟨hc4,h⟩
  ·
   refine jT hc4 ?_
   refine zy ?_
   refine jp ?_
   obtain ⟨g2,h_g2,h⟩:=bnd h
   refine zS ⟨[(0,kS name),(17,kI (name.length:Int)),(18,kI v2),(32,kB g2)],[]⟩ ?_ ?_
   ·
    obtain ⟨c2,h_c2,h_g2⟩:=bnd h_g2
    obtain ⟨rv2,h_rv2,h_g2⟩:=bnd h_g2
    refine (ra 2 [kS name,kI v2] rfl (zvN rfl Tryz.underlying9 h_c2) rfl (rl 0 [1] 10 Tryz.call157 (zoI h_rv2) (rsl 2 [] 26 (!rv2) (fun hc5=>?_) (fun hc5=>?_))))
    ·
     replace h_g2:=iteT h_g2 hc5
     obtain ⟨c3,h_c3,h_g2⟩:=bnd h_g2
     obtain ⟨rv3,h_rv3,h_g2⟩:=bnd h_g2
     obtain rfl:=sj h_g2
     exact (ra 2 [kS name,kI v2] rfl (zvN rfl Tryz.underlying9 h_c3) rfl (rl 0 [1] 10 Tryz.call156 (zki h_rv3) rgg))
    replace h_g2:=iteF h_g2 hc5
    obtain rfl:=sj h_g2
    exact rgg
   rcases zn h with ⟨hc6,h⟩| ⟨hc6,h⟩
   ·
    refine jT hc6 ?_
    refine jp ?_
    obtain rfl:=sj h
    exact zbq lzz
   refine jF hc6 ?_
   refine zT ?_
   refine jp ?_
   obtain rfl:=sj h
   exact zE lzz
  refine jF hc4 ?_
  obtain rfl:=sj h
  exact zai rfl lzz
 rcases q with u| u2
 ·
  refine zaI _ rfl ?_
  refine jp ?_
  obtain rfl:=sj h
  exact zx lzz
 obtain rfl:=sj h
 exact zed lzz
theorem ziz {sv:(List Int)} {v:Int} {r:Bool} (h:zbZ sv v=some r):FnOk Tryz.prog 124 [.sl (Rp.int .i64) [0] sv,kI v] [kB r]:=by
 refine zB (E:=⟨[(4,kB r)],[]⟩) 9 Tryz.func124 rfl rfl rfl ⟨rfl,trivial⟩ (fun Xt=>?_)
 refine zr ?_
 unfold zbZ at h
 refine jp ?_
 obtain ⟨rv,h_rv,h⟩:=bnd h
 refine jr (rl 2 [0] 9 Tryz.call158 (zjB h_rv) rf) ?_
 obtain rfl:=sj h
 exact zx lzz
theorem zpc {k:Int} {r:(Int×Int)} (h:zjb k=some r):FnOk Tryz.prog 163 [kI k] [kI r.1,k8 r.2]:=by
 refine zB (E:=⟨[(2,kI r.1),(3,k8 r.2)],[]⟩) 16 Tryz.func163 rfl rfl rfl ⟨rfl,rfl,trivial⟩ (fun Xt=>?_)
 refine zr ?_
 unfold zjb at h
 refine jp ?_
 obtain ⟨rv,h_rv,h⟩:=bnd h
 refine jr (rl 0 [1] 9 Tryz.call121 (zof h_rv) (ra 1 [.om (Rp.int .i64) zC 11 [] rv,kI k] rfl (zsE (rk:=(Rp.int .i64)) (rv:=zC) (m:=rv) (k:=k) (.rc zC [11] ((mget rv k).getD (⟨[],0⟩:zw))) rfl zew (zlG _ _ _ _ _) (zeb rfl rfl) (zvy rfl)) rfl (rfl' [12]))) ?_
 refine jp ?_
 rcases zn h with ⟨hc1,h⟩| ⟨hc1,h⟩
 ·
  refine jT hc1 ?_
  refine jp ?_
  obtain rfl:=sj h
  exact zx lzz
 refine jF hc1 ?_
 refine jp ?_
 obtain rfl:=sj h
 exact zx lzz
theorem zwr {t:zbj} {r:Bool} (h:zlm t=some r):FnOk Tryz.prog 153 [.rc zfb [0] t] [kB r]:=by
 refine zB (E:=⟨[(2,kB r)],[]⟩) 16 Tryz.func153 rfl rfl rfl ⟨rfl,trivial⟩ (fun Xt=>?_)
 refine zr ?_
 unfold zlm at h
 refine jq [11] ?_
 obtain ⟨g,h_g,h⟩:=bnd h
 refine zS ⟨[(2,kB g)],[]⟩ ?_ ?_
 ·
  refine (rsl 4 [] 6 (decide (t.Number≥1)) (fun hc1=>?_) (fun hc1=>?_))
  ·
   replace h_g:=iteT h_g hc1
   refine (rsl 5 [] 11 (decide (t.Number≤536870911)) (fun hc2=>?_) (fun hc2=>?_))
   ·
    replace h_g:=iteT h_g hc2
    obtain ⟨rv,h_rv,h_g⟩:=bnd h_g
    obtain rfl:=sj h_g
    exact (rl 2 [1] 10 Tryz.call174 (zqC h_rv) rgg)
   replace h_g:=iteF h_g hc2
   obtain rfl:=sj h_g
   exact rgg
  replace h_g:=iteF h_g hc1
  obtain rfl:=sj h_g
  exact rgg
 obtain rfl:=sj h
 exact zx lzz
theorem znl {b:(List UInt8)} {r:(Int×Int)} (h:zhd b=some r):FnOk Tryz.prog 154 [.sl Rp.byte [0] b] [kI r.1,k8 r.2]:=by
 refine zB (E:=⟨[(2,kI r.1),(3,k8 r.2)],[]⟩) 15 Tryz.func154 rfl rfl rfl ⟨rfl,rfl,trivial⟩ (fun Xt=>?_)
 refine zr ?_
 unfold zhd at h
 refine jp ?_
 obtain ⟨rv,h_rv,h⟩:=bnd h
 refine jr (rl 1 [0] 9 Tryz.call152 (zhv h_rv) rf) ?_
 refine jp ?_
 obtain rfl:=sj h
 exact zx lzz
theorem zdJ {sv:(List zc)} {v:Int} {r:Int} (h:zat sv v=some r):FnOk Tryz.prog 117 [.sl za [0] sv,.fv 162 [.ep (Rp.int .i64) [0] v 0]] [kI r]:=by
 refine zB (E:=⟨[(4,kI r)],[]⟩) 19 Tryz.func117 rfl rfl rfl ⟨rfl,trivial⟩ (fun Xt=>?_)
 refine zr ?_
 unfold zat at h
 refine jp ?_
 refine jp ?_
 refine zy ?_
 obtain ⟨q,h_q,h⟩:=bnd h
 refine zah (fun s:Int=>zD sv v s) (fun s=>⟨[(0,.sl za [0] sv),(1,.fv 162 [.ep (Rp.int .i64) [0] v 0]),(7,kI (sv.length:Int)),(8,kI s)],[]⟩) (fun o e a w=>match o with| (.inl v_)=>e= .exit 0∧Sx ⟨⟨19,[]⟩,Xt,false,#[]⟩ ⟨[],[]⟩ a w| (.inr v_)=>e= .ret∧Sx ⟨⟨19,[]⟩,Xt,false,#[]⟩ ⟨[(4,kI v_)],[]⟩ a w) ?_ h_q lzz ?_
 ·
  clear h
  intro v2 o h
  refine zr ?_
  replace h:zD sv v v2=some o:=h
  unfold zD at h
  refine jp ?_
  rcases zn h with ⟨hc1,h⟩| ⟨hc1,h⟩
  ·
   refine jT hc1 ?_
   refine zy ?_
   refine jp ?_
   obtain ⟨x,h_x,h⟩:=bnd h
   obtain ⟨rv,h_rv,h⟩:=bnd h
   refine jr (ra 3 [.sl za [0] sv,kI v2] rfl (zao rfl ziD.el (zI _ _ _) h_x) rfl (ra 0 [.ep za [0] x 0] rfl (zdm rfl ⟨Tryz.isAgg64,Tryz.sizeOf64⟩) rfl (ra 0 [.fv 162 [.ep (Rp.int .i64) [0] v 0],.rc za [0] x] rfl (zCO (args:=[.tmp 15]) [.rc za [0] x] [0] 10 rfl (zEe _ _) Tryz.call162 (zrw h_rv) rfl rfl rfl rfl rfl) rfl rf))) ?_
   rcases zn h with ⟨hc2,h⟩| ⟨hc2,h⟩
   ·
    refine jT hc2 ?_
    refine jp ?_
    obtain rfl:=sj h
    exact zbq lzz
   refine jF hc2 ?_
   refine zT ?_
   refine jp ?_
   obtain rfl:=sj h
   exact zE lzz
  refine jF hc1 ?_
  obtain rfl:=sj h
  exact zai rfl lzz
 rcases q with u| u2
 ·
  refine zaI _ rfl ?_
  refine jp ?_
  obtain rfl:=sj h
  exact zx lzz
 obtain rfl:=sj h
 exact zed lzz
theorem zsa {wv:Int} {r:Int} (h:zic wv=some r):FnOk Tryz.prog 129 [kU wv] [.lf (.int .i32 r)]:=by
 refine zB (E:=⟨[(2,.lf (.int .i32 r))],[]⟩) 6 Tryz.func129 rfl rfl rfl ⟨rfl,trivial⟩ (fun Xt=>?_)
 refine zr ?_
 unfold zic at h
 refine jp ?_
 obtain ⟨rv,h_rv,h⟩:=bnd h
 refine jr (rl 1 [1] 9 Tryz.call130 (zob h_rv) rf) ?_
 obtain rfl:=sj h
 exact zx lzz
theorem zrh {b:(List UInt8)} {r:Int} (h:zlq b=some r):FnOk Tryz.prog 175 [.sl Rp.byte [0] b] [kI r]:=by
 refine zB (E:=⟨[(2,kI r)],[]⟩) 48 Tryz.func175 rfl rfl rfl ⟨rfl,trivial⟩ (fun Xt=>?_)
 refine zr ?_
 unfold zlq at h
 refine jp ?_
 refine jp ?_
 rcases zn h with ⟨hc1,h⟩| ⟨hc1,h⟩
 ·
  refine jT hc1 ?_
  refine jp ?_
  obtain rfl:=sj h
  exact zx lzz
 refine jF hc1 ?_
 obtain ⟨x,h_x,h⟩:=bnd h
 obtain ⟨rv,h_rv,h⟩:=bnd h
 refine jr (ra 1 [.sl Rp.byte [0] b,kI 0] rfl (zao rfl zcS.el (zI _ _ _) h_x) rfl (rl 1 [1] 9 Tryz.call181 (zyc h_rv) rf)) ?_
 refine zS ⟨[(0,.sl Rp.byte [0] b),(3,kI rv.1),(4,.lf (.int .u32 rv.2)),(24,kB ((rv.1==0)|| (decide (rv.1>(b.length:Int)))))],[]⟩ ?_ ?_
 ·
  refine (rsl 3 [] 19 (rv.1==0) (fun hc2=>?_) (fun hc2=>?_))
  · exact (rbl [] 24 true ((rv.1==0)|| (decide (rv.1>(b.length:Int)))) (by rw [hc2]<;>rfl))
  exact (rbl [] 24 (decide (rv.1>(b.length:Int))) ((rv.1==0)|| (decide (rv.1>(b.length:Int)))) (by rw [hc2]<;>rfl))
 rcases zn h with ⟨hc3,h⟩| ⟨hc3,h⟩
 ·
  refine jT hc3 ?_
  refine jp ?_
  obtain rfl:=sj h
  exact zx lzz
 refine jF hc3 ?_
 obtain ⟨v2,h_v2,h⟩:=bnd h
 refine jr (ra 2 [.sl Rp.byte [0] b,kI 1,kI rv.1] rfl (zeD (some (kI 1)) (some (kI rv.1)) rfl zcS.el (zI _ _ _) ⟨rfl,rfl⟩ ⟨rfl,rfl⟩ h_v2) rfl rf) ?_
 refine zy ?_
 obtain ⟨q,h_q,h⟩:=bnd h
 refine zah (fun s:(Int×Int)=>zdK v2 s.1 s.2) (fun s=>⟨[(3,kI rv.1),(4,.lf (.int .u32 s.1)),(27,.sl Rp.byte [0] v2),(28,kI (v2.length:Int)),(29,kI s.2)],[]⟩) (fun o e a w=>match o with| (.inl v_)=>e= .exit 0∧Sx ⟨⟨48,[]⟩,Xt,false,#[]⟩ ⟨[(3,kI rv.1),(4,.lf (.int .u32 v_))],[]⟩ a w| (.inr v_)=>e= .ret∧Sx ⟨⟨48,[]⟩,Xt,false,#[]⟩ ⟨[(2,kI 0)],[]⟩ a w) ?_ h_q lzz ?_
 ·
  clear h
  intro s o h
  obtain ⟨wv,v3⟩:=s
  refine zr ?_
  replace h:zdK v2 wv v3=some o:=h
  unfold zdK at h
  refine jp ?_
  rcases zn h with ⟨hc4,h⟩| ⟨hc4,h⟩
  ·
   refine jT hc4 ?_
   refine zy ?_
   obtain ⟨x2,h_x2,h⟩:=bnd h
   refine jr (ra 0 [.sl Rp.byte [0] v2,kI v3] rfl (zao rfl zcS.el (zI _ _ _) h_x2) rfl rf) ?_
   refine jr (ra 1 [k8 (x2.toNat:Int),kU 6] rfl (ziG rfl rfl) rfl rf) ?_
   rcases zn h with ⟨hc5,h⟩| ⟨hc5,h⟩
   ·
    refine jT hc5 ?_
    refine jp ?_
    obtain rfl:=sj h
    exact zbq lzz
   refine jF hc5 ?_
   refine jr (ra 1 [.lf (.int .u32 wv),kU 6] rfl (zyQ rfl rfl) rfl rf) ?_
   refine zT ?_
   refine jp ?_
   obtain rfl:=sj h
   exact zE lzz
  refine jF hc4 ?_
  obtain rfl:=sj h
  exact zai rfl lzz
 rcases q with u| u2
 ·
  refine zaI _ rfl ?_
  obtain ⟨rv2,h_rv2,h⟩:=bnd h
  refine jr (rl 2 [1] 10 Tryz.call182 (zyb h_rv2) rf) ?_
  rcases zn h with ⟨hc6,h⟩| ⟨hc6,h⟩
  ·
   refine jT hc6 ?_
   refine jp ?_
   obtain rfl:=sj h
   exact zx lzz
  refine jF hc6 ?_
  refine jp ?_
  obtain rfl:=sj h
  exact zx lzz
 obtain rfl:=sj h
 exact zed lzz
theorem ziy {slices:(List (List UInt8))} {r:(List UInt8)} (h:zbY slices=some r):FnOk Tryz.prog 115 [.sl (Rp.list Rp.byte) [0] slices] [.own Rp.byte 5 2 [] r]:=by
 refine zB (E:=⟨[(2,.own Rp.byte 5 2 [] r)],[]⟩) 36 Tryz.func115 rfl rfl rfl ⟨rfl,trivial⟩ (fun Xt=>?_)
 refine zr ?_
 unfold zbY at h
 refine jp ?_
 refine jp ?_
 refine jp ?_
 refine zy ?_
 obtain ⟨q,h_q,h⟩:=bnd h
 refine zah (fun s:(Int×Int)=>zac slices s.1 s.2) (fun s=>⟨[(0,.sl (Rp.list Rp.byte) [0] slices),(3,kI s.1),(9,.sl (Rp.list Rp.byte) [0] slices),(10,kI (slices.length:Int)),(11,kI s.2)],[]⟩) (fun o e a w=>e= .exit 0∧Sx ⟨⟨36,[]⟩,Xt,false,#[]⟩ ⟨[(0,.sl (Rp.list Rp.byte) [0] slices),(3,kI o)],[]⟩ a w) ?_ h_q lzz ?_
 ·
  clear h
  intro s o h
  obtain ⟨size,v⟩:=s
  refine zr ?_
  replace h:zac slices size v=some o:=h
  unfold zac at h
  refine jp ?_
  rcases zn h with ⟨hc1,h⟩| ⟨hc1,h⟩
  ·
   refine jT hc1 ?_
   refine zy ?_
   obtain ⟨x,h_x,h⟩:=bnd h
   refine jr (ra 0 [.sl (Rp.list Rp.byte) [0] slices,kI v] rfl (zao rfl zqN.el (zI _ _ _) h_x) rfl (ra 0 [.ep (Rp.list Rp.byte) [0] x 0] rfl (zga Rp.byte x rfl rfl rfl) rfl rf)) ?_
   refine jp ?_
   refine jp ?_
   rcases zn h with ⟨hc2,h⟩| ⟨hc2,h⟩
   ·
    refine jT hc2 ?_
    exact absurd h nofun
   refine jF hc2 ?_
   refine zT ?_
   refine jp ?_
   obtain rfl:=sj h
   exact zE lzz
  refine jF hc1 ?_
  obtain rfl:=sj h
  exact zai rfl lzz
 refine zaI _ rfl ?_
 obtain ⟨rv,h_rv,h⟩:=bnd h
 refine jr (rl 1 [1] 12 Tryz.call149 (ziX h_rv) rf) ?_
 refine jp ?_
 refine zy ?_
 obtain ⟨q2,h_q2,h⟩:=bnd h
 refine zah (fun s:((List UInt8)×Int)=>zad slices s.1 s.2) (fun s=>⟨[(6,.own Rp.byte 5 14 [] s.1),(25,.sl (Rp.list Rp.byte) [0] slices),(26,kI (slices.length:Int)),(27,kI s.2)],[]⟩) (fun o e a w=>e= .exit 2∧Sx ⟨⟨36,[]⟩,Xt,false,#[]⟩ ⟨[(6,.own Rp.byte 5 14 [] o)],[]⟩ a w) ?_ h_q2 lzz ?_
 ·
  clear h
  intro s o h
  obtain ⟨newslice,v2⟩:=s
  refine zr ?_
  replace h:zad slices newslice v2=some o:=h
  unfold zad at h
  refine jp ?_
  rcases zn h with ⟨hc3,h⟩| ⟨hc3,h⟩
  ·
   refine jT hc3 ?_
   refine zy ?_
   obtain ⟨x2,h_x2,h⟩:=bnd h
   refine jr (ra 0 [.sl (Rp.list Rp.byte) [0] slices,kI v2] rfl (zao rfl zqN.el (zI _ _ _) h_x2) rfl (ra 0 [.ep (Rp.list Rp.byte) [0] x2 0] rfl (zga Rp.byte x2 rfl rfl rfl) rfl rf)) ?_
   obtain ⟨v3,h_v3,h⟩:=bnd h
   refine jr (ra 2 [.own Rp.byte 5 14 [] newslice,.sl Rp.byte [0] x2] rfl (zeA 14 [] rfl zcS.el rfl (zbJ _ _ _ _ _) (zI _ _ _) h_v3 (.inl zsT) rfl) rfl rf) ?_
   refine zT ?_
   refine jp ?_
   obtain rfl:=sj h
   exact zE lzz
  refine jF hc3 ?_
  obtain rfl:=sj h
  exact zai rfl lzz
 refine zaI _ rfl ?_
 refine jp ?_
 obtain rfl:=sj h
 refine zx ?_
 refine lk [2] [] 14 2 ?_
 exact lzz
theorem zrp {b:(List UInt8)} {r:(Int×Int)} (h:zhr b=some r):FnOk Tryz.prog 179 [.sl Rp.byte [0] b] [kU r.1,k8 r.2]:=by
 refine zB (E:=⟨[(2,kU r.1),(3,k8 r.2)],[]⟩) 22 Tryz.func179 rfl rfl rfl ⟨rfl,rfl,trivial⟩ (fun Xt=>?_)
 refine zr ?_
 unfold zhr at h
 refine jp ?_
 obtain ⟨rv,h_rv,h⟩:=bnd h
 refine jr (rl 1 [0] 9 Tryz.call152 (zhv h_rv) rf) ?_
 refine zS ⟨[(4,kU rv.1),(20,kB ((rv.2.2 !=0)|| (rv.2.1 !=(b.length:Int))))],[]⟩ ?_ ?_
 ·
  refine (rsl 3 [] 15 (rv.2.2 !=0) (fun hc1=>?_) (fun hc1=>?_))
  · exact (rbl [] 20 true ((rv.2.2 !=0)|| (rv.2.1 !=(b.length:Int))) (by rw [hc1]<;>rfl))
  exact (rbl [] 20 (rv.2.1 !=(b.length:Int)) ((rv.2.2 !=0)|| (rv.2.1 !=(b.length:Int))) (by rw [hc1]<;>rfl))
 rcases zn h with ⟨hc2,h⟩| ⟨hc2,h⟩
 ·
  refine jT hc2 ?_
  refine jp ?_
  obtain rfl:=sj h
  exact zx lzz
 refine jF hc2 ?_
 refine jp ?_
 obtain rfl:=sj h
 exact zx lzz
theorem zmk {sv:(List zh)} {i:Int} {k:Int} {r:Int} (h:zeo sv i k=some r):FnOk Tryz.prog 70 [.sl zi [0] sv,kI i,kI k] [kI r]:=by
 refine zB (E:=⟨[(6,kI r)],[]⟩) 119 Tryz.func70 rfl rfl rfl ⟨rfl,trivial⟩ (fun Xt=>?_)
 refine zr ?_
 unfold zeo at h
 refine jp ?_
 obtain ⟨x,h_x,h⟩:=bnd h
 obtain ⟨x2,h_x2,h⟩:=bnd h
 refine jr (ra 2 [.sl zi [0] sv,kI i] rfl (zao rfl zgu.el (zI _ _ _) h_x) rfl (ra 1 [.ep zi [0] x 1] rfl (zga za x.Fields rfl rfl rfl) rfl (ra 1 [.sl za [0] x.Fields,kI k] rfl (zao rfl ziD.el (zI _ _ _) h_x2) rfl (ra 0 [.ep za [0] x2 0] rfl (zdm rfl ⟨Tryz.isAgg64,Tryz.sizeOf64⟩) rfl (rfl' [11]))))) ?_
 refine jp ?_
 refine jp ?_
 refine zy ?_
 obtain ⟨q,h_q,h⟩:=bnd h
 refine zah (fun s:(Bool×Bool×Int)=>zaS i k sv x2 s.1 s.2.1 s.2.2) (fun s=>⟨[(0,.sl zi [0] sv),(1,kI i),(2,kI k),(7,.ptr 11 0),(8,kB s.1),(9,kB s.2.1),(10,kI s.2.2)],[⟨11,64,[kS x2.Name,kI x2.Number,kI x2.Kind,kB x2.Repeated,kB x2.Packed,kI x2.Of]⟩]⟩) (fun o e a w=>e= .exit 0∧Sx ⟨⟨119,[]⟩,Xt,false,#[]⟩ ⟨[(0,.sl zi [0] sv),(7,.ptr 11 0),(8,kB o.1),(9,kB o.2)],[⟨11,64,[kS x2.Name,kI x2.Number,kI x2.Kind,kB x2.Repeated,kB x2.Packed,kI x2.Of]⟩]⟩ a w) ?_ h_q lzz ?_
 ·
  clear h
  intro s o h
  obtain ⟨name,number,j⟩:=s
  refine zr ?_
  replace h:zaS i k sv x2 name number j=some o:=h
  unfold zaS at h
  refine jp ?_
  rcases zn h with ⟨hc1,h⟩| ⟨hc1,h⟩
  ·
   refine jT hc1 ?_
   refine zy ?_
   obtain ⟨g,h_g,h⟩:=bnd h
   refine zbV (R:=fun e a w=>e= .normal∧Sx ⟨⟨119,[]⟩,Xt,false,#[]⟩ ⟨[(0,.sl zi [0] sv),(1,kI i),(2,kI k),(7,.ptr 11 0),(8,kB g),(9,kB number),(10,kI j)],[⟨11,64,[kS x2.Name,kI x2.Number,kI x2.Kind,kB x2.Repeated,kB x2.Packed,kI x2.Of]⟩]⟩ a w) ?_ (zdw ?_)
   ·
    refine zr ?_
    rcases Bool.eq_false_or_eq_true name with hc2| hc2
    ·
     replace h_g:=iteT h_g hc2
     obtain rfl:=sj h_g
     refine jd [0,1,2,7,8,9,10] [11] zcy (by exact (lw_e (lx (zgT ⟨[(24,kB name)],[]⟩ (by kernel_rfl) hc2) l0))) ?_
     exact zE lzz
    replace h_g:=iteF h_g hc2
    obtain ⟨x3,h_x3,h_g⟩:=bnd h_g
    obtain ⟨x4,h_x4,h_g⟩:=bnd h_g
    obtain rfl:=sj h_g
    refine jd [0,1,2,7,8,9,10] [11] zcy (by exact (lw_e (lx (zgT ⟨[(24,kB name)],[]⟩ (by kernel_rfl) hc2) (lw_e (lw_e (ly [.sl zi [0] sv,kI i] (zao rfl zgu.el (zI _ _ _) h_x3) rfl (lw_e (ly [.ep zi [0] x3 1] (zga za x3.Fields rfl rfl rfl) rfl (lw_e (ly [.sl za [0] x3.Fields,kI j] (zao rfl ziD.el (zI _ _ _) h_x4) rfl l0)))))))))) ?_
    exact zE lzz
   obtain ⟨g2,h_g2,h⟩:=bnd h
   refine zbV (R:=fun e a w=>e= .normal∧Sx ⟨⟨119,[]⟩,Xt,false,#[]⟩ ⟨[(0,.sl zi [0] sv),(1,kI i),(2,kI k),(7,.ptr 11 0),(8,kB g),(9,kB g2),(10,kI j)],[⟨11,64,[kS x2.Name,kI x2.Number,kI x2.Kind,kB x2.Repeated,kB x2.Packed,kI x2.Of]⟩]⟩ a w) ?_ (zdw ?_)
   ·
    refine zr ?_
    rcases Bool.eq_false_or_eq_true number with hc3| hc3
    ·
     replace h_g2:=iteT h_g2 hc3
     obtain rfl:=sj h_g2
     refine jd [0,1,2,7,8,9,10] [11] zcy (by exact (lw_e (lx (zgT ⟨[(39,kB number)],[]⟩ (by kernel_rfl) hc3) l0))) ?_
     exact zE lzz
    replace h_g2:=iteF h_g2 hc3
    obtain ⟨x5,h_x5,h_g2⟩:=bnd h_g2
    obtain ⟨x6,h_x6,h_g2⟩:=bnd h_g2
    obtain rfl:=sj h_g2
    refine jd [0,1,2,7,8,9,10] [11] zcy (by exact (lw_e (lx (zgT ⟨[(39,kB number)],[]⟩ (by kernel_rfl) hc3) (lw_e (lw_e (ly [.sl zi [0] sv,kI i] (zao rfl zgu.el (zI _ _ _) h_x5) rfl (lw_e (ly [.ep zi [0] x5 1] (zga za x5.Fields rfl rfl rfl) rfl (lw_e (ly [.sl za [0] x5.Fields,kI j] (zao rfl ziD.el (zI _ _ _) h_x6) rfl l0)))))))))) ?_
    exact zE lzz
   refine zT ?_
   refine jp ?_
   obtain rfl:=sj h
   exact zE lzz
  refine jF hc1 ?_
  obtain rfl:=sj h
  exact zai rfl lzz
 refine zaI _ rfl ?_
 obtain ⟨rv,h_rv,h⟩:=bnd h
 refine jr (rl 2 [1] 11 Tryz.call69 (zig h_rv) rf) ?_
 rcases zn h with ⟨hc4,h⟩| ⟨hc4,h⟩
 ·
  refine jT hc4 ?_
  refine jp ?_
  obtain rfl:=sj h
  exact zx lzz
 refine jF hc4 ?_
 refine jp ?_
 rcases zn h with ⟨hc5,h⟩| ⟨hc5,h⟩
 ·
  refine jT hc5 ?_
  refine jp ?_
  obtain rfl:=sj h
  exact zx lzz
 refine jF hc5 ?_
 refine zS ⟨[(0,.sl zi [0] sv),(7,.ptr 11 0),(9,kB q.2),(76,kB ((decide (x2.Number<1))|| ((decide (x2.Number>536870911))|| ((decide (x2.Number≥19000))&&(decide (x2.Number<20000))))))],[⟨11,64,[kS x2.Name,kI x2.Number,kI x2.Kind,kB x2.Repeated,kB x2.Packed,kI x2.Of]⟩]⟩ ?_ ?_
 ·
  refine (rsl 4 [] 62 (decide (x2.Number<1)) (fun hc6=>?_) (fun hc6=>?_))
  · exact (rbl [] 76 true ((decide (x2.Number<1))|| ((decide (x2.Number>536870911))|| ((decide (x2.Number≥19000))&&(decide (x2.Number<20000))))) (by rw [hc6]<;>rfl))
  refine (rsl 5 [] 67 (decide (x2.Number>536870911)) (fun hc7=>?_) (fun hc7=>?_))
  · exact (rbl [] 76 true ((decide (x2.Number<1))|| ((decide (x2.Number>536870911))|| ((decide (x2.Number≥19000))&&(decide (x2.Number<20000))))) (by rw [hc6,hc7]<;>rfl))
  refine (rsl 4 [] 71 (decide (x2.Number≥19000)) (fun hc8=>?_) (fun hc8=>?_))
  · exact (rbl [] 76 (decide (x2.Number<20000)) ((decide (x2.Number<1))|| ((decide (x2.Number>536870911))|| ((decide (x2.Number≥19000))&&(decide (x2.Number<20000))))) (by rw [hc6,hc7,hc8]<;>rfl))
  exact (rbl [] 76 false ((decide (x2.Number<1))|| ((decide (x2.Number>536870911))|| ((decide (x2.Number≥19000))&&(decide (x2.Number<20000))))) (by rw [hc6,hc7,hc8]<;>rfl))
 rcases zn h with ⟨hc9,h⟩| ⟨hc9,h⟩
 ·
  refine jT hc9 ?_
  refine jp ?_
  obtain rfl:=sj h
  exact zx lzz
 refine jF hc9 ?_
 refine jp ?_
 rcases zn h with ⟨hc10,h⟩| ⟨hc10,h⟩
 ·
  refine jT hc10 ?_
  refine jp ?_
  obtain rfl:=sj h
  exact zx lzz
 refine jF hc10 ?_
 obtain ⟨rv2,h_rv2,h⟩:=bnd h
 refine jr (rl 2 [1] 11 Tryz.call54 (zfZ h_rv2) rf) ?_
 rcases zn h with ⟨hc11,h⟩| ⟨hc11,h⟩
 ·
  refine jT hc11 ?_
  refine jp ?_
  obtain rfl:=sj h
  exact zx lzz
 refine jF hc11 ?_
 obtain ⟨g3,h_g3,h⟩:=bnd h
 refine zS ⟨[(0,.sl zi [0] sv),(7,.ptr 11 0),(93,kB g3)],[⟨11,64,[kS x2.Name,kI x2.Number,kI x2.Kind,kB x2.Repeated,kB x2.Packed,kI x2.Of]⟩]⟩ ?_ ?_
 ·
  refine (rsl 3 [] 84 x2.Packed (fun hc12=>?_) (fun hc12=>?_))
  ·
   replace h_g3:=iteT h_g3 hc12
   refine (rsl 3 [] 87 x2.Repeated (fun hc13=>?_) (fun hc13=>?_))
   ·
    replace h_g3:=iteT h_g3 hc13
    obtain ⟨rv3,h_rv3,h_g3⟩:=bnd h_g3
    obtain rfl:=sj h_g3
    exact (rl 2 [1] 11 Tryz.call39 (zda h_rv3) (rel [] lzz))
   replace h_g3:=iteF h_g3 hc13
   obtain rfl:=sj h_g3
   exact (rel [] lzz)
  replace h_g3:=iteF h_g3 hc12
  obtain rfl:=sj h_g3
  exact (rel [] lzz)
 rcases zn h with ⟨hc14,h⟩| ⟨hc14,h⟩
 ·
  refine jT hc14 ?_
  refine jp ?_
  obtain rfl:=sj h
  exact zx lzz
 refine jF hc14 ?_
 refine zS ⟨[(118,kB (if (x2.Kind==17) then ((decide (x2.Of<0))|| ((decide (x2.Of≥(sv.length:Int)))|| ((x2.Kind !=17)&&(x2.Of !=0)))) else ((x2.Kind !=17)&&(x2.Of !=0))))],[]⟩ ?_ ?_
 ·
  refine (rsl 4 [] 97 (x2.Kind==17) (fun hc15=>?_) (fun hc15=>?_))
  ·
   refine (rsl 4 [] 101 (decide (x2.Of<0)) (fun hc16=>?_) (fun hc16=>?_))
   · exact (rbl [] 118 true (if (x2.Kind==17) then ((decide (x2.Of<0))|| ((decide (x2.Of≥(sv.length:Int)))|| ((x2.Kind !=17)&&(x2.Of !=0)))) else ((x2.Kind !=17)&&(x2.Of !=0))) (by rw [hc15,hc16]<;>rfl))
   refine (rsl 8 [] 109 (decide (x2.Of≥(sv.length:Int))) (fun hc17=>?_) (fun hc17=>?_))
   · exact (rbl [] 118 true (if (x2.Kind==17) then ((decide (x2.Of<0))|| ((decide (x2.Of≥(sv.length:Int)))|| ((x2.Kind !=17)&&(x2.Of !=0)))) else ((x2.Kind !=17)&&(x2.Of !=0))) (by rw [hc15,hc16,hc17]<;>rfl))
   refine (rsl 4 [] 113 (x2.Kind !=17) (fun hc18=>?_) (fun hc18=>?_))
   · exact (rbl [] 118 (x2.Of !=0) (if (x2.Kind==17) then ((decide (x2.Of<0))|| ((decide (x2.Of≥(sv.length:Int)))|| ((x2.Kind !=17)&&(x2.Of !=0)))) else ((x2.Kind !=17)&&(x2.Of !=0))) (by rw [hc15,hc16,hc17,hc18]<;>rfl))
   exact (rbl [] 118 false (if (x2.Kind==17) then ((decide (x2.Of<0))|| ((decide (x2.Of≥(sv.length:Int)))|| ((x2.Kind !=17)&&(x2.Of !=0)))) else ((x2.Kind !=17)&&(x2.Of !=0))) (by rw [hc15,hc16,hc17,hc18]<;>rfl))
  refine (rsl 16 [] 113 (x2.Kind !=17) (fun hc19=>?_) (fun hc19=>?_))
  · exact (rbl [] 118 (x2.Of !=0) (if (x2.Kind==17) then ((decide (x2.Of<0))|| ((decide (x2.Of≥(sv.length:Int)))|| ((x2.Kind !=17)&&(x2.Of !=0)))) else ((x2.Kind !=17)&&(x2.Of !=0))) (by rw [hc15,hc19]<;>rfl))
  exact (rbl [] 118 false (if (x2.Kind==17) then ((decide (x2.Of<0))|| ((decide (x2.Of≥(sv.length:Int)))|| ((x2.Kind !=17)&&(x2.Of !=0)))) else ((x2.Kind !=17)&&(x2.Of !=0))) (by rw [hc15,hc19]<;>rfl))
 rcases zn h with ⟨hc20,h⟩| ⟨hc20,h⟩
 ·
  refine jT hc20 ?_
  refine jp ?_
  obtain rfl:=sj h
  exact zx lzz
 refine jF hc20 ?_
 refine jp ?_
 obtain rfl:=sj h
 exact zx lzz
theorem zmF {b:(List UInt8)} {atv:Int} {r:(Int×Int×Int×Int)} (h:zeO b atv=some r):FnOk Tryz.prog 71 [.sl Rp.byte [0] b,kI atv] [kI r.1,kI r.2.1,kI r.2.2.1,kI r.2.2.2]:=by
 refine zB (E:=⟨[(4,kI r.1),(5,kI r.2.1),(6,kI r.2.2.1),(7,kI r.2.2.2)],[]⟩) 40 Tryz.func71 rfl rfl rfl ⟨rfl,rfl,rfl,rfl,trivial⟩ (fun Xt=>?_)
 refine zr ?_
 unfold zeO at h
 refine jp ?_
 obtain ⟨rv,h_rv,h⟩:=bnd h
 refine jr (rl 2 [0] 9 Tryz.call68 (zcE h_rv) rf) ?_
 refine jp ?_
 rcases zn h with ⟨hc1,h⟩| ⟨hc1,h⟩
 ·
  refine jT hc1 ?_
  refine jp ?_
  obtain rfl:=sj h
  exact zx lzz
 refine jF hc1 ?_
 obtain ⟨g,h_g,h⟩:=bnd h
 refine zS ⟨[(8,kU rv.1),(9,kI rv.2.1),(32,kB g)],[]⟩ ?_ ?_
 ·
  refine (rsl 3 [] 23 (decide (rv.1>4294967295)) (fun hc2=>?_) (fun hc2=>?_))
  ·
   replace h_g:=iteT h_g hc2
   obtain rfl:=sj h_g
   exact rgg
  replace h_g:=iteF h_g hc2
  obtain ⟨rv2,h_rv2,h_g⟩:=bnd h_g
  obtain rfl:=sj h_g
  exact (rl 6 [1] 9 Tryz.call95 (zmg h_rv2) rgg)
 rcases zn h with ⟨hc3,h⟩| ⟨hc3,h⟩
 ·
  refine jT hc3 ?_
  refine jp ?_
  obtain rfl:=sj h
  exact zx lzz
 refine jF hc3 ?_
 refine jp ?_
 obtain rfl:=sj h
 exact zx lzz
theorem zii {k:Int} {b:(List UInt8)} {r:((List Int)×Int)} (h:zdP k b=some r):FnOk Tryz.prog 64 [kI k,.sl Rp.byte [0] b] [.own (Rp.int .i64) 3 2 [] r.1,kI r.2]:=by
 refine zB (E:=⟨[(4,.own (Rp.int .i64) 3 2 [] r.1),(5,kI r.2)],[]⟩) 48 Tryz.func64 rfl rfl rfl ⟨rfl,rfl,trivial⟩ (fun Xt=>?_)
 refine zr ?_
 unfold zdP at h
 refine jp ?_
 obtain ⟨rv,h_rv,h⟩:=bnd h
 refine jr (rl 1 [1] 12 Tryz.call39 (zda h_rv) rf) ?_
 rcases zn h with ⟨hc1,h⟩| ⟨hc1,h⟩
 ·
  refine jT hc1 ?_
  refine jp ?_
  obtain rfl:=sj h
  refine zx ?_
  refine zbn ⟨[(4,kN),(5,kI 2)],[]⟩ (by kernel_rfl) ?_
  refine zcK 4 (.own (Rp.int .i64) 3 2 [] (([],2):((List Int)×Int)).1) rfl (zaj (Rp.int .i64) 3 2 [] rfl) ?_
  exact lzz
 refine jF hc1 ?_
 refine jp ?_
 refine jp ?_
 refine zy ?_
 obtain ⟨q,h_q,h⟩:=bnd h
 refine zah (fun s:((List Int)×Int)=>zaB b k s.1 s.2) (fun s=>⟨[(0,kI k),(1,.sl Rp.byte [0] b),(6,.own (Rp.int .i64) 3 16 [] s.1),(7,kI s.2)],[]⟩) (fun o e a w=>match o with| (.inl v_)=>e= .exit 0∧Sx ⟨⟨48,[]⟩,Xt,false,#[]⟩ ⟨[(6,.own (Rp.int .i64) 3 16 [] v_)],[]⟩ a w| (.inr v_)=>e= .ret∧Sx ⟨⟨48,[]⟩,Xt,false,#[]⟩ ⟨[(4,kN),(5,kI v_)],[]⟩ a w) ?_ h_q ?_ ?_
 ·
  clear h
  intro s o h
  obtain ⟨out,atv⟩:=s
  refine zr ?_
  replace h:zaB b k out atv=some o:=h
  unfold zaB at h
  refine jp ?_
  rcases zn h with ⟨hc2,h⟩| ⟨hc2,h⟩
  ·
   refine jT hc2 ?_
   refine zy ?_
   refine jp ?_
   refine jp ?_
   obtain ⟨p,h_p,h⟩:=bnd h
   refine zbV (R:=fun e a w=>e= .normal∧Sx ⟨⟨48,[]⟩,Xt,false,#[]⟩ ⟨[(0,kI k),(1,.sl Rp.byte [0] b),(6,.own (Rp.int .i64) 3 16 [] out),(7,kI atv),(8,kI p)],[]⟩ a w) ?_ ?_
   ·
    replace h:=h_p
    refine zr ?_
    rcases zn h with ⟨hc3,h⟩| ⟨hc3,h⟩
    ·
     refine jT hc3 ?_
     refine jp ?_
     obtain rfl:=sj h
     exact zE lzz
    refine jF hc3 ?_
    obtain rfl:=sj h
    exact zE lzz
   refine zdw ?_
   refine jp ?_
   obtain ⟨p2,h_p2,h⟩:=bnd h
   refine zbV (R:=fun e a w=>match p2 with| (.inl v_)=>e= .normal∧Sx ⟨⟨48,[]⟩,Xt,false,#[]⟩ ⟨[(0,kI k),(1,.sl Rp.byte [0] b),(6,.own (Rp.int .i64) 3 16 [] out),(7,kI atv),(8,kI v_)],[]⟩ a w| (.inr v_)=>e= .ret∧Sx ⟨⟨48,[]⟩,Xt,false,#[]⟩ ⟨[(4,kN),(5,kI v_)],[]⟩ a w) ?_ ?_
   ·
    replace h:=h_p2
    refine zr ?_
    rcases zn h with ⟨hc4,h⟩| ⟨hc4,h⟩
    ·
     refine jT hc4 ?_
     obtain ⟨rv2,h_rv2,h⟩:=bnd h
     refine jr (rl 2 [0] 15 Tryz.call68 (zcE h_rv2) rf) ?_
     refine jp ?_
     rcases zn h with ⟨hc5,h⟩| ⟨hc5,h⟩
     ·
      refine jT hc5 ?_
      refine jp ?_
      obtain rfl:=sj h
      exact zx lzz
     refine jF hc5 ?_
     refine jp ?_
     obtain rfl:=sj h
     exact zE lzz
    refine jF hc4 ?_
    obtain rfl:=sj h
    exact zE lzz
   rcases p2 with u| u2
   ·
    refine zdw ?_
    refine jp ?_
    rcases zn h with ⟨hc6,h⟩| ⟨hc6,h⟩
    ·
     refine jT hc6 ?_
     refine jp ?_
     obtain rfl:=sj h
     exact zbq lzz
    refine jF hc6 ?_
    refine jp ?_
    obtain ⟨v3,h_v3,h⟩:=bnd h
    refine jr (rc 2 rfl (zcP [kI (IntKind.i64.wrap (atv+u))] 17 [] ([(IntKind.i64.wrap (atv+u))]:(List Int)) rfl zhD rfl rfl rfl rfl) (ra 0 [.own (Rp.int .i64) 3 16 [] out,.own (Rp.int .i64) 3 17 [] ([(IntKind.i64.wrap (atv+u))]:(List Int))] rfl (zeA 16 [] rfl zhD.el rfl (zbJ _ _ _ _ _) (zay _ _ _ _ _) h_v3 (.inl (zgy _)) rfl) rfl rf)) ?_
    refine zT ?_
    obtain rfl:=sj h
    exact zE lzz
   obtain rfl:=sj h
   exact zrG lzz
  refine jF hc2 ?_
  obtain rfl:=sj h
  exact zai rfl lzz
 ·
  refine zbn ⟨[(0,kI k),(1,.sl Rp.byte [0] b),(6,kN),(7,kI 0)],[]⟩ (by kernel_rfl) ?_
  refine zcK 6 (.own (Rp.int .i64) 3 16 [] []) rfl (zaj (Rp.int .i64) 3 16 [] rfl) ?_
  exact lzz
 rcases q with u3| u4
 ·
  refine zaI _ rfl ?_
  refine jp ?_
  obtain rfl:=sj h
  refine zx ?_
  refine lk [4,5] [] 16 2 ?_
  exact lzz
 obtain rfl:=sj h
 refine zed ?_
 refine zbn ⟨[(4,kN),(5,kI u4)],[]⟩ (by kernel_rfl) ?_
 refine zcK 4 (.own (Rp.int .i64) 3 2 [] (([],u4):((List Int)×Int)).1) rfl (zaj (Rp.int .i64) 3 2 [] rfl) ?_
 exact lzz
theorem zmG {b:(List UInt8)} {atv:Int} {r:Int} (h:zeP b atv=some r):FnOk Tryz.prog 108 [.sl Rp.byte [0] b,kI atv] [kI r]:=by
 refine zB (E:=⟨[(4,kI r)],[]⟩) 61 Tryz.func108 rfl rfl rfl ⟨rfl,trivial⟩ (fun Xt=>?_)
 refine zr ?_
 unfold zeP at h
 refine jp ?_
 refine jp ?_
 refine zy ?_
 obtain ⟨q2,h_q2,h⟩:=bnd h
 refine zah (fun s:Int=>zba atv b s) (fun s=>⟨[(0,.sl Rp.byte [0] b),(1,kI atv),(5,kI s)],[]⟩) (fun o e a w=>match o with| (.inl v_)=>e= .exit 0∧Sx ⟨⟨61,[]⟩,Xt,false,#[]⟩ ⟨[],[]⟩ a w| (.inr v_)=>e= .ret∧Sx ⟨⟨61,[]⟩,Xt,false,#[]⟩ ⟨[(4,kI v_)],[]⟩ a w) ?_ h_q2 lzz ?_
 ·
  clear h
  intro n o h
  refine zr ?_
  replace h:zba atv b n=some o:=h
  unfold zba at h
  refine zS ⟨[(0,.sl Rp.byte [0] b),(1,kI atv),(5,kI n),(17,kB ((decide (n≤4))&&(decide ((IntKind.i64.wrap (atv+n))≤(b.length:Int)))))],[]⟩ ?_ ?_
  ·
   refine (rsl 3 [] 10 (decide (n≤4)) (fun hc1=>?_) (fun hc1=>?_))
   · exact (rbl [] 17 (decide ((IntKind.i64.wrap (atv+n))≤(b.length:Int))) ((decide (n≤4))&&(decide ((IntKind.i64.wrap (atv+n))≤(b.length:Int)))) (by rw [hc1]<;>rfl))
   exact (rbl [] 17 false ((decide (n≤4))&&(decide ((IntKind.i64.wrap (atv+n))≤(b.length:Int)))) (by rw [hc1]<;>rfl))
  rcases zn h with ⟨hc2,h⟩| ⟨hc2,h⟩
  ·
   refine jT hc2 ?_
   refine zy ?_
   obtain ⟨x,h_x,h⟩:=bnd h
   refine jr (ra 2 [.sl Rp.byte [0] b,kI atv] rfl (zao rfl zcS.el (zI _ _ _) h_x) rfl rf) ?_
   refine jp ?_
   obtain ⟨p,h_p,h⟩:=bnd h
   refine zbV (R:=fun e a w=>e= .normal∧Sx ⟨⟨61,[]⟩,Xt,false,#[]⟩ ⟨[(0,.sl Rp.byte [0] b),(1,kI atv),(5,kI n),(6,kI p)],[]⟩ a w) ?_ ?_
   ·
    replace h:=h_p
    refine zr ?_
    rcases zn h with ⟨hc3,h⟩| ⟨hc3,h⟩
    ·
     refine jT hc3 ?_
     obtain ⟨x2,h_x2,h⟩:=bnd h
     obtain ⟨v3,h_v3,h⟩:=bnd h
     refine jr (rc 1 rfl (zcP [kI 0,kI 0,kI 32,kI 16,kI 8] 12 [] ([0,0,32,16,8]:(List Int)) rfl zhD rfl rfl rfl rfl) (ra 1 [.own (Rp.int .i64) 3 12 [] ([0,0,32,16,8]:(List Int)),kI n] rfl (zao rfl zhD.el (zay _ _ _ _ _) h_x2) rfl (ra 1 [kI (IntKind.i64.wrap (x.toNat:Int)),kI x2] rfl (zFB rfl h_v3) rfl rf))) ?_
     obtain rfl:=sj h
     exact zE lzz
    refine jF hc3 ?_
    obtain rfl:=sj h
    exact zE lzz
   refine zdw ?_
   refine jp ?_
   refine zy ?_
   obtain ⟨q,h_q,h⟩:=bnd h
   refine zah (fun s:(Int×Int)=>zbb atv b n s.1 s.2) (fun s=>⟨[(0,.sl Rp.byte [0] b),(1,kI atv),(5,kI n),(6,kI s.1),(7,kI s.2)],[]⟩) (fun o e a w=>e= .exit 2∧Sx ⟨⟨61,[]⟩,Xt,false,#[]⟩ ⟨[(0,.sl Rp.byte [0] b),(1,kI atv),(5,kI n),(6,kI o)],[]⟩ a w) ?_ h_q lzz ?_
   ·
    clear h
    intro s o h
    obtain ⟨rv2,i⟩:=s
    refine zr ?_
    replace h:zbb atv b n rv2 i=some o:=h
    unfold zbb at h
    refine jp ?_
    rcases zn h with ⟨hc4,h⟩| ⟨hc4,h⟩
    ·
     refine jT hc4 ?_
     refine zy ?_
     obtain ⟨x3,h_x3,h⟩:=bnd h
     refine jr (ra 6 [.sl Rp.byte [0] b,kI (IntKind.i64.wrap (atv+i))] rfl (zao rfl zcS.el (zI _ _ _) h_x3) rfl rf) ?_
     refine zT ?_
     refine jp ?_
     obtain rfl:=sj h
     exact zE lzz
    refine jF hc4 ?_
    obtain rfl:=sj h
    exact zai rfl lzz
   refine zaI _ rfl ?_
   obtain ⟨rv4,h_rv4,h⟩:=bnd h
   obtain ⟨v4,h_v4,h⟩:=bnd h
   refine jd [0,1,5,59] [] zcy (by exact (lw_e (lx (lf1 132 (zce [kI q] [1] 12 rfl Tryz.call132 (znR h_rv4) rfl rfl rfl rfl rfl)) (ly [.own Rp.byte 5 14 [] rv4] (zqi rfl Tryz.underlying24 Tryz.underlying5 Tryz.underlying9 (zay _ _ _ _ _)) rfl (lw_e (lw_e (lw_e (lw_e (lw_e (ly [.sl Rp.byte [0] b,kI atv,kI (IntKind.i64.wrap (atv+n))] (zeD (some (kI atv)) (some (kI (IntKind.i64.wrap (atv+n)))) rfl zcS.el (zI _ _ _) ⟨rfl,rfl⟩ ⟨rfl,rfl⟩ h_v4) rfl (ly [.sl Rp.byte [0] v4] (zqi rfl Tryz.underlying24 Tryz.underlying5 Tryz.underlying9 (zI _ _ _)) rfl l0))))))))))) ?_
   rcases zn h with ⟨hc5,h⟩| ⟨hc5,h⟩
   ·
    refine jT hc5 ?_
    refine jp ?_
    obtain rfl:=sj h
    exact zbq lzz
   refine jF hc5 ?_
   refine zT ?_
   refine jp ?_
   obtain rfl:=sj h
   exact zE lzz
  refine jF hc2 ?_
  obtain rfl:=sj h
  exact zai rfl lzz
 rcases q2 with u| u2
 ·
  refine zaI _ rfl ?_
  refine jp ?_
  obtain rfl:=sj h
  exact zx lzz
 obtain rfl:=sj h
 exact zed lzz
theorem zmH {wire:Int} {value:(List UInt8)} {r:Bool} (h:zeQ wire value=some r):FnOk Tryz.prog 65 [kI wire,.sl Rp.byte [0] value] [kB r]:=by
 refine zB (E:=⟨[(4,kB r)],[]⟩) 44 Tryz.func65 rfl rfl rfl ⟨rfl,trivial⟩ (fun Xt=>?_)
 refine zr ?_
 unfold zeQ at h
 refine jp ?_
 refine jp ?_
 rcases zn h with ⟨hc1,h⟩| ⟨hc1,h⟩
 ·
  refine jT hc1 ?_
  obtain ⟨rv,h_rv,h⟩:=bnd h
  refine jr (rl 1 [0] 9 Tryz.call68 (zcE h_rv) rf) ?_
  refine zS ⟨[(4,kB ((rv.2.2==0)&&(rv.2.1==(value.length:Int))))],[]⟩ ?_ ?_
  ·
   refine (rsl 3 [] 18 (rv.2.2==0) (fun hc2=>?_) (fun hc2=>?_))
   · exact (rbl [] 4 (rv.2.1==(value.length:Int)) ((rv.2.2==0)&&(rv.2.1==(value.length:Int))) (by rw [hc2]<;>rfl))
   exact (rbl [] 4 false ((rv.2.2==0)&&(rv.2.1==(value.length:Int))) (by rw [hc2]<;>rfl))
  obtain rfl:=sj h
  exact zx lzz
 refine jF hc1 ?_
 refine zS ⟨[(4,kB ((wire==2)|| (if (wire==1) then (((value.length:Int)==8)|| ((wire==5)&&((value.length:Int)==4))) else ((wire==5)&&((value.length:Int)==4)))))],[]⟩ ?_ ?_
 ·
  refine (rsl 3 [] 26 (wire==2) (fun hc3=>?_) (fun hc3=>?_))
  · exact (rbl [] 4 true ((wire==2)|| (if (wire==1) then (((value.length:Int)==8)|| ((wire==5)&&((value.length:Int)==4))) else ((wire==5)&&((value.length:Int)==4)))) (by rw [hc3]<;>rfl))
  refine (rsl 3 [] 29 (wire==1) (fun hc4=>?_) (fun hc4=>?_))
  ·
   refine (rsl 6 [] 35 ((value.length:Int)==8) (fun hc5=>?_) (fun hc5=>?_))
   · exact (rbl [] 4 true ((wire==2)|| (if (wire==1) then (((value.length:Int)==8)|| ((wire==5)&&((value.length:Int)==4))) else ((wire==5)&&((value.length:Int)==4)))) (by rw [hc3,hc4,hc5]<;>rfl))
   refine (rsl 3 [] 38 (wire==5) (fun hc6=>?_) (fun hc6=>?_))
   · exact (rbl [] 4 ((value.length:Int)==4) ((wire==2)|| (if (wire==1) then (((value.length:Int)==8)|| ((wire==5)&&((value.length:Int)==4))) else ((wire==5)&&((value.length:Int)==4)))) (by rw [hc3,hc4,hc5,hc6]<;>rfl))
   exact (rbl [] 4 false ((wire==2)|| (if (wire==1) then (((value.length:Int)==8)|| ((wire==5)&&((value.length:Int)==4))) else ((wire==5)&&((value.length:Int)==4)))) (by rw [hc3,hc4,hc5,hc6]<;>rfl))
  refine (rsl 9 [] 38 (wire==5) (fun hc7=>?_) (fun hc7=>?_))
  · exact (rbl [] 4 ((value.length:Int)==4) ((wire==2)|| (if (wire==1) then (((value.length:Int)==8)|| ((wire==5)&&((value.length:Int)==4))) else ((wire==5)&&((value.length:Int)==4)))) (by rw [hc3,hc4,hc7]<;>rfl))
  exact (rbl [] 4 false ((wire==2)|| (if (wire==1) then (((value.length:Int)==8)|| ((wire==5)&&((value.length:Int)==4))) else ((wire==5)&&((value.length:Int)==4)))) (by rw [hc3,hc4,hc7]<;>rfl))
 obtain rfl:=sj h
 exact zx lzz
theorem zhy {k:Int} {wv:Int} {r:Int} (h:zdr k wv=some r):FnOk Tryz.prog 55 [kI k,kU wv] [kU r]:=by
 refine zB (E:=⟨[(4,kU r)],[]⟩) 25 Tryz.func55 rfl rfl rfl ⟨rfl,trivial⟩ (fun Xt=>?_)
 refine zr ?_
 unfold zdr at h
 refine jp ?_
 refine jp ?_
 refine zy ?_
 refine jp ?_
 obtain ⟨p,h_p,h⟩:=bnd h
 refine zbV (R:=fun e a w=>e= .normal∧Sx ⟨⟨25,[]⟩,Xt,false,#[]⟩ ⟨[(1,kU wv),(5,kI k),(6,kB p)],[]⟩ a w) ?_ ?_
 ·
  replace h:=h_p
  refine zr ?_
  rcases zn h with ⟨hc1,h⟩| ⟨hc1,h⟩
  ·
   refine jT hc1 ?_
   obtain rfl:=sj h
   exact zE lzz
  refine jF hc1 ?_
  refine jp ?_
  obtain rfl:=sj h
  exact zE lzz
 refine zdw ?_
 rcases zn h with ⟨hc2,h⟩| ⟨hc2,h⟩
 ·
  refine jT hc2 ?_
  obtain ⟨rv,h_rv,h⟩:=bnd h
  obtain ⟨rv2,h_rv2,h⟩:=bnd h
  refine jr (rl 1 [1] 9 Tryz.call85 (zly h_rv) (rl 0 [1] 9 Tryz.call84 (zmD h_rv2) rf)) ?_
  obtain rfl:=sj h
  exact zx lzz
 refine jF hc2 ?_
 refine jp ?_
 obtain ⟨p2,h_p2,h⟩:=bnd h
 refine zbV (R:=fun e a w=>e= .normal∧Sx ⟨⟨25,[]⟩,Xt,false,#[]⟩ ⟨[(1,kU wv),(5,kI k),(12,kB p2)],[]⟩ a w) ?_ ?_
 ·
  replace h:=h_p2
  refine zr ?_
  rcases zn h with ⟨hc3,h⟩| ⟨hc3,h⟩
  ·
   refine jT hc3 ?_
   obtain rfl:=sj h
   exact zE lzz
  refine jF hc3 ?_
  refine jp ?_
  rcases zn h with ⟨hc4,h⟩| ⟨hc4,h⟩
  ·
   refine jT hc4 ?_
   obtain rfl:=sj h
   exact zE lzz
  refine jF hc4 ?_
  refine jp ?_
  rcases zn h with ⟨hc5,h⟩| ⟨hc5,h⟩
  ·
   refine jT hc5 ?_
   obtain rfl:=sj h
   exact zE lzz
  refine jF hc5 ?_
  refine jp ?_
  rcases zn h with ⟨hc6,h⟩| ⟨hc6,h⟩
  ·
   refine jT hc6 ?_
   obtain rfl:=sj h
   exact zE lzz
  refine jF hc6 ?_
  refine jp ?_
  obtain rfl:=sj h
  exact zE lzz
 refine zdw ?_
 rcases zn h with ⟨hc7,h⟩| ⟨hc7,h⟩
 ·
  refine jT hc7 ?_
  refine jp ?_
  obtain rfl:=sj h
  exact zx lzz
 refine jF hc7 ?_
 refine jp ?_
 rcases zn h with ⟨hc8,h⟩| ⟨hc8,h⟩
 ·
  refine jT hc8 ?_
  refine jp ?_
  rcases zn h with ⟨hc9,h⟩| ⟨hc9,h⟩
  ·
   refine jT hc9 ?_
   refine jp ?_
   obtain rfl:=sj h
   exact zx lzz
  refine jF hc9 ?_
  refine jp ?_
  obtain rfl:=sj h
  exact zx lzz
 refine jF hc8 ?_
 refine zT ?_
 refine jp ?_
 obtain rfl:=sj h
 exact zx lzz
theorem ztX {fuel:Nat} {x:ze} {r:Int} (h:zjC fuel x=some r):FnOk Tryz.prog 14 [.rc zj [0] x] [kI r]:=by
 refine zB (E:=⟨[(2,kI r)],[]⟩) 5 Tryz.func14 rfl rfl rfl ⟨rfl,trivial⟩ (fun Xt=>?_)
 refine zr ?_
 unfold zjC at h
 refine jr (ra 0 [.rc zj [0] x] rfl (zeC 11 [.sl zd [0] x.Values,.sl Rp.str [0] x.Unknown] [0] rfl rfl rfl (by rw [zO]<;>rfl) rfl) rfl rf) ?_
 obtain ⟨rv,h_rv,h⟩:=bnd h
 refine jr (rc 1 rfl (zH.le (ins':=[(.tmp 3,.ag [.sl zd [0] x.Values,.sl Rp.str [0] x.Unknown]),(.const (.int .i64 131072),kI 131072)]) (zce (args:=[.tmp 3,.const (.int .i64 131072)]) [.rc zj [0] x,kI 131072] [0] 10 rfl Tryz.call42 (ztY h_rv) rfl rfl rfl rfl rfl) ⟨⟨rfl,zcw zj [0] x [.sl zd [0] x.Values,.sl Rp.str [0] x.Unknown] (by rw [zO]<;>rfl) rfl⟩,⟨rfl,AV.le_refl _⟩,trivial⟩) rf) ?_
 obtain rfl:=sj h
 exact zx lzz
end Go.Proofs.YtcbkcblkecmjnaaGreat

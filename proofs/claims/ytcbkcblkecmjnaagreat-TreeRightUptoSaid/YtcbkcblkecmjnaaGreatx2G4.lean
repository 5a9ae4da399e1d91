/-
  The Go functions do what the plain functions say. No condition.
-/
import Derived.Test.YtcbkcblkecmjnaaGreatx2G1
import Derived.Test.YtcbkcblkecmjnaaGreatx2G2
import Derived.Test.YtcbkcblkecmjnaaGreatx2G3
import Derived.Test.YtcbkcblkecmjnaaGreatx2Y
namespace Go.Proofs.YtcbkcblkecmjnaaGreat
open Go Go.RowKit
set_option linter.unusedVariables false
set_option maxRecDepth 100000
set_option maxHeartbeats 3200000
theorem zzZ {r:(List Int)} (h:zpo=some r):FnOk Tryz.prog 103 [] [.own (Rp.int .i64) 3 2 [] r]:=by
 refine zC (E:=⟨[(0,.own (Rp.int .i64) 3 2 [] r)],[]⟩) 4 Tryz.func103 rfl rfl rfl ⟨rfl,trivial⟩ (fun Xt=>?_)
 refine zp ?_
 unfold zpo at h
 refine jp ?_
 obtain ⟨rv,h_rv,h⟩:=bnd h
 obtain ⟨v,h_v,h⟩:=bnd h
 refine jr (rl 0 [1] 11 Tryz.call121 (zqA h_rv) (rkl 0 [] ⟨[(1,.om (Rp.int .i64) zI 13 [] rv)],[]⟩ (zAt (rv:=zI) (m:=rv) 14 zFP rfl rfl rfl rfl rfl rfl Tryz.call120 Tryz.call59 rfl (zoc _ _ _ _ _) h_v rfl rf))) ?_
 obtain rfl:=sj h
 refine zz ?_
 refine lk [0] [] 14 2 ?_
 exact lzz
theorem znH {name:Str} {r:Bool} (h:zhj name=some r):FnOk Tryz.prog 122 [kS name] [kB r]:=by
 refine zC (E:=⟨[(2,kB r)],[]⟩) 34 Tryz.func122 rfl rfl rfl ⟨rfl,trivial⟩ (fun Xt=>?_)
 refine zp ?_
 unfold zhj at h
 refine jp ?_
 obtain ⟨g,h_g,h⟩:=bnd h
 refine zW ⟨[(0,kS name),(15,kB g)],[]⟩ ?_ ?_
 ·
  refine (rsl 3 [] 6 (name==[]) (fun hc1=>?_) (fun hc1=>?_))
  ·
   replace h_g:=iteT h_g hc1
   obtain rfl:=sj h_g
   exact rgg
  replace h_g:=iteF h_g hc1
  refine (rsl 5 [] 11 (decide ((name.length:Int)>60)) (fun hc2=>?_) (fun hc2=>?_))
  ·
   replace h_g:=iteT h_g hc2
   obtain rfl:=sj h_g
   exact rgg
  replace h_g:=iteF h_g hc2
  obtain ⟨c,h_c,h_g⟩:=bnd h_g
  obtain ⟨rv,h_rv,h_g⟩:=bnd h_g
  obtain rfl:=sj h_g
  exact (ra 1 [kS name,kI 0] rfl (zyu rfl Tryz.underlying9 h_c) rfl (rl 0 [1] 9 Tryz.call156 (zmx h_rv) rgg))
 rcases zm h with ⟨hc3,h⟩| ⟨hc3,h⟩
 ·
  refine jT hc3 ?_
  refine jp ?_
  obtain rfl:=sj h
  exact zz lzz
 refine jF hc3 ?_
 refine jp ?_
 refine zA ?_
 obtain ⟨q,h_q,h⟩:=bnd h
 refine zal (fun s:Int=>zcp name s) (fun s=>⟨[(0,kS name),(17,kI (name.length:Int)),(18,kI s)],[]⟩) (fun o e a w=>match o with| (.inl v_)=>e= .exit 0∧Sx ⟨⟨34,[]⟩,Xt,false,#[]⟩ ⟨[],[]⟩ a w| (.inr v_)=>e= .ret∧Sx ⟨⟨34,[]⟩,Xt,false,#[]⟩ ⟨[(2,kB false)],[]⟩ a w) ?_ h_q lzz ?_
 ·
  clear h
  intro v2 o h
  refine zp ?_
  replace h:zcp name v2=some o:=h
  unfold zcp at h
  refine jp ?_
  rcases zm h with ⟨hc4,h⟩| ⟨hc4,h⟩
  ·
   refine jT hc4 ?_
   refine zA ?_
   refine jp ?_
   obtain ⟨g2,h_g2,h⟩:=bnd h
   refine zW ⟨[(0,kS name),(17,kI (name.length:Int)),(18,kI v2),(32,kB g2)],[]⟩ ?_ ?_
   ·
    obtain ⟨c2,h_c2,h_g2⟩:=bnd h_g2
    obtain ⟨rv2,h_rv2,h_g2⟩:=bnd h_g2
    refine (ra 2 [kS name,kI v2] rfl (zyu rfl Tryz.underlying9 h_c2) rfl (rl 0 [1] 10 Tryz.call157 (zrc h_rv2) (rsl 2 [] 26 (!rv2) (fun hc5=>?_) (fun hc5=>?_))))
    ·
     replace h_g2:=iteT h_g2 hc5
     obtain ⟨c3,h_c3,h_g2⟩:=bnd h_g2
     obtain ⟨rv3,h_rv3,h_g2⟩:=bnd h_g2
     obtain rfl:=sj h_g2
     exact (ra 2 [kS name,kI v2] rfl (zyu rfl Tryz.underlying9 h_c3) rfl (rl 0 [1] 10 Tryz.call156 (zmx h_rv3) rgg))
    replace h_g2:=iteF h_g2 hc5
    obtain rfl:=sj h_g2
    exact rgg
   rcases zm h with ⟨hc6,h⟩| ⟨hc6,h⟩
   ·
    refine jT hc6 ?_
    refine jp ?_
    obtain rfl:=sj h
    exact zaZ lzz
   refine jF hc6 ?_
   refine zag ?_
   refine jp ?_
   obtain rfl:=sj h
   exact zL lzz
  refine jF hc4 ?_
  obtain rfl:=sj h
  exact zam rfl lzz
 rcases q with u| u2
 ·
  refine zaD _ rfl ?_
  refine jp ?_
  obtain rfl:=sj h
  exact zz lzz
 obtain rfl:=sj h
 exact zcK lzz
theorem zkI {sv:(List Int)} {v:Int} {r:Bool} (h:zcR sv v=some r):FnOk Tryz.prog 124 [.sl (Rp.int .i64) [0] sv,kI v] [kB r]:=by
 refine zC (E:=⟨[(4,kB r)],[]⟩) 9 Tryz.func124 rfl rfl rfl ⟨rfl,trivial⟩ (fun Xt=>?_)
 refine zp ?_
 unfold zcR at h
 refine jp ?_
 obtain ⟨rv,h_rv,h⟩:=bnd h
 refine jr (rl 2 [0] 9 Tryz.call158 (zlS h_rv) rf) ?_
 obtain rfl:=sj h
 exact zz lzz
theorem zrD {k:Int} {r:(Int×Int)} (h:zlr k=some r):FnOk Tryz.prog 163 [kI k] [kI r.1,k8 r.2]:=by
 refine zC (E:=⟨[(2,kI r.1),(3,k8 r.2)],[]⟩) 16 Tryz.func163 rfl rfl rfl ⟨rfl,rfl,trivial⟩ (fun Xt=>?_)
 refine zp ?_
 unfold zlr at h
 refine jp ?_
 obtain ⟨rv,h_rv,h⟩:=bnd h
 refine jr (rl 0 [1] 9 Tryz.call121 (zqA h_rv) (ra 1 [.om (Rp.int .i64) zI 11 [] rv,kI k] rfl (zvf (rk:=(Rp.int .i64)) (rv:=zI) (m:=rv) (k:=k) (.rc zI [11] ((mget rv k).getD (⟨[],0⟩:zB))) rfl zfI (zoc _ _ _ _ _) (zfi rfl rfl) (zyc rfl)) rfl (rfl' [12]))) ?_
 refine jp ?_
 rcases zm h with ⟨hc1,h⟩| ⟨hc1,h⟩
 ·
  refine jT hc1 ?_
  refine jp ?_
  obtain rfl:=sj h
  exact zz lzz
 refine jF hc1 ?_
 refine jp ?_
 obtain rfl:=sj h
 exact zz lzz
theorem zyT {t:zbS} {r:Bool} (h:znI t=some r):FnOk Tryz.prog 153 [.rc zgk [0] t] [kB r]:=by
 refine zC (E:=⟨[(2,kB r)],[]⟩) 16 Tryz.func153 rfl rfl rfl ⟨rfl,trivial⟩ (fun Xt=>?_)
 refine zp ?_
 unfold znI at h
 refine jq [11] ?_
 obtain ⟨g,h_g,h⟩:=bnd h
 refine zW ⟨[(2,kB g)],[]⟩ ?_ ?_
 ·
  refine (rsl 4 [] 6 (decide (t.Number≥1)) (fun hc1=>?_) (fun hc1=>?_))
  ·
   replace h_g:=iteT h_g hc1
   refine (rsl 5 [] 11 (decide (t.Number≤536870911)) (fun hc2=>?_) (fun hc2=>?_))
   ·
    replace h_g:=iteT h_g hc2
    obtain ⟨rv,h_rv,h_g⟩:=bnd h_g
    obtain rfl:=sj h_g
    exact (rl 2 [1] 10 Tryz.call174 (ztf h_rv) rgg)
   replace h_g:=iteF h_g hc2
   obtain rfl:=sj h_g
   exact rgg
  replace h_g:=iteF h_g hc1
  obtain rfl:=sj h_g
  exact rgg
 obtain rfl:=sj h
 exact zz lzz
theorem zpR {b:(List UInt8)} {r:(Int×Int)} (h:zjb b=some r):FnOk Tryz.prog 154 [.sl Rp.byte [0] b] [kI r.1,k8 r.2]:=by
 refine zC (E:=⟨[(2,kI r.1),(3,k8 r.2)],[]⟩) 15 Tryz.func154 rfl rfl rfl ⟨rfl,rfl,trivial⟩ (fun Xt=>?_)
 refine zp ?_
 unfold zjb at h
 refine jp ?_
 obtain ⟨rv,h_rv,h⟩:=bnd h
 refine jr (rl 1 [0] 9 Tryz.call152 (zjz h_rv) rf) ?_
 refine jp ?_
 obtain rfl:=sj h
 exact zz lzz
theorem zeI {sv:(List ze)} {v:Int} {r:Int} (h:zaL sv v=some r):FnOk Tryz.prog 117 [.sl zf [0] sv,.fv 162 [.ep (Rp.int .i64) [0] v 0]] [kI r]:=by
 refine zC (E:=⟨[(4,kI r)],[]⟩) 19 Tryz.func117 rfl rfl rfl ⟨rfl,trivial⟩ (fun Xt=>?_)
 refine zp ?_
 unfold zaL at h
 refine jp ?_
 refine jp ?_
 refine zA ?_
 obtain ⟨q,h_q,h⟩:=bnd h
 refine zal (fun s:Int=>zK sv v s) (fun s=>⟨[(0,.sl zf [0] sv),(1,.fv 162 [.ep (Rp.int .i64) [0] v 0]),(7,kI (sv.length:Int)),(8,kI s)],[]⟩) (fun o e a w=>match o with| (.inl v_)=>e= .exit 0∧Sx ⟨⟨19,[]⟩,Xt,false,#[]⟩ ⟨[],[]⟩ a w| (.inr v_)=>e= .ret∧Sx ⟨⟨19,[]⟩,Xt,false,#[]⟩ ⟨[(4,kI v_)],[]⟩ a w) ?_ h_q lzz ?_
 ·
  clear h
  intro v2 o h
  refine zp ?_
  replace h:zK sv v v2=some o:=h
  unfold zK at h
  refine jp ?_
  rcases zm h with ⟨hc1,h⟩| ⟨hc1,h⟩
  ·
   refine jT hc1 ?_
   refine zA ?_
   refine jp ?_
   obtain ⟨x,h_x,h⟩:=bnd h
   obtain ⟨rv,h_rv,h⟩:=bnd h
   refine jr (ra 3 [.sl zf [0] sv,kI v2] rfl (zao rfl zle.el (zJ _ _ _) h_x) rfl (ra 0 [.ep zf [0] x 0] rfl (zci rfl ⟨Tryz.isAgg64,Tryz.sizeOf64⟩) rfl (ra 0 [.fv 162 [.ep (Rp.int .i64) [0] v 0],.rc zf [0] x] rfl (zrK (args:=[.tmp 15]) [.rc zf [0] x] [0] 10 rfl (zCu _ _) Tryz.call162 (ztY h_rv) rfl rfl rfl rfl rfl) rfl rf))) ?_
   rcases zm h with ⟨hc2,h⟩| ⟨hc2,h⟩
   ·
    refine jT hc2 ?_
    refine jp ?_
    obtain rfl:=sj h
    exact zaZ lzz
   refine jF hc2 ?_
   refine zag ?_
   refine jp ?_
   obtain rfl:=sj h
   exact zL lzz
  refine jF hc1 ?_
  obtain rfl:=sj h
  exact zam rfl lzz
 rcases q with u| u2
 ·
  refine zaD _ rfl ?_
  refine jp ?_
  obtain rfl:=sj h
  exact zz lzz
 obtain rfl:=sj h
 exact zcK lzz
theorem zuD {wv:Int} {r:Int} (h:zkm wv=some r):FnOk Tryz.prog 129 [kU wv] [.lf (.int .i32 r)]:=by
 refine zC (E:=⟨[(2,.lf (.int .i32 r))],[]⟩) 6 Tryz.func129 rfl rfl rfl ⟨rfl,trivial⟩ (fun Xt=>?_)
 refine zp ?_
 unfold zkm at h
 refine jp ?_
 obtain ⟨rv,h_rv,h⟩:=bnd h
 refine jr (rl 1 [1] 9 Tryz.call130 (zqy h_rv) rf) ?_
 obtain rfl:=sj h
 exact zz lzz
theorem ztI {b:(List UInt8)} {r:Int} (h:znQ b=some r):FnOk Tryz.prog 175 [.sl Rp.byte [0] b] [kI r]:=by
 refine zC (E:=⟨[(2,kI r)],[]⟩) 48 Tryz.func175 rfl rfl rfl ⟨rfl,trivial⟩ (fun Xt=>?_)
 refine zp ?_
 unfold znQ at h
 refine jp ?_
 refine jp ?_
 rcases zm h with ⟨hc1,h⟩| ⟨hc1,h⟩
 ·
  refine jT hc1 ?_
  refine jp ?_
  obtain rfl:=sj h
  exact zz lzz
 refine jF hc1 ?_
 obtain ⟨x,h_x,h⟩:=bnd h
 obtain ⟨rv,h_rv,h⟩:=bnd h
 refine jr (ra 1 [.sl Rp.byte [0] b,kI 0] rfl (zao rfl zeU.el (zJ _ _ _) h_x) rfl (rl 1 [1] 9 Tryz.call181 (zAH h_rv) rf)) ?_
 refine zW ⟨[(0,.sl Rp.byte [0] b),(3,kI rv.1),(4,.lf (.int .u32 rv.2)),(24,kB ((rv.1==0)|| (decide (rv.1>(b.length:Int)))))],[]⟩ ?_ ?_
 ·
  refine (rsl 3 [] 19 (rv.1==0) (fun hc2=>?_) (fun hc2=>?_))
  · exact (rbl [] 24 true ((rv.1==0)|| (decide (rv.1>(b.length:Int)))) (by rw [hc2]<;>rfl))
  exact (rbl [] 24 (decide (rv.1>(b.length:Int))) ((rv.1==0)|| (decide (rv.1>(b.length:Int)))) (by rw [hc2]<;>rfl))
 rcases zm h with ⟨hc3,h⟩| ⟨hc3,h⟩
 ·
  refine jT hc3 ?_
  refine jp ?_
  obtain rfl:=sj h
  exact zz lzz
 refine jF hc3 ?_
 obtain ⟨v2,h_v2,h⟩:=bnd h
 refine jr (ra 2 [.sl Rp.byte [0] b,kI 1,kI rv.1] rfl (zik (some (kI 1)) (some (kI rv.1)) rfl zeU.el (zJ _ _ _) ⟨rfl,rfl⟩ ⟨rfl,rfl⟩ h_v2) rfl rf) ?_
 refine zA ?_
 obtain ⟨q,h_q,h⟩:=bnd h
 refine zal (fun s:(Int×Int)=>zeL v2 s.1 s.2) (fun s=>⟨[(3,kI rv.1),(4,.lf (.int .u32 s.1)),(27,.sl Rp.byte [0] v2),(28,kI (v2.length:Int)),(29,kI s.2)],[]⟩) (fun o e a w=>match o with| (.inl v_)=>e= .exit 0∧Sx ⟨⟨48,[]⟩,Xt,false,#[]⟩ ⟨[(3,kI rv.1),(4,.lf (.int .u32 v_))],[]⟩ a w| (.inr v_)=>e= .ret∧Sx ⟨⟨48,[]⟩,Xt,false,#[]⟩ ⟨[(2,kI 0)],[]⟩ a w) ?_ h_q lzz ?_
 ·
  clear h
  intro s o h
  obtain ⟨wv,v3⟩:=s
  refine zp ?_
  replace h:zeL v2 wv v3=some o:=h
  unfold zeL at h
  refine jp ?_
  rcases zm h with ⟨hc4,h⟩| ⟨hc4,h⟩
  ·
   refine jT hc4 ?_
   refine zA ?_
   obtain ⟨x2,h_x2,h⟩:=bnd h
   refine jr (ra 0 [.sl Rp.byte [0] v2,kI v3] rfl (zao rfl zeU.el (zJ _ _ _) h_x2) rfl rf) ?_
   refine jr (ra 1 [k8 (x2.toNat:Int),kU 6] rfl (zkU rfl rfl) rfl rf) ?_
   rcases zm h with ⟨hc5,h⟩| ⟨hc5,h⟩
   ·
    refine jT hc5 ?_
    refine jp ?_
    obtain rfl:=sj h
    exact zaZ lzz
   refine jF hc5 ?_
   refine jr (ra 1 [.lf (.int .u32 wv),kU 6] rfl (zBx rfl rfl) rfl rf) ?_
   refine zag ?_
   refine jp ?_
   obtain rfl:=sj h
   exact zL lzz
  refine jF hc4 ?_
  obtain rfl:=sj h
  exact zam rfl lzz
 rcases q with u| u2
 ·
  refine zaD _ rfl ?_
  obtain ⟨rv2,h_rv2,h⟩:=bnd h
  refine jr (rl 2 [1] 10 Tryz.call182 (zAG h_rv2) rf) ?_
  rcases zm h with ⟨hc6,h⟩| ⟨hc6,h⟩
  ·
   refine jT hc6 ?_
   refine jp ?_
   obtain rfl:=sj h
   exact zz lzz
  refine jF hc6 ?_
  refine jp ?_
  obtain rfl:=sj h
  exact zz lzz
 obtain rfl:=sj h
 exact zcK lzz
theorem zkH {slices:(List (List UInt8))} {r:(List UInt8)} (h:zcQ slices=some r):FnOk Tryz.prog 115 [.sl (Rp.list Rp.byte) [0] slices] [.own Rp.byte 5 2 [] r]:=by
 refine zC (E:=⟨[(2,.own Rp.byte 5 2 [] r)],[]⟩) 36 Tryz.func115 rfl rfl rfl ⟨rfl,trivial⟩ (fun Xt=>?_)
 refine zp ?_
 unfold zcQ at h
 refine jp ?_
 refine jp ?_
 refine jp ?_
 refine zA ?_
 obtain ⟨q,h_q,h⟩:=bnd h
 refine zal (fun s:(Int×Int)=>zat slices s.1 s.2) (fun s=>⟨[(0,.sl (Rp.list Rp.byte) [0] slices),(3,kI s.1),(9,.sl (Rp.list Rp.byte) [0] slices),(10,kI (slices.length:Int)),(11,kI s.2)],[]⟩) (fun o e a w=>e= .exit 0∧Sx ⟨⟨36,[]⟩,Xt,false,#[]⟩ ⟨[(0,.sl (Rp.list Rp.byte) [0] slices),(3,kI o)],[]⟩ a w) ?_ h_q lzz ?_
 ·
  clear h
  intro s o h
  obtain ⟨size,v⟩:=s
  refine zp ?_
  replace h:zat slices size v=some o:=h
  unfold zat at h
  refine jp ?_
  rcases zm h with ⟨hc1,h⟩| ⟨hc1,h⟩
  ·
   refine jT hc1 ?_
   refine zA ?_
   obtain ⟨x,h_x,h⟩:=bnd h
   refine jr (ra 0 [.sl (Rp.list Rp.byte) [0] slices,kI v] rfl (zao rfl ztr.el (zJ _ _ _) h_x) rfl (ra 0 [.ep (Rp.list Rp.byte) [0] x 0] rfl (zhq Rp.byte x rfl rfl rfl) rfl rf)) ?_
   refine jp ?_
   refine jp ?_
   rcases zm h with ⟨hc2,h⟩| ⟨hc2,h⟩
   ·
    refine jT hc2 ?_
    exact absurd h nofun
   refine jF hc2 ?_
   refine zag ?_
   refine jp ?_
   obtain rfl:=sj h
   exact zL lzz
  refine jF hc1 ?_
  obtain rfl:=sj h
  exact zam rfl lzz
 refine zaD _ rfl ?_
 obtain ⟨rv,h_rv,h⟩:=bnd h
 refine jr (rl 1 [1] 12 Tryz.call149 (zlo h_rv) rf) ?_
 refine jp ?_
 refine zA ?_
 obtain ⟨q2,h_q2,h⟩:=bnd h
 refine zal (fun s:((List UInt8)×Int)=>zau slices s.1 s.2) (fun s=>⟨[(6,.own Rp.byte 5 14 [] s.1),(25,.sl (Rp.list Rp.byte) [0] slices),(26,kI (slices.length:Int)),(27,kI s.2)],[]⟩) (fun o e a w=>e= .exit 2∧Sx ⟨⟨36,[]⟩,Xt,false,#[]⟩ ⟨[(6,.own Rp.byte 5 14 [] o)],[]⟩ a w) ?_ h_q2 lzz ?_
 ·
  clear h
  intro s o h
  obtain ⟨newslice,v2⟩:=s
  refine zp ?_
  replace h:zau slices newslice v2=some o:=h
  unfold zau at h
  refine jp ?_
  rcases zm h with ⟨hc3,h⟩| ⟨hc3,h⟩
  ·
   refine jT hc3 ?_
   refine zA ?_
   obtain ⟨x2,h_x2,h⟩:=bnd h
   refine jr (ra 0 [.sl (Rp.list Rp.byte) [0] slices,kI v2] rfl (zao rfl ztr.el (zJ _ _ _) h_x2) rfl (ra 0 [.ep (Rp.list Rp.byte) [0] x2 0] rfl (zhq Rp.byte x2 rfl rfl rfl) rfl rf)) ?_
   obtain ⟨v3,h_v3,h⟩:=bnd h
   refine jr (ra 2 [.own Rp.byte 5 14 [] newslice,.sl Rp.byte [0] x2] rfl (zjS 14 [] rfl zeU.el rfl (zfq _ _ _ _ _) (zJ _ _ _) h_v3 (.inl zBD) rfl) rfl rf) ?_
   refine zag ?_
   refine jp ?_
   obtain rfl:=sj h
   exact zL lzz
  refine jF hc3 ?_
  obtain rfl:=sj h
  exact zam rfl lzz
 refine zaD _ rfl ?_
 refine jp ?_
 obtain rfl:=sj h
 refine zz ?_
 refine lk [2] [] 14 2 ?_
 exact lzz
theorem ztP {b:(List UInt8)} {r:(Int×Int)} (h:zjq b=some r):FnOk Tryz.prog 179 [.sl Rp.byte [0] b] [kU r.1,k8 r.2]:=by
 refine zC (E:=⟨[(2,kU r.1),(3,k8 r.2)],[]⟩) 22 Tryz.func179 rfl rfl rfl ⟨rfl,rfl,trivial⟩ (fun Xt=>?_)
 refine zp ?_
 unfold zjq at h
 refine jp ?_
 obtain ⟨rv,h_rv,h⟩:=bnd h
 refine jr (rl 1 [0] 9 Tryz.call152 (zjz h_rv) rf) ?_
 refine zW ⟨[(4,kU rv.1),(20,kB ((rv.2.2 !=0)|| (rv.2.1 !=(b.length:Int))))],[]⟩ ?_ ?_
 ·
  refine (rsl 3 [] 15 (rv.2.2 !=0) (fun hc1=>?_) (fun hc1=>?_))
  · exact (rbl [] 20 true ((rv.2.2 !=0)|| (rv.2.1 !=(b.length:Int))) (by rw [hc1]<;>rfl))
  exact (rbl [] 20 (rv.2.1 !=(b.length:Int)) ((rv.2.2 !=0)|| (rv.2.1 !=(b.length:Int))) (by rw [hc1]<;>rfl))
 rcases zm h with ⟨hc2,h⟩| ⟨hc2,h⟩
 ·
  refine jT hc2 ?_
  refine jp ?_
  obtain rfl:=sj h
  exact zz lzz
 refine jF hc2 ?_
 refine jp ?_
 obtain rfl:=sj h
 exact zz lzz
theorem zoO {sv:(List zh)} {i:Int} {k:Int} {r:Int} (h:zfA sv i k=some r):FnOk Tryz.prog 70 [.sl zi [0] sv,kI i,kI k] [kI r]:=by
 refine zC (E:=⟨[(6,kI r)],[]⟩) 119 Tryz.func70 rfl rfl rfl ⟨rfl,trivial⟩ (fun Xt=>?_)
 refine zp ?_
 unfold zfA at h
 refine jp ?_
 obtain ⟨x,h_x,h⟩:=bnd h
 obtain ⟨x2,h_x2,h⟩:=bnd h
 refine jr (ra 2 [.sl zi [0] sv,kI i] rfl (zao rfl zhT.el (zJ _ _ _) h_x) rfl (ra 1 [.ep zi [0] x 1] rfl (zhq zf x.Fields rfl rfl rfl) rfl (ra 1 [.sl zf [0] x.Fields,kI k] rfl (zao rfl zle.el (zJ _ _ _) h_x2) rfl (ra 0 [.ep zf [0] x2 0] rfl (zci rfl ⟨Tryz.isAgg64,Tryz.sizeOf64⟩) rfl (rfl' [11]))))) ?_
 refine jp ?_
 refine jp ?_
 refine zA ?_
 obtain ⟨q,h_q,h⟩:=bnd h
 refine zal (fun s:(Bool×Bool×Int)=>zbs i k sv x2 s.1 s.2.1 s.2.2) (fun s=>⟨[(0,.sl zi [0] sv),(1,kI i),(2,kI k),(7,.ptr 11 0),(8,kB s.1),(9,kB s.2.1),(10,kI s.2.2)],[⟨11,64,[kS x2.Name,kI x2.Number,kI x2.Kind,kB x2.Repeated,kB x2.Packed,kI x2.Of]⟩]⟩) (fun o e a w=>e= .exit 0∧Sx ⟨⟨119,[]⟩,Xt,false,#[]⟩ ⟨[(0,.sl zi [0] sv),(7,.ptr 11 0),(8,kB o.1),(9,kB o.2)],[⟨11,64,[kS x2.Name,kI x2.Number,kI x2.Kind,kB x2.Repeated,kB x2.Packed,kI x2.Of]⟩]⟩ a w) ?_ h_q lzz ?_
 ·
  clear h
  intro s o h
  obtain ⟨name,number,j⟩:=s
  refine zp ?_
  replace h:zbs i k sv x2 name number j=some o:=h
  unfold zbs at h
  refine jp ?_
  rcases zm h with ⟨hc1,h⟩| ⟨hc1,h⟩
  ·
   refine jT hc1 ?_
   refine zA ?_
   obtain ⟨g,h_g,h⟩:=bnd h
   refine zcT (R:=fun e a w=>e= .normal∧Sx ⟨⟨119,[]⟩,Xt,false,#[]⟩ ⟨[(0,.sl zi [0] sv),(1,kI i),(2,kI k),(7,.ptr 11 0),(8,kB g),(9,kB number),(10,kI j)],[⟨11,64,[kS x2.Name,kI x2.Number,kI x2.Kind,kB x2.Repeated,kB x2.Packed,kI x2.Of]⟩]⟩ a w) ?_ (zeF ?_)
   ·
    refine zp ?_
    rcases Bool.eq_false_or_eq_true name with hc2| hc2
    ·
     replace h_g:=iteT h_g hc2
     obtain rfl:=sj h_g
     refine jd [0,1,2,7,8,9,10] [11] zcc (by exact (lw_e (lx (zbb ⟨[(24,kB name)],[]⟩ (by kernel_rfl) hc2) l0))) ?_
     exact zL lzz
    replace h_g:=iteF h_g hc2
    obtain ⟨x3,h_x3,h_g⟩:=bnd h_g
    obtain ⟨x4,h_x4,h_g⟩:=bnd h_g
    obtain rfl:=sj h_g
    refine jd [0,1,2,7,8,9,10] [11] zcc (by exact (lw_e (lx (zbb ⟨[(24,kB name)],[]⟩ (by kernel_rfl) hc2) (lw_e (lw_e (ly [.sl zi [0] sv,kI i] (zao rfl zhT.el (zJ _ _ _) h_x3) rfl (lw_e (ly [.ep zi [0] x3 1] (zhq zf x3.Fields rfl rfl rfl) rfl (lw_e (ly [.sl zf [0] x3.Fields,kI j] (zao rfl zle.el (zJ _ _ _) h_x4) rfl l0)))))))))) ?_
    exact zL lzz
   obtain ⟨g2,h_g2,h⟩:=bnd h
   refine zcT (R:=fun e a w=>e= .normal∧Sx ⟨⟨119,[]⟩,Xt,false,#[]⟩ ⟨[(0,.sl zi [0] sv),(1,kI i),(2,kI k),(7,.ptr 11 0),(8,kB g),(9,kB g2),(10,kI j)],[⟨11,64,[kS x2.Name,kI x2.Number,kI x2.Kind,kB x2.Repeated,kB x2.Packed,kI x2.Of]⟩]⟩ a w) ?_ (zeF ?_)
   ·
    refine zp ?_
    rcases Bool.eq_false_or_eq_true number with hc3| hc3
    ·
     replace h_g2:=iteT h_g2 hc3
     obtain rfl:=sj h_g2
     refine jd [0,1,2,7,8,9,10] [11] zcc (by exact (lw_e (lx (zbb ⟨[(39,kB number)],[]⟩ (by kernel_rfl) hc3) l0))) ?_
     exact zL lzz
    replace h_g2:=iteF h_g2 hc3
    obtain ⟨x5,h_x5,h_g2⟩:=bnd h_g2
    obtain ⟨x6,h_x6,h_g2⟩:=bnd h_g2
    obtain rfl:=sj h_g2
    refine jd [0,1,2,7,8,9,10] [11] zcc (by exact (lw_e (lx (zbb ⟨[(39,kB number)],[]⟩ (by kernel_rfl) hc3) (lw_e (lw_e (ly [.sl zi [0] sv,kI i] (zao rfl zhT.el (zJ _ _ _) h_x5) rfl (lw_e (ly [.ep zi [0] x5 1] (zhq zf x5.Fields rfl rfl rfl) rfl (lw_e (ly [.sl zf [0] x5.Fields,kI j] (zao rfl zle.el (zJ _ _ _) h_x6) rfl l0)))))))))) ?_
    exact zL lzz
   refine zag ?_
   refine jp ?_
   obtain rfl:=sj h
   exact zL lzz
  refine jF hc1 ?_
  obtain rfl:=sj h
  exact zam rfl lzz
 refine zaD _ rfl ?_
 obtain ⟨rv,h_rv,h⟩:=bnd h
 refine jr (rl 2 [1] 11 Tryz.call69 (zku h_rv) rf) ?_
 rcases zm h with ⟨hc4,h⟩| ⟨hc4,h⟩
 ·
  refine jT hc4 ?_
  refine jp ?_
  obtain rfl:=sj h
  exact zz lzz
 refine jF hc4 ?_
 refine jp ?_
 rcases zm h with ⟨hc5,h⟩| ⟨hc5,h⟩
 ·
  refine jT hc5 ?_
  refine jp ?_
  obtain rfl:=sj h
  exact zz lzz
 refine jF hc5 ?_
 refine zW ⟨[(0,.sl zi [0] sv),(7,.ptr 11 0),(9,kB q.2),(76,kB ((decide (x2.Number<1))|| ((decide (x2.Number>536870911))|| ((decide (x2.Number≥19000))&&(decide (x2.Number<20000))))))],[⟨11,64,[kS x2.Name,kI x2.Number,kI x2.Kind,kB x2.Repeated,kB x2.Packed,kI x2.Of]⟩]⟩ ?_ ?_
 ·
  refine (rsl 4 [] 62 (decide (x2.Number<1)) (fun hc6=>?_) (fun hc6=>?_))
  · exact (rbl [] 76 true ((decide (x2.Number<1))|| ((decide (x2.Number>536870911))|| ((decide (x2.Number≥19000))&&(decide (x2.Number<20000))))) (by rw [hc6]<;>rfl))
  refine (rsl 5 [] 67 (decide (x2.Number>536870911)) (fun hc7=>?_) (fun hc7=>?_))
  · exact (rbl [] 76 true ((decide (x2.Number<1))|| ((decide (x2.Number>536870911))|| ((decide (x2.Number≥19000))&&(decide (x2.Number<20000))))) (by rw [hc6,hc7]<;>rfl))
  refine (rsl 4 [] 71 (decide (x2.Number≥19000)) (fun hc8=>?_) (fun hc8=>?_))
  · exact (rbl [] 76 (decide (x2.Number<20000)) ((decide (x2.Number<1))|| ((decide (x2.Number>536870911))|| ((decide (x2.Number≥19000))&&(decide (x2.Number<20000))))) (by rw [hc6,hc7,hc8]<;>rfl))
  exact (rbl [] 76 false ((decide (x2.Number<1))|| ((decide (x2.Number>536870911))|| ((decide (x2.Number≥19000))&&(decide (x2.Number<20000))))) (by rw [hc6,hc7,hc8]<;>rfl))
 rcases zm h with ⟨hc9,h⟩| ⟨hc9,h⟩
 ·
  refine jT hc9 ?_
  refine jp ?_
  obtain rfl:=sj h
  exact zz lzz
 refine jF hc9 ?_
 refine jp ?_
 rcases zm h with ⟨hc10,h⟩| ⟨hc10,h⟩
 ·
  refine jT hc10 ?_
  refine jp ?_
  obtain rfl:=sj h
  exact zz lzz
 refine jF hc10 ?_
 obtain ⟨rv2,h_rv2,h⟩:=bnd h
 refine jr (rl 2 [1] 11 Tryz.call54 (zhp h_rv2) rf) ?_
 rcases zm h with ⟨hc11,h⟩| ⟨hc11,h⟩
 ·
  refine jT hc11 ?_
  refine jp ?_
  obtain rfl:=sj h
  exact zz lzz
 refine jF hc11 ?_
 obtain ⟨g3,h_g3,h⟩:=bnd h
 refine zW ⟨[(0,.sl zi [0] sv),(7,.ptr 11 0),(93,kB g3)],[⟨11,64,[kS x2.Name,kI x2.Number,kI x2.Kind,kB x2.Repeated,kB x2.Packed,kI x2.Of]⟩]⟩ ?_ ?_
 ·
  refine (rsl 3 [] 84 x2.Packed (fun hc12=>?_) (fun hc12=>?_))
  ·
   replace h_g3:=iteT h_g3 hc12
   refine (rsl 3 [] 87 x2.Repeated (fun hc13=>?_) (fun hc13=>?_))
   ·
    replace h_g3:=iteT h_g3 hc13
    obtain ⟨rv3,h_rv3,h_g3⟩:=bnd h_g3
    obtain rfl:=sj h_g3
    exact (rl 2 [1] 11 Tryz.call39 (zgV h_rv3) (rel [] lzz))
   replace h_g3:=iteF h_g3 hc13
   obtain rfl:=sj h_g3
   exact (rel [] lzz)
  replace h_g3:=iteF h_g3 hc12
  obtain rfl:=sj h_g3
  exact (rel [] lzz)
 rcases zm h with ⟨hc14,h⟩| ⟨hc14,h⟩
 ·
  refine jT hc14 ?_
  refine jp ?_
  obtain rfl:=sj h
  exact zz lzz
 refine jF hc14 ?_
 refine zW ⟨[(118,kB (if (x2.Kind==17) then ((decide (x2.Of<0))|| ((decide (x2.Of≥(sv.length:Int)))|| ((x2.Kind !=17)&&(x2.Of !=0)))) else ((x2.Kind !=17)&&(x2.Of !=0))))],[]⟩ ?_ ?_
 ·
  refine (rsl 4 [] 97 (x2.Kind==17) (fun hc15=>?_) (fun hc15=>?_))
  ·
   refine (rsl 4 [] 101 (decide (x2.Of<0)) (fun hc16=>?_) (fun hc16=>?_))
   · exact (rbl [] 118 true (if (x2.Kind==17) then ((decide (x2.Of<0))|| ((decide (x2.Of≥(sv.length:Int)))|| ((x2.Kind !=17)&&(x2.Of !=0)))) else ((x2.Kind !=17)&&(x2.Of !=0))) (by rw [hc15,hc16]<;>rfl))
   refine (rsl 8 [] 109 (decide (x2.Of≥(sv.length:Int))) (fun hc17=>?_) (fun hc17=>?_))
   · exact (rbl [] 118 true (if (x2.Kind==17) then ((decide (x2.Of<0))|| ((decide (x2.Of≥(sv.length:Int)))|| ((x2.Kind !=17)&&(x2.Of !=0)))) else ((x2.Kind !=17)&&(x2.Of !=0))) (by rw [hc15,hc16,hc17]<;>rfl))
   refine (rsl 4 [] 113 (x2.Kind !=17) (fun hc18=>?_) (fun hc18=>?_))
   · exact (rbl [] 118 (x2.Of !=0) (if (x2.Kind==17) then ((decide (x2.Of<0))|| ((decide (x2.Of≥(sv.length:Int)))|| ((x2.Kind !=17)&&(x2.Of !=0)))) else ((x2.Kind !=17)&&(x2.Of !=0))) (by rw [hc15,hc16,hc17,hc18]<;>rfl))
   exact (rbl [] 118 false (if (x2.Kind==17) then ((decide (x2.Of<0))|| ((decide (x2.Of≥(sv.length:Int)))|| ((x2.Kind !=17)&&(x2.Of !=0)))) else ((x2.Kind !=17)&&(x2.Of !=0))) (by rw [hc15,hc16,hc17,hc18]<;>rfl))
  refine (rsl 16 [] 113 (x2.Kind !=17) (fun hc19=>?_) (fun hc19=>?_))
  · exact (rbl [] 118 (x2.Of !=0) (if (x2.Kind==17) then ((decide (x2.Of<0))|| ((decide (x2.Of≥(sv.length:Int)))|| ((x2.Kind !=17)&&(x2.Of !=0)))) else ((x2.Kind !=17)&&(x2.Of !=0))) (by rw [hc15,hc19]<;>rfl))
  exact (rbl [] 118 false (if (x2.Kind==17) then ((decide (x2.Of<0))|| ((decide (x2.Of≥(sv.length:Int)))|| ((x2.Kind !=17)&&(x2.Of !=0)))) else ((x2.Kind !=17)&&(x2.Of !=0))) (by rw [hc15,hc19]<;>rfl))
 rcases zm h with ⟨hc20,h⟩| ⟨hc20,h⟩
 ·
  refine jT hc20 ?_
  refine jp ?_
  obtain rfl:=sj h
  exact zz lzz
 refine jF hc20 ?_
 refine jp ?_
 obtain rfl:=sj h
 exact zz lzz
theorem zpf {b:(List UInt8)} {atv:Int} {r:(Int×Int×Int×Int)} (h:zfW b atv=some r):FnOk Tryz.prog 71 [.sl Rp.byte [0] b,kI atv] [kI r.1,kI r.2.1,kI r.2.2.1,kI r.2.2.2]:=by
 refine zC (E:=⟨[(4,kI r.1),(5,kI r.2.1),(6,kI r.2.2.1),(7,kI r.2.2.2)],[]⟩) 40 Tryz.func71 rfl rfl rfl ⟨rfl,rfl,rfl,rfl,trivial⟩ (fun Xt=>?_)
 refine zp ?_
 unfold zfW at h
 refine jp ?_
 obtain ⟨rv,h_rv,h⟩:=bnd h
 refine jr (rl 2 [0] 9 Tryz.call68 (zhC h_rv) rf) ?_
 refine jp ?_
 rcases zm h with ⟨hc1,h⟩| ⟨hc1,h⟩
 ·
  refine jT hc1 ?_
  refine jp ?_
  obtain rfl:=sj h
  exact zz lzz
 refine jF hc1 ?_
 obtain ⟨g,h_g,h⟩:=bnd h
 refine zW ⟨[(8,kU rv.1),(9,kI rv.2.1),(32,kB g)],[]⟩ ?_ ?_
 ·
  refine (rsl 3 [] 23 (decide (rv.1>4294967295)) (fun hc2=>?_) (fun hc2=>?_))
  ·
   replace h_g:=iteT h_g hc2
   obtain rfl:=sj h_g
   exact rgg
  replace h_g:=iteF h_g hc2
  obtain ⟨rv2,h_rv2,h_g⟩:=bnd h_g
  obtain rfl:=sj h_g
  exact (rl 6 [1] 9 Tryz.call95 (zoJ h_rv2) rgg)
 rcases zm h with ⟨hc3,h⟩| ⟨hc3,h⟩
 ·
  refine jT hc3 ?_
  refine jp ?_
  obtain rfl:=sj h
  exact zz lzz
 refine jF hc3 ?_
 refine jp ?_
 obtain rfl:=sj h
 exact zz lzz
theorem zpg {b:(List UInt8)} {atv:Int} {r:Int} (h:zfX b atv=some r):FnOk Tryz.prog 108 [.sl Rp.byte [0] b,kI atv] [kI r]:=by
 refine zC (E:=⟨[(4,kI r)],[]⟩) 61 Tryz.func108 rfl rfl rfl ⟨rfl,trivial⟩ (fun Xt=>?_)
 refine zp ?_
 unfold zfX at h
 refine jp ?_
 refine jp ?_
 refine zA ?_
 obtain ⟨q2,h_q2,h⟩:=bnd h
 refine zal (fun s:Int=>zbG atv b s) (fun s=>⟨[(0,.sl Rp.byte [0] b),(1,kI atv),(5,kI s)],[]⟩) (fun o e a w=>match o with| (.inl v_)=>e= .exit 0∧Sx ⟨⟨61,[]⟩,Xt,false,#[]⟩ ⟨[],[]⟩ a w| (.inr v_)=>e= .ret∧Sx ⟨⟨61,[]⟩,Xt,false,#[]⟩ ⟨[(4,kI v_)],[]⟩ a w) ?_ h_q2 lzz ?_
 ·
  clear h
  intro n o h
  refine zp ?_
  replace h:zbG atv b n=some o:=h
  unfold zbG at h
  refine zW ⟨[(0,.sl Rp.byte [0] b),(1,kI atv),(5,kI n),(17,kB ((decide (n≤4))&&(decide ((IntKind.i64.wrap (atv+n))≤(b.length:Int)))))],[]⟩ ?_ ?_
  ·
   refine (rsl 3 [] 10 (decide (n≤4)) (fun hc1=>?_) (fun hc1=>?_))
   · exact (rbl [] 17 (decide ((IntKind.i64.wrap (atv+n))≤(b.length:Int))) ((decide (n≤4))&&(decide ((IntKind.i64.wrap (atv+n))≤(b.length:Int)))) (by rw [hc1]<;>rfl))
   exact (rbl [] 17 false ((decide (n≤4))&&(decide ((IntKind.i64.wrap (atv+n))≤(b.length:Int)))) (by rw [hc1]<;>rfl))
  rcases zm h with ⟨hc2,h⟩| ⟨hc2,h⟩
  ·
   refine jT hc2 ?_
   refine zA ?_
   obtain ⟨x,h_x,h⟩:=bnd h
   refine jr (ra 2 [.sl Rp.byte [0] b,kI atv] rfl (zao rfl zeU.el (zJ _ _ _) h_x) rfl rf) ?_
   refine jp ?_
   obtain ⟨p,h_p,h⟩:=bnd h
   refine zcT (R:=fun e a w=>e= .normal∧Sx ⟨⟨61,[]⟩,Xt,false,#[]⟩ ⟨[(0,.sl Rp.byte [0] b),(1,kI atv),(5,kI n),(6,kI p)],[]⟩ a w) ?_ ?_
   ·
    replace h:=h_p
    refine zp ?_
    rcases zm h with ⟨hc3,h⟩| ⟨hc3,h⟩
    ·
     refine jT hc3 ?_
     obtain ⟨x2,h_x2,h⟩:=bnd h
     obtain ⟨v3,h_v3,h⟩:=bnd h
     refine jr (rc 1 rfl (zfk [kI 0,kI 0,kI 32,kI 16,kI 8] 12 [] ([0,0,32,16,8]:(List Int)) rfl zDi rfl rfl rfl rfl) (ra 1 [.own (Rp.int .i64) 3 12 [] ([0,0,32,16,8]:(List Int)),kI n] rfl (zao rfl zDi.el (zfd _ _ _ _ _) h_x2) rfl (ra 1 [kI (IntKind.i64.wrap (x.toNat:Int)),kI x2] rfl (zId rfl h_v3) rfl rf))) ?_
     obtain rfl:=sj h
     exact zL lzz
    refine jF hc3 ?_
    obtain rfl:=sj h
    exact zL lzz
   refine zeF ?_
   refine jp ?_
   refine zA ?_
   obtain ⟨q,h_q,h⟩:=bnd h
   refine zal (fun s:(Int×Int)=>zbH atv b n s.1 s.2) (fun s=>⟨[(0,.sl Rp.byte [0] b),(1,kI atv),(5,kI n),(6,kI s.1),(7,kI s.2)],[]⟩) (fun o e a w=>e= .exit 2∧Sx ⟨⟨61,[]⟩,Xt,false,#[]⟩ ⟨[(0,.sl Rp.byte [0] b),(1,kI atv),(5,kI n),(6,kI o)],[]⟩ a w) ?_ h_q lzz ?_
   ·
    clear h
    intro s o h
    obtain ⟨rv2,i⟩:=s
    refine zp ?_
    replace h:zbH atv b n rv2 i=some o:=h
    unfold zbH at h
    refine jp ?_
    rcases zm h with ⟨hc4,h⟩| ⟨hc4,h⟩
    ·
     refine jT hc4 ?_
     refine zA ?_
     obtain ⟨x3,h_x3,h⟩:=bnd h
     refine jr (ra 6 [.sl Rp.byte [0] b,kI (IntKind.i64.wrap (atv+i))] rfl (zao rfl zeU.el (zJ _ _ _) h_x3) rfl rf) ?_
     refine zag ?_
     refine jp ?_
     obtain rfl:=sj h
     exact zL lzz
    refine jF hc4 ?_
    obtain rfl:=sj h
    exact zam rfl lzz
   refine zaD _ rfl ?_
   obtain ⟨rv4,h_rv4,h⟩:=bnd h
   obtain ⟨v4,h_v4,h⟩:=bnd h
   refine jd [0,1,5,59] [] zcc (by exact (lw_e (lx (lf1 132 (zae [kI q] [1] 12 rfl Tryz.call132 (zqq h_rv4) rfl rfl rfl rfl rfl)) (ly [.own Rp.byte 5 14 [] rv4] (zyt rfl Tryz.underlying24 Tryz.underlying5 Tryz.underlying9 (zfd _ _ _ _ _)) rfl (lw_e (lw_e (lw_e (lw_e (lw_e (ly [.sl Rp.byte [0] b,kI atv,kI (IntKind.i64.wrap (atv+n))] (zik (some (kI atv)) (some (kI (IntKind.i64.wrap (atv+n)))) rfl zeU.el (zJ _ _ _) ⟨rfl,rfl⟩ ⟨rfl,rfl⟩ h_v4) rfl (ly [.sl Rp.byte [0] v4] (zyt rfl Tryz.underlying24 Tryz.underlying5 Tryz.underlying9 (zJ _ _ _)) rfl l0))))))))))) ?_
   rcases zm h with ⟨hc5,h⟩| ⟨hc5,h⟩
   ·
    refine jT hc5 ?_
    refine jp ?_
    obtain rfl:=sj h
    exact zaZ lzz
   refine jF hc5 ?_
   refine zag ?_
   refine jp ?_
   obtain rfl:=sj h
   exact zL lzz
  refine jF hc2 ?_
  obtain rfl:=sj h
  exact zam rfl lzz
 rcases q2 with u| u2
 ·
  refine zaD _ rfl ?_
  refine jp ?_
  obtain rfl:=sj h
  exact zz lzz
 obtain rfl:=sj h
 exact zcK lzz
theorem zoM {k:Int} {wv:Int} {r:Int} (h:zfy k wv=some r):FnOk Tryz.prog 55 [kI k,kU wv] [kU r]:=by
 refine zC (E:=⟨[(4,kU r)],[]⟩) 25 Tryz.func55 rfl rfl rfl ⟨rfl,trivial⟩ (fun Xt=>?_)
 refine zp ?_
 unfold zfy at h
 refine jp ?_
 refine jp ?_
 refine zA ?_
 refine jp ?_
 obtain ⟨p,h_p,h⟩:=bnd h
 refine zcT (R:=fun e a w=>e= .normal∧Sx ⟨⟨25,[]⟩,Xt,false,#[]⟩ ⟨[(1,kU wv),(5,kI k),(6,kB p)],[]⟩ a w) ?_ ?_
 ·
  replace h:=h_p
  refine zp ?_
  rcases zm h with ⟨hc1,h⟩| ⟨hc1,h⟩
  ·
   refine jT hc1 ?_
   obtain rfl:=sj h
   exact zL lzz
  refine jF hc1 ?_
  refine jp ?_
  obtain rfl:=sj h
  exact zL lzz
 refine zeF ?_
 rcases zm h with ⟨hc2,h⟩| ⟨hc2,h⟩
 ·
  refine jT hc2 ?_
  obtain ⟨rv,h_rv,h⟩:=bnd h
  obtain ⟨rv2,h_rv2,h⟩:=bnd h
  refine jr (rl 1 [1] 9 Tryz.call85 (znX h_rv) (rl 0 [1] 9 Tryz.call84 (zpe h_rv2) rf)) ?_
  obtain rfl:=sj h
  exact zz lzz
 refine jF hc2 ?_
 refine jp ?_
 obtain ⟨p2,h_p2,h⟩:=bnd h
 refine zcT (R:=fun e a w=>e= .normal∧Sx ⟨⟨25,[]⟩,Xt,false,#[]⟩ ⟨[(1,kU wv),(5,kI k),(12,kB p2)],[]⟩ a w) ?_ ?_
 ·
  replace h:=h_p2
  refine zp ?_
  rcases zm h with ⟨hc3,h⟩| ⟨hc3,h⟩
  ·
   refine jT hc3 ?_
   obtain rfl:=sj h
   exact zL lzz
  refine jF hc3 ?_
  refine jp ?_
  rcases zm h with ⟨hc4,h⟩| ⟨hc4,h⟩
  ·
   refine jT hc4 ?_
   obtain rfl:=sj h
   exact zL lzz
  refine jF hc4 ?_
  refine jp ?_
  rcases zm h with ⟨hc5,h⟩| ⟨hc5,h⟩
  ·
   refine jT hc5 ?_
   obtain rfl:=sj h
   exact zL lzz
  refine jF hc5 ?_
  refine jp ?_
  rcases zm h with ⟨hc6,h⟩| ⟨hc6,h⟩
  ·
   refine jT hc6 ?_
   obtain rfl:=sj h
   exact zL lzz
  refine jF hc6 ?_
  refine jp ?_
  obtain rfl:=sj h
  exact zL lzz
 refine zeF ?_
 rcases zm h with ⟨hc7,h⟩| ⟨hc7,h⟩
 ·
  refine jT hc7 ?_
  refine jp ?_
  obtain rfl:=sj h
  exact zz lzz
 refine jF hc7 ?_
 refine jp ?_
 rcases zm h with ⟨hc8,h⟩| ⟨hc8,h⟩
 ·
  refine jT hc8 ?_
  refine jp ?_
  rcases zm h with ⟨hc9,h⟩| ⟨hc9,h⟩
  ·
   refine jT hc9 ?_
   refine jp ?_
   obtain rfl:=sj h
   exact zz lzz
  refine jF hc9 ?_
  refine jp ?_
  obtain rfl:=sj h
  exact zz lzz
 refine jF hc8 ?_
 refine zag ?_
 refine jp ?_
 obtain rfl:=sj h
 exact zz lzz
theorem znf {fuel:Nat} {x:zc} {r:Int} (h:ziN fuel x=some r):FnOk Tryz.prog 14 [.rc zd [0] x] [kI r]:=by
 refine zC (E:=⟨[(2,kI r)],[]⟩) 5 Tryz.func14 rfl rfl rfl ⟨rfl,trivial⟩ (fun Xt=>?_)
 refine zp ?_
 unfold ziN at h
 refine jr (ra 0 [.rc zd [0] x] rfl (zcb 11 [.sl za [0] x.Values,.sl Rp.str [0] x.Unknown] [0] rfl rfl rfl (by rw [zo]<;>rfl) rfl) rfl rf) ?_
 obtain ⟨rv,h_rv,h⟩:=bnd h
 refine jr (rc 1 rfl (zG.le (ins':=[(.tmp 3,.ag [.sl za [0] x.Values,.sl Rp.str [0] x.Unknown]),(.const (.int .i64 131072),kI 131072)]) (zae (args:=[.tmp 3,.const (.int .i64 131072)]) [.rc zd [0] x,kI 131072] [0] 10 rfl Tryz.call42 (zww h_rv) rfl rfl rfl rfl rfl) ⟨⟨rfl,zaa zd [0] x [.sl za [0] x.Values,.sl Rp.str [0] x.Unknown] (by rw [zo]<;>rfl) rfl⟩,⟨rfl,AV.le_refl _⟩,trivial⟩) rf) ?_
 obtain rfl:=sj h
 exact zz lzz
theorem ztT {rec_tree_copied:zc→Option zc} {rec_tree_copiedValue:zb→Option zb} (hrec_tree_copied:∀{x:zc} {r:zc},rec_tree_copied x=some r→FnOk Tryz.prog 51 [.rc zd [0] x] [.ag [.own za 50 3 [0,4] r.Values,.own Rp.str 9 5 [] r.Unknown]]) (hrec_tree_copiedValue:∀{v:zb} {r:zb},rec_tree_copiedValue v=some r→FnOk Tryz.prog 79 [.rc za [0] v] [.ag [kI r.Number,.own (Rp.int .u64) 75 3 [] r.Words,.own Rp.str 9 4 [] r.Texts,.own zd 30 5 [0,6] r.Subs]]) {x:zc} {r:zc} (h:ziD rec_tree_copied rec_tree_copiedValue x=some r):FnOk Tryz.prog 51 [.rc zd [0] x] [.ag [.own za 50 3 [0,4] r.Values,.own Rp.str 9 5 [] r.Unknown]]:=by
 refine zC (E:=⟨[(2,.ptr 2 0)],[⟨2,30,[.own za 50 3 [0,4] r.Values,.own Rp.str 9 5 [] r.Unknown]⟩]⟩) 29 Tryz.func51 rfl rfl rfl ⟨⟨_,_,rfl,rfl,rfl,⟨Tryz.isAgg30,Tryz.sizeOf30⟩⟩,trivial⟩ (fun Xt=>?_)
 refine zp ?_
 unfold ziD at h
 refine jr (ra 0 [.rc zd [0] x] rfl (zcb 17 [.sl za [0] x.Values,.sl Rp.str [0] x.Unknown] [0] rfl rfl rfl (by rw [zo]<;>rfl) rfl) rfl (rfl' [18])) ?_
 obtain ⟨rv,h_rv,h⟩:=bnd h
 obtain ⟨rv2,h_rv2,h⟩:=bnd h
 refine jd [2,3] [18,21] zcc (by exact (lw_e (lw_e (lx (lf1 77 (zae [.sl za [0] x.Values] [0] 17 rfl Tryz.call77 (zhr h_rv) rfl rfl rfl rfl rfl)) (lw_e (lw_e (lx (lf1 78 (zae [.sl Rp.str [0] x.Unknown] [0] 18 rfl Tryz.call78 (zge h_rv2) rfl rfl rfl rfl rfl)) (ly [.own za 50 19 [0] rv,.own Rp.str 9 20 [] rv2] (zeP [.own za 50 19 [0] rv,.own Rp.str 9 20 [] rv2] [.own za 50 19 [0] rv,.own Rp.str 9 20 [] rv2] rfl zCY rfl) rfl (lx (zkB 21 [kN,kN] rfl Tryz.zeroValue30 rfl) (ly [.ptr 21 0,.ag [.own za 50 19 [0] rv,.own Rp.str 9 20 [] rv2]] (zqd (b:=⟨21,30,[kN,kN]⟩) (off:=0) [.own za 50 19 [0] rv,.own Rp.str 9 20 [] rv2] rfl Tryz.sizeOf30 rfl rfl rfl) rfl l0)))))))))) ?_
 refine jp ?_
 refine zA ?_
 obtain ⟨q,h_q,h⟩:=bnd h
 refine zal (fun s:((List zb)×Int)=>zdq rec_tree_copiedValue rv s.1 s.2) (fun s=>⟨[(2,.ptr 18 0),(3,.ptr 21 0),(14,.own za 50 19 [0,22] s.1),(15,kI (rv.length:Int)),(16,kI s.2)],[⟨18,30,[kN,kN]⟩,⟨21,30,[.own za 50 19 [0,22] s.1,.own Rp.str 9 20 [] rv2]⟩]⟩) (fun o e a w=>e= .exit 0∧Sx ⟨⟨29,[]⟩,Xt,false,#[]⟩ ⟨[(2,.ptr 18 0),(3,.ptr 21 0)],[⟨18,30,[kN,kN]⟩,⟨21,30,[.own za 50 19 [0,22] o,.own Rp.str 9 20 [] rv2]⟩]⟩ a w) ?_ h_q ?_ ?_
 ·
  clear h
  intro s o h
  obtain ⟨v,v2⟩:=s
  refine zp ?_
  replace h:zdq rec_tree_copiedValue rv v v2=some o:=h
  unfold zdq at h
  refine jp ?_
  rcases zm h with ⟨hc1,h⟩| ⟨hc1,h⟩
  ·
   refine jT hc1 ?_
   refine zA ?_
   obtain ⟨x2,h_x2,h⟩:=bnd h
   refine jr (ra 1 [.own za 50 19 [0,22] v,kI v2] rfl (zpq rfl zkQ.el h_x2) rfl (ra 0 [.own za 50 19 [0,22] v,.ptr 19 (Int.toNat v2*za.size)] rfl (zCE (r:=za) (e:=50) (ℓ:=19) (C:=[0,22]) (xs:=v) (.tmp 14) x2 rfl ⟨Tryz.isAgg50,Tryz.sizeOf50⟩ h_x2) rfl (ral 2 [35] [.ptr 35 0,.rc za [0,22] x2] rfl (zgA (r:=za) (b:=⟨35,50,[kI 0,kN,kN,kN]⟩) (off:=0) [kI x2.Number,.sl (Rp.int .u64) [0,22] x2.Words,.sl Rp.str [0,22] x2.Texts,.sl zd [0,22] x2.Subs] rfl Tryz.sizeOf50 rfl rfl (by rw [zq]<;>rfl) rfl) rfl rf))) ?_
   obtain ⟨rv3,h_rv3,h⟩:=bnd h
   obtain ⟨x3,h_x3,h⟩:=bnd h
   refine jk [2,3,4,5,14,15,16] [18,21,35] ?_
   refine zug ⟨[(2,.ptr 18 0),(3,.ptr 21 0),(14,.own za 50 19 [0,22,37,38,39,40] (v.set (Int.toNat v2) rv3)),(15,kI (rv.length:Int)),(16,kI v2)],[⟨18,30,[kN,kN]⟩,⟨21,30,[.own za 50 19 [0,22,37,38,39,40] (v.set (Int.toNat v2) rv3),.own Rp.str 9 20 [] rv2]⟩]⟩ [.ev,.ev,.ev,.ex [35] [] [] (.ag [kI x2.Number,.sl (Rp.int .u64) [0,22] x2.Words,.sl Rp.str [0,22] x2.Texts,.sl zd [0,22] x2.Subs]) [],.ex [] [] [37,38,39] (.ag [kI rv3.Number,.own (Rp.int .u64) 75 37 [] rv3.Words,.own Rp.str 9 38 [] rv3.Texts,.own zd 30 39 [0,22,40] rv3.Subs]) [],.ex [] [] [] (.ptr 19 (Int.toNat v2*za.size)) [],.raw [4,0,1,4,10,14] [19] [] [.sl 22 (.own za 50 19 [0,22,37,38,39,40] (v.set (Int.toNat v2) rv3)),.sl 14 (.own za 50 19 [0,22,37,38,39,40] (v.set (Int.toNat v2) rv3)),.bx ⟨21,30,[.own za 50 19 [0,22,37,38,39,40] (v.set (Int.toNat v2) rv3),.own Rp.str 9 20 [] rv2]⟩]] [⟨[(.tmp 5,.ptr 35 0)],[⟨35,50,[kI x2.Number,.sl (Rp.int .u64) [0,22] x2.Words,.sl Rp.str [0,22] x2.Texts,.sl zd [0,22] x2.Subs]⟩],[]⟩,⟨[(.func 79,.lf (.val (.func (.func 79) #[] #[]))),(.tmp 24,.ag [kI x2.Number,.sl (Rp.int .u64) [0,22] x2.Words,.sl Rp.str [0,22] x2.Texts,.sl zd [0,22] x2.Subs])],[],[]⟩,⟨[(.tmp 22,.own za 50 19 [0,22] v),(.tmp 23,kI v2)],[],[]⟩,⟨[],[],[.sl 22 (.own za 50 19 [0,22] v),.sl 26 (.ptr 19 (Int.toNat v2*za.size)),.sl 25 (.ag [kI rv3.Number,.own (Rp.int .u64) 75 37 [] rv3.Words,.own Rp.str 9 38 [] rv3.Texts,.own zd 30 39 [0,22,40] rv3.Subs]),.sl 22 (.own za 50 19 [0,22] v),.sl 14 (.own za 50 19 [0,22] v),.bx ⟨21,30,[.own za 50 19 [0,22] v,.own Rp.str 9 20 [] rv2]⟩]⟩] [2,3,14,15,16] [18,21] zcc (by kernel_rfl) (by exact (lw_e (lw_e (lw_e (lw_x (ztx (zba (b:=⟨35,50,[kI x2.Number,.sl (Rp.int .u64) [0,22] x2.Words,.sl Rp.str [0,22] x2.Texts,.sl zd [0,22] x2.Subs]⟩) [kI x2.Number,.sl (Rp.int .u64) [0,22] x2.Words,.sl Rp.str [0,22] x2.Texts,.sl zd [0,22] x2.Subs] rfl ⟨Tryz.isAgg50,Tryz.sizeOf50⟩ rfl rfl) rfl) (lw_x (zG.cons _ (ztx (zG.le (ins':=[(.tmp 24,.ag [kI x2.Number,.sl (Rp.int .u64) [0,22] x2.Words,.sl Rp.str [0,22] x2.Texts,.sl zd [0,22] x2.Subs])]) (zae (args:=[.tmp 24]) [.rc za [0,22] x2] [0,22] 34 rfl Tryz.call79 (hrec_tree_copiedValue h_rv3) rfl rfl rfl rfl rfl) ⟨⟨rfl,zaa za [0,22] x2 [kI x2.Number,.sl (Rp.int .u64) [0,22] x2.Words,.sl Rp.str [0,22] x2.Texts,.sl zd [0,22] x2.Subs] (by rw [zq]<;>rfl) rfl⟩,trivial⟩) rfl)) (lw_x (ztx (zpq rfl zkQ.el h_x3) rfl) (lw_r (zxo (ins:=[(.tmp 22,.own za 50 19 [0,22] v),(.tmp 26,.ptr 19 (Int.toNat v2*za.size)),(.tmp 25,.ag [kI rv3.Number,.own (Rp.int .u64) 75 37 [] rv3.Words,.own Rp.str 9 38 [] rv3.Texts,.own zd 30 39 [0,22,40] rv3.Subs])]) [22,14] [(⟨21,30,[.own za 50 19 [0,22] v,.own Rp.str 9 20 [] rv2]⟩,⟨21,30,[.own za 50 19 [0,22,37,38,39,40] (v.set (Int.toNat v2) rv3),.own Rp.str 9 20 [] rv2]⟩)] (zBT (r:=za) (e:=50) (ℓ:=19) (C:=[0,22]) (xs:=v) (off:=(Int.toNat v2*za.size)) (.tmp 22) (Int.toNat v2) 0 x3 rv3 [0,22,37,38,39,40] rfl rfl Tryz.sizeOf50 rfl (zpY h_x3) rfl (zrZ (by rw [zq]<;>rfl) _) rfl) ⟨trivial,trivial,trivial,trivial⟩ (fun _ _=>nofun) ⟨⟨rfl,rfl,rfl,⟨zeJ 0 rfl,zx rfl,trivial⟩⟩,trivial⟩) lw_0)))))))) ?_
   refine zag ?_
   refine jp ?_
   obtain rfl:=sj h
   refine zL ?_
   refine lk [2,3,14,15,16] [18,21] 37 22 ?_
   refine lk [2,3,14,15,16] [18,21] 38 22 ?_
   refine lk [2,3,14,15,16] [18,21] 39 22 ?_
   refine lk [2,3,14,15,16] [18,21] 40 22 ?_
   refine zbX ⟨[(2,.ptr 18 0),(3,.ptr 21 0),(14,.own za 50 19 [0,22,22,22,22,22] (v.set (Int.toNat v2) rv3)),(15,kI (rv.length:Int)),(16,kI (IntKind.i64.wrap (v2+1)))],[⟨18,30,[kN,kN]⟩,⟨21,30,[.own za 50 19 [0,22,22,22,22,22] (v.set (Int.toNat v2) rv3),.own Rp.str 9 20 [] rv2]⟩]⟩ (by kernel_rfl) ?_
   refine zdF 14 (.own za 50 19 [0,22] (v.set (Int.toNat v2) rv3)) rfl (zij _ _ _ _ _ _ rfl rfl) ?_
   refine zdN 21 0 (.own za 50 19 [0,22] (v.set (Int.toNat v2) rv3)) rfl rfl (zij _ _ _ _ _ _ rfl rfl) ?_
   exact lzz
  refine jF hc1 ?_
  obtain rfl:=sj h
  exact zam rfl lzz
 ·
  refine zbX ⟨[(2,.ptr 18 0),(3,.ptr 21 0),(14,.own za 50 19 [0] rv),(15,kI (rv.length:Int)),(16,kI 0)],[⟨18,30,[kN,kN]⟩,⟨21,30,[.own za 50 19 [0] rv,.own Rp.str 9 20 [] rv2]⟩]⟩ (by kernel_rfl) ?_
  refine zdF 14 (.own za 50 19 [0,22] rv) rfl (zij _ _ _ _ _ _ rfl rfl) ?_
  refine zdN 21 0 (.own za 50 19 [0,22] rv) rfl rfl (zij _ _ _ _ _ _ rfl rfl) ?_
  exact lzz
 refine zaD _ rfl ?_
 refine jp ?_
 obtain rfl:=sj h
 refine zz ?_
 refine lk [2] [18] 18 2 ?_
 refine lk [2] [2] 19 3 ?_
 refine lk [2] [2] 20 5 ?_
 refine lk [2] [2] 22 4 ?_
 exact lzz
theorem zpN {rec_tree_copied:zc→Option zc} {rec_tree_copiedValue:zb→Option zb} (hrec_tree_copied:∀{x:zc} {r:zc},rec_tree_copied x=some r→FnOk Tryz.prog 51 [.rc zd [0] x] [.ag [.own za 50 3 [0,4] r.Values,.own Rp.str 9 5 [] r.Unknown]]) (hrec_tree_copiedValue:∀{v:zb} {r:zb},rec_tree_copiedValue v=some r→FnOk Tryz.prog 79 [.rc za [0] v] [.ag [kI r.Number,.own (Rp.int .u64) 75 3 [] r.Words,.own Rp.str 9 4 [] r.Texts,.own zd 30 5 [0,6] r.Subs]]) {v:zb} {r:zb} (h:zfG rec_tree_copied rec_tree_copiedValue v=some r):FnOk Tryz.prog 79 [.rc za [0] v] [.ag [kI r.Number,.own (Rp.int .u64) 75 3 [] r.Words,.own Rp.str 9 4 [] r.Texts,.own zd 30 5 [0,6] r.Subs]]:=by
 refine zC (E:=⟨[(2,.ptr 2 0)],[⟨2,50,[kI r.Number,.own (Rp.int .u64) 75 3 [] r.Words,.own Rp.str 9 4 [] r.Texts,.own zd 30 5 [0,6] r.Subs]⟩]⟩) 34 Tryz.func79 rfl rfl rfl ⟨⟨_,_,rfl,rfl,rfl,⟨Tryz.isAgg50,Tryz.sizeOf50⟩⟩,trivial⟩ (fun Xt=>?_)
 refine zp ?_
 unfold zfG at h
 refine jr (ra 0 [.rc za [0] v] rfl (zcb 18 [kI v.Number,.sl (Rp.int .u64) [0] v.Words,.sl Rp.str [0] v.Texts,.sl zd [0] v.Subs] [0] rfl rfl rfl (by rw [zq]<;>rfl) rfl) rfl (rfl' [19])) ?_
 obtain ⟨rv,h_rv,h⟩:=bnd h
 obtain ⟨rv2,h_rv2,h⟩:=bnd h
 obtain ⟨rv3,h_rv3,h⟩:=bnd h
 refine jd [2,3] [19,23] zcc (by exact (lw_e (lw_e (lw_e (lw_e (lx (lf1 101 (zae [.sl (Rp.int .u64) [0] v.Words] [0] 18 rfl Tryz.call101 (zjt h_rv) rfl rfl rfl rfl rfl)) (lw_e (lw_e (lx (lf1 78 (zae [.sl Rp.str [0] v.Texts] [0] 19 rfl Tryz.call78 (zge h_rv2) rfl rfl rfl rfl rfl)) (lw_e (lw_e (lx (lf1 102 (zae [.sl zd [0] v.Subs] [0] 20 rfl Tryz.call102 (zim h_rv3) rfl rfl rfl rfl rfl)) (ly [kI v.Number,.own (Rp.int .u64) 75 20 [] rv,.own Rp.str 9 21 [] rv2,.own zd 30 22 [0] rv3] (zeP [kI v.Number,.own (Rp.int .u64) 75 20 [] rv,.own Rp.str 9 21 [] rv2,.own zd 30 22 [0] rv3] [kI v.Number,.own (Rp.int .u64) 75 20 [] rv,.own Rp.str 9 21 [] rv2,.own zd 30 22 [0] rv3] rfl zCZ rfl) rfl (lx (zkB 23 [kI 0,kN,kN,kN] rfl Tryz.zeroValue50 rfl) (ly [.ptr 23 0,.ag [kI v.Number,.own (Rp.int .u64) 75 20 [] rv,.own Rp.str 9 21 [] rv2,.own zd 30 22 [0] rv3]] (zqd (b:=⟨23,50,[kI 0,kN,kN,kN]⟩) (off:=0) [kI v.Number,.own (Rp.int .u64) 75 20 [] rv,.own Rp.str 9 21 [] rv2,.own zd 30 22 [0] rv3] rfl Tryz.sizeOf50 rfl rfl rfl) rfl l0))))))))))))))) ?_
 refine jp ?_
 refine zA ?_
 obtain ⟨q,h_q,h⟩:=bnd h
 refine zal (fun s:((List zc)×Int)=>zbV rec_tree_copied rv3 s.1 s.2) (fun s=>⟨[(2,.ptr 19 0),(3,.ptr 23 0),(19,.own zd 30 22 [0,24] s.1),(20,kI (rv3.length:Int)),(21,kI s.2)],[⟨19,50,[kI 0,kN,kN,kN]⟩,⟨23,50,[kI v.Number,.own (Rp.int .u64) 75 20 [] rv,.own Rp.str 9 21 [] rv2,.own zd 30 22 [0,24] s.1]⟩]⟩) (fun o e a w=>e= .exit 0∧Sx ⟨⟨34,[]⟩,Xt,false,#[]⟩ ⟨[(2,.ptr 19 0),(3,.ptr 23 0)],[⟨19,50,[kI 0,kN,kN,kN]⟩,⟨23,50,[kI v.Number,.own (Rp.int .u64) 75 20 [] rv,.own Rp.str 9 21 [] rv2,.own zd 30 22 [0,24] o]⟩]⟩ a w) ?_ h_q ?_ ?_
 ·
  clear h
  intro s o h
  obtain ⟨v2,v3⟩:=s
  refine zp ?_
  replace h:zbV rec_tree_copied rv3 v2 v3=some o:=h
  unfold zbV at h
  refine jp ?_
  rcases zm h with ⟨hc1,h⟩| ⟨hc1,h⟩
  ·
   refine jT hc1 ?_
   refine zA ?_
   obtain ⟨x,h_x,h⟩:=bnd h
   refine jr (ra 1 [.own zd 30 22 [0,24] v2,kI v3] rfl (zpq rfl zoG.el h_x) rfl (ra 0 [.own zd 30 22 [0,24] v2,.ptr 22 (Int.toNat v3*zd.size)] rfl (zCE (r:=zd) (e:=30) (ℓ:=22) (C:=[0,24]) (xs:=v2) (.tmp 19) x rfl ⟨Tryz.isAgg30,Tryz.sizeOf30⟩ h_x) rfl (ral 2 [35] [.ptr 35 0,.rc zd [0,24] x] rfl (zgA (r:=zd) (b:=⟨35,30,[kN,kN]⟩) (off:=0) [.sl za [0,24] x.Values,.sl Rp.str [0,24] x.Unknown] rfl Tryz.sizeOf30 rfl rfl (by rw [zo]<;>rfl) rfl) rfl rf))) ?_
   obtain ⟨rv4,h_rv4,h⟩:=bnd h
   obtain ⟨x2,h_x2,h⟩:=bnd h
   refine jk [2,3,4,5,19,20,21] [19,23,35] ?_
   refine zug ⟨[(2,.ptr 19 0),(3,.ptr 23 0),(19,.own zd 30 22 [0,24,37,38,39] (v2.set (Int.toNat v3) rv4)),(20,kI (rv3.length:Int)),(21,kI v3)],[⟨19,50,[kI 0,kN,kN,kN]⟩,⟨23,50,[kI v.Number,.own (Rp.int .u64) 75 20 [] rv,.own Rp.str 9 21 [] rv2,.own zd 30 22 [0,24,37,38,39] (v2.set (Int.toNat v3) rv4)]⟩]⟩ [.ev,.ev,.ev,.ex [35] [] [] (.ag [.sl za [0,24] x.Values,.sl Rp.str [0,24] x.Unknown]) [],.ex [] [] [37,39] (.ag [.own za 50 37 [0,24,38] rv4.Values,.own Rp.str 9 39 [] rv4.Unknown]) [],.ex [] [] [] (.ptr 22 (Int.toNat v3*zd.size)) [],.raw [4,0,1,4,10,14] [22] [] [.sl 27 (.own zd 30 22 [0,24,37,38,39] (v2.set (Int.toNat v3) rv4)),.sl 19 (.own zd 30 22 [0,24,37,38,39] (v2.set (Int.toNat v3) rv4)),.bx ⟨23,50,[kI v.Number,.own (Rp.int .u64) 75 20 [] rv,.own Rp.str 9 21 [] rv2,.own zd 30 22 [0,24,37,38,39] (v2.set (Int.toNat v3) rv4)]⟩]] [⟨[(.tmp 5,.ptr 35 0)],[⟨35,30,[.sl za [0,24] x.Values,.sl Rp.str [0,24] x.Unknown]⟩],[]⟩,⟨[(.func 51,.lf (.val (.func (.func 51) #[] #[]))),(.tmp 29,.ag [.sl za [0,24] x.Values,.sl Rp.str [0,24] x.Unknown])],[],[]⟩,⟨[(.tmp 27,.own zd 30 22 [0,24] v2),(.tmp 28,kI v3)],[],[]⟩,⟨[],[],[.sl 27 (.own zd 30 22 [0,24] v2),.sl 31 (.ptr 22 (Int.toNat v3*zd.size)),.sl 30 (.ag [.own za 50 37 [0,24,38] rv4.Values,.own Rp.str 9 39 [] rv4.Unknown]),.sl 27 (.own zd 30 22 [0,24] v2),.sl 19 (.own zd 30 22 [0,24] v2),.bx ⟨23,50,[kI v.Number,.own (Rp.int .u64) 75 20 [] rv,.own Rp.str 9 21 [] rv2,.own zd 30 22 [0,24] v2]⟩]⟩] [2,3,19,20,21] [19,23] zcc (by kernel_rfl) (by exact (lw_e (lw_e (lw_e (lw_x (ztx (zba (b:=⟨35,30,[.sl za [0,24] x.Values,.sl Rp.str [0,24] x.Unknown]⟩) [.sl za [0,24] x.Values,.sl Rp.str [0,24] x.Unknown] rfl ⟨Tryz.isAgg30,Tryz.sizeOf30⟩ rfl rfl) rfl) (lw_x (zG.cons _ (ztx (zG.le (ins':=[(.tmp 29,.ag [.sl za [0,24] x.Values,.sl Rp.str [0,24] x.Unknown])]) (zae (args:=[.tmp 29]) [.rc zd [0,24] x] [0,24] 34 rfl Tryz.call51 (hrec_tree_copied h_rv4) rfl rfl rfl rfl rfl) ⟨⟨rfl,zaa zd [0,24] x [.sl za [0,24] x.Values,.sl Rp.str [0,24] x.Unknown] (by rw [zo]<;>rfl) rfl⟩,trivial⟩) rfl)) (lw_x (ztx (zpq rfl zoG.el h_x2) rfl) (lw_r (zxo (ins:=[(.tmp 27,.own zd 30 22 [0,24] v2),(.tmp 31,.ptr 22 (Int.toNat v3*zd.size)),(.tmp 30,.ag [.own za 50 37 [0,24,38] rv4.Values,.own Rp.str 9 39 [] rv4.Unknown])]) [27,19] [(⟨23,50,[kI v.Number,.own (Rp.int .u64) 75 20 [] rv,.own Rp.str 9 21 [] rv2,.own zd 30 22 [0,24] v2]⟩,⟨23,50,[kI v.Number,.own (Rp.int .u64) 75 20 [] rv,.own Rp.str 9 21 [] rv2,.own zd 30 22 [0,24,37,38,39] (v2.set (Int.toNat v3) rv4)]⟩)] (zBT (r:=zd) (e:=30) (ℓ:=22) (C:=[0,24]) (xs:=v2) (off:=(Int.toNat v3*zd.size)) (.tmp 27) (Int.toNat v3) 0 x2 rv4 [0,24,37,38,39] rfl rfl Tryz.sizeOf30 rfl (zpY h_x2) rfl (zrZ (by rw [zo]<;>rfl) _) rfl) ⟨trivial,trivial,trivial,trivial⟩ (fun _ _=>nofun) ⟨⟨rfl,rfl,rfl,⟨zx rfl,zx rfl,zx rfl,zeJ 0 rfl,trivial⟩⟩,trivial⟩) lw_0)))))))) ?_
   refine zag ?_
   refine jp ?_
   obtain rfl:=sj h
   refine zL ?_
   refine lk [2,3,19,20,21] [19,23] 37 24 ?_
   refine lk [2,3,19,20,21] [19,23] 38 24 ?_
   refine lk [2,3,19,20,21] [19,23] 39 24 ?_
   refine zbX ⟨[(2,.ptr 19 0),(3,.ptr 23 0),(19,.own zd 30 22 [0,24,24,24,24] (v2.set (Int.toNat v3) rv4)),(20,kI (rv3.length:Int)),(21,kI (IntKind.i64.wrap (v3+1)))],[⟨19,50,[kI 0,kN,kN,kN]⟩,⟨23,50,[kI v.Number,.own (Rp.int .u64) 75 20 [] rv,.own Rp.str 9 21 [] rv2,.own zd 30 22 [0,24,24,24,24] (v2.set (Int.toNat v3) rv4)]⟩]⟩ (by kernel_rfl) ?_
   refine zdF 19 (.own zd 30 22 [0,24] (v2.set (Int.toNat v3) rv4)) rfl (zij _ _ _ _ _ _ rfl rfl) ?_
   refine zdN 23 3 (.own zd 30 22 [0,24] (v2.set (Int.toNat v3) rv4)) rfl rfl (zij _ _ _ _ _ _ rfl rfl) ?_
   exact lzz
  refine jF hc1 ?_
  obtain rfl:=sj h
  exact zam rfl lzz
 ·
  refine zbX ⟨[(2,.ptr 19 0),(3,.ptr 23 0),(19,.own zd 30 22 [0] rv3),(20,kI (rv3.length:Int)),(21,kI 0)],[⟨19,50,[kI 0,kN,kN,kN]⟩,⟨23,50,[kI v.Number,.own (Rp.int .u64) 75 20 [] rv,.own Rp.str 9 21 [] rv2,.own zd 30 22 [0] rv3]⟩]⟩ (by kernel_rfl) ?_
  refine zdF 19 (.own zd 30 22 [0,24] rv3) rfl (zij _ _ _ _ _ _ rfl rfl) ?_
  refine zdN 23 3 (.own zd 30 22 [0,24] rv3) rfl rfl (zij _ _ _ _ _ _ rfl rfl) ?_
  exact lzz
 refine zaD _ rfl ?_
 refine jp ?_
 obtain rfl:=sj h
 refine zz ?_
 refine lk [2] [19] 19 2 ?_
 refine lk [2] [2] 20 3 ?_
 refine lk [2] [2] 21 4 ?_
 refine lk [2] [2] 22 5 ?_
 refine lk [2] [2] 24 6 ?_
 exact lzz
theorem ziE (fuel:Nat):(∀{x:zc} {r:zc},zgU fuel x=some r→FnOk Tryz.prog 51 [.rc zd [0] x] [.ag [.own za 50 3 [0,4] r.Values,.own Rp.str 9 5 [] r.Unknown]])∧(∀{v:zb} {r:zb},zft fuel v=some r→FnOk Tryz.prog 79 [.rc za [0] v] [.ag [kI r.Number,.own (Rp.int .u64) 75 3 [] r.Words,.own Rp.str 9 4 [] r.Texts,.own zd 30 5 [0,6] r.Subs]]):=by
  induction fuel with
  | zero=>exact ⟨fun h=>absurd h nofun,fun h=>absurd h nofun⟩
  | succ fuel ih=>exact ⟨fun h=>ztT (fun hh=>ih.1 hh) (fun hh=>ih.2 hh) h,fun h=>zpN (fun hh=>ih.1 hh) (fun hh=>ih.2 hh) h⟩
theorem zvU {fuel:Nat} {x:zc} {r:zc} (h:zgU fuel x=some r):FnOk Tryz.prog 51 [.rc zd [0] x] [.ag [.own za 50 3 [0,4] r.Values,.own Rp.str 9 5 [] r.Unknown]]:=(ziE fuel).1 h
theorem zei {sv:(List ze)} {v:Int} {r:Int} (h:zay sv v=some r):FnOk Tryz.prog 117 [.sl zf [0] sv,.fv 97 [.ep (Rp.int .i64) [0] v 0]] [kI r]:=by
 refine zC (E:=⟨[(4,kI r)],[]⟩) 19 Tryz.func117 rfl rfl rfl ⟨rfl,trivial⟩ (fun Xt=>?_)
 refine zp ?_
 unfold zay at h
 refine jp ?_
 refine jp ?_
 refine zA ?_
 obtain ⟨q,h_q,h⟩:=bnd h
 refine zal (fun s:Int=>zH sv v s) (fun s=>⟨[(0,.sl zf [0] sv),(1,.fv 97 [.ep (Rp.int .i64) [0] v 0]),(7,kI (sv.length:Int)),(8,kI s)],[]⟩) (fun o e a w=>match o with| (.inl v_)=>e= .exit 0∧Sx ⟨⟨19,[]⟩,Xt,false,#[]⟩ ⟨[],[]⟩ a w| (.inr v_)=>e= .ret∧Sx ⟨⟨19,[]⟩,Xt,false,#[]⟩ ⟨[(4,kI v_)],[]⟩ a w) ?_ h_q lzz ?_
 ·
  clear h
  intro v2 o h
  refine zp ?_
  replace h:zH sv v v2=some o:=h
  unfold zH at h
  refine jp ?_
  rcases zm h with ⟨hc1,h⟩| ⟨hc1,h⟩
  ·
   refine jT hc1 ?_
   refine zA ?_
   refine jp ?_
   obtain ⟨x,h_x,h⟩:=bnd h
   obtain ⟨rv,h_rv,h⟩:=bnd h
   refine jr (ra 3 [.sl zf [0] sv,kI v2] rfl (zao rfl zle.el (zJ _ _ _) h_x) rfl (ra 0 [.ep zf [0] x 0] rfl (zci rfl ⟨Tryz.isAgg64,Tryz.sizeOf64⟩) rfl (ra 0 [.fv 97 [.ep (Rp.int .i64) [0] v 0],.rc zf [0] x] rfl (zrK (args:=[.tmp 15]) [.rc zf [0] x] [0] 10 rfl (zCu _ _) Tryz.call97 (zpC h_rv) rfl rfl rfl rfl rfl) rfl rf))) ?_
   rcases zm h with ⟨hc2,h⟩| ⟨hc2,h⟩
   ·
    refine jT hc2 ?_
    refine jp ?_
    obtain rfl:=sj h
    exact zaZ lzz
   refine jF hc2 ?_
   refine zag ?_
   refine jp ?_
   obtain rfl:=sj h
   exact zL lzz
  refine jF hc1 ?_
  obtain rfl:=sj h
  exact zam rfl lzz
 rcases q with u| u2
 ·
  refine zaD _ rfl ?_
  refine jp ?_
  obtain rfl:=sj h
  exact zz lzz
 obtain rfl:=sj h
 exact zcK lzz
end Go.Proofs.YtcbkcblkecmjnaaGreat

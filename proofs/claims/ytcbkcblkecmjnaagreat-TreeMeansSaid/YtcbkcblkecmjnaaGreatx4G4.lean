/-
  The Go functions do what the plain functions say. No condition.
-/
import Derived.Test.YtcbkcblkecmjnaaGreatx4G1
import Derived.Test.YtcbkcblkecmjnaaGreatx4T
import Derived.Test.YtcbkcblkecmjnaaGreatx4G3
import Derived.Test.YtcbkcblkecmjnaaGreatx4Y
namespace Go.Proofs.YtcbkcblkecmjnaaGreat
open Go Go.RowKit
set_option linter.unusedVariables false
set_option maxRecDepth 100000
set_option maxHeartbeats 3200000
theorem zvS {r:(List Int)} (h:zli=some r):FnOk Tryz.prog 103 [] [.own (Rp.int .i64) 3 2 [] r]:=by
 refine zD (E:=⟨[(0,.own (Rp.int .i64) 3 2 [] r)],[]⟩) 4 Tryz.func103 rfl rfl rfl ⟨rfl,trivial⟩ (fun Xt=>?_)
 refine zv ?_
 unfold zli at h
 refine jp ?_
 obtain ⟨rv,h_rv,h⟩:=bnd h
 obtain ⟨v,h_v,h⟩:=bnd h
 refine jr (rl 0 [1] 11 Tryz.call121 (zmt h_rv) (rkl 0 [] ⟨[(1,.om (Rp.int .i64) zC 13 [] rv)],[]⟩ (zwj (rv:=zC) (m:=rv) 14 zBP rfl rfl rfl rfl rfl rfl Tryz.call120 Tryz.call59 rfl (zkh _ _ _ _ _) h_v rfl rf))) ?_
 obtain rfl:=sj h
 refine zA ?_
 refine lk [0] [] 14 2 ?_
 exact lzz
theorem zjP {name:Str} {r:Bool} (h:zeJ name=some r):FnOk Tryz.prog 122 [kS name] [kB r]:=by
 refine zD (E:=⟨[(2,kB r)],[]⟩) 34 Tryz.func122 rfl rfl rfl ⟨rfl,trivial⟩ (fun Xt=>?_)
 refine zv ?_
 unfold zeJ at h
 refine jp ?_
 obtain ⟨g,h_g,h⟩:=bnd h
 refine zap ⟨[(0,kS name),(15,kB g)],[]⟩ ?_ ?_
 ·
  refine (rsl 3 [] 6 (name==[]) (fun hc1=>?_) (fun hc1=>?_))
  ·
   replace h_g:=iteT h_g hc1
   obtain rfl:=sj h_g
   exact rgg
  replace h_g:=iteF h_g hc1
  refine (rsl 5 [] 11 (decide ((name.length:Int)>60)) (fun hc2=>?_) (fun hc2=>?_))
  ·
   replace h_g:=iteT h_g hc2
   obtain rfl:=sj h_g
   exact rgg
  replace h_g:=iteF h_g hc2
  obtain ⟨c,h_c,h_g⟩:=bnd h_g
  obtain ⟨rv,h_rv,h_g⟩:=bnd h_g
  obtain rfl:=sj h_g
  exact (ra 1 [kS name,kI 0] rfl (zxp rfl Tryz.underlying9 h_c) rfl (rl 0 [1] 9 Tryz.call156 (ziX h_rv) rgg))
 rcases zp h with ⟨hc3,h⟩| ⟨hc3,h⟩
 ·
  refine jT hc3 ?_
  refine jp ?_
  obtain rfl:=sj h
  exact zA lzz
 refine jF hc3 ?_
 refine jp ?_
 refine zH ?_
 obtain ⟨q,h_q,h⟩:=bnd h
 refine zaQ (fun s:Int=>zbo name s) (fun s=>⟨[(0,kS name),(17,kI (name.length:Int)),(18,kI s)],[]⟩) (fun o e a w=>match o with| (.inl v_)=>e= .exit 0∧Sx ⟨⟨34,[]⟩,Xt,false,#[]⟩ ⟨[],[]⟩ a w| (.inr v_)=>e= .ret∧Sx ⟨⟨34,[]⟩,Xt,false,#[]⟩ ⟨[(2,kB false)],[]⟩ a w) ?_ h_q lzz ?_
 ·
  clear h
  intro v2 o h
  refine zv ?_
  replace h:zbo name v2=some o:=h
  unfold zbo at h
  refine jp ?_
  rcases zp h with ⟨hc4,h⟩| ⟨hc4,h⟩
  ·
   refine jT hc4 ?_
   refine zH ?_
   refine jp ?_
   obtain ⟨g2,h_g2,h⟩:=bnd h
   refine zap ⟨[(0,kS name),(17,kI (name.length:Int)),(18,kI v2),(32,kB g2)],[]⟩ ?_ ?_
   ·
    obtain ⟨c2,h_c2,h_g2⟩:=bnd h_g2
    obtain ⟨rv2,h_rv2,h_g2⟩:=bnd h_g2
    refine (ra 2 [kS name,kI v2] rfl (zxp rfl Tryz.underlying9 h_c2) rfl (rl 0 [1] 10 Tryz.call157 (zmW h_rv2) (rsl 2 [] 26 (!rv2) (fun hc5=>?_) (fun hc5=>?_))))
    ·
     replace h_g2:=iteT h_g2 hc5
     obtain ⟨c3,h_c3,h_g2⟩:=bnd h_g2
     obtain ⟨rv3,h_rv3,h_g2⟩:=bnd h_g2
     obtain rfl:=sj h_g2
     exact (ra 2 [kS name,kI v2] rfl (zxp rfl Tryz.underlying9 h_c3) rfl (rl 0 [1] 10 Tryz.call156 (ziX h_rv3) rgg))
    replace h_g2:=iteF h_g2 hc5
    obtain rfl:=sj h_g2
    exact rgg
   rcases zp h with ⟨hc6,h⟩| ⟨hc6,h⟩
   ·
    refine jT hc6 ?_
    refine jp ?_
    obtain rfl:=sj h
    exact zbR lzz
   refine jF hc6 ?_
   refine zau ?_
   refine jp ?_
   obtain rfl:=sj h
   exact zae lzz
  refine jF hc4 ?_
  obtain rfl:=sj h
  exact zaO rfl lzz
 rcases q with u| u2
 ·
  refine zbx _ rfl ?_
  refine jp ?_
  obtain rfl:=sj h
  exact zA lzz
 obtain rfl:=sj h
 exact zeg lzz
theorem zhB {sv:(List Int)} {v:Int} {r:Bool} (h:zbJ sv v=some r):FnOk Tryz.prog 124 [.sl (Rp.int .i64) [0] sv,kI v] [kB r]:=by
 refine zD (E:=⟨[(4,kB r)],[]⟩) 9 Tryz.func124 rfl rfl rfl ⟨rfl,trivial⟩ (fun Xt=>?_)
 refine zv ?_
 unfold zbJ at h
 refine jp ?_
 obtain ⟨rv,h_rv,h⟩:=bnd h
 refine jr (rl 2 [0] 9 Tryz.call158 (ziC h_rv) rf) ?_
 obtain rfl:=sj h
 exact zA lzz
theorem znz {k:Int} {r:(Int×Int)} (h:zid k=some r):FnOk Tryz.prog 163 [kI k] [kI r.1,k8 r.2]:=by
 refine zD (E:=⟨[(2,kI r.1),(3,k8 r.2)],[]⟩) 16 Tryz.func163 rfl rfl rfl ⟨rfl,rfl,trivial⟩ (fun Xt=>?_)
 refine zv ?_
 unfold zid at h
 refine jp ?_
 obtain ⟨rv,h_rv,h⟩:=bnd h
 refine jr (rl 0 [1] 9 Tryz.call121 (zmt h_rv) (ra 1 [.om (Rp.int .i64) zC 11 [] rv,kI k] rfl (zrj (rk:=(Rp.int .i64)) (rv:=zC) (m:=rv) (k:=k) (.rc zC [11] ((mget rv k).getD (⟨[],0⟩:zw))) rfl zdy (zkh _ _ _ _ _) (zdf rfl rfl) (zuh rfl)) rfl (rfl' [12]))) ?_
 refine jp ?_
 rcases zp h with ⟨hc1,h⟩| ⟨hc1,h⟩
 ·
  refine jT hc1 ?_
  refine jp ?_
  obtain rfl:=sj h
  exact zA lzz
 refine jF hc1 ?_
 refine jp ?_
 obtain rfl:=sj h
 exact zA lzz
theorem zuS {t:zaY} {r:Bool} (h:zjQ t=some r):FnOk Tryz.prog 153 [.rc zdU [0] t] [kB r]:=by
 refine zD (E:=⟨[(2,kB r)],[]⟩) 16 Tryz.func153 rfl rfl rfl ⟨rfl,trivial⟩ (fun Xt=>?_)
 refine zv ?_
 unfold zjQ at h
 refine jq [11] ?_
 obtain ⟨g,h_g,h⟩:=bnd h
 refine zap ⟨[(2,kB g)],[]⟩ ?_ ?_
 ·
  refine (rsl 4 [] 6 (decide (t.Number≥1)) (fun hc1=>?_) (fun hc1=>?_))
  ·
   replace h_g:=iteT h_g hc1
   refine (rsl 5 [] 11 (decide (t.Number≤536870911)) (fun hc2=>?_) (fun hc2=>?_))
   ·
    replace h_g:=iteT h_g hc2
    obtain ⟨rv,h_rv,h_g⟩:=bnd h_g
    obtain rfl:=sj h_g
    exact (rl 2 [1] 10 Tryz.call174 (zpg h_rv) rgg)
   replace h_g:=iteF h_g hc2
   obtain rfl:=sj h_g
   exact rgg
  replace h_g:=iteF h_g hc1
  obtain rfl:=sj h_g
  exact rgg
 obtain rfl:=sj h
 exact zA lzz
theorem zlN {b:(List UInt8)} {r:(Int×Int)} (h:zge b=some r):FnOk Tryz.prog 154 [.sl Rp.byte [0] b] [kI r.1,k8 r.2]:=by
 refine zD (E:=⟨[(2,kI r.1),(3,k8 r.2)],[]⟩) 15 Tryz.func154 rfl rfl rfl ⟨rfl,rfl,trivial⟩ (fun Xt=>?_)
 refine zv ?_
 unfold zge at h
 refine jp ?_
 obtain ⟨rv,h_rv,h⟩:=bnd h
 refine jr (rl 1 [0] 9 Tryz.call152 (zgB h_rv) rf) ?_
 refine jp ?_
 obtain rfl:=sj h
 exact zA lzz
theorem zcT {sv:(List zc)} {v:Int} {r:Int} (h:zax sv v=some r):FnOk Tryz.prog 117 [.sl zd [0] sv,.fv 162 [.ep (Rp.int .i64) [0] v 0]] [kI r]:=by
 refine zD (E:=⟨[(4,kI r)],[]⟩) 19 Tryz.func117 rfl rfl rfl ⟨rfl,trivial⟩ (fun Xt=>?_)
 refine zv ?_
 unfold zax at h
 refine jp ?_
 refine jp ?_
 refine zH ?_
 obtain ⟨q,h_q,h⟩:=bnd h
 refine zaQ (fun s:Int=>zF sv v s) (fun s=>⟨[(0,.sl zd [0] sv),(1,.fv 162 [.ep (Rp.int .i64) [0] v 0]),(7,kI (sv.length:Int)),(8,kI s)],[]⟩) (fun o e a w=>match o with| (.inl v_)=>e= .exit 0∧Sx ⟨⟨19,[]⟩,Xt,false,#[]⟩ ⟨[],[]⟩ a w| (.inr v_)=>e= .ret∧Sx ⟨⟨19,[]⟩,Xt,false,#[]⟩ ⟨[(4,kI v_)],[]⟩ a w) ?_ h_q lzz ?_
 ·
  clear h
  intro v2 o h
  refine zv ?_
  replace h:zF sv v v2=some o:=h
  unfold zF at h
  refine jp ?_
  rcases zp h with ⟨hc1,h⟩| ⟨hc1,h⟩
  ·
   refine jT hc1 ?_
   refine zH ?_
   refine jp ?_
   obtain ⟨x,h_x,h⟩:=bnd h
   obtain ⟨rv,h_rv,h⟩:=bnd h
   refine jr (ra 3 [.sl zd [0] sv,kI v2] rfl (zby rfl zmD.el (zaa _ _ _) h_x) rfl (ra 0 [.ep zd [0] x 0] rfl (zds rfl ⟨Tryz.isAgg64,Tryz.sizeOf64⟩) rfl (ra 0 [.fv 162 [.ep (Rp.int .i64) [0] v 0],.rc zd [0] x] rfl (znG (args:=[.tmp 15]) [.rc zd [0] x] [0] 10 rfl (zyp _ _) Tryz.call162 (zqb h_rv) rfl rfl rfl rfl rfl) rfl rf))) ?_
   rcases zp h with ⟨hc2,h⟩| ⟨hc2,h⟩
   ·
    refine jT hc2 ?_
    refine jp ?_
    obtain rfl:=sj h
    exact zbR lzz
   refine jF hc2 ?_
   refine zau ?_
   refine jp ?_
   obtain rfl:=sj h
   exact zae lzz
  refine jF hc1 ?_
  obtain rfl:=sj h
  exact zaO rfl lzz
 rcases q with u| u2
 ·
  refine zbx _ rfl ?_
  refine jp ?_
  obtain rfl:=sj h
  exact zA lzz
 obtain rfl:=sj h
 exact zeg lzz
theorem zqI {wv:Int} {r:Int} (h:zhl wv=some r):FnOk Tryz.prog 129 [kU wv] [.lf (.int .i32 r)]:=by
 refine zD (E:=⟨[(2,.lf (.int .i32 r))],[]⟩) 6 Tryz.func129 rfl rfl rfl ⟨rfl,trivial⟩ (fun Xt=>?_)
 refine zv ?_
 unfold zhl at h
 refine jp ?_
 obtain ⟨rv,h_rv,h⟩:=bnd h
 refine jr (rl 1 [1] 9 Tryz.call130 (zmr h_rv) rf) ?_
 obtain rfl:=sj h
 exact zA lzz
theorem zpK {b:(List UInt8)} {r:Int} (h:zka b=some r):FnOk Tryz.prog 175 [.sl Rp.byte [0] b] [kI r]:=by
 refine zD (E:=⟨[(2,kI r)],[]⟩) 48 Tryz.func175 rfl rfl rfl ⟨rfl,trivial⟩ (fun Xt=>?_)
 refine zv ?_
 unfold zka at h
 refine jp ?_
 refine jp ?_
 rcases zp h with ⟨hc1,h⟩| ⟨hc1,h⟩
 ·
  refine jT hc1 ?_
  refine jp ?_
  obtain rfl:=sj h
  exact zA lzz
 refine jF hc1 ?_
 obtain ⟨x,h_x,h⟩:=bnd h
 obtain ⟨rv,h_rv,h⟩:=bnd h
 refine jr (ra 1 [.sl Rp.byte [0] b,kI 0] rfl (zby rfl zeq.el (zaa _ _ _) h_x) rfl (rl 1 [1] 9 Tryz.call181 (zwx h_rv) rf)) ?_
 refine zap ⟨[(0,.sl Rp.byte [0] b),(3,kI rv.1),(4,.lf (.int .u32 rv.2)),(24,kB ((rv.1==0)|| (decide (rv.1>(b.length:Int)))))],[]⟩ ?_ ?_
 ·
  refine (rsl 3 [] 19 (rv.1==0) (fun hc2=>?_) (fun hc2=>?_))
  · exact (rbl [] 24 true ((rv.1==0)|| (decide (rv.1>(b.length:Int)))) (by rw [hc2]<;>rfl))
  exact (rbl [] 24 (decide (rv.1>(b.length:Int))) ((rv.1==0)|| (decide (rv.1>(b.length:Int)))) (by rw [hc2]<;>rfl))
 rcases zp h with ⟨hc3,h⟩| ⟨hc3,h⟩
 ·
  refine jT hc3 ?_
  refine jp ?_
  obtain rfl:=sj h
  exact zA lzz
 refine jF hc3 ?_
 obtain ⟨v2,h_v2,h⟩:=bnd h
 refine jr (ra 2 [.sl Rp.byte [0] b,kI 1,kI rv.1] rfl (zfN (some (kI 1)) (some (kI rv.1)) rfl zeq.el (zaa _ _ _) ⟨rfl,rfl⟩ ⟨rfl,rfl⟩ h_v2) rfl rf) ?_
 refine zH ?_
 obtain ⟨q,h_q,h⟩:=bnd h
 refine zaQ (fun s:(Int×Int)=>zcV v2 s.1 s.2) (fun s=>⟨[(3,kI rv.1),(4,.lf (.int .u32 s.1)),(27,.sl Rp.byte [0] v2),(28,kI (v2.length:Int)),(29,kI s.2)],[]⟩) (fun o e a w=>match o with| (.inl v_)=>e= .exit 0∧Sx ⟨⟨48,[]⟩,Xt,false,#[]⟩ ⟨[(3,kI rv.1),(4,.lf (.int .u32 v_))],[]⟩ a w| (.inr v_)=>e= .ret∧Sx ⟨⟨48,[]⟩,Xt,false,#[]⟩ ⟨[(2,kI 0)],[]⟩ a w) ?_ h_q lzz ?_
 ·
  clear h
  intro s o h
  obtain ⟨wv,v3⟩:=s
  refine zv ?_
  replace h:zcV v2 wv v3=some o:=h
  unfold zcV at h
  refine jp ?_
  rcases zp h with ⟨hc4,h⟩| ⟨hc4,h⟩
  ·
   refine jT hc4 ?_
   refine zH ?_
   obtain ⟨x2,h_x2,h⟩:=bnd h
   refine jr (ra 0 [.sl Rp.byte [0] v2,kI v3] rfl (zby rfl zeq.el (zaa _ _ _) h_x2) rfl rf) ?_
   refine jr (ra 1 [k8 (x2.toNat:Int),kU 6] rfl (zhM rfl rfl) rfl rf) ?_
   rcases zp h with ⟨hc5,h⟩| ⟨hc5,h⟩
   ·
    refine jT hc5 ?_
    refine jp ?_
    obtain rfl:=sj h
    exact zbR lzz
   refine jF hc5 ?_
   refine jr (ra 1 [.lf (.int .u32 wv),kU 6] rfl (zxr rfl rfl) rfl rf) ?_
   refine zau ?_
   refine jp ?_
   obtain rfl:=sj h
   exact zae lzz
  refine jF hc4 ?_
  obtain rfl:=sj h
  exact zaO rfl lzz
 rcases q with u| u2
 ·
  refine zbx _ rfl ?_
  obtain ⟨rv2,h_rv2,h⟩:=bnd h
  refine jr (rl 2 [1] 10 Tryz.call182 (zww h_rv2) rf) ?_
  rcases zp h with ⟨hc6,h⟩| ⟨hc6,h⟩
  ·
   refine jT hc6 ?_
   refine jp ?_
   obtain rfl:=sj h
   exact zA lzz
  refine jF hc6 ?_
  refine jp ?_
  obtain rfl:=sj h
  exact zA lzz
 obtain rfl:=sj h
 exact zeg lzz
theorem zhA {slices:(List (List UInt8))} {r:(List UInt8)} (h:zbI slices=some r):FnOk Tryz.prog 115 [.sl (Rp.list Rp.byte) [0] slices] [.own Rp.byte 5 2 [] r]:=by
 refine zD (E:=⟨[(2,.own Rp.byte 5 2 [] r)],[]⟩) 36 Tryz.func115 rfl rfl rfl ⟨rfl,trivial⟩ (fun Xt=>?_)
 refine zv ?_
 unfold zbI at h
 refine jp ?_
 refine jp ?_
 refine jp ?_
 refine zH ?_
 obtain ⟨q,h_q,h⟩:=bnd h
 refine zaQ (fun s:(Int×Int)=>zak slices s.1 s.2) (fun s=>⟨[(0,.sl (Rp.list Rp.byte) [0] slices),(3,kI s.1),(9,.sl (Rp.list Rp.byte) [0] slices),(10,kI (slices.length:Int)),(11,kI s.2)],[]⟩) (fun o e a w=>e= .exit 0∧Sx ⟨⟨36,[]⟩,Xt,false,#[]⟩ ⟨[(0,.sl (Rp.list Rp.byte) [0] slices),(3,kI o)],[]⟩ a w) ?_ h_q lzz ?_
 ·
  clear h
  intro s o h
  obtain ⟨size,v⟩:=s
  refine zv ?_
  replace h:zak slices size v=some o:=h
  unfold zak at h
  refine jp ?_
  rcases zp h with ⟨hc1,h⟩| ⟨hc1,h⟩
  ·
   refine jT hc1 ?_
   refine zH ?_
   obtain ⟨x,h_x,h⟩:=bnd h
   refine jr (ra 0 [.sl (Rp.list Rp.byte) [0] slices,kI v] rfl (zby rfl zps.el (zaa _ _ _) h_x) rfl (ra 0 [.ep (Rp.list Rp.byte) [0] x 0] rfl (zkk Rp.byte x rfl rfl rfl) rfl rf)) ?_
   refine jp ?_
   refine jp ?_
   rcases zp h with ⟨hc2,h⟩| ⟨hc2,h⟩
   ·
    refine jT hc2 ?_
    exact absurd h nofun
   refine jF hc2 ?_
   refine zau ?_
   refine jp ?_
   obtain rfl:=sj h
   exact zae lzz
  refine jF hc1 ?_
  obtain rfl:=sj h
  exact zaO rfl lzz
 refine zbx _ rfl ?_
 obtain ⟨rv,h_rv,h⟩:=bnd h
 refine jr (rl 1 [1] 12 Tryz.call149 (zia h_rv) rf) ?_
 refine jp ?_
 refine zH ?_
 obtain ⟨q2,h_q2,h⟩:=bnd h
 refine zaQ (fun s:((List UInt8)×Int)=>zal slices s.1 s.2) (fun s=>⟨[(6,.own Rp.byte 5 14 [] s.1),(25,.sl (Rp.list Rp.byte) [0] slices),(26,kI (slices.length:Int)),(27,kI s.2)],[]⟩) (fun o e a w=>e= .exit 2∧Sx ⟨⟨36,[]⟩,Xt,false,#[]⟩ ⟨[(6,.own Rp.byte 5 14 [] o)],[]⟩ a w) ?_ h_q2 lzz ?_
 ·
  clear h
  intro s o h
  obtain ⟨newslice,v2⟩:=s
  refine zv ?_
  replace h:zal slices newslice v2=some o:=h
  unfold zal at h
  refine jp ?_
  rcases zp h with ⟨hc3,h⟩| ⟨hc3,h⟩
  ·
   refine jT hc3 ?_
   refine zH ?_
   obtain ⟨x2,h_x2,h⟩:=bnd h
   refine jr (ra 0 [.sl (Rp.list Rp.byte) [0] slices,kI v2] rfl (zby rfl zps.el (zaa _ _ _) h_x2) rfl (ra 0 [.ep (Rp.list Rp.byte) [0] x2 0] rfl (zkk Rp.byte x2 rfl rfl rfl) rfl rf)) ?_
   obtain ⟨v3,h_v3,h⟩:=bnd h
   refine jr (ra 2 [.own Rp.byte 5 14 [] newslice,.sl Rp.byte [0] x2] rfl (zhL 14 [] rfl zeq.el rfl (zdC _ _ _ _ _) (zaa _ _ _) h_v3 (.inl zmT) rfl) rfl rf) ?_
   refine zau ?_
   refine jp ?_
   obtain rfl:=sj h
   exact zae lzz
  refine jF hc3 ?_
  obtain rfl:=sj h
  exact zaO rfl lzz
 refine zbx _ rfl ?_
 refine jp ?_
 obtain rfl:=sj h
 refine zA ?_
 refine lk [2] [] 14 2 ?_
 exact lzz
theorem zpT {b:(List UInt8)} {r:(Int×Int)} (h:zgu b=some r):FnOk Tryz.prog 179 [.sl Rp.byte [0] b] [kU r.1,k8 r.2]:=by
 refine zD (E:=⟨[(2,kU r.1),(3,k8 r.2)],[]⟩) 22 Tryz.func179 rfl rfl rfl ⟨rfl,rfl,trivial⟩ (fun Xt=>?_)
 refine zv ?_
 unfold zgu at h
 refine jp ?_
 obtain ⟨rv,h_rv,h⟩:=bnd h
 refine jr (rl 1 [0] 9 Tryz.call152 (zgB h_rv) rf) ?_
 refine zap ⟨[(4,kU rv.1),(20,kB ((rv.2.2 !=0)|| (rv.2.1 !=(b.length:Int))))],[]⟩ ?_ ?_
 ·
  refine (rsl 3 [] 15 (rv.2.2 !=0) (fun hc1=>?_) (fun hc1=>?_))
  · exact (rbl [] 20 true ((rv.2.2 !=0)|| (rv.2.1 !=(b.length:Int))) (by rw [hc1]<;>rfl))
  exact (rbl [] 20 (rv.2.1 !=(b.length:Int)) ((rv.2.2 !=0)|| (rv.2.1 !=(b.length:Int))) (by rw [hc1]<;>rfl))
 rcases zp h with ⟨hc2,h⟩| ⟨hc2,h⟩
 ·
  refine jT hc2 ?_
  refine jp ?_
  obtain rfl:=sj h
  exact zA lzz
 refine jF hc2 ?_
 refine jp ?_
 obtain rfl:=sj h
 exact zA lzz
theorem zjk {fuel:Nat} {x:ze} {r:Int} (h:zgZ fuel x=some r):FnOk Tryz.prog 14 [.rc zf [0] x] [kI r]:=by
 refine zD (E:=⟨[(2,kI r)],[]⟩) 5 Tryz.func14 rfl rfl rfl ⟨rfl,trivial⟩ (fun Xt=>?_)
 refine zv ?_
 unfold zgZ at h
 refine jr (ra 0 [.rc zf [0] x] rfl (zcQ 11 [.sl za [0] x.Values,.sl Rp.str [0] x.Unknown] [0] rfl rfl rfl (by rw [zE]<;>rfl) rfl) rfl rf) ?_
 obtain ⟨rv,h_rv,h⟩:=bnd h
 refine jr (rc 1 rfl (zL.le (ins':=[(.tmp 3,.ag [.sl za [0] x.Values,.sl Rp.str [0] x.Unknown]),(.const (.int .i64 131072),kI 131072)]) (zbl (args:=[.tmp 3,.const (.int .i64 131072)]) [.rc zf [0] x,kI 131072] [0] 10 rfl Tryz.call42 (zsv h_rv) rfl rfl rfl rfl rfl) ⟨⟨rfl,zbk zf [0] x [.sl za [0] x.Values,.sl Rp.str [0] x.Unknown] (by rw [zE]<;>rfl) rfl⟩,⟨rfl,AV.le_refl _⟩,trivial⟩) rf) ?_
 obtain rfl:=sj h
 exact zA lzz
theorem zpW {rec_tree_copied:ze→Option ze} {rec_tree_copiedValue:zb→Option zb} (hrec_tree_copied:∀{x:ze} {r:ze},rec_tree_copied x=some r→FnOk Tryz.prog 51 [.rc zf [0] x] [.ag [.own za 50 3 [0,4] r.Values,.own Rp.str 9 5 [] r.Unknown]]) (hrec_tree_copiedValue:∀{v:zb} {r:zb},rec_tree_copiedValue v=some r→FnOk Tryz.prog 79 [.rc za [0] v] [.ag [kI r.Number,.own (Rp.int .u64) 75 3 [] r.Words,.own Rp.str 9 4 [] r.Texts,.own zf 30 5 [0,6] r.Subs]]) {x:ze} {r:ze} (h:zfG rec_tree_copied rec_tree_copiedValue x=some r):FnOk Tryz.prog 51 [.rc zf [0] x] [.ag [.own za 50 3 [0,4] r.Values,.own Rp.str 9 5 [] r.Unknown]]:=by
 refine zD (E:=⟨[(2,.ptr 2 0)],[⟨2,30,[.own za 50 3 [0,4] r.Values,.own Rp.str 9 5 [] r.Unknown]⟩]⟩) 29 Tryz.func51 rfl rfl rfl ⟨⟨_,_,rfl,rfl,rfl,⟨Tryz.isAgg30,Tryz.sizeOf30⟩⟩,trivial⟩ (fun Xt=>?_)
 refine zv ?_
 unfold zfG at h
 refine jr (ra 0 [.rc zf [0] x] rfl (zcQ 17 [.sl za [0] x.Values,.sl Rp.str [0] x.Unknown] [0] rfl rfl rfl (by rw [zE]<;>rfl) rfl) rfl (rfl' [18])) ?_
 obtain ⟨rv,h_rv,h⟩:=bnd h
 obtain ⟨rv2,h_rv2,h⟩:=bnd h
 refine jd [2,3] [18,21] zdz (by exact (lw_e (lw_e (lx (lf1 77 (zbl [.sl za [0] x.Values] [0] 17 rfl Tryz.call77 (zeO h_rv) rfl rfl rfl rfl rfl)) (lw_e (lw_e (lx (lf1 78 (zbl [.sl Rp.str [0] x.Unknown] [0] 18 rfl Tryz.call78 (zdP h_rv2) rfl rfl rfl rfl rfl)) (ly [.own za 50 19 [0] rv,.own Rp.str 9 20 [] rv2] (zfX [.own za 50 19 [0] rv,.own Rp.str 9 20 [] rv2] [.own za 50 19 [0] rv,.own Rp.str 9 20 [] rv2] rfl zBX rfl) rfl (lx (zjC 21 [kN,kN] rfl Tryz.zeroValue30 rfl) (ly [.ptr 21 0,.ag [.own za 50 19 [0] rv,.own Rp.str 9 20 [] rv2]] (zql (b:=⟨21,30,[kN,kN]⟩) (off:=0) [.own za 50 19 [0] rv,.own Rp.str 9 20 [] rv2] rfl Tryz.sizeOf30 rfl rfl rfl) rfl l0)))))))))) ?_
 refine jp ?_
 refine zH ?_
 obtain ⟨q,h_q,h⟩:=bnd h
 refine zaQ (fun s:((List zb)×Int)=>zbU rec_tree_copiedValue rv s.1 s.2) (fun s=>⟨[(2,.ptr 18 0),(3,.ptr 21 0),(14,.own za 50 19 [0,22] s.1),(15,kI (rv.length:Int)),(16,kI s.2)],[⟨18,30,[kN,kN]⟩,⟨21,30,[.own za 50 19 [0,22] s.1,.own Rp.str 9 20 [] rv2]⟩]⟩) (fun o e a w=>e= .exit 0∧Sx ⟨⟨29,[]⟩,Xt,false,#[]⟩ ⟨[(2,.ptr 18 0),(3,.ptr 21 0)],[⟨18,30,[kN,kN]⟩,⟨21,30,[.own za 50 19 [0,22] o,.own Rp.str 9 20 [] rv2]⟩]⟩ a w) ?_ h_q ?_ ?_
 ·
  clear h
  intro s o h
  obtain ⟨v,v2⟩:=s
  refine zv ?_
  replace h:zbU rec_tree_copiedValue rv v v2=some o:=h
  unfold zbU at h
  refine jp ?_
  rcases zp h with ⟨hc1,h⟩| ⟨hc1,h⟩
  ·
   refine jT hc1 ?_
   refine zH ?_
   obtain ⟨x2,h_x2,h⟩:=bnd h
   refine jr (ra 1 [.own za 50 19 [0,22] v,kI v2] rfl (zlk rfl zja.el h_x2) rfl (ra 0 [.own za 50 19 [0,22] v,.ptr 19 (Int.toNat v2*za.size)] rfl (zyz (r:=za) (e:=50) (ℓ:=19) (C:=[0,22]) (xs:=v) (.tmp 14) x2 rfl ⟨Tryz.isAgg50,Tryz.sizeOf50⟩ h_x2) rfl (ral 2 [35] [.ptr 35 0,.rc za [0,22] x2] rfl (zeY (r:=za) (b:=⟨35,50,[kI 0,kN,kN,kN]⟩) (off:=0) [kI x2.Number,.sl (Rp.int .u64) [0,22] x2.Words,.sl Rp.str [0,22] x2.Texts,.sl zf [0,22] x2.Subs] rfl Tryz.sizeOf50 rfl rfl (by rw [zG]<;>rfl) rfl) rfl rf))) ?_
   obtain ⟨rv3,h_rv3,h⟩:=bnd h
   obtain ⟨x3,h_x3,h⟩:=bnd h
   refine jk [2,3,4,5,14,15,16] [18,21,35] ?_
   refine zqh ⟨[(2,.ptr 18 0),(3,.ptr 21 0),(14,.own za 50 19 [0,22,37,38,39,40] (v.set (Int.toNat v2) rv3)),(15,kI (rv.length:Int)),(16,kI v2)],[⟨18,30,[kN,kN]⟩,⟨21,30,[.own za 50 19 [0,22,37,38,39,40] (v.set (Int.toNat v2) rv3),.own Rp.str 9 20 [] rv2]⟩]⟩ [.ev,.ev,.ev,.ex [35] [] [] (.ag [kI x2.Number,.sl (Rp.int .u64) [0,22] x2.Words,.sl Rp.str [0,22] x2.Texts,.sl zf [0,22] x2.Subs]) [],.ex [] [] [37,38,39] (.ag [kI rv3.Number,.own (Rp.int .u64) 75 37 [] rv3.Words,.own Rp.str 9 38 [] rv3.Texts,.own zf 30 39 [0,22,40] rv3.Subs]) [],.ex [] [] [] (.ptr 19 (Int.toNat v2*za.size)) [],.raw [4,0,1,4,10,14] [19] [] [.sl 22 (.own za 50 19 [0,22,37,38,39,40] (v.set (Int.toNat v2) rv3)),.sl 14 (.own za 50 19 [0,22,37,38,39,40] (v.set (Int.toNat v2) rv3)),.bx ⟨21,30,[.own za 50 19 [0,22,37,38,39,40] (v.set (Int.toNat v2) rv3),.own Rp.str 9 20 [] rv2]⟩]] [⟨[(.tmp 5,.ptr 35 0)],[⟨35,50,[kI x2.Number,.sl (Rp.int .u64) [0,22] x2.Words,.sl Rp.str [0,22] x2.Texts,.sl zf [0,22] x2.Subs]⟩],[]⟩,⟨[(.func 79,.lf (.val (.func (.func 79) #[] #[]))),(.tmp 24,.ag [kI x2.Number,.sl (Rp.int .u64) [0,22] x2.Words,.sl Rp.str [0,22] x2.Texts,.sl zf [0,22] x2.Subs])],[],[]⟩,⟨[(.tmp 22,.own za 50 19 [0,22] v),(.tmp 23,kI v2)],[],[]⟩,⟨[],[],[.sl 22 (.own za 50 19 [0,22] v),.sl 26 (.ptr 19 (Int.toNat v2*za.size)),.sl 25 (.ag [kI rv3.Number,.own (Rp.int .u64) 75 37 [] rv3.Words,.own Rp.str 9 38 [] rv3.Texts,.own zf 30 39 [0,22,40] rv3.Subs]),.sl 22 (.own za 50 19 [0,22] v),.sl 14 (.own za 50 19 [0,22] v),.bx ⟨21,30,[.own za 50 19 [0,22] v,.own Rp.str 9 20 [] rv2]⟩]⟩] [2,3,14,15,16] [18,21] zdz (by kernel_rfl) (by exact (lw_e (lw_e (lw_e (lw_x (zpA (zgq (b:=⟨35,50,[kI x2.Number,.sl (Rp.int .u64) [0,22] x2.Words,.sl Rp.str [0,22] x2.Texts,.sl zf [0,22] x2.Subs]⟩) [kI x2.Number,.sl (Rp.int .u64) [0,22] x2.Words,.sl Rp.str [0,22] x2.Texts,.sl zf [0,22] x2.Subs] rfl ⟨Tryz.isAgg50,Tryz.sizeOf50⟩ rfl rfl) rfl) (lw_x (zL.cons _ (zpA (zL.le (ins':=[(.tmp 24,.ag [kI x2.Number,.sl (Rp.int .u64) [0,22] x2.Words,.sl Rp.str [0,22] x2.Texts,.sl zf [0,22] x2.Subs])]) (zbl (args:=[.tmp 24]) [.rc za [0,22] x2] [0,22] 34 rfl Tryz.call79 (hrec_tree_copiedValue h_rv3) rfl rfl rfl rfl rfl) ⟨⟨rfl,zbk za [0,22] x2 [kI x2.Number,.sl (Rp.int .u64) [0,22] x2.Words,.sl Rp.str [0,22] x2.Texts,.sl zf [0,22] x2.Subs] (by rw [zG]<;>rfl) rfl⟩,trivial⟩) rfl)) (lw_x (zpA (zlk rfl zja.el h_x3) rfl) (lw_r (ztt (ins:=[(.tmp 22,.own za 50 19 [0,22] v),(.tmp 26,.ptr 19 (Int.toNat v2*za.size)),(.tmp 25,.ag [kI rv3.Number,.own (Rp.int .u64) 75 37 [] rv3.Words,.own Rp.str 9 38 [] rv3.Texts,.own zf 30 39 [0,22,40] rv3.Subs])]) [22,14] [(⟨21,30,[.own za 50 19 [0,22] v,.own Rp.str 9 20 [] rv2]⟩,⟨21,30,[.own za 50 19 [0,22,37,38,39,40] (v.set (Int.toNat v2) rv3),.own Rp.str 9 20 [] rv2]⟩)] (zxJ (r:=za) (e:=50) (ℓ:=19) (C:=[0,22]) (xs:=v) (off:=(Int.toNat v2*za.size)) (.tmp 22) (Int.toNat v2) 0 x3 rv3 [0,22,37,38,39,40] rfl rfl Tryz.sizeOf50 rfl (zlU h_x3) rfl (znW (by rw [zG]<;>rfl) _) rfl) ⟨trivial,trivial,trivial,trivial⟩ (fun _ _=>nofun) ⟨⟨rfl,rfl,rfl,⟨zcU 0 rfl,zt rfl,trivial⟩⟩,trivial⟩) lw_0)))))))) ?_
   refine zau ?_
   refine jp ?_
   obtain rfl:=sj h
   refine zae ?_
   refine lk [2,3,14,15,16] [18,21] 37 22 ?_
   refine lk [2,3,14,15,16] [18,21] 38 22 ?_
   refine lk [2,3,14,15,16] [18,21] 39 22 ?_
   refine lk [2,3,14,15,16] [18,21] 40 22 ?_
   refine zbC ⟨[(2,.ptr 18 0),(3,.ptr 21 0),(14,.own za 50 19 [0,22,22,22,22,22] (v.set (Int.toNat v2) rv3)),(15,kI (rv.length:Int)),(16,kI (IntKind.i64.wrap (v2+1)))],[⟨18,30,[kN,kN]⟩,⟨21,30,[.own za 50 19 [0,22,22,22,22,22] (v.set (Int.toNat v2) rv3),.own Rp.str 9 20 [] rv2]⟩]⟩ (by kernel_rfl) ?_
   refine zcf 14 (.own za 50 19 [0,22] (v.set (Int.toNat v2) rv3)) rfl (zgo _ _ _ _ _ _ rfl rfl) ?_
   refine zfA 21 0 (.own za 50 19 [0,22] (v.set (Int.toNat v2) rv3)) rfl rfl (zgo _ _ _ _ _ _ rfl rfl) ?_
   exact lzz
  refine jF hc1 ?_
  obtain rfl:=sj h
  exact zaO rfl lzz
 ·
  refine zbC ⟨[(2,.ptr 18 0),(3,.ptr 21 0),(14,.own za 50 19 [0] rv),(15,kI (rv.length:Int)),(16,kI 0)],[⟨18,30,[kN,kN]⟩,⟨21,30,[.own za 50 19 [0] rv,.own Rp.str 9 20 [] rv2]⟩]⟩ (by kernel_rfl) ?_
  refine zcf 14 (.own za 50 19 [0,22] rv) rfl (zgo _ _ _ _ _ _ rfl rfl) ?_
  refine zfA 21 0 (.own za 50 19 [0,22] rv) rfl rfl (zgo _ _ _ _ _ _ rfl rfl) ?_
  exact lzz
 refine zbx _ rfl ?_
 refine jp ?_
 obtain rfl:=sj h
 refine zA ?_
 refine lk [2] [18] 18 2 ?_
 refine lk [2] [2] 19 3 ?_
 refine lk [2] [2] 20 5 ?_
 refine lk [2] [2] 22 4 ?_
 exact lzz
theorem zlH {rec_tree_copied:ze→Option ze} {rec_tree_copiedValue:zb→Option zb} (hrec_tree_copied:∀{x:ze} {r:ze},rec_tree_copied x=some r→FnOk Tryz.prog 51 [.rc zf [0] x] [.ag [.own za 50 3 [0,4] r.Values,.own Rp.str 9 5 [] r.Unknown]]) (hrec_tree_copiedValue:∀{v:zb} {r:zb},rec_tree_copiedValue v=some r→FnOk Tryz.prog 79 [.rc za [0] v] [.ag [kI r.Number,.own (Rp.int .u64) 75 3 [] r.Words,.own Rp.str 9 4 [] r.Texts,.own zf 30 5 [0,6] r.Subs]]) {v:zb} {r:zb} (h:zdw rec_tree_copied rec_tree_copiedValue v=some r):FnOk Tryz.prog 79 [.rc za [0] v] [.ag [kI r.Number,.own (Rp.int .u64) 75 3 [] r.Words,.own Rp.str 9 4 [] r.Texts,.own zf 30 5 [0,6] r.Subs]]:=by
 refine zD (E:=⟨[(2,.ptr 2 0)],[⟨2,50,[kI r.Number,.own (Rp.int .u64) 75 3 [] r.Words,.own Rp.str 9 4 [] r.Texts,.own zf 30 5 [0,6] r.Subs]⟩]⟩) 34 Tryz.func79 rfl rfl rfl ⟨⟨_,_,rfl,rfl,rfl,⟨Tryz.isAgg50,Tryz.sizeOf50⟩⟩,trivial⟩ (fun Xt=>?_)
 refine zv ?_
 unfold zdw at h
 refine jr (ra 0 [.rc za [0] v] rfl (zcQ 18 [kI v.Number,.sl (Rp.int .u64) [0] v.Words,.sl Rp.str [0] v.Texts,.sl zf [0] v.Subs] [0] rfl rfl rfl (by rw [zG]<;>rfl) rfl) rfl (rfl' [19])) ?_
 obtain ⟨rv,h_rv,h⟩:=bnd h
 obtain ⟨rv2,h_rv2,h⟩:=bnd h
 obtain ⟨rv3,h_rv3,h⟩:=bnd h
 refine jd [2,3] [19,23] zdz (by exact (lw_e (lw_e (lw_e (lw_e (lx (lf1 101 (zbl [.sl (Rp.int .u64) [0] v.Words] [0] 18 rfl Tryz.call101 (zgx h_rv) rfl rfl rfl rfl rfl)) (lw_e (lw_e (lx (lf1 78 (zbl [.sl Rp.str [0] v.Texts] [0] 19 rfl Tryz.call78 (zdP h_rv2) rfl rfl rfl rfl rfl)) (lw_e (lw_e (lx (lf1 102 (zbl [.sl zf [0] v.Subs] [0] 20 rfl Tryz.call102 (zfu h_rv3) rfl rfl rfl rfl rfl)) (ly [kI v.Number,.own (Rp.int .u64) 75 20 [] rv,.own Rp.str 9 21 [] rv2,.own zf 30 22 [0] rv3] (zfX [kI v.Number,.own (Rp.int .u64) 75 20 [] rv,.own Rp.str 9 21 [] rv2,.own zf 30 22 [0] rv3] [kI v.Number,.own (Rp.int .u64) 75 20 [] rv,.own Rp.str 9 21 [] rv2,.own zf 30 22 [0] rv3] rfl zDN rfl) rfl (lx (zjC 23 [kI 0,kN,kN,kN] rfl Tryz.zeroValue50 rfl) (ly [.ptr 23 0,.ag [kI v.Number,.own (Rp.int .u64) 75 20 [] rv,.own Rp.str 9 21 [] rv2,.own zf 30 22 [0] rv3]] (zql (b:=⟨23,50,[kI 0,kN,kN,kN]⟩) (off:=0) [kI v.Number,.own (Rp.int .u64) 75 20 [] rv,.own Rp.str 9 21 [] rv2,.own zf 30 22 [0] rv3] rfl Tryz.sizeOf50 rfl rfl rfl) rfl l0))))))))))))))) ?_
 refine jp ?_
 refine zH ?_
 obtain ⟨q,h_q,h⟩:=bnd h
 refine zaQ (fun s:((List ze)×Int)=>zbb rec_tree_copied rv3 s.1 s.2) (fun s=>⟨[(2,.ptr 19 0),(3,.ptr 23 0),(19,.own zf 30 22 [0,24] s.1),(20,kI (rv3.length:Int)),(21,kI s.2)],[⟨19,50,[kI 0,kN,kN,kN]⟩,⟨23,50,[kI v.Number,.own (Rp.int .u64) 75 20 [] rv,.own Rp.str 9 21 [] rv2,.own zf 30 22 [0,24] s.1]⟩]⟩) (fun o e a w=>e= .exit 0∧Sx ⟨⟨34,[]⟩,Xt,false,#[]⟩ ⟨[(2,.ptr 19 0),(3,.ptr 23 0)],[⟨19,50,[kI 0,kN,kN,kN]⟩,⟨23,50,[kI v.Number,.own (Rp.int .u64) 75 20 [] rv,.own Rp.str 9 21 [] rv2,.own zf 30 22 [0,24] o]⟩]⟩ a w) ?_ h_q ?_ ?_
 ·
  clear h
  intro s o h
  obtain ⟨v2,v3⟩:=s
  refine zv ?_
  replace h:zbb rec_tree_copied rv3 v2 v3=some o:=h
  unfold zbb at h
  refine jp ?_
  rcases zp h with ⟨hc1,h⟩| ⟨hc1,h⟩
  ·
   refine jT hc1 ?_
   refine zH ?_
   obtain ⟨x,h_x,h⟩:=bnd h
   refine jr (ra 1 [.own zf 30 22 [0,24] v2,kI v3] rfl (zlk rfl zmC.el h_x) rfl (ra 0 [.own zf 30 22 [0,24] v2,.ptr 22 (Int.toNat v3*zf.size)] rfl (zyz (r:=zf) (e:=30) (ℓ:=22) (C:=[0,24]) (xs:=v2) (.tmp 19) x rfl ⟨Tryz.isAgg30,Tryz.sizeOf30⟩ h_x) rfl (ral 2 [35] [.ptr 35 0,.rc zf [0,24] x] rfl (zeY (r:=zf) (b:=⟨35,30,[kN,kN]⟩) (off:=0) [.sl za [0,24] x.Values,.sl Rp.str [0,24] x.Unknown] rfl Tryz.sizeOf30 rfl rfl (by rw [zE]<;>rfl) rfl) rfl rf))) ?_
   obtain ⟨rv4,h_rv4,h⟩:=bnd h
   obtain ⟨x2,h_x2,h⟩:=bnd h
   refine jk [2,3,4,5,19,20,21] [19,23,35] ?_
   refine zqh ⟨[(2,.ptr 19 0),(3,.ptr 23 0),(19,.own zf 30 22 [0,24,37,38,39] (v2.set (Int.toNat v3) rv4)),(20,kI (rv3.length:Int)),(21,kI v3)],[⟨19,50,[kI 0,kN,kN,kN]⟩,⟨23,50,[kI v.Number,.own (Rp.int .u64) 75 20 [] rv,.own Rp.str 9 21 [] rv2,.own zf 30 22 [0,24,37,38,39] (v2.set (Int.toNat v3) rv4)]⟩]⟩ [.ev,.ev,.ev,.ex [35] [] [] (.ag [.sl za [0,24] x.Values,.sl Rp.str [0,24] x.Unknown]) [],.ex [] [] [37,39] (.ag [.own za 50 37 [0,24,38] rv4.Values,.own Rp.str 9 39 [] rv4.Unknown]) [],.ex [] [] [] (.ptr 22 (Int.toNat v3*zf.size)) [],.raw [4,0,1,4,10,14] [22] [] [.sl 27 (.own zf 30 22 [0,24,37,38,39] (v2.set (Int.toNat v3) rv4)),.sl 19 (.own zf 30 22 [0,24,37,38,39] (v2.set (Int.toNat v3) rv4)),.bx ⟨23,50,[kI v.Number,.own (Rp.int .u64) 75 20 [] rv,.own Rp.str 9 21 [] rv2,.own zf 30 22 [0,24,37,38,39] (v2.set (Int.toNat v3) rv4)]⟩]] [⟨[(.tmp 5,.ptr 35 0)],[⟨35,30,[.sl za [0,24] x.Values,.sl Rp.str [0,24] x.Unknown]⟩],[]⟩,⟨[(.func 51,.lf (.val (.func (.func 51) #[] #[]))),(.tmp 29,.ag [.sl za [0,24] x.Values,.sl Rp.str [0,24] x.Unknown])],[],[]⟩,⟨[(.tmp 27,.own zf 30 22 [0,24] v2),(.tmp 28,kI v3)],[],[]⟩,⟨[],[],[.sl 27 (.own zf 30 22 [0,24] v2),.sl 31 (.ptr 22 (Int.toNat v3*zf.size)),.sl 30 (.ag [.own za 50 37 [0,24,38] rv4.Values,.own Rp.str 9 39 [] rv4.Unknown]),.sl 27 (.own zf 30 22 [0,24] v2),.sl 19 (.own zf 30 22 [0,24] v2),.bx ⟨23,50,[kI v.Number,.own (Rp.int .u64) 75 20 [] rv,.own Rp.str 9 21 [] rv2,.own zf 30 22 [0,24] v2]⟩]⟩] [2,3,19,20,21] [19,23] zdz (by kernel_rfl) (by exact (lw_e (lw_e (lw_e (lw_x (zpA (zgq (b:=⟨35,30,[.sl za [0,24] x.Values,.sl Rp.str [0,24] x.Unknown]⟩) [.sl za [0,24] x.Values,.sl Rp.str [0,24] x.Unknown] rfl ⟨Tryz.isAgg30,Tryz.sizeOf30⟩ rfl rfl) rfl) (lw_x (zL.cons _ (zpA (zL.le (ins':=[(.tmp 29,.ag [.sl za [0,24] x.Values,.sl Rp.str [0,24] x.Unknown])]) (zbl (args:=[.tmp 29]) [.rc zf [0,24] x] [0,24] 34 rfl Tryz.call51 (hrec_tree_copied h_rv4) rfl rfl rfl rfl rfl) ⟨⟨rfl,zbk zf [0,24] x [.sl za [0,24] x.Values,.sl Rp.str [0,24] x.Unknown] (by rw [zE]<;>rfl) rfl⟩,trivial⟩) rfl)) (lw_x (zpA (zlk rfl zmC.el h_x2) rfl) (lw_r (ztt (ins:=[(.tmp 27,.own zf 30 22 [0,24] v2),(.tmp 31,.ptr 22 (Int.toNat v3*zf.size)),(.tmp 30,.ag [.own za 50 37 [0,24,38] rv4.Values,.own Rp.str 9 39 [] rv4.Unknown])]) [27,19] [(⟨23,50,[kI v.Number,.own (Rp.int .u64) 75 20 [] rv,.own Rp.str 9 21 [] rv2,.own zf 30 22 [0,24] v2]⟩,⟨23,50,[kI v.Number,.own (Rp.int .u64) 75 20 [] rv,.own Rp.str 9 21 [] rv2,.own zf 30 22 [0,24,37,38,39] (v2.set (Int.toNat v3) rv4)]⟩)] (zxJ (r:=zf) (e:=30) (ℓ:=22) (C:=[0,24]) (xs:=v2) (off:=(Int.toNat v3*zf.size)) (.tmp 27) (Int.toNat v3) 0 x2 rv4 [0,24,37,38,39] rfl rfl Tryz.sizeOf30 rfl (zlU h_x2) rfl (znW (by rw [zE]<;>rfl) _) rfl) ⟨trivial,trivial,trivial,trivial⟩ (fun _ _=>nofun) ⟨⟨rfl,rfl,rfl,⟨zt rfl,zt rfl,zt rfl,zcU 0 rfl,trivial⟩⟩,trivial⟩) lw_0)))))))) ?_
   refine zau ?_
   refine jp ?_
   obtain rfl:=sj h
   refine zae ?_
   refine lk [2,3,19,20,21] [19,23] 37 24 ?_
   refine lk [2,3,19,20,21] [19,23] 38 24 ?_
   refine lk [2,3,19,20,21] [19,23] 39 24 ?_
   refine zbC ⟨[(2,.ptr 19 0),(3,.ptr 23 0),(19,.own zf 30 22 [0,24,24,24,24] (v2.set (Int.toNat v3) rv4)),(20,kI (rv3.length:Int)),(21,kI (IntKind.i64.wrap (v3+1)))],[⟨19,50,[kI 0,kN,kN,kN]⟩,⟨23,50,[kI v.Number,.own (Rp.int .u64) 75 20 [] rv,.own Rp.str 9 21 [] rv2,.own zf 30 22 [0,24,24,24,24] (v2.set (Int.toNat v3) rv4)]⟩]⟩ (by kernel_rfl) ?_
   refine zcf 19 (.own zf 30 22 [0,24] (v2.set (Int.toNat v3) rv4)) rfl (zgo _ _ _ _ _ _ rfl rfl) ?_
   refine zfA 23 3 (.own zf 30 22 [0,24] (v2.set (Int.toNat v3) rv4)) rfl rfl (zgo _ _ _ _ _ _ rfl rfl) ?_
   exact lzz
  refine jF hc1 ?_
  obtain rfl:=sj h
  exact zaO rfl lzz
 ·
  refine zbC ⟨[(2,.ptr 19 0),(3,.ptr 23 0),(19,.own zf 30 22 [0] rv3),(20,kI (rv3.length:Int)),(21,kI 0)],[⟨19,50,[kI 0,kN,kN,kN]⟩,⟨23,50,[kI v.Number,.own (Rp.int .u64) 75 20 [] rv,.own Rp.str 9 21 [] rv2,.own zf 30 22 [0] rv3]⟩]⟩ (by kernel_rfl) ?_
  refine zcf 19 (.own zf 30 22 [0,24] rv3) rfl (zgo _ _ _ _ _ _ rfl rfl) ?_
  refine zfA 23 3 (.own zf 30 22 [0,24] rv3) rfl rfl (zgo _ _ _ _ _ _ rfl rfl) ?_
  exact lzz
 refine zbx _ rfl ?_
 refine jp ?_
 obtain rfl:=sj h
 refine zA ?_
 refine lk [2] [19] 19 2 ?_
 refine lk [2] [2] 20 3 ?_
 refine lk [2] [2] 21 4 ?_
 refine lk [2] [2] 22 5 ?_
 refine lk [2] [2] 24 6 ?_
 exact lzz
theorem zfH (fuel:Nat):(∀{x:ze} {r:ze},zet fuel x=some r→FnOk Tryz.prog 51 [.rc zf [0] x] [.ag [.own za 50 3 [0,4] r.Values,.own Rp.str 9 5 [] r.Unknown]])∧(∀{v:zb} {r:zb},zdp fuel v=some r→FnOk Tryz.prog 79 [.rc za [0] v] [.ag [kI r.Number,.own (Rp.int .u64) 75 3 [] r.Words,.own Rp.str 9 4 [] r.Texts,.own zf 30 5 [0,6] r.Subs]]):=by
  induction fuel with
  | zero=>exact ⟨fun h=>absurd h nofun,fun h=>absurd h nofun⟩
  | succ fuel ih=>exact ⟨fun h=>zpW (fun hh=>ih.1 hh) (fun hh=>ih.2 hh) h,fun h=>zlH (fun hh=>ih.1 hh) (fun hh=>ih.2 hh) h⟩
theorem zrZ {fuel:Nat} {x:ze} {r:ze} (h:zet fuel x=some r):FnOk Tryz.prog 51 [.rc zf [0] x] [.ag [.own za 50 3 [0,4] r.Values,.own Rp.str 9 5 [] r.Unknown]]:=(zfH fuel).1 h
theorem zcx {sv:(List zc)} {v:Int} {r:Int} (h:zaq sv v=some r):FnOk Tryz.prog 117 [.sl zd [0] sv,.fv 97 [.ep (Rp.int .i64) [0] v 0]] [kI r]:=by
 refine zD (E:=⟨[(4,kI r)],[]⟩) 19 Tryz.func117 rfl rfl rfl ⟨rfl,trivial⟩ (fun Xt=>?_)
 refine zv ?_
 unfold zaq at h
 refine jp ?_
 refine jp ?_
 refine zH ?_
 obtain ⟨q,h_q,h⟩:=bnd h
 refine zaQ (fun s:Int=>zB sv v s) (fun s=>⟨[(0,.sl zd [0] sv),(1,.fv 97 [.ep (Rp.int .i64) [0] v 0]),(7,kI (sv.length:Int)),(8,kI s)],[]⟩) (fun o e a w=>match o with| (.inl v_)=>e= .exit 0∧Sx ⟨⟨19,[]⟩,Xt,false,#[]⟩ ⟨[],[]⟩ a w| (.inr v_)=>e= .ret∧Sx ⟨⟨19,[]⟩,Xt,false,#[]⟩ ⟨[(4,kI v_)],[]⟩ a w) ?_ h_q lzz ?_
 ·
  clear h
  intro v2 o h
  refine zv ?_
  replace h:zB sv v v2=some o:=h
  unfold zB at h
  refine jp ?_
  rcases zp h with ⟨hc1,h⟩| ⟨hc1,h⟩
  ·
   refine jT hc1 ?_
   refine zH ?_
   refine jp ?_
   obtain ⟨x,h_x,h⟩:=bnd h
   obtain ⟨rv,h_rv,h⟩:=bnd h
   refine jr (ra 3 [.sl zd [0] sv,kI v2] rfl (zby rfl zmD.el (zaa _ _ _) h_x) rfl (ra 0 [.ep zd [0] x 0] rfl (zds rfl ⟨Tryz.isAgg64,Tryz.sizeOf64⟩) rfl (ra 0 [.fv 97 [.ep (Rp.int .i64) [0] v 0],.rc zd [0] x] rfl (znG (args:=[.tmp 15]) [.rc zd [0] x] [0] 10 rfl (zyp _ _) Tryz.call97 (zlz h_rv) rfl rfl rfl rfl rfl) rfl rf))) ?_
   rcases zp h with ⟨hc2,h⟩| ⟨hc2,h⟩
   ·
    refine jT hc2 ?_
    refine jp ?_
    obtain rfl:=sj h
    exact zbR lzz
   refine jF hc2 ?_
   refine zau ?_
   refine jp ?_
   obtain rfl:=sj h
   exact zae lzz
  refine jF hc1 ?_
  obtain rfl:=sj h
  exact zaO rfl lzz
 rcases q with u| u2
 ·
  refine zbx _ rfl ?_
  refine jp ?_
  obtain rfl:=sj h
  exact zA lzz
 obtain rfl:=sj h
 exact zeg lzz
end Go.Proofs.YtcbkcblkecmjnaaGreat

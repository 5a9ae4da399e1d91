/-
  The Go functions do what the plain functions say. No condition.
-/
import Derived.Test.YtcbkcblkecmjnaaGreatx4G10
namespace Go.Proofs.YtcbkcblkecmjnaaGreat
open Go Go.RowKit
set_option linter.unusedVariables false
set_option maxRecDepth 100000
set_option maxHeartbeats 3200000
theorem zmz {sv:(List zi)} {root:Int} {d:Int} {r:Int} (h:zhd sv root d=some r):FnOk Tryz.prog 47 [.sl zj [0] sv,kI root,kI d] [k8 r]:=by
 refine zD (E:=⟨[(6,k8 r)],[]⟩) 28 Tryz.func47 rfl rfl rfl ⟨rfl,trivial⟩ (fun Xt=>?_)
 refine zv ?_
 unfold zhd at h
 refine jp ?_
 refine zH ?_
 obtain ⟨rv,h_rv,h⟩:=bnd h
 refine jr (rl 1 [0] 9 Tryz.call52 (zpV h_rv) rf) ?_
 rcases zp h with ⟨hc1,h⟩| ⟨hc1,h⟩
 ·
  refine jT hc1 ?_
  refine jp ?_
  obtain rfl:=sj h
  exact zA lzz
 refine jF hc1 ?_
 refine zap ⟨[(11,kB ((decide (root<0))|| ((decide (root≥(sv.length:Int)))|| ((decide (d<0))|| (decide (d>64))))))],[]⟩ ?_ ?_
 ·
  refine (rsl 3 [] 14 (decide (root<0)) (fun hc2=>?_) (fun hc2=>?_))
  · exact (rbl [] 11 true ((decide (root<0))|| ((decide (root≥(sv.length:Int)))|| ((decide (d<0))|| (decide (d>64))))) (by rw [hc2]<;>rfl))
  refine (rsl 6 [] 20 (decide (root≥(sv.length:Int))) (fun hc3=>?_) (fun hc3=>?_))
  · exact (rbl [] 11 true ((decide (root<0))|| ((decide (root≥(sv.length:Int)))|| ((decide (d<0))|| (decide (d>64))))) (by rw [hc2,hc3]<;>rfl))
  refine (rsl 4 [] 24 (decide (d<0)) (fun hc4=>?_) (fun hc4=>?_))
  · exact (rbl [] 11 true ((decide (root<0))|| ((decide (root≥(sv.length:Int)))|| ((decide (d<0))|| (decide (d>64))))) (by rw [hc2,hc3,hc4]<;>rfl))
  exact (rbl [] 11 (decide (d>64)) ((decide (root<0))|| ((decide (root≥(sv.length:Int)))|| ((decide (d<0))|| (decide (d>64))))) (by rw [hc2,hc3,hc4]<;>rfl))
 rcases zp h with ⟨hc5,h⟩| ⟨hc5,h⟩
 ·
  refine jT hc5 ?_
  refine jp ?_
  obtain rfl:=sj h
  exact zA lzz
 refine jF hc5 ?_
 refine zau ?_
 refine jp ?_
 obtain rfl:=sj h
 exact zA lzz
theorem znf {wv:zas} {message:Int} {fromv:Int} {tov:Int} {r:(zg×Int×(List (zm×zg)))} (h:zeE wv message fromv tov=some r):zgl Tryz.prog 109 [.ag [.sl zj [0] wv.s,.sl Rp.byte [0] wv.b,.om zk zh 2 [0] wv.met],kI message,kI fromv,kI tov] [.rc zh [] r.1,k8 r.2.1] [.ag [.any,.any,.om zk zh 2 [0] r.2.2],.any,.any,.any]:=by
 refine zic (E:=⟨[(0,.ag [.any,.any,.om zk zh 2 [0] r.2.2]),(8,.ptr 3 0),(9,k8 r.2.1)],[⟨3,113,[kI r.1.Record.Number,kI r.1.Record.Wire,kI r.1.Record.From,kI r.1.Record.At,kI r.1.Record.To,kI r.1.Field,kB r.1.Run]⟩]⟩) 67 [0] Tryz.func109 rfl rfl rfl ⟨⟨_,_,rfl,rfl,rfl,rfl,⟨Tryz.isAgg113,Tryz.sizeOf113⟩⟩,rfl,trivial⟩ ⟨.inr ⟨rfl,rfl⟩,.inl rfl,.inl rfl,.inl rfl,trivial⟩ rfl (fun Xt old=>?_)
 refine zv ?_
 unfold zeE at h
 refine jq [13,14] ?_
 obtain ⟨v,h_v,h⟩:=bnd h
 refine jr (ra 3 [.sl Rp.byte [0] wv.b,kI tov] rfl (zfN none (some (kI tov)) rfl zeq.el (zaa _ _ _) ⟨rfl,rfl⟩ ⟨rfl,rfl⟩ h_v) rfl rf) ?_
 obtain ⟨rv,h_rv,h⟩:=bnd h
 refine jr (rl 2 [0] 13 Tryz.call98 (zix h_rv) (rfl' [15])) ?_
 refine jp ?_
 rcases zp h with ⟨hc1,h⟩| ⟨hc1,h⟩
 ·
  refine jT hc1 ?_
  refine jr (rc 0 rfl (zam (r:=zh) [] [] (⟨(⟨0,0,0,0,0⟩:zx),0,false⟩:zg) rfl zrS rfl rfl) rf) ?_
  obtain rfl:=sj h
  refine zeQ ?_
  refine lk [0,8,9] [14] 14 3 ?_
  refine zbC ⟨[(0,.ag [.sl zj [0] wv.s,.sl Rp.byte [0] wv.b,.om zk zh 2 [0] wv.met]),(8,.ptr 3 0),(9,k8 rv.2)],[⟨3,113,[kI 0,kI 0,kI 0,kI 0,kI 0,kI 0,kB false]⟩]⟩ (by kernel_rfl) ?_
  refine zcf 0 (.ag [.any,.any,.om zk zh 2 [0] (((⟨(⟨0,0,0,0,0⟩:zx),0,false⟩:zg),rv.2,wv.met):(zg×Int×(List (zm×zg)))).2.2]) rfl (zfp ⟨zbe _,zbe _,AV.le_refl _,trivial⟩) ?_
  exact lzz
 refine jF hc1 ?_
 refine jr (rc 5 rfl (zam (r:=zk) [kI message,kI rv.1.Number,kI rv.1.Wire] [] (⟨message,rv.1.Number,rv.1.Wire⟩:zm) rfl zEy rfl rfl) (rfl' [16])) ?_
 refine jr (lb 2 zk [] (⟨message,rv.1.Number,rv.1.Wire⟩:zm) (ra 0 [.om zk zh 2 [0] wv.met,.rc zk [] (⟨message,rv.1.Number,rv.1.Wire⟩:zm)] rfl (zrj (rk:=zk) (rv:=zh) (m:=wv.met) (k:=(⟨message,rv.1.Number,rv.1.Wire⟩:zm)) (.rc zh [2,0] ((mget wv.met (⟨message,rv.1.Number,rv.1.Wire⟩:zm)).getD (⟨(⟨0,0,0,0,0⟩:zx),0,false⟩:zg))) rfl zyC (zkh _ _ _ _ _) (zck rfl) (zuh rfl)) rfl (rfl' [17]))) ?_
 refine jp ?_
 rcases zp h with ⟨hc2,h⟩| ⟨hc2,h⟩
 ·
  refine jT hc2 ?_
  obtain ⟨x,h_x,h⟩:=bnd h
  obtain ⟨rv2,h_rv2,h⟩:=bnd h
  refine jr (ra 3 [.sl zj [0] wv.s,kI message] rfl (zby rfl zlP.el (zaa _ _ _) h_x) rfl (ra 0 [.ep zj [0] x 0] rfl (zds rfl ⟨Tryz.isAgg73,Tryz.sizeOf73⟩) rfl (rl 2 [0] 16 Tryz.call133 (zuZ h_rv2) rf))) ?_
  refine jp ?_
  rcases zp h with ⟨hc3,h⟩| ⟨hc3,h⟩
  ·
   refine jT hc3 ?_
   refine jr (rc 0 rfl (zam (r:=zh) [] [] (⟨(⟨0,0,0,0,0⟩:zx),0,false⟩:zg) rfl zrS rfl rfl) rf) ?_
   obtain rfl:=sj h
   refine zeQ ?_
   refine lk [0,8,9] [14] 14 3 ?_
   refine zbC ⟨[(0,.ag [.sl zj [0] wv.s,.sl Rp.byte [0] wv.b,.om zk zh 2 [0] wv.met]),(8,.ptr 3 0),(9,k8 rv2.2)],[⟨3,113,[kI 0,kI 0,kI 0,kI 0,kI 0,kI 0,kB false]⟩]⟩ (by kernel_rfl) ?_
   refine zcf 0 (.ag [.any,.any,.om zk zh 2 [0] (((⟨(⟨0,0,0,0,0⟩:zx),0,false⟩:zg),rv2.2,wv.met):(zg×Int×(List (zm×zg)))).2.2]) rfl (zfp ⟨zbe _,zbe _,AV.le_refl _,trivial⟩) ?_
   exact lzz
  refine jF hc3 ?_
  refine jr (lb 2 zk [] (⟨message,rv.1.Number,rv.1.Wire⟩:zm) (lb 0 zh [] rv2.1 (rkl 0 [] ⟨[(0,.ag [.sl zj [0] wv.s,.sl Rp.byte [0] wv.b,.om zk zh 2 [0] wv.met]),(8,.ptr 14 0),(11,.ptr 15 0),(14,.ptr 17 0),(61,.om zk zh 2 [0] wv.met),(62,.rc zk [] (⟨message,rv.1.Number,rv.1.Wire⟩:zm)),(63,.rc zh [] rv2.1)],[⟨14,113,[kI 0,kI 0,kI 0,kI 0,kI 0,kI 0,kB false]⟩,⟨15,111,[kI rv.1.Number,kI rv.1.Wire,kI rv.1.From,kI rv.1.At,kI rv.1.To]⟩,⟨17,113,[kI rv2.1.Record.Number,kI rv2.1.Record.Wire,kI rv2.1.Record.From,kI rv2.1.Record.At,kI rv2.1.Record.To,kI rv2.1.Field,kB rv2.1.Run]⟩]⟩ (zeU ⟨[(0,.ag [.sl zj [0] wv.s,.sl Rp.byte [0] wv.b,.om zk zh 2 [0] (mput wv.met (⟨message,rv.1.Number,rv.1.Wire⟩:zm) rv2.1)]),(8,.ptr 14 0),(11,.ptr 15 0),(14,.ptr 17 0),(61,.om zk zh 2 [0] (mput wv.met (⟨message,rv.1.Number,rv.1.Wire⟩:zm) rv2.1)),(62,.rc zk [] (⟨message,rv.1.Number,rv.1.Wire⟩:zm)),(63,.rc zh [] rv2.1)],[⟨14,113,[kI 0,kI 0,kI 0,kI 0,kI 0,kI 0,kB false]⟩,⟨15,111,[kI rv.1.Number,kI rv.1.Wire,kI rv.1.From,kI rv.1.At,kI rv.1.To]⟩,⟨17,113,[kI rv2.1.Record.Number,kI rv2.1.Record.Wire,kI rv2.1.Record.From,kI rv2.1.Record.At,kI rv2.1.Record.To,kI rv2.1.Field,kB rv2.1.Run]⟩]⟩ (znZ (rk:=zk) (rv:=zh) (m:=wv.met) (ℓ:=2) (C:=[0]) (C1:=[]) (D:=[]) (⟨message,rv.1.Number,rv.1.Wire⟩:zm) rv2.1 [0] zyC (.inl rfl) (zck rfl) (zck rfl) rfl) rfl (by kernel_rfl) (by kernel_rfl) ⟨⟨_,rfl,zjR ⟨zt rfl,zt rfl,zcU 0 rfl,trivial⟩⟩,⟨_,rfl,zt rfl⟩,⟨_,rfl,zt rfl⟩,⟨_,rfl,zt rfl⟩,⟨_,rfl,zcU 0 rfl⟩,⟨_,rfl,zt rfl⟩,⟨_,rfl,zt rfl⟩,trivial⟩ ⟨⟨_,rfl,rfl,rfl,⟨zt rfl,zt rfl,zt rfl,zt rfl,zt rfl,zt rfl,zt rfl,trivial⟩⟩,⟨_,rfl,rfl,rfl,⟨zt rfl,zt rfl,zt rfl,zt rfl,zt rfl,trivial⟩⟩,⟨_,rfl,rfl,rfl,⟨zt rfl,zt rfl,zt rfl,zt rfl,zt rfl,zt rfl,zt rfl,trivial⟩⟩,trivial⟩ rf)))) ?_
  refine jr (lb 0 zaB [] rv.1 rf) ?_
  refine jr (lb 0 zh [] (⟨rv.1,rv2.1.Field,rv2.1.Run⟩:zg) rf) ?_
  obtain rfl:=sj h
  refine zeQ ?_
  refine lk [0,8,9] [14] 14 3 ?_
  refine zbC ⟨[(0,.ag [.sl zj [0] wv.s,.sl Rp.byte [0] wv.b,.om zk zh 2 [0] (mput wv.met (⟨message,rv.1.Number,rv.1.Wire⟩:zm) rv2.1)]),(8,.ptr 3 0),(9,k8 0)],[⟨3,113,[kI rv.1.Number,kI rv.1.Wire,kI rv.1.From,kI rv.1.At,kI rv.1.To,kI rv2.1.Field,kB rv2.1.Run]⟩]⟩ (by kernel_rfl) ?_
  refine zcf 0 (.ag [.any,.any,.om zk zh 2 [0] (((⟨rv.1,rv2.1.Field,rv2.1.Run⟩:zg),0,(mput wv.met (⟨message,rv.1.Number,rv.1.Wire⟩:zm) rv2.1)):(zg×Int×(List (zm×zg)))).2.2]) rfl (zfp ⟨zbe _,zbe _,AV.le_refl _,trivial⟩) ?_
  exact lzz
 refine jF hc2 ?_
 refine jr (lb 0 zaB [] rv.1 rf) ?_
 refine jr (lb 0 zh [] (⟨rv.1,((mget wv.met (⟨message,rv.1.Number,rv.1.Wire⟩:zm)).getD (⟨(⟨0,0,0,0,0⟩:zx),0,false⟩:zg)).Field,((mget wv.met (⟨message,rv.1.Number,rv.1.Wire⟩:zm)).getD (⟨(⟨0,0,0,0,0⟩:zx),0,false⟩:zg)).Run⟩:zg) rf) ?_
 obtain rfl:=sj h
 refine zeQ ?_
 refine lk [0,8,9] [14] 14 3 ?_
 refine zbC ⟨[(0,.ag [.sl zj [0] wv.s,.sl Rp.byte [0] wv.b,.om zk zh 2 [0] wv.met]),(8,.ptr 3 0),(9,k8 0)],[⟨3,113,[kI rv.1.Number,kI rv.1.Wire,kI rv.1.From,kI rv.1.At,kI rv.1.To,kI (((mget wv.met (⟨message,rv.1.Number,rv.1.Wire⟩:zm)).getD (⟨(⟨0,0,0,0,0⟩:zx),0,false⟩:zg)).Field),kB (((mget wv.met (⟨message,rv.1.Number,rv.1.Wire⟩:zm)).getD (⟨(⟨0,0,0,0,0⟩:zx),0,false⟩:zg)).Run)]⟩]⟩ (by kernel_rfl) ?_
 refine zcf 0 (.ag [.any,.any,.om zk zh 2 [0] (((⟨rv.1,(((mget wv.met (⟨message,rv.1.Number,rv.1.Wire⟩:zm)).getD (⟨(⟨0,0,0,0,0⟩:zx),0,false⟩:zg)).Field),(((mget wv.met (⟨message,rv.1.Number,rv.1.Wire⟩:zm)).getD (⟨(⟨0,0,0,0,0⟩:zx),0,false⟩:zg)).Run)⟩:zg),0,wv.met):(zg×Int×(List (zm×zg)))).2.2]) rfl (zfp ⟨zbe _,zbe _,AV.le_refl _,trivial⟩) ?_
 exact lzz
theorem zuF {k:Int} {b:(List UInt8)} {r:(Int×Int)} (h:zjK k b=some r):FnOk Tryz.prog 161 [kI k,.sl Rp.byte [0] b] [kI r.1,k8 r.2]:=by
 refine zsX (E:=⟨[(4,.ptr 2 0),(5,.ptr 3 0)],[⟨2,3,[kI r.1]⟩,⟨3,31,[k8 r.2]⟩]⟩) 20 Tryz.func161 rfl rfl rfl ⟨⟨_,_,rfl,rfl,rfl,rfl⟩,⟨_,_,rfl,rfl,rfl,rfl⟩,trivial⟩ rfl rfl (fun Xt=>?_)
 refine zv ?_
 unfold zjK at h
 refine jq [13,14] ?_
 refine jq [15] ?_
 obtain ⟨rv,h_rv,h⟩:=bnd h
 refine jr (rl 2 [0] 0 Tryz.call150 (zmw h_rv) rf) ?_
 refine zH ?_
 obtain ⟨q,h_q,h⟩:=bnd h
 refine zle (E':=⟨[(4,.ptr 13 0),(5,.ptr 14 0),(6,.ptr 15 0),(11,.fv 170 [.bp (Rp.int .i64) 3 917000 [] rv.1,.bp (Rp.list Rp.byte) 24 917001 [0] rv.2])],[⟨13,3,[kI 0]⟩,⟨14,31,[k8 0]⟩,⟨15,3,[kI 0]⟩]⟩) ?_ ?_
 · exact lzz
 refine zvN (it:=fun {σ:Type} (kf:Rnd σ ((List UInt8)×Int)) (sg:σ)=>zdi rv.1 rv.2 kf sg) (zkG rv.1 rv.2) [917000,917001] [4,5,6] [13,14,15] [(4,.ptr 13 0),(5,.ptr 14 0),(6,.ptr 15 0)] (fun s:Int=>[⟨13,3,[kI 0]⟩,⟨14,31,[k8 0]⟩,⟨15,3,[kI s]⟩]) (fun o:(Int×Int)=>[⟨13,3,[kI 0]⟩,⟨14,31,[k8 o.1]⟩,⟨15,3,[kI o.2]⟩]) (fun o:(Int×Int)=> .ret) (fun (s:Int) (x:((List UInt8)×Int))=>zdN s x.1 x.2) (fun (s:Int) (x:((List UInt8)×Int))=>⟨[(4,.ptr 13 0),(5,.ptr 14 0),(6,.ptr 15 0),(8,k8 x.2)],[⟨13,3,[kI 0]⟩,⟨14,31,[k8 0]⟩,⟨15,3,[kI s]⟩]⟩) rfl rfl Tryz.call170 rfl rfl rfl rfl rfl rfl (fun _=>rfl) (fun o=>rfl) rfl rfl (fun _=>rfl) ?_ (fun _ _=>⟨rfl,rfl⟩) ?_ h_q ?_
 ·
  clear h
  intro Xr old f x
  obtain ⟨x,x2⟩:=x
  refine zv ?_
  refine zle (E':=⟨[(13,k8 x2),(12,.sl Rp.byte [0] x),(4,.ptr 13 0),(5,.ptr 14 0),(6,.ptr 15 0)],[⟨13,3,[kI 0]⟩,⟨14,31,[k8 0]⟩,⟨15,3,[kI f]⟩]⟩) (fun _ _ _ hs=>hs) ?_
  refine jp ?_
  exact zae lzz
 ·
  clear h
  intro Xr old f x o h
  obtain ⟨x,x2⟩:=x
  refine zv ?_
  refine zle (E':=⟨[(4,.ptr 13 0),(5,.ptr 14 0),(6,.ptr 15 0),(8,k8 x2)],[⟨13,3,[kI 0]⟩,⟨14,31,[k8 0]⟩,⟨15,3,[kI f]⟩]⟩) (fun _ _ _ hs=>hs) ?_
  replace h:zdN f x x2=some o:=h
  unfold zdN at h
  refine zH ?_
  refine jp ?_
  rcases zp h with ⟨hc1,h⟩| ⟨hc1,h⟩
  ·
   refine jT hc1 ?_
   refine jp ?_
   obtain rfl:=sj h
   exact zyr lzz
  refine jF hc1 ?_
  refine jp ?_
  refine zau ?_
  obtain rfl:=sj h
  exact zae lzz
 rcases q with u| j
 ·
  refine zle (E':=⟨[(4,.ptr 13 0),(5,.ptr 14 0),(6,.ptr 15 0)],[⟨13,3,[kI 0]⟩,⟨14,31,[k8 0]⟩,⟨15,3,[kI u]⟩]⟩) (fun _ _ _ hs=>hs) ?_
  refine zau ?_
  refine jp ?_
  obtain rfl:=sj h
  refine zA ?_
  refine lk [4,5] [13,14] 13 2 ?_
  refine lk [4,5] [2,14] 14 3 ?_
  exact lzz
 refine zle (E':=⟨[(4,.ptr 13 0),(5,.ptr 14 0),(6,.ptr 15 0)],[⟨13,3,[kI 0]⟩,⟨14,31,[k8 j.1]⟩,⟨15,3,[kI j.2]⟩]⟩) (fun _ _ _ hs=>hs) ?_
 obtain rfl:=sj h
 refine zA ?_
 refine lk [4,5] [13,14] 13 2 ?_
 refine lk [4,5] [2,14] 14 3 ?_
 exact lzz
theorem zuG {k:Int} {b:(List UInt8)} {r:((List Int)×Int)} (h:zjL k b=some r):FnOk Tryz.prog 116 [kI k,.sl Rp.byte [0] b] [.own (Rp.int .u64) 75 3 [] r.1,k8 r.2]:=by
 refine zsX (E:=⟨[(4,.ptr 2 0),(5,.ptr 4 0)],[⟨2,47,[.own (Rp.int .u64) 75 3 [] r.1]⟩,⟨4,31,[k8 r.2]⟩]⟩) 30 Tryz.func116 rfl rfl rfl ⟨⟨_,_,rfl,rfl,rfl,rfl⟩,⟨_,_,rfl,rfl,rfl,rfl⟩,trivial⟩ rfl rfl (fun Xt=>?_)
 refine zv ?_
 unfold zjL at h
 refine jq [18,19,20] ?_
 refine jq [21] ?_
 obtain ⟨rv,h_rv,h⟩:=bnd h
 refine jr (rl 2 [0] 0 Tryz.call150 (zmw h_rv) rf) ?_
 refine zH ?_
 obtain ⟨q,h_q,h⟩:=bnd h
 refine zle (E':=⟨[(2,.ptr 18 0),(4,.ptr 19 0),(5,.ptr 20 0),(6,.ptr 21 0),(13,.fv 170 [.bp (Rp.int .i64) 3 917000 [] rv.1,.bp (Rp.list Rp.byte) 24 917001 [0] rv.2])],[⟨18,3,[kI k]⟩,⟨19,47,[kN]⟩,⟨20,31,[k8 0]⟩,⟨21,47,[.own (Rp.int .u64) 75 24 [] []]⟩]⟩) ?_ ?_
 ·
  refine zbC ⟨[(2,.ptr 18 0),(4,.ptr 19 0),(5,.ptr 20 0),(6,.ptr 21 0),(13,.fv 170 [.bp (Rp.int .i64) 3 917000 [] rv.1,.bp (Rp.list Rp.byte) 24 917001 [0] rv.2])],[⟨18,3,[kI k]⟩,⟨19,47,[kN]⟩,⟨20,31,[k8 0]⟩,⟨21,47,[kN]⟩]⟩ (by kernel_rfl) ?_
  refine zfA 21 0 (.own (Rp.int .u64) 75 24 [] []) rfl rfl (zbd (Rp.int .u64) 75 24 [] rfl) ?_
  exact lzz
 refine zvN (it:=fun {σ:Type} (kf:Rnd σ ((List UInt8)×Int)) (sg:σ)=>zdi rv.1 rv.2 kf sg) (zkG rv.1 rv.2) [917000,917001] [2,4,5,6] [18,19,20,21] [(2,.ptr 18 0),(4,.ptr 19 0),(5,.ptr 20 0),(6,.ptr 21 0)] (fun s:(List Int)=>[⟨18,3,[kI k]⟩,⟨19,47,[kN]⟩,⟨20,31,[k8 0]⟩,⟨21,47,[.own (Rp.int .u64) 75 24 [] s]⟩]) (fun o:(Int×(List Int))=>[⟨18,3,[kI k]⟩,⟨19,47,[kN]⟩,⟨20,31,[k8 o.1]⟩,⟨21,47,[.own (Rp.int .u64) 75 24 [] o.2]⟩]) (fun o:(Int×(List Int))=> .ret) (fun (s:(List Int)) (x:((List UInt8)×Int))=>zcM k s x.1 x.2) (fun (s:(List Int)) (x:((List UInt8)×Int))=>⟨[(2,.ptr 18 0),(4,.ptr 19 0),(5,.ptr 20 0),(6,.ptr 21 0),(7,.sl Rp.byte [0] x.1),(8,k8 x.2)],[⟨18,3,[kI k]⟩,⟨19,47,[kN]⟩,⟨20,31,[k8 0]⟩,⟨21,47,[.own (Rp.int .u64) 75 24 [] s]⟩]⟩) rfl rfl Tryz.call170 rfl rfl rfl rfl rfl rfl (fun _=>rfl) (fun o=>rfl) rfl rfl (fun _=>rfl) ?_ (fun _ _=>⟨rfl,rfl⟩) ?_ h_q ?_
 ·
  clear h
  intro Xr old f x
  obtain ⟨x,x2⟩:=x
  refine zv ?_
  refine zle (E':=⟨[(15,k8 x2),(14,.sl Rp.byte [0] x),(2,.ptr 18 0),(4,.ptr 19 0),(5,.ptr 20 0),(6,.ptr 21 0)],[⟨18,3,[kI k]⟩,⟨19,47,[kN]⟩,⟨20,31,[k8 0]⟩,⟨21,47,[.own (Rp.int .u64) 75 24 [] f]⟩]⟩) (fun _ _ _ hs=>hs) ?_
  refine jp ?_
  refine jp ?_
  exact zae lzz
 ·
  clear h
  intro Xr old f x o h
  obtain ⟨x,x2⟩:=x
  refine zv ?_
  refine zle (E':=⟨[(2,.ptr 18 0),(4,.ptr 19 0),(5,.ptr 20 0),(6,.ptr 21 0),(7,.sl Rp.byte [0] x),(8,k8 x2)],[⟨18,3,[kI k]⟩,⟨19,47,[kN]⟩,⟨20,31,[k8 0]⟩,⟨21,47,[.own (Rp.int .u64) 75 24 [] f]⟩]⟩) (fun _ _ _ hs=>hs) ?_
  replace h:zcM k f x x2=some o:=h
  unfold zcM at h
  refine zH ?_
  refine jp ?_
  rcases zp h with ⟨hc1,h⟩| ⟨hc1,h⟩
  ·
   refine jT hc1 ?_
   refine jp ?_
   obtain rfl:=sj h
   exact zyr lzz
  refine jF hc1 ?_
  obtain ⟨rv2,h_rv2,h⟩:=bnd h
  refine jr (rl 2 [0] 23 Tryz.call151 (zrH h_rv2) rf) ?_
  obtain ⟨v,h_v,h⟩:=bnd h
  refine jr (rc 2 rfl (zfr [kU rv2.1] 25 [] ([rv2.1]:(List Int)) rfl zkN rfl rfl rfl rfl) (ra 0 [.own (Rp.int .u64) 75 24 [] f,.own (Rp.int .u64) 75 25 [] ([rv2.1]:(List Int))] rfl (zhL 24 [] rfl zkN.el rfl (zdC _ _ _ _ _) (zef _ _ _ _ _) h_v (.inl (zoV _)) rfl) rfl rf)) ?_
  refine zau ?_
  obtain rfl:=sj h
  exact zae lzz
 rcases q with u| j
 ·
  refine zle (E':=⟨[(2,.ptr 18 0),(4,.ptr 19 0),(5,.ptr 20 0),(6,.ptr 21 0)],[⟨18,3,[kI k]⟩,⟨19,47,[kN]⟩,⟨20,31,[k8 0]⟩,⟨21,47,[.own (Rp.int .u64) 75 24 [] u]⟩]⟩) (fun _ _ _ hs=>hs) ?_
  refine zau ?_
  refine jp ?_
  obtain rfl:=sj h
  refine zA ?_
  refine lk [4,5] [19,20] 19 2 ?_
  refine lk [4,5] [2,20] 20 4 ?_
  refine lk [4,5] [2,4] 24 3 ?_
  exact lzz
 refine zle (E':=⟨[(2,.ptr 18 0),(4,.ptr 19 0),(5,.ptr 20 0),(6,.ptr 21 0)],[⟨18,3,[kI k]⟩,⟨19,47,[kN]⟩,⟨20,31,[k8 j.1]⟩,⟨21,47,[.own (Rp.int .u64) 75 24 [] j.2]⟩]⟩) (fun _ _ _ hs=>hs) ?_
 obtain rfl:=sj h
 refine zA ?_
 refine lk [4,5] [19,20] 19 2 ?_
 refine lk [4,5] [2,20] 20 4 ?_
 refine zbC ⟨[(4,.ptr 2 0),(5,.ptr 4 0)],[⟨2,47,[kN]⟩,⟨4,31,[k8 j.1]⟩]⟩ (by kernel_rfl) ?_
 refine zfA 2 0 (.own (Rp.int .u64) 75 3 [] (([],j.1):((List Int)×Int)).1) rfl rfl (zbd (Rp.int .u64) 75 3 [] rfl) ?_
 exact lzz
end Go.Proofs.YtcbkcblkecmjnaaGreat

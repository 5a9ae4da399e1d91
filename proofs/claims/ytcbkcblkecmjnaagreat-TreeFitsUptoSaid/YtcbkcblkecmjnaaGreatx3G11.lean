/-
  The Go functions do what the plain functions say. No condition.
-/
import Derived.Test.YtcbkcblkecmjnaaGreatx3G10
namespace Go.Proofs.YtcbkcblkecmjnaaGreat
open Go Go.RowKit
set_option linter.unusedVariables false
set_option maxRecDepth 100000
set_option maxHeartbeats 3200000
theorem ztF {sv:(List zg)} {root:Int} {d:Int} {r:Int} (h:zjE sv root d=some r):FnOk Tryz.prog 47 [.sl zi [0] sv,kI root,kI d] [k8 r]:=by
 refine zC (E:=⟨[(6,k8 r)],[]⟩) 28 Tryz.func47 rfl rfl rfl ⟨rfl,trivial⟩ (fun Xt=>?_)
 refine zr ?_
 unfold zjE at h
 refine jp ?_
 refine zz ?_
 obtain ⟨rv,h_rv,h⟩:=bnd h
 refine jr (rl 1 [0] 9 Tryz.call52 (zma h_rv) rf) ?_
 rcases zn h with ⟨hc1,h⟩| ⟨hc1,h⟩
 ·
  refine jT hc1 ?_
  refine jp ?_
  obtain rfl:=sj h
  exact zy lzz
 refine jF hc1 ?_
 refine zS ⟨[(11,kB ((decide (root<0))|| ((decide (root≥(sv.length:Int)))|| ((decide (d<0))|| (decide (d>64))))))],[]⟩ ?_ ?_
 ·
  refine (rsl 3 [] 14 (decide (root<0)) (fun hc2=>?_) (fun hc2=>?_))
  · exact (rbl [] 11 true ((decide (root<0))|| ((decide (root≥(sv.length:Int)))|| ((decide (d<0))|| (decide (d>64))))) (by rw [hc2]<;>rfl))
  refine (rsl 6 [] 20 (decide (root≥(sv.length:Int))) (fun hc3=>?_) (fun hc3=>?_))
  · exact (rbl [] 11 true ((decide (root<0))|| ((decide (root≥(sv.length:Int)))|| ((decide (d<0))|| (decide (d>64))))) (by rw [hc2,hc3]<;>rfl))
  refine (rsl 4 [] 24 (decide (d<0)) (fun hc4=>?_) (fun hc4=>?_))
  · exact (rbl [] 11 true ((decide (root<0))|| ((decide (root≥(sv.length:Int)))|| ((decide (d<0))|| (decide (d>64))))) (by rw [hc2,hc3,hc4]<;>rfl))
  exact (rbl [] 11 (decide (d>64)) ((decide (root<0))|| ((decide (root≥(sv.length:Int)))|| ((decide (d<0))|| (decide (d>64))))) (by rw [hc2,hc3,hc4]<;>rfl))
 rcases zn h with ⟨hc5,h⟩| ⟨hc5,h⟩
 ·
  refine jT hc5 ?_
  refine jp ?_
  obtain rfl:=sj h
  exact zy lzz
 refine jF hc5 ?_
 refine zX ?_
 refine jp ?_
 obtain rfl:=sj h
 exact zy lzz
theorem zoC {wv:zam} {message:Int} {fromv:Int} {tov:Int} {r:(ze×Int×(List (zm×ze)))} (h:zfu wv message fromv tov=some r):zhg Tryz.prog 109 [.ag [.sl zi [0] wv.s,.sl Rp.byte [0] wv.b,.om zk zh 2 [0] wv.met],kI message,kI fromv,kI tov] [.rc zh [] r.1,k8 r.2.1] [.ag [.any,.any,.om zk zh 2 [0] r.2.2],.any,.any,.any]:=by
 refine ziV (E:=⟨[(0,.ag [.any,.any,.om zk zh 2 [0] r.2.2]),(8,.ptr 3 0),(9,k8 r.2.1)],[⟨3,113,[kI r.1.Record.Number,kI r.1.Record.Wire,kI r.1.Record.From,kI r.1.Record.At,kI r.1.Record.To,kI r.1.Field,kB r.1.Run]⟩]⟩) 67 [0] Tryz.func109 rfl rfl rfl ⟨⟨_,_,rfl,rfl,rfl,rfl,⟨Tryz.isAgg113,Tryz.sizeOf113⟩⟩,rfl,trivial⟩ ⟨.inr ⟨rfl,rfl⟩,.inl rfl,.inl rfl,.inl rfl,trivial⟩ rfl (fun Xt old=>?_)
 refine zr ?_
 unfold zfu at h
 refine jq [13,14] ?_
 obtain ⟨v,h_v,h⟩:=bnd h
 refine jr (ra 3 [.sl Rp.byte [0] wv.b,kI tov] rfl (zgu none (some (kI tov)) rfl zdD.el (zI _ _ _) ⟨rfl,rfl⟩ ⟨rfl,rfl⟩ h_v) rfl rf) ?_
 obtain ⟨rv,h_rv,h⟩:=bnd h
 refine jr (rl 2 [0] 13 Tryz.call98 (zjt h_rv) (rfl' [15])) ?_
 refine jp ?_
 rcases zn h with ⟨hc1,h⟩| ⟨hc1,h⟩
 ·
  refine jT hc1 ?_
  refine jr (rc 0 rfl (zV (r:=zh) [] [] (⟨(⟨0,0,0,0,0⟩:zq),0,false⟩:ze) rfl zsS rfl rfl) rf) ?_
  obtain rfl:=sj h
  refine zfL ?_
  refine lk [0,8,9] [14] 14 3 ?_
  refine zbU ⟨[(0,.ag [.sl zi [0] wv.s,.sl Rp.byte [0] wv.b,.om zk zh 2 [0] wv.met]),(8,.ptr 3 0),(9,k8 rv.2)],[⟨3,113,[kI 0,kI 0,kI 0,kI 0,kI 0,kI 0,kB false]⟩]⟩ (by kernel_rfl) ?_
  refine zdM 0 (.ag [.any,.any,.om zk zh 2 [0] (((⟨(⟨0,0,0,0,0⟩:zq),0,false⟩:ze),rv.2,wv.met):(ze×Int×(List (zm×ze)))).2.2]) rfl (zfT ⟨zbl _,zbl _,AV.le_refl _,trivial⟩) ?_
  exact lzz
 refine jF hc1 ?_
 refine jr (rc 5 rfl (zV (r:=zk) [kI message,kI rv.1.Number,kI rv.1.Wire] [] (⟨message,rv.1.Number,rv.1.Wire⟩:zm) rfl zFm rfl rfl) (rfl' [16])) ?_
 refine jr (lb 2 zk [] (⟨message,rv.1.Number,rv.1.Wire⟩:zm) (ra 0 [.om zk zh 2 [0] wv.met,.rc zk [] (⟨message,rv.1.Number,rv.1.Wire⟩:zm)] rfl (zso (rk:=zk) (rv:=zh) (m:=wv.met) (k:=(⟨message,rv.1.Number,rv.1.Wire⟩:zm)) (.rc zh [2,0] ((mget wv.met (⟨message,rv.1.Number,rv.1.Wire⟩:zm)).getD (⟨(⟨0,0,0,0,0⟩:zq),0,false⟩:ze))) rfl zzy (zlG _ _ _ _ _) (zcL rfl) (zvc rfl)) rfl (rfl' [17]))) ?_
 refine jp ?_
 rcases zn h with ⟨hc2,h⟩| ⟨hc2,h⟩
 ·
  refine jT hc2 ?_
  obtain ⟨x,h_x,h⟩:=bnd h
  obtain ⟨rv2,h_rv2,h⟩:=bnd h
  refine jr (ra 3 [.sl zi [0] wv.s,kI message] rfl (zar rfl zge.el (zI _ _ _) h_x) rfl (ra 0 [.ep zi [0] x 0] rfl (zcq rfl ⟨Tryz.isAgg73,Tryz.sizeOf73⟩) rfl (rl 2 [0] 16 Tryz.call133 (zwe h_rv2) rf))) ?_
  refine jp ?_
  rcases zn h with ⟨hc3,h⟩| ⟨hc3,h⟩
  ·
   refine jT hc3 ?_
   refine jr (rc 0 rfl (zV (r:=zh) [] [] (⟨(⟨0,0,0,0,0⟩:zq),0,false⟩:ze) rfl zsS rfl rfl) rf) ?_
   obtain rfl:=sj h
   refine zfL ?_
   refine lk [0,8,9] [14] 14 3 ?_
   refine zbU ⟨[(0,.ag [.sl zi [0] wv.s,.sl Rp.byte [0] wv.b,.om zk zh 2 [0] wv.met]),(8,.ptr 3 0),(9,k8 rv2.2)],[⟨3,113,[kI 0,kI 0,kI 0,kI 0,kI 0,kI 0,kB false]⟩]⟩ (by kernel_rfl) ?_
   refine zdM 0 (.ag [.any,.any,.om zk zh 2 [0] (((⟨(⟨0,0,0,0,0⟩:zq),0,false⟩:ze),rv2.2,wv.met):(ze×Int×(List (zm×ze)))).2.2]) rfl (zfT ⟨zbl _,zbl _,AV.le_refl _,trivial⟩) ?_
   exact lzz
  refine jF hc3 ?_
  refine jr (lb 2 zk [] (⟨message,rv.1.Number,rv.1.Wire⟩:zm) (lb 0 zh [] rv2.1 (rkl 0 [] ⟨[(0,.ag [.sl zi [0] wv.s,.sl Rp.byte [0] wv.b,.om zk zh 2 [0] wv.met]),(8,.ptr 14 0),(11,.ptr 15 0),(14,.ptr 17 0),(61,.om zk zh 2 [0] wv.met),(62,.rc zk [] (⟨message,rv.1.Number,rv.1.Wire⟩:zm)),(63,.rc zh [] rv2.1)],[⟨14,113,[kI 0,kI 0,kI 0,kI 0,kI 0,kI 0,kB false]⟩,⟨15,111,[kI rv.1.Number,kI rv.1.Wire,kI rv.1.From,kI rv.1.At,kI rv.1.To]⟩,⟨17,113,[kI rv2.1.Record.Number,kI rv2.1.Record.Wire,kI rv2.1.Record.From,kI rv2.1.Record.At,kI rv2.1.Record.To,kI rv2.1.Field,kB rv2.1.Run]⟩]⟩ (zfO ⟨[(0,.ag [.sl zi [0] wv.s,.sl Rp.byte [0] wv.b,.om zk zh 2 [0] (mput wv.met (⟨message,rv.1.Number,rv.1.Wire⟩:zm) rv2.1)]),(8,.ptr 14 0),(11,.ptr 15 0),(14,.ptr 17 0),(61,.om zk zh 2 [0] (mput wv.met (⟨message,rv.1.Number,rv.1.Wire⟩:zm) rv2.1)),(62,.rc zk [] (⟨message,rv.1.Number,rv.1.Wire⟩:zm)),(63,.rc zh [] rv2.1)],[⟨14,113,[kI 0,kI 0,kI 0,kI 0,kI 0,kI 0,kB false]⟩,⟨15,111,[kI rv.1.Number,kI rv.1.Wire,kI rv.1.From,kI rv.1.At,kI rv.1.To]⟩,⟨17,113,[kI rv2.1.Record.Number,kI rv2.1.Record.Wire,kI rv2.1.Record.From,kI rv2.1.Record.At,kI rv2.1.Record.To,kI rv2.1.Field,kB rv2.1.Run]⟩]⟩ (zpo (rk:=zk) (rv:=zh) (m:=wv.met) (ℓ:=2) (C:=[0]) (C1:=[]) (D:=[]) (⟨message,rv.1.Number,rv.1.Wire⟩:zm) rv2.1 [0] zzy (.inl rfl) (zcL rfl) (zcL rfl) rfl) rfl (by kernel_rfl) (by kernel_rfl) ⟨⟨_,rfl,zlp ⟨zv rfl,zv rfl,zdO 0 rfl,trivial⟩⟩,⟨_,rfl,zv rfl⟩,⟨_,rfl,zv rfl⟩,⟨_,rfl,zv rfl⟩,⟨_,rfl,zdO 0 rfl⟩,⟨_,rfl,zv rfl⟩,⟨_,rfl,zv rfl⟩,trivial⟩ ⟨⟨_,rfl,rfl,rfl,⟨zv rfl,zv rfl,zv rfl,zv rfl,zv rfl,zv rfl,zv rfl,trivial⟩⟩,⟨_,rfl,rfl,rfl,⟨zv rfl,zv rfl,zv rfl,zv rfl,zv rfl,trivial⟩⟩,⟨_,rfl,rfl,rfl,⟨zv rfl,zv rfl,zv rfl,zv rfl,zv rfl,zv rfl,zv rfl,trivial⟩⟩,trivial⟩ rf)))) ?_
  refine jr (lb 0 zN [] rv.1 rf) ?_
  refine jr (lb 0 zh [] (⟨rv.1,rv2.1.Field,rv2.1.Run⟩:ze) rf) ?_
  obtain rfl:=sj h
  refine zfL ?_
  refine lk [0,8,9] [14] 14 3 ?_
  refine zbU ⟨[(0,.ag [.sl zi [0] wv.s,.sl Rp.byte [0] wv.b,.om zk zh 2 [0] (mput wv.met (⟨message,rv.1.Number,rv.1.Wire⟩:zm) rv2.1)]),(8,.ptr 3 0),(9,k8 0)],[⟨3,113,[kI rv.1.Number,kI rv.1.Wire,kI rv.1.From,kI rv.1.At,kI rv.1.To,kI rv2.1.Field,kB rv2.1.Run]⟩]⟩ (by kernel_rfl) ?_
  refine zdM 0 (.ag [.any,.any,.om zk zh 2 [0] (((⟨rv.1,rv2.1.Field,rv2.1.Run⟩:ze),0,(mput wv.met (⟨message,rv.1.Number,rv.1.Wire⟩:zm) rv2.1)):(ze×Int×(List (zm×ze)))).2.2]) rfl (zfT ⟨zbl _,zbl _,AV.le_refl _,trivial⟩) ?_
  exact lzz
 refine jF hc2 ?_
 refine jr (lb 0 zN [] rv.1 rf) ?_
 refine jr (lb 0 zh [] (⟨rv.1,((mget wv.met (⟨message,rv.1.Number,rv.1.Wire⟩:zm)).getD (⟨(⟨0,0,0,0,0⟩:zq),0,false⟩:ze)).Field,((mget wv.met (⟨message,rv.1.Number,rv.1.Wire⟩:zm)).getD (⟨(⟨0,0,0,0,0⟩:zq),0,false⟩:ze)).Run⟩:ze) rf) ?_
 obtain rfl:=sj h
 refine zfL ?_
 refine lk [0,8,9] [14] 14 3 ?_
 refine zbU ⟨[(0,.ag [.sl zi [0] wv.s,.sl Rp.byte [0] wv.b,.om zk zh 2 [0] wv.met]),(8,.ptr 3 0),(9,k8 0)],[⟨3,113,[kI rv.1.Number,kI rv.1.Wire,kI rv.1.From,kI rv.1.At,kI rv.1.To,kI (((mget wv.met (⟨message,rv.1.Number,rv.1.Wire⟩:zm)).getD (⟨(⟨0,0,0,0,0⟩:zq),0,false⟩:ze)).Field),kB (((mget wv.met (⟨message,rv.1.Number,rv.1.Wire⟩:zm)).getD (⟨(⟨0,0,0,0,0⟩:zq),0,false⟩:ze)).Run)]⟩]⟩ (by kernel_rfl) ?_
 refine zdM 0 (.ag [.any,.any,.om zk zh 2 [0] (((⟨rv.1,(((mget wv.met (⟨message,rv.1.Number,rv.1.Wire⟩:zm)).getD (⟨(⟨0,0,0,0,0⟩:zq),0,false⟩:ze)).Field),(((mget wv.met (⟨message,rv.1.Number,rv.1.Wire⟩:zm)).getD (⟨(⟨0,0,0,0,0⟩:zq),0,false⟩:ze)).Run)⟩:ze),0,wv.met):(ze×Int×(List (zm×ze)))).2.2]) rfl (zfT ⟨zbl _,zbl _,AV.le_refl _,trivial⟩) ?_
 exact lzz
theorem zvK {k:Int} {b:(List UInt8)} {r:(Int×Int)} (h:zli k b=some r):FnOk Tryz.prog 161 [kI k,.sl Rp.byte [0] b] [kI r.1,k8 r.2]:=by
 refine ztX (E:=⟨[(4,.ptr 2 0),(5,.ptr 3 0)],[⟨2,3,[kI r.1]⟩,⟨3,31,[k8 r.2]⟩]⟩) 20 Tryz.func161 rfl rfl rfl ⟨⟨_,_,rfl,rfl,rfl,rfl⟩,⟨_,_,rfl,rfl,rfl,rfl⟩,trivial⟩ rfl rfl (fun Xt=>?_)
 refine zr ?_
 unfold zli at h
 refine jq [13,14] ?_
 refine jq [15] ?_
 obtain ⟨rv,h_rv,h⟩:=bnd h
 refine jr (rl 2 [0] 0 Tryz.call150 (znX h_rv) rf) ?_
 refine zz ?_
 obtain ⟨q,h_q,h⟩:=bnd h
 refine zmJ (E':=⟨[(4,.ptr 13 0),(5,.ptr 14 0),(6,.ptr 15 0),(11,.fv 170 [.bp (Rp.int .i64) 3 917000 [] rv.1,.bp (Rp.list Rp.byte) 24 917001 [0] rv.2])],[⟨13,3,[kI 0]⟩,⟨14,31,[k8 0]⟩,⟨15,3,[kI 0]⟩]⟩) ?_ ?_
 · exact lzz
 refine zwU (it:=fun {σ:Type} (kf:Rnd σ ((List UInt8)×Int)) (sg:σ)=>zdS rv.1 rv.2 kf sg) (zlY rv.1 rv.2) [917000,917001] [4,5,6] [13,14,15] [(4,.ptr 13 0),(5,.ptr 14 0),(6,.ptr 15 0)] (fun s:Int=>[⟨13,3,[kI 0]⟩,⟨14,31,[k8 0]⟩,⟨15,3,[kI s]⟩]) (fun o:(Int×Int)=>[⟨13,3,[kI 0]⟩,⟨14,31,[k8 o.1]⟩,⟨15,3,[kI o.2]⟩]) (fun o:(Int×Int)=> .ret) (fun (s:Int) (x:((List UInt8)×Int))=>zeH s x.1 x.2) (fun (s:Int) (x:((List UInt8)×Int))=>⟨[(4,.ptr 13 0),(5,.ptr 14 0),(6,.ptr 15 0),(8,k8 x.2)],[⟨13,3,[kI 0]⟩,⟨14,31,[k8 0]⟩,⟨15,3,[kI s]⟩]⟩) rfl rfl Tryz.call170 rfl rfl rfl rfl rfl rfl (fun _=>rfl) (fun o=>rfl) rfl rfl (fun _=>rfl) ?_ (fun _ _=>⟨rfl,rfl⟩) ?_ h_q ?_
 ·
  clear h
  intro Xr old f x
  obtain ⟨x,x2⟩:=x
  refine zr ?_
  refine zmJ (E':=⟨[(13,k8 x2),(12,.sl Rp.byte [0] x),(4,.ptr 13 0),(5,.ptr 14 0),(6,.ptr 15 0)],[⟨13,3,[kI 0]⟩,⟨14,31,[k8 0]⟩,⟨15,3,[kI f]⟩]⟩) (fun _ _ _ hs=>hs) ?_
  refine jp ?_
  exact zG lzz
 ·
  clear h
  intro Xr old f x o h
  obtain ⟨x,x2⟩:=x
  refine zr ?_
  refine zmJ (E':=⟨[(4,.ptr 13 0),(5,.ptr 14 0),(6,.ptr 15 0),(8,k8 x2)],[⟨13,3,[kI 0]⟩,⟨14,31,[k8 0]⟩,⟨15,3,[kI f]⟩]⟩) (fun _ _ _ hs=>hs) ?_
  replace h:zeH f x x2=some o:=h
  unfold zeH at h
  refine zz ?_
  refine jp ?_
  rcases zn h with ⟨hc1,h⟩| ⟨hc1,h⟩
  ·
   refine jT hc1 ?_
   refine jp ?_
   obtain rfl:=sj h
   exact zzp lzz
  refine jF hc1 ?_
  refine jp ?_
  refine zX ?_
  obtain rfl:=sj h
  exact zG lzz
 rcases q with u| j
 ·
  refine zmJ (E':=⟨[(4,.ptr 13 0),(5,.ptr 14 0),(6,.ptr 15 0)],[⟨13,3,[kI 0]⟩,⟨14,31,[k8 0]⟩,⟨15,3,[kI u]⟩]⟩) (fun _ _ _ hs=>hs) ?_
  refine zX ?_
  refine jp ?_
  obtain rfl:=sj h
  refine zy ?_
  refine lk [4,5] [13,14] 13 2 ?_
  refine lk [4,5] [2,14] 14 3 ?_
  exact lzz
 refine zmJ (E':=⟨[(4,.ptr 13 0),(5,.ptr 14 0),(6,.ptr 15 0)],[⟨13,3,[kI 0]⟩,⟨14,31,[k8 j.1]⟩,⟨15,3,[kI j.2]⟩]⟩) (fun _ _ _ hs=>hs) ?_
 obtain rfl:=sj h
 refine zy ?_
 refine lk [4,5] [13,14] 13 2 ?_
 refine lk [4,5] [2,14] 14 3 ?_
 exact lzz
theorem zvL {k:Int} {b:(List UInt8)} {r:((List Int)×Int)} (h:zlj k b=some r):FnOk Tryz.prog 116 [kI k,.sl Rp.byte [0] b] [.own (Rp.int .u64) 75 3 [] r.1,k8 r.2]:=by
 refine ztX (E:=⟨[(4,.ptr 2 0),(5,.ptr 4 0)],[⟨2,47,[.own (Rp.int .u64) 75 3 [] r.1]⟩,⟨4,31,[k8 r.2]⟩]⟩) 30 Tryz.func116 rfl rfl rfl ⟨⟨_,_,rfl,rfl,rfl,rfl⟩,⟨_,_,rfl,rfl,rfl,rfl⟩,trivial⟩ rfl rfl (fun Xt=>?_)
 refine zr ?_
 unfold zlj at h
 refine jq [18,19,20] ?_
 refine jq [21] ?_
 obtain ⟨rv,h_rv,h⟩:=bnd h
 refine jr (rl 2 [0] 0 Tryz.call150 (znX h_rv) rf) ?_
 refine zz ?_
 obtain ⟨q,h_q,h⟩:=bnd h
 refine zmJ (E':=⟨[(2,.ptr 18 0),(4,.ptr 19 0),(5,.ptr 20 0),(6,.ptr 21 0),(13,.fv 170 [.bp (Rp.int .i64) 3 917000 [] rv.1,.bp (Rp.list Rp.byte) 24 917001 [0] rv.2])],[⟨18,3,[kI k]⟩,⟨19,47,[kN]⟩,⟨20,31,[k8 0]⟩,⟨21,47,[.own (Rp.int .u64) 75 24 [] []]⟩]⟩) ?_ ?_
 ·
  refine zbU ⟨[(2,.ptr 18 0),(4,.ptr 19 0),(5,.ptr 20 0),(6,.ptr 21 0),(13,.fv 170 [.bp (Rp.int .i64) 3 917000 [] rv.1,.bp (Rp.list Rp.byte) 24 917001 [0] rv.2])],[⟨18,3,[kI k]⟩,⟨19,47,[kN]⟩,⟨20,31,[k8 0]⟩,⟨21,47,[kN]⟩]⟩ (by kernel_rfl) ?_
  refine zhk 21 0 (.own (Rp.int .u64) 75 24 [] []) rfl rfl (zbE (Rp.int .u64) 75 24 [] rfl) ?_
  exact lzz
 refine zwU (it:=fun {σ:Type} (kf:Rnd σ ((List UInt8)×Int)) (sg:σ)=>zdS rv.1 rv.2 kf sg) (zlY rv.1 rv.2) [917000,917001] [2,4,5,6] [18,19,20,21] [(2,.ptr 18 0),(4,.ptr 19 0),(5,.ptr 20 0),(6,.ptr 21 0)] (fun s:(List Int)=>[⟨18,3,[kI k]⟩,⟨19,47,[kN]⟩,⟨20,31,[k8 0]⟩,⟨21,47,[.own (Rp.int .u64) 75 24 [] s]⟩]) (fun o:(Int×(List Int))=>[⟨18,3,[kI k]⟩,⟨19,47,[kN]⟩,⟨20,31,[k8 o.1]⟩,⟨21,47,[.own (Rp.int .u64) 75 24 [] o.2]⟩]) (fun o:(Int×(List Int))=> .ret) (fun (s:(List Int)) (x:((List UInt8)×Int))=>zdm k s x.1 x.2) (fun (s:(List Int)) (x:((List UInt8)×Int))=>⟨[(2,.ptr 18 0),(4,.ptr 19 0),(5,.ptr 20 0),(6,.ptr 21 0),(7,.sl Rp.byte [0] x.1),(8,k8 x.2)],[⟨18,3,[kI k]⟩,⟨19,47,[kN]⟩,⟨20,31,[k8 0]⟩,⟨21,47,[.own (Rp.int .u64) 75 24 [] s]⟩]⟩) rfl rfl Tryz.call170 rfl rfl rfl rfl rfl rfl (fun _=>rfl) (fun o=>rfl) rfl rfl (fun _=>rfl) ?_ (fun _ _=>⟨rfl,rfl⟩) ?_ h_q ?_
 ·
  clear h
  intro Xr old f x
  obtain ⟨x,x2⟩:=x
  refine zr ?_
  refine zmJ (E':=⟨[(15,k8 x2),(14,.sl Rp.byte [0] x),(2,.ptr 18 0),(4,.ptr 19 0),(5,.ptr 20 0),(6,.ptr 21 0)],[⟨18,3,[kI k]⟩,⟨19,47,[kN]⟩,⟨20,31,[k8 0]⟩,⟨21,47,[.own (Rp.int .u64) 75 24 [] f]⟩]⟩) (fun _ _ _ hs=>hs) ?_
  refine jp ?_
  refine jp ?_
  exact zG lzz
 ·
  clear h
  intro Xr old f x o h
  obtain ⟨x,x2⟩:=x
  refine zr ?_
  refine zmJ (E':=⟨[(2,.ptr 18 0),(4,.ptr 19 0),(5,.ptr 20 0),(6,.ptr 21 0),(7,.sl Rp.byte [0] x),(8,k8 x2)],[⟨18,3,[kI k]⟩,⟨19,47,[kN]⟩,⟨20,31,[k8 0]⟩,⟨21,47,[.own (Rp.int .u64) 75 24 [] f]⟩]⟩) (fun _ _ _ hs=>hs) ?_
  replace h:zdm k f x x2=some o:=h
  unfold zdm at h
  refine zz ?_
  refine jp ?_
  rcases zn h with ⟨hc1,h⟩| ⟨hc1,h⟩
  ·
   refine jT hc1 ?_
   refine jp ?_
   obtain rfl:=sj h
   exact zzp lzz
  refine jF hc1 ?_
  obtain ⟨rv2,h_rv2,h⟩:=bnd h
  refine jr (rl 2 [0] 23 Tryz.call151 (zsL h_rv2) rf) ?_
  obtain ⟨v,h_v,h⟩:=bnd h
  refine jr (rc 2 rfl (zfa [kU rv2.1] 25 [] ([rv2.1]:(List Int)) rfl zob rfl rfl rfl rfl) (ra 0 [.own (Rp.int .u64) 75 24 [] f,.own (Rp.int .u64) 75 25 [] ([rv2.1]:(List Int))] rfl (zlJ 24 [] rfl zob.el rfl (zgg _ _ _ _ _) (zeg _ _ _ _ _) h_v (.inl (zup _)) rfl) rfl rf)) ?_
  refine zX ?_
  obtain rfl:=sj h
  exact zG lzz
 rcases q with u| j
 ·
  refine zmJ (E':=⟨[(2,.ptr 18 0),(4,.ptr 19 0),(5,.ptr 20 0),(6,.ptr 21 0)],[⟨18,3,[kI k]⟩,⟨19,47,[kN]⟩,⟨20,31,[k8 0]⟩,⟨21,47,[.own (Rp.int .u64) 75 24 [] u]⟩]⟩) (fun _ _ _ hs=>hs) ?_
  refine zX ?_
  refine jp ?_
  obtain rfl:=sj h
  refine zy ?_
  refine lk [4,5] [19,20] 19 2 ?_
  refine lk [4,5] [2,20] 20 4 ?_
  refine lk [4,5] [2,4] 24 3 ?_
  exact lzz
 refine zmJ (E':=⟨[(2,.ptr 18 0),(4,.ptr 19 0),(5,.ptr 20 0),(6,.ptr 21 0)],[⟨18,3,[kI k]⟩,⟨19,47,[kN]⟩,⟨20,31,[k8 j.1]⟩,⟨21,47,[.own (Rp.int .u64) 75 24 [] j.2]⟩]⟩) (fun _ _ _ hs=>hs) ?_
 obtain rfl:=sj h
 refine zy ?_
 refine lk [4,5] [19,20] 19 2 ?_
 refine lk [4,5] [2,20] 20 4 ?_
 refine zbU ⟨[(4,.ptr 2 0),(5,.ptr 4 0)],[⟨2,47,[kN]⟩,⟨4,31,[k8 j.1]⟩]⟩ (by kernel_rfl) ?_
 refine zhk 2 0 (.own (Rp.int .u64) 75 3 [] (([],j.1):((List Int)×Int)).1) rfl rfl (zbE (Rp.int .u64) 75 3 [] rfl) ?_
 exact lzz
theorem zwa {fuel:Nat} {f:za} {sv:(List zg)} {v:zc} {r:Bool} (h:zlr fuel f sv v=some r):FnOk Tryz.prog 27 [.rc zb [0] f,.sl zi [0] sv,.rc zd [0] v] [kB r]:=by
 refine zC (E:=⟨[(6,kB r)],[]⟩) 21 Tryz.func27 rfl rfl rfl ⟨rfl,trivial⟩ (fun Xt=>?_)
 refine zr ?_
 unfold zlr at h
 refine jr (ral 1 [11] [.rc zd [0] v] rfl (zds 12 [kI v.Number,.sl (Rp.int .u64) [0] v.Words,.sl Rp.str [0] v.Texts,.sl zj [0] v.Subs] [0] rfl rfl rfl (by rw [zx]<;>rfl) rfl) rfl rf) ?_
 obtain ⟨g,h_g,h⟩:=bnd h
 refine zS ⟨[(6,kB g)],[]⟩ ?_ ?_
 ·
  obtain ⟨rv,h_rv,h_g⟩:=bnd h_g
  refine (rl 1 [0] 11 Tryz.call52 (zma h_rv) (rsl 1 [] 9 rv (fun hc1=>?_) (fun hc1=>?_)))
  ·
   replace h_g:=iteT h_g hc1
   obtain ⟨rv2,h_rv2,h_g⟩:=bnd h_g
   refine (rc 1 rfl (zH.le (ins':=[(.tmp 10,.ag [kI v.Number,.sl (Rp.int .u64) [0] v.Words,.sl Rp.str [0] v.Texts,.sl zj [0] v.Subs])]) (zfa [.rc zd [0] v] 13 [0] ([v]:(List zc)) rfl zpF rfl rfl rfl (by simp only [zqH,ziS,ziB,zx,List.flatMap_cons,List.flatMap_nil]<;>rfl)) ⟨⟨rfl,zcP zd [0] v [kI v.Number,.sl (Rp.int .u64) [0] v.Words,.sl Rp.str [0] v.Texts,.sl zj [0] v.Subs] (by rw [zx]<;>rfl) rfl⟩,trivial⟩) (ra 0 [.own zd 50 13 [0] ([v]:(List zc))] rfl (zgU [.own zd 50 13 [0] ([v]:(List zc))] [.own zd 50 13 [0] ([v]:(List zc)),kN] rfl zEA rfl) rfl (rc 0 rfl (zH.le (ins':=[(.tmp 12,.ag [.own zd 50 13 [0] ([v]:(List zc)),kN])]) (zbz (args:=[.tmp 12]) [.rc zj [13,0] (⟨([v]:(List zc)),[]⟩:zf)] [13,0] 12 rfl Tryz.call48 (zwb h_rv2) rfl rfl rfl rfl rfl) ⟨⟨rfl,zFF (b:= .ag [.own zd 50 13 [0] ([v]:(List zc)),.sl Rp.str [] []]) (zfT ⟨AV.le_refl _,zuf _ _,trivial⟩) (zcP zj [13,0] (⟨([v]:(List zc)),[]⟩:zf) [.own zd 50 13 [0] ([v]:(List zc)),.sl Rp.str [] []] (by rw [zab]<;>rfl) rfl)⟩,trivial⟩) (rsl 2 [] 15 rv2 (fun hc2=>?_) (fun hc2=>?_)))))
   ·
    replace h_g:=iteT h_g hc2
    obtain ⟨rv3,h_rv3,h_g⟩:=bnd h_g
    obtain rfl:=sj h_g
    exact (lb 0 zb [] f (rc 2 rfl (zH.le (ins':=[(.tmp 16,.rc zb [] f),(.tmp 17,.sl zi [0] sv),(.tmp 18,.ag [kI v.Number,.sl (Rp.int .u64) [0] v.Words,.sl Rp.str [0] v.Texts,.sl zj [0] v.Subs])]) (zbz (args:=[.tmp 16,.tmp 17,.tmp 18]) [.rc zb [] f,.sl zi [0] sv,.rc zd [0] v] [0] 12 rfl Tryz.call53 (zwc h_rv3) rfl rfl rfl rfl rfl) ⟨⟨rfl,AV.le_refl _⟩,⟨rfl,AV.le_refl _⟩,⟨rfl,zcP zd [0] v [kI v.Number,.sl (Rp.int .u64) [0] v.Words,.sl Rp.str [0] v.Texts,.sl zj [0] v.Subs] (by rw [zx]<;>rfl) rfl⟩,trivial⟩) rgg))
   replace h_g:=iteF h_g hc2
   obtain rfl:=sj h_g
   exact rgg
  replace h_g:=iteF h_g hc1
  obtain rfl:=sj h_g
  exact rgg
 obtain rfl:=sj h
 exact zy lzz
end Go.Proofs.YtcbkcblkecmjnaaGreat

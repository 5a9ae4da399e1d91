/-
  The Go functions do what the plain functions say. No condition.
-/
import Derived.Test.YtcbkcblkecmjnaaGreatx4G9
namespace Go.Proofs.YtcbkcblkecmjnaaGreat
open Go Go.RowKit
set_option linter.unusedVariables false
set_option maxRecDepth 100000
set_option maxHeartbeats 3200000
theorem zpV {sv:(List zi)} {r:Bool} (h:zgw sv=some r):FnOk Tryz.prog 52 [.sl zj [0] sv] [kB r]:=by
 refine zD (E:=⟨[(2,kB r)],[]⟩) 12 Tryz.func52 rfl rfl rfl ⟨rfl,trivial⟩ (fun Xt=>?_)
 refine zv ?_
 unfold zgw at h
 refine jp ?_
 obtain ⟨rv,h_rv,h⟩:=bnd h
 refine jr (rl 1 [0] 9 Tryz.call80 (zpU h_rv) (rfl' [11])) ?_
 refine jp ?_
 obtain rfl:=sj h
 exact zA lzz
theorem zuZ {m:zi} {b:(List UInt8)} {fromv:Int} {r:(zg×Int)} (h:zkc m b fromv=some r):FnOk Tryz.prog 133 [.rc zj [0] m,.sl Rp.byte [0] b,kI fromv] [.rc zh [] r.1,k8 r.2]:=by
 refine zD (E:=⟨[(6,.ptr 2 0),(7,k8 r.2)],[⟨2,113,[kI r.1.Record.Number,kI r.1.Record.Wire,kI r.1.Record.From,kI r.1.Record.At,kI r.1.Record.To,kI r.1.Field,kB r.1.Run]⟩]⟩) 15 Tryz.func133 rfl rfl rfl ⟨⟨_,_,rfl,rfl,rfl,rfl,⟨Tryz.isAgg113,Tryz.sizeOf113⟩⟩,rfl,trivial⟩ (fun Xt=>?_)
 refine zv ?_
 unfold zkc at h
 refine jr (ra 0 [.rc zj [0] m] rfl (zcQ 13 [kS m.Name,.sl zd [0] m.Fields] [0] rfl rfl rfl rfl rfl) rfl (rfl' [14])) ?_
 obtain ⟨rv2,h_rv2,h⟩:=bnd h
 refine jr (rc 3 rfl (zjD (rk:=zT) (rv:=zV) 15 rfl) (rkl 0 [] ⟨[(6,.ptr 14 0),(8,.ag [kS m.Name,.sl zd [0] m.Fields]),(9,.sl Rp.byte [0] b),(10,kI fromv),(11,.om zT zV 15 [] ([]:(List (zM×zQ))))],[⟨14,113,[kI 0,kI 0,kI 0,kI 0,kI 0,kI 0,kB false]⟩]⟩ (zeU ⟨[(6,.ptr 14 0),(8,.ag [kS m.Name,.sl zd [0] m.Fields]),(9,.sl Rp.byte [0] b),(10,kI fromv),(11,.om zT zV 15 [0] rv2.2.2)],[⟨14,113,[kI 0,kI 0,kI 0,kI 0,kI 0,kI 0,kB false]⟩]⟩ (zkA.le (ins':=[(.tmp 8,.ag [kS m.Name,.sl zd [0] m.Fields]),(.tmp 9,.sl Rp.byte [0] b),(.tmp 10,kI fromv),(.tmp 11,.om zT zV 15 [] ([]:(List (zM×zQ))))]) (ziY (args:=[.tmp 8,.tmp 9,.tmp 10,.tmp 11]) [.rc zj [0] m,.sl Rp.byte [0] b,kI fromv,.om zT zV 15 [] ([]:(List (zM×zQ)))] [(15,2)] [0] 15 [] rfl Tryz.call88 (zon h_rv2) rfl rfl (by kernel_rfl) rfl rfl rfl) ⟨⟨rfl,zbk zj [0] m [kS m.Name,.sl zd [0] m.Fields] rfl rfl⟩,⟨rfl,AV.le_refl _⟩,⟨rfl,AV.le_refl _⟩,⟨rfl,AV.le_refl _⟩,trivial⟩) rfl (by kernel_rfl) (by kernel_rfl) ⟨⟨_,rfl,zt rfl⟩,⟨_,rfl,zt rfl⟩,⟨_,rfl,zt rfl⟩,⟨_,rfl,zt rfl⟩,⟨_,rfl,zcU 0 rfl⟩,trivial⟩ ⟨⟨_,rfl,rfl,rfl,⟨zt rfl,zt rfl,zt rfl,zt rfl,zt rfl,zt rfl,zt rfl,trivial⟩⟩,trivial⟩ rf))) ?_
 obtain rfl:=sj h
 refine zA ?_
 refine lk [6,7] [14] 14 2 ?_
 exact lzz
theorem zmw {k:Int} {b:(List UInt8)} {r:(Int×(List UInt8))} (h:zgW k b=some r):FnOk Tryz.prog 150 [kI k,.sl Rp.byte [0] b] [.fv 170 [.bp (Rp.int .i64) 3 917000 [] r.1,.bp (Rp.list Rp.byte) 24 917001 [0] r.2]]:=by
 refine zD (E:=⟨[(4,.fv 170 [.bp (Rp.int .i64) 3 917000 [] r.1,.bp (Rp.list Rp.byte) 24 917001 [0] r.2])],[]⟩) 6 Tryz.func150 rfl rfl rfl ⟨rfl,trivial⟩ (fun Xt=>?_)
 refine zv ?_
 unfold zgW at h
 refine jq [917000,917001] ?_
 refine jr (ra 0 [.ptr 917000 0,.ptr 917001 0] rfl (zCW (g:=170) [.tmp 2,.tmp 3] [⟨917000,3,[kI k]⟩,⟨917001,24,[.sl Rp.byte [0] b]⟩] [.bp (Rp.int .i64) 3 917000 [] k,.bp (Rp.list Rp.byte) 24 917001 [0] b] rfl ⟨⟨rfl,rfl,rfl,rfl⟩,⟨rfl,rfl,rfl,rfl⟩,trivial⟩ rfl) rfl rf) ?_
 obtain rfl:=sj h
 exact zA lzz
theorem zwC {m:zi} {b:(List UInt8)} {r:((List zg)×Int×Int)} (h:zlO m b=some r):FnOk Tryz.prog 58 [.rc zj [0] m,.sl Rp.byte [0] b] [.own zh 113 2 [] r.1,kI r.2.1,k8 r.2.2]:=by
 refine zD (E:=⟨[(4,.own zh 113 2 [] r.1),(5,kI r.2.1),(6,k8 r.2.2)],[]⟩) 36 Tryz.func58 rfl rfl rfl ⟨rfl,rfl,rfl,trivial⟩ (fun Xt=>?_)
 refine zv ?_
 unfold zlO at h
 refine jr (ra 0 [.rc zj [0] m] rfl (zcQ 19 [kS m.Name,.sl zd [0] m.Fields] [0] rfl rfl rfl rfl rfl) rfl rf) ?_
 refine jr (rc 0 rfl (zjD (rk:=zT) (rv:=zV) 20 rfl) rf) ?_
 refine jp ?_
 refine zH ?_
 obtain ⟨q,h_q,h⟩:=bnd h
 refine zaQ (fun s:((List zg)×(List (zM×zQ))×Int)=>zcc b m s.1 s.2.1 s.2.2) (fun s=>⟨[(1,.sl Rp.byte [0] b),(2,.ptr 19 0),(4,.own zh 113 26 [] s.1),(7,.om zT zV 20 [0] s.2.1),(8,kI s.2.2)],[⟨19,73,[kS m.Name,.sl zd [0] m.Fields]⟩]⟩) (fun o e a w=>match o with| (.inl v_)=>e= .exit 0∧Sx ⟨⟨36,[]⟩,Xt,false,#[]⟩ ⟨[(4,.own zh 113 26 [] v_)],[]⟩ a w| (.inr v_)=>e= .ret∧Sx ⟨⟨36,[]⟩,Xt,false,#[]⟩ ⟨[(4,kN),(5,kI v_.1),(6,k8 v_.2)],[]⟩ a w) ?_ h_q ?_ ?_
 ·
  clear h
  intro s o h
  obtain ⟨l,met,fromv⟩:=s
  refine zv ?_
  replace h:zcc b m l met fromv=some o:=h
  unfold zcc at h
  refine jp ?_
  rcases zp h with ⟨hc1,h⟩| ⟨hc1,h⟩
  ·
   refine jT hc1 ?_
   refine zH ?_
   obtain ⟨rv2,h_rv2,h⟩:=bnd h
   refine jr (rkl 4 [] ⟨[(1,.sl Rp.byte [0] b),(2,.ptr 19 0),(4,.own zh 113 26 [] l),(7,.om zT zV 20 [0] met),(8,kI fromv),(17,.ag [kS m.Name,.sl zd [0] m.Fields]),(18,.sl Rp.byte [0] b),(19,kI fromv),(20,.om zT zV 20 [0] met)],[⟨19,73,[kS m.Name,.sl zd [0] m.Fields]⟩]⟩ (zeU ⟨[(1,.sl Rp.byte [0] b),(2,.ptr 19 0),(4,.own zh 113 26 [] l),(7,.om zT zV 20 [0] rv2.2.2),(8,kI fromv),(17,.ag [kS m.Name,.sl zd [0] m.Fields]),(18,.sl Rp.byte [0] b),(19,kI fromv),(20,.om zT zV 20 [0] rv2.2.2)],[⟨19,73,[kS m.Name,.sl zd [0] m.Fields]⟩]⟩ (zkA.le (ins':=[(.tmp 17,.ag [kS m.Name,.sl zd [0] m.Fields]),(.tmp 18,.sl Rp.byte [0] b),(.tmp 19,kI fromv),(.tmp 20,.om zT zV 20 [0] met)]) (ziY (args:=[.tmp 17,.tmp 18,.tmp 19,.tmp 20]) [.rc zj [0] m,.sl Rp.byte [0] b,kI fromv,.om zT zV 20 [0] met] [(20,2)] [0] 26 [] rfl Tryz.call88 (zon h_rv2) rfl rfl (by kernel_rfl) rfl rfl rfl) ⟨⟨rfl,zbk zj [0] m [kS m.Name,.sl zd [0] m.Fields] rfl rfl⟩,⟨rfl,AV.le_refl _⟩,⟨rfl,AV.le_refl _⟩,⟨rfl,AV.le_refl _⟩,trivial⟩) rfl (by kernel_rfl) (by kernel_rfl) ⟨⟨_,rfl,zt rfl⟩,⟨_,rfl,zt rfl⟩,⟨_,rfl,zt rfl⟩,⟨_,rfl,zcU 0 rfl⟩,⟨_,rfl,zt rfl⟩,⟨_,rfl,zt rfl⟩,⟨_,rfl,zt rfl⟩,⟨_,rfl,zt rfl⟩,⟨_,rfl,zcU 0 rfl⟩,trivial⟩ ⟨⟨_,rfl,rfl,rfl,⟨zt rfl,zt rfl,trivial⟩⟩,trivial⟩ (rfl' [29]))) ?_
   refine jp ?_
   rcases zp h with ⟨hc2,h⟩| ⟨hc2,h⟩
   ·
    refine jT hc2 ?_
    refine jp ?_
    obtain rfl:=sj h
    exact zbR lzz
   refine jF hc2 ?_
   obtain ⟨v,h_v,h⟩:=bnd h
   refine jr (lb 1 zh [] rv2.1 (rc 0 rfl (zfr [.rc zh [] rv2.1] 30 [] ([rv2.1]:(List zg)) rfl zjo rfl rfl rfl rfl) (ra 0 [.own zh 113 26 [] l,.own zh 113 30 [] ([rv2.1]:(List zg))] rfl (zhL 26 [] rfl zjo.el rfl (zdC _ _ _ _ _) (zef _ _ _ _ _) h_v (.inl zgr) rfl) rfl rf))) ?_
   refine jp ?_
   refine zau ?_
   obtain rfl:=sj h
   exact zae lzz
  refine jF hc1 ?_
  obtain rfl:=sj h
  exact zaO rfl lzz
 ·
  refine zbC ⟨[(1,.sl Rp.byte [0] b),(2,.ptr 19 0),(4,kN),(7,.om zT zV 20 [] ([]:(List (zM×zQ)))),(8,kI 0)],[⟨19,73,[kS m.Name,.sl zd [0] m.Fields]⟩]⟩ (by kernel_rfl) ?_
  refine zcf 4 (.own zh 113 26 [] []) rfl (zbd zh 113 26 [] rfl) ?_
  refine zcf 7 (.om zT zV 20 [0] ([]:(List (zM×zQ)))) rfl (zBj _ _ _ _ rfl rfl) ?_
  exact lzz
 rcases q with u| u2
 ·
  refine zbx _ rfl ?_
  refine jp ?_
  obtain rfl:=sj h
  refine zA ?_
  refine lk [4,5,6] [] 26 2 ?_
  exact lzz
 obtain rfl:=sj h
 refine zeg ?_
 refine zbC ⟨[(4,kN),(5,kI u2.1),(6,k8 u2.2)],[]⟩ (by kernel_rfl) ?_
 refine zcf 4 (.own zh 113 2 [] (([],u2.1,u2.2):((List zg)×Int×Int)).1) rfl (zbd zh 113 2 [] rfl) ?_
 exact lzz
theorem zlF {rec_tree_areMeanings:(List zi)→Int→(List ze)→Option Bool} {rec_tree_fits:zc→(List zi)→zb→Option Bool} {rec_tree_isMeaning:(List zi)→Int→ze→Option Bool} (hrec_tree_areMeanings:∀{sv:(List zi)} {message:Int} {l:(List ze)} {r:Bool},rec_tree_areMeanings sv message l=some r→FnOk Tryz.prog 82 [.sl zj [0] sv,kI message,.sl zf [0] l] [kB r]) (hrec_tree_fits:∀{f:zc} {sv:(List zi)} {v:zb} {r:Bool},rec_tree_fits f sv v=some r→FnOk Tryz.prog 53 [.rc zd [0] f,.sl zj [0] sv,.rc za [0] v] [kB r]) (hrec_tree_isMeaning:∀{sv:(List zi)} {message:Int} {x:ze} {r:Bool},rec_tree_isMeaning sv message x=some r→FnOk Tryz.prog 49 [.sl zj [0] sv,kI message,.rc zf [0] x] [kB r]) {sv:(List zi)} {message:Int} {l:(List ze)} {r:Bool} (h:zdv rec_tree_areMeanings rec_tree_fits rec_tree_isMeaning sv message l=some r):FnOk Tryz.prog 82 [.sl zj [0] sv,kI message,.sl zf [0] l] [kB r]:=by
 refine zD (E:=⟨[(6,kB r)],[]⟩) 29 Tryz.func82 rfl rfl rfl ⟨rfl,trivial⟩ (fun Xt=>?_)
 refine zv ?_
 unfold zdv at h
 refine jp ?_
 refine zap ⟨[(0,.sl zj [0] sv),(1,kI message),(2,.sl zf [0] l),(16,kB ((decide (message<0))|| (decide (message≥(sv.length:Int)))))],[]⟩ ?_ ?_
 ·
  refine (rsl 3 [] 11 (decide (message<0)) (fun hc1=>?_) (fun hc1=>?_))
  · exact (rbl [] 16 true ((decide (message<0))|| (decide (message≥(sv.length:Int)))) (by rw [hc1]<;>rfl))
  exact (rbl [] 16 (decide (message≥(sv.length:Int))) ((decide (message<0))|| (decide (message≥(sv.length:Int)))) (by rw [hc1]<;>rfl))
 rcases zp h with ⟨hc2,h⟩| ⟨hc2,h⟩
 ·
  refine jT hc2 ?_
  refine jp ?_
  obtain rfl:=sj h
  exact zA lzz
 refine jF hc2 ?_
 refine jp ?_
 refine zH ?_
 obtain ⟨q,h_q,h⟩:=bnd h
 refine zaQ (fun s:Int=>zaN l message rec_tree_isMeaning sv s) (fun s=>⟨[(0,.sl zj [0] sv),(1,kI message),(17,.sl zf [0] l),(18,kI (l.length:Int)),(19,kI s)],[]⟩) (fun o e a w=>match o with| (.inl v_)=>e= .exit 0∧Sx ⟨⟨29,[]⟩,Xt,false,#[]⟩ ⟨[],[]⟩ a w| (.inr v_)=>e= .ret∧Sx ⟨⟨29,[]⟩,Xt,false,#[]⟩ ⟨[(6,kB false)],[]⟩ a w) ?_ h_q lzz ?_
 ·
  clear h
  intro v2 o h
  refine zv ?_
  replace h:zaN l message rec_tree_isMeaning sv v2=some o:=h
  unfold zaN at h
  refine jp ?_
  rcases zp h with ⟨hc3,h⟩| ⟨hc3,h⟩
  ·
   refine jT hc3 ?_
   refine zH ?_
   obtain ⟨x,h_x,h⟩:=bnd h
   refine jr (ra 0 [.sl zf [0] l,kI v2] rfl (zby rfl zmC.el (zaa _ _ _) h_x) rfl (ra 0 [.ep zf [0] x 0] rfl (zds rfl ⟨Tryz.isAgg30,Tryz.sizeOf30⟩) rfl (ral 1 [12] [.ptr 12 0,.rc zf [0] x] rfl (zeY (r:=zf) (b:=⟨12,30,[kN,kN]⟩) (off:=0) [.sl za [0] x.Values,.sl Rp.str [0] x.Unknown] rfl Tryz.sizeOf30 rfl rfl (by rw [zE]<;>rfl) rfl) rfl rf))) ?_
   obtain ⟨rv,h_rv,h⟩:=bnd h
   refine jr (rc 3 rfl (zL.le (ins':=[(.tmp 23,.sl zj [0] sv),(.tmp 24,kI message),(.tmp 25,.ag [.sl za [0] x.Values,.sl Rp.str [0] x.Unknown])]) (zbl (args:=[.tmp 23,.tmp 24,.tmp 25]) [.sl zj [0] sv,kI message,.rc zf [0] x] [0] 11 rfl Tryz.call49 (hrec_tree_isMeaning h_rv) rfl rfl rfl rfl rfl) ⟨⟨rfl,AV.le_refl _⟩,⟨rfl,AV.le_refl _⟩,⟨rfl,zbk zf [0] x [.sl za [0] x.Values,.sl Rp.str [0] x.Unknown] (by rw [zE]<;>rfl) rfl⟩,trivial⟩) rf) ?_
   rcases zp h with ⟨hc4,h⟩| ⟨hc4,h⟩
   ·
    refine jT hc4 ?_
    refine jp ?_
    obtain rfl:=sj h
    exact zbR lzz
   refine jF hc4 ?_
   refine zau ?_
   refine jp ?_
   obtain rfl:=sj h
   exact zae lzz
  refine jF hc3 ?_
  obtain rfl:=sj h
  exact zaO rfl lzz
 rcases q with u| u2
 ·
  refine zbx _ rfl ?_
  refine jp ?_
  obtain rfl:=sj h
  exact zA lzz
 obtain rfl:=sj h
 exact zeg lzz
theorem zsw {rec_tree_areMeanings:(List zi)→Int→(List ze)→Option Bool} {rec_tree_fits:zc→(List zi)→zb→Option Bool} {rec_tree_isMeaning:(List zi)→Int→ze→Option Bool} (hrec_tree_areMeanings:∀{sv:(List zi)} {message:Int} {l:(List ze)} {r:Bool},rec_tree_areMeanings sv message l=some r→FnOk Tryz.prog 82 [.sl zj [0] sv,kI message,.sl zf [0] l] [kB r]) (hrec_tree_fits:∀{f:zc} {sv:(List zi)} {v:zb} {r:Bool},rec_tree_fits f sv v=some r→FnOk Tryz.prog 53 [.rc zd [0] f,.sl zj [0] sv,.rc za [0] v] [kB r]) (hrec_tree_isMeaning:∀{sv:(List zi)} {message:Int} {x:ze} {r:Bool},rec_tree_isMeaning sv message x=some r→FnOk Tryz.prog 49 [.sl zj [0] sv,kI message,.rc zf [0] x] [kB r]) {f:zc} {sv:(List zi)} {v:zb} {r:Bool} (h:zhE rec_tree_areMeanings rec_tree_fits rec_tree_isMeaning f sv v=some r):FnOk Tryz.prog 53 [.rc zd [0] f,.sl zj [0] sv,.rc za [0] v] [kB r]:=by
 refine zD (E:=⟨[(6,kB r)],[]⟩) 69 Tryz.func53 rfl rfl rfl ⟨rfl,trivial⟩ (fun Xt=>?_)
 refine zv ?_
 unfold zhE at h
 refine jr (ral 1 [11] [.rc za [0] v] rfl (zcQ 12 [kI v.Number,.sl (Rp.int .u64) [0] v.Words,.sl Rp.str [0] v.Texts,.sl zf [0] v.Subs] [0] rfl rfl rfl (by rw [zG]<;>rfl) rfl) rfl rf) ?_
 obtain ⟨rv,h_rv,h⟩:=bnd h
 refine jr (rc 1 rfl (zL.le (ins':=[(.tmp 8,.ag [kI v.Number,.sl (Rp.int .u64) [0] v.Words,.sl Rp.str [0] v.Texts,.sl zf [0] v.Subs])]) (zbl (args:=[.tmp 8]) [.rc za [0] v] [0] 11 rfl Tryz.call62 (zhC h_rv) rfl rfl rfl rfl rfl) ⟨⟨rfl,zbk za [0] v [kI v.Number,.sl (Rp.int .u64) [0] v.Words,.sl Rp.str [0] v.Texts,.sl zf [0] v.Subs] (by rw [zG]<;>rfl) rfl⟩,trivial⟩) rf) ?_
 refine zap ⟨[(1,.sl zj [0] sv),(3,.ptr 11 0),(5,.ptr 12 0),(7,kI rv),(20,kB ((rv==0)|| ((decide (rv>1))&&(!f.Repeated))))],[⟨11,64,[kS f.Name,kI f.Number,kI f.Kind,kB f.Repeated,kB f.Packed,kI f.Of]⟩,⟨12,50,[kI v.Number,.sl (Rp.int .u64) [0] v.Words,.sl Rp.str [0] v.Texts,.sl zf [0] v.Subs]⟩]⟩ ?_ ?_
 ·
  refine (rsl 3 [] 12 (rv==0) (fun hc1=>?_) (fun hc1=>?_))
  · exact (rbl [] 20 true ((rv==0)|| ((decide (rv>1))&&(!f.Repeated))) (by rw [hc1]<;>rfl))
  refine (rsl 3 [] 15 (decide (rv>1)) (fun hc2=>?_) (fun hc2=>?_))
  · exact (rbl [] 20 (!f.Repeated) ((rv==0)|| ((decide (rv>1))&&(!f.Repeated))) (by rw [hc1,hc2]<;>rfl))
  exact (rbl [] 20 false ((rv==0)|| ((decide (rv>1))&&(!f.Repeated))) (by rw [hc1,hc2]<;>rfl))
 rcases zp h with ⟨hc3,h⟩| ⟨hc3,h⟩
 ·
  refine jT hc3 ?_
  refine jp ?_
  obtain rfl:=sj h
  exact zA lzz
 refine jF hc3 ?_
 refine jp ?_
 refine zH ?_
 refine jp ?_
 rcases zp h with ⟨hc4,h⟩| ⟨hc4,h⟩
 ·
  refine jT hc4 ?_
  obtain ⟨g,h_g,h⟩:=bnd h
  refine zap ⟨[(6,kB g)],[]⟩ ?_ ?_
  ·
   refine (rsl 6 [] 30 ((v.Texts.length:Int)==rv) (fun hc5=>?_) (fun hc5=>?_))
   ·
    replace h_g:=iteT h_g hc5
    obtain ⟨rv2,h_rv2,h_g⟩:=bnd h_g
    obtain rfl:=sj h_g
    exact (rl 2 [0] 11 Tryz.call81 (zpi h_rv2) rgg)
   replace h_g:=iteF h_g hc5
   obtain rfl:=sj h_g
   exact rgg
  obtain rfl:=sj h
  exact zA lzz
 refine jF hc4 ?_
 refine jp ?_
 rcases zp h with ⟨hc6,h⟩| ⟨hc6,h⟩
 ·
  refine jT hc6 ?_
  refine jp ?_
  obtain rfl:=sj h
  exact zA lzz
 refine jF hc6 ?_
 refine jp ?_
 rcases zp h with ⟨hc7,h⟩| ⟨hc7,h⟩
 ·
  refine jT hc7 ?_
  obtain ⟨g2,h_g2,h⟩:=bnd h
  refine zap ⟨[(6,kB g2)],[]⟩ ?_ ?_
  ·
   refine (rsl 6 [] 49 ((v.Subs.length:Int)==rv) (fun hc8=>?_) (fun hc8=>?_))
   ·
    replace h_g2:=iteT h_g2 hc8
    obtain ⟨rv3,h_rv3,h_g2⟩:=bnd h_g2
    obtain rfl:=sj h_g2
    exact (rl 5 [0] 11 Tryz.call82 (hrec_tree_areMeanings h_rv3) rgg)
   replace h_g2:=iteF h_g2 hc8
   obtain rfl:=sj h_g2
   exact rgg
  obtain rfl:=sj h
  exact zA lzz
 refine jF hc7 ?_
 refine zau ?_
 obtain ⟨g3,h_g3,h⟩:=bnd h
 refine zap ⟨[(6,kB g3)],[]⟩ ?_ ?_
 ·
  refine (rsl 6 [] 62 ((v.Words.length:Int)==rv) (fun hc9=>?_) (fun hc9=>?_))
  ·
   replace h_g3:=iteT h_g3 hc9
   obtain ⟨rv4,h_rv4,h_g3⟩:=bnd h_g3
   obtain rfl:=sj h_g3
   exact (rl 4 [0] 11 Tryz.call83 (zlE h_rv4) rgg)
  replace h_g3:=iteF h_g3 hc9
  obtain rfl:=sj h_g3
  exact rgg
 obtain rfl:=sj h
 exact zA lzz
theorem znc {rec_tree_areMeanings:(List zi)→Int→(List ze)→Option Bool} {rec_tree_fits:zc→(List zi)→zb→Option Bool} {rec_tree_isMeaning:(List zi)→Int→ze→Option Bool} (hrec_tree_areMeanings:∀{sv:(List zi)} {message:Int} {l:(List ze)} {r:Bool},rec_tree_areMeanings sv message l=some r→FnOk Tryz.prog 82 [.sl zj [0] sv,kI message,.sl zf [0] l] [kB r]) (hrec_tree_fits:∀{f:zc} {sv:(List zi)} {v:zb} {r:Bool},rec_tree_fits f sv v=some r→FnOk Tryz.prog 53 [.rc zd [0] f,.sl zj [0] sv,.rc za [0] v] [kB r]) (hrec_tree_isMeaning:∀{sv:(List zi)} {message:Int} {x:ze} {r:Bool},rec_tree_isMeaning sv message x=some r→FnOk Tryz.prog 49 [.sl zj [0] sv,kI message,.rc zf [0] x] [kB r]) {sv:(List zi)} {message:Int} {x:ze} {r:Bool} (h:zem rec_tree_areMeanings rec_tree_fits rec_tree_isMeaning sv message x=some r):FnOk Tryz.prog 49 [.sl zj [0] sv,kI message,.rc zf [0] x] [kB r]:=by
 refine zD (E:=⟨[(6,kB r)],[]⟩) 67 Tryz.func49 rfl rfl rfl ⟨rfl,trivial⟩ (fun Xt=>?_)
 refine zv ?_
 unfold zem at h
 refine jr (ra 0 [.rc zf [0] x] rfl (zcQ 11 [.sl za [0] x.Values,.sl Rp.str [0] x.Unknown] [0] rfl rfl rfl (by rw [zE]<;>rfl) rfl) rfl rf) ?_
 obtain ⟨x2,h_x2,h⟩:=bnd h
 refine jr (ra 2 [.sl zj [0] sv,kI message] rfl (zby rfl zlP.el (zaa _ _ _) h_x2) rfl (ra 0 [.ep zj [0] x2 0] rfl (zds rfl ⟨Tryz.isAgg73,Tryz.sizeOf73⟩) rfl (ral 1 [12] [.ptr 12 0,.rc zj [0] x2] rfl (zeY (r:=zj) (b:=⟨12,73,[kS [],kN]⟩) (off:=0) [kS x2.Name,.sl zd [0] x2.Fields] rfl Tryz.sizeOf73 rfl rfl rfl rfl) rfl rf))) ?_
 refine jp ?_
 refine jp ?_
 refine zH ?_
 obtain ⟨q,h_q,h⟩:=bnd h
 refine zaQ (fun s:(Int×Int)=>zbf rec_tree_fits sv x x2 s.1 s.2) (fun s=>⟨[(0,.sl zj [0] sv),(5,.ptr 11 0),(7,.ptr 12 0),(8,kI s.1),(20,.sl za [0] x.Values),(21,kI (x.Values.length:Int)),(22,kI s.2)],[⟨11,30,[.sl za [0] x.Values,.sl Rp.str [0] x.Unknown]⟩,⟨12,73,[kS x2.Name,.sl zd [0] x2.Fields]⟩]⟩) (fun o e a w=>match o with| (.inl v_)=>e= .exit 0∧Sx ⟨⟨67,[]⟩,Xt,false,#[]⟩ ⟨[(5,.ptr 11 0),(7,.ptr 12 0)],[⟨11,30,[.sl za [0] x.Values,.sl Rp.str [0] x.Unknown]⟩,⟨12,73,[kS x2.Name,.sl zd [0] x2.Fields]⟩]⟩ a w| (.inr v_)=>e= .ret∧Sx ⟨⟨67,[]⟩,Xt,false,#[]⟩ ⟨[(6,kB false)],[]⟩ a w) ?_ h_q lzz ?_
 ·
  clear h
  intro s o h
  obtain ⟨last,v⟩:=s
  refine zv ?_
  replace h:zbf rec_tree_fits sv x x2 last v=some o:=h
  unfold zbf at h
  refine jp ?_
  rcases zp h with ⟨hc1,h⟩| ⟨hc1,h⟩
  ·
   refine jT hc1 ?_
   refine zH ?_
   obtain ⟨x3,h_x3,h⟩:=bnd h
   refine jr (ra 0 [.sl za [0] x.Values,kI v] rfl (zby rfl zja.el (zaa _ _ _) h_x3) rfl (ra 0 [.ep za [0] x3 0] rfl (zds rfl ⟨Tryz.isAgg50,Tryz.sizeOf50⟩) rfl (ral 1 [14] [.ptr 14 0,.rc za [0] x3] rfl (zeY (r:=za) (b:=⟨14,50,[kI 0,kN,kN,kN]⟩) (off:=0) [kI x3.Number,.sl (Rp.int .u64) [0] x3.Words,.sl Rp.str [0] x3.Texts,.sl zf [0] x3.Subs] rfl Tryz.sizeOf50 rfl rfl (by rw [zG]<;>rfl) rfl) rfl rf))) ?_
   obtain ⟨rv,h_rv,h⟩:=bnd h
   refine jr (rl 3 [0] 13 Tryz.call72 (ziA h_rv) rf) ?_
   obtain ⟨g,h_g,h⟩:=bnd h
   refine zfk (R:=fun e a w=>e= .normal∧Sx ⟨⟨67,[]⟩,Xt,false,#[]⟩ ⟨[(0,.sl zj [0] sv),(5,.ptr 11 0),(7,.ptr 12 0),(10,.ptr 14 0),(20,.sl za [0] x.Values),(21,kI (x.Values.length:Int)),(22,kI v),(51,kB g)],[⟨11,30,[.sl za [0] x.Values,.sl Rp.str [0] x.Unknown]⟩,⟨12,73,[kS x2.Name,.sl zd [0] x2.Fields]⟩,⟨14,50,[kI x3.Number,.sl (Rp.int .u64) [0] x3.Words,.sl Rp.str [0] x3.Texts,.sl zf [0] x3.Subs]⟩]⟩ a w) ?_ (zhK ?_)
   ·
    refine zv ?_
    rcases Bool.eq_false_or_eq_true (!rv.2) with hc2| hc2
    ·
     replace h_g:=iteT h_g hc2
     obtain rfl:=sj h_g
     refine jd [0,5,7,10,20,21,22,51] [11,12,14] zdz (by exact (lw_e (lw_e (lx (zgp ⟨[(34,kB (!rv.2))],[]⟩ (by kernel_rfl) hc2) l0)))) ?_
     exact zae lzz
    replace h_g:=iteF h_g hc2
    rcases Bool.eq_false_or_eq_true (decide (x3.Number≤last)) with hc3| hc3
    ·
     replace h_g:=iteT h_g hc3
     obtain rfl:=sj h_g
     refine jd [0,5,7,10,20,21,22,51] [11,12,14] zdz (by exact (lw_e (lw_e (lx (zgp ⟨[(34,kB (!rv.2))],[]⟩ (by kernel_rfl) hc2) (lw_e (lw_e (lw_e (lw_e (lw_e (lx (zgp ⟨[(40,kB (decide (x3.Number≤last)))],[]⟩ (by kernel_rfl) hc3) l0)))))))))) ?_
     exact zae lzz
    replace h_g:=iteF h_g hc3
    obtain ⟨x4,h_x4,h_g⟩:=bnd h_g
    obtain ⟨rv2,h_rv2,h_g⟩:=bnd h_g
    obtain rfl:=sj h_g
    refine jd [0,5,7,10,20,21,22,51] [11,12,14] zdz (by exact (lw_e (lw_e (lx (zgp ⟨[(34,kB (!rv.2))],[]⟩ (by kernel_rfl) hc2) (lw_e (lw_e (lw_e (lw_e (lw_e (lx (zgp ⟨[(40,kB (decide (x3.Number≤last)))],[]⟩ (by kernel_rfl) hc3) (lw_e (lw_e (lw_e (ly [.sl zd [0] x2.Fields,kI rv.1] (zby rfl zmD.el (zaa _ _ _) h_x4) rfl (ly [.ep zd [0] x4 0] (zds rfl ⟨Tryz.isAgg64,Tryz.sizeOf64⟩) rfl (lw_e (ly [.ptr 14 0] (zgq (b:=⟨14,50,[kI x3.Number,.sl (Rp.int .u64) [0] x3.Words,.sl Rp.str [0] x3.Texts,.sl zf [0] x3.Subs]⟩) [kI x3.Number,.sl (Rp.int .u64) [0] x3.Words,.sl Rp.str [0] x3.Texts,.sl zf [0] x3.Subs] rfl ⟨Tryz.isAgg50,Tryz.sizeOf50⟩ rfl rfl) rfl (lx (lf1 53 (zL.le (ins':=[(.tmp 46,.rc zd [0] x4),(.tmp 47,.sl zj [0] sv),(.tmp 48,.ag [kI x3.Number,.sl (Rp.int .u64) [0] x3.Words,.sl Rp.str [0] x3.Texts,.sl zf [0] x3.Subs])]) (zbl (args:=[.tmp 46,.tmp 47,.tmp 48]) [.rc zd [0] x4,.sl zj [0] sv,.rc za [0] x3] [0] 13 rfl Tryz.call53 (hrec_tree_fits h_rv2) rfl rfl rfl rfl rfl) ⟨⟨rfl,AV.le_refl _⟩,⟨rfl,AV.le_refl _⟩,⟨rfl,zbk za [0] x3 [kI x3.Number,.sl (Rp.int .u64) [0] x3.Words,.sl Rp.str [0] x3.Texts,.sl zf [0] x3.Subs] (by rw [zG]<;>rfl) rfl⟩,trivial⟩)) l0)))))))))))))))))) ?_
    exact zae lzz
   rcases zp h with ⟨hc4,h⟩| ⟨hc4,h⟩
   ·
    refine jT hc4 ?_
    refine jp ?_
    obtain rfl:=sj h
    exact zbR lzz
   refine jF hc4 ?_
   refine jp ?_
   refine zau ?_
   refine jp ?_
   obtain rfl:=sj h
   exact zae lzz
  refine jF hc1 ?_
  obtain rfl:=sj h
  exact zaO rfl lzz
 rcases q with u| u4
 ·
  refine zbx _ rfl ?_
  refine jp ?_
  refine zH ?_
  obtain ⟨q2,h_q2,h⟩:=bnd h
  refine zaQ (fun s:Int=>zbg x x2 s) (fun s=>⟨[(7,.ptr 12 0),(56,.sl Rp.str [0] x.Unknown),(57,kI (x.Unknown.length:Int)),(58,kI s)],[⟨12,73,[kS x2.Name,.sl zd [0] x2.Fields]⟩]⟩) (fun o e a w=>match o with| (.inl v_)=>e= .exit 2∧Sx ⟨⟨67,[]⟩,Xt,false,#[]⟩ ⟨[],[]⟩ a w| (.inr v_)=>e= .ret∧Sx ⟨⟨67,[]⟩,Xt,false,#[]⟩ ⟨[(6,kB false)],[]⟩ a w) ?_ h_q2 lzz ?_
  ·
   clear h
   intro v3 o h
   refine zv ?_
   replace h:zbg x x2 v3=some o:=h
   unfold zbg at h
   refine jp ?_
   rcases zp h with ⟨hc5,h⟩| ⟨hc5,h⟩
   ·
    refine jT hc5 ?_
    refine zH ?_
    obtain ⟨x5,h_x5,h⟩:=bnd h
    refine jr (ra 0 [.sl Rp.str [0] x.Unknown,kI v3] rfl (zby rfl zmB.el (zaa _ _ _) h_x5) rfl rf) ?_
    obtain ⟨rv3,h_rv3,h⟩:=bnd h
    refine jr (rl 2 [0] 14 Tryz.call73 (zof h_rv3) rf) ?_
    rcases zp h with ⟨hc6,h⟩| ⟨hc6,h⟩
    ·
     refine jT hc6 ?_
     refine jp ?_
     obtain rfl:=sj h
     exact zbR lzz
    refine jF hc6 ?_
    refine zau ?_
    refine jp ?_
    obtain rfl:=sj h
    exact zae lzz
   refine jF hc5 ?_
   obtain rfl:=sj h
   exact zaO rfl lzz
  rcases q2 with u2| u3
  ·
   refine zbx _ rfl ?_
   refine jp ?_
   obtain rfl:=sj h
   exact zA lzz
  obtain rfl:=sj h
  exact zeg lzz
 obtain rfl:=sj h
 exact zeg lzz
theorem zgk (fuel:Nat):(∀{sv:(List zi)} {message:Int} {l:(List ze)} {r:Bool},zek fuel sv message l=some r→FnOk Tryz.prog 82 [.sl zj [0] sv,kI message,.sl zf [0] l] [kB r])∧(∀{f:zc} {sv:(List zi)} {v:zb} {r:Bool},zgb fuel f sv v=some r→FnOk Tryz.prog 53 [.rc zd [0] f,.sl zj [0] sv,.rc za [0] v] [kB r])∧(∀{sv:(List zi)} {message:Int} {x:ze} {r:Bool},zcr fuel sv message x=some r→FnOk Tryz.prog 49 [.sl zj [0] sv,kI message,.rc zf [0] x] [kB r]):=by
  induction fuel with
  | zero=>exact ⟨fun h=>absurd h nofun,fun h=>absurd h nofun,fun h=>absurd h nofun⟩
  | succ fuel ih=>exact ⟨fun h=>zlF (fun hh=>ih.1 hh) (fun hh=>ih.2.1 hh) (fun hh=>ih.2.2 hh) h,fun h=>zsw (fun hh=>ih.1 hh) (fun hh=>ih.2.1 hh) (fun hh=>ih.2.2 hh) h,fun h=>znc (fun hh=>ih.1 hh) (fun hh=>ih.2.1 hh) (fun hh=>ih.2.2 hh) h⟩
theorem zoe {fuel:Nat} {sv:(List zi)} {message:Int} {x:ze} {r:Bool} (h:zcr fuel sv message x=some r):FnOk Tryz.prog 49 [.sl zj [0] sv,kI message,.rc zf [0] x] [kB r]:=(zgk fuel).2.2 h
end Go.Proofs.YtcbkcblkecmjnaaGreat

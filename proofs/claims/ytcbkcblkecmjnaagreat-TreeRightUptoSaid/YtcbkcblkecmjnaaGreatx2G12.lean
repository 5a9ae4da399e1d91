/-
  The Go functions do what the plain functions say. No condition.
-/
import Derived.Test.YtcbkcblkecmjnaaGreatx2G11
import Derived.Test.YtcbkcblkecmjnaaGreatx2Y
namespace Go.Proofs.YtcbkcblkecmjnaaGreat
open Go Go.RowKit
set_option linter.unusedVariables false
set_option maxRecDepth 100000
set_option maxHeartbeats 3200000
theorem zvZ {f:ze} {isRun:Bool} {value:(List UInt8)} {r:Int} (h:zkP f isRun value=some r):FnOk Tryz.prog 134 [.rc zf [0] f,kB isRun,.sl Rp.byte [0] value] [k8 r]:=by
 refine zC (E:=⟨[(6,k8 r)],[]⟩) 32 Tryz.func134 rfl rfl rfl ⟨rfl,trivial⟩ (fun Xt=>?_)
 refine zp ?_
 unfold zkP at h
 refine jq [11] ?_
 refine zA ?_
 refine jp ?_
 rcases zm h with ⟨hc1,h⟩| ⟨hc1,h⟩
 ·
  refine jT hc1 ?_
  obtain ⟨rv,h_rv,h⟩:=bnd h
  refine jr (rl 3 [0] 10 Tryz.call161 (zyH h_rv) rf) ?_
  refine jp ?_
  obtain rfl:=sj h
  exact zz lzz
 refine jF hc1 ?_
 obtain ⟨g,h_g,h⟩:=bnd h
 refine zW ⟨[(3,.ptr 11 0),(19,kB g)],[⟨11,64,[kS f.Name,kI f.Number,kI f.Kind,kB f.Repeated,kB f.Packed,kI f.Of]⟩]⟩ ?_ ?_
 ·
  refine (rsl 4 [] 23 (f.Kind==15) (fun hc2=>?_) (fun hc2=>?_))
  ·
   replace h_g:=iteT h_g hc2
   obtain ⟨rv2,h_rv2,h_g⟩:=bnd h_g
   obtain rfl:=sj h_g
   exact (rl 1 [0] 10 Tryz.call106 (zsn h_rv2) (rel [] lzz))
  replace h_g:=iteF h_g hc2
  obtain rfl:=sj h_g
  exact (rel [] lzz)
 rcases zm h with ⟨hc3,h⟩| ⟨hc3,h⟩
 ·
  refine jT hc3 ?_
  refine jp ?_
  obtain rfl:=sj h
  exact zz lzz
 refine jF hc3 ?_
 refine jp ?_
 rcases zm h with ⟨hc4,h⟩| ⟨hc4,h⟩
 ·
  refine jT hc4 ?_
  refine jp ?_
  obtain rfl:=sj h
  exact zz lzz
 refine jF hc4 ?_
 refine zag ?_
 refine jp ?_
 obtain rfl:=sj h
 exact zz lzz
theorem zwC {k:Int} {b:(List UInt8)} {l:(List zg)} {r:(List Int)} (h:zlU k b l=some r):FnOk Tryz.prog 94 [kI k,.sl Rp.byte [0] b,.sl zj [0] l] [.own (Rp.int .u64) 75 2 [] r]:=by
 refine zC (E:=⟨[(6,.own (Rp.int .u64) 75 2 [] r)],[]⟩) 36 Tryz.func94 rfl rfl rfl ⟨rfl,trivial⟩ (fun Xt=>?_)
 refine zp ?_
 unfold zlU at h
 refine jp ?_
 refine jp ?_
 refine jp ?_
 refine zA ?_
 obtain ⟨q,h_q,h⟩:=bnd h
 refine zal (fun s:((List Int)×Int)=>zdR b k l s.1 s.2) (fun s=>⟨[(0,kI k),(1,.sl Rp.byte [0] b),(7,.own (Rp.int .u64) 75 20 [] s.1),(12,.sl zj [0] l),(13,kI (l.length:Int)),(14,kI s.2)],[]⟩) (fun o e a w=>e= .exit 0∧Sx ⟨⟨36,[]⟩,Xt,false,#[]⟩ ⟨[(7,.own (Rp.int .u64) 75 20 [] o)],[]⟩ a w) ?_ h_q ?_ ?_
 ·
  clear h
  intro s o h
  obtain ⟨all,v⟩:=s
  refine zp ?_
  replace h:zdR b k l all v=some o:=h
  unfold zdR at h
  refine jp ?_
  rcases zm h with ⟨hc1,h⟩| ⟨hc1,h⟩
  ·
   refine jT hc1 ?_
   refine zA ?_
   obtain ⟨x,h_x,h⟩:=bnd h
   refine jr (ra 0 [.sl zj [0] l,kI v] rfl (zao rfl zni.el (zJ _ _ _) h_x) rfl (ra 0 [.ep zj [0] x 0] rfl (zci rfl ⟨Tryz.isAgg113,Tryz.sizeOf113⟩) rfl (rfl' [21]))) ?_
   obtain ⟨v2,h_v2,h⟩:=bnd h
   obtain ⟨rv,h_rv,h⟩:=bnd h
   refine jr (ra 8 [.sl Rp.byte [0] b,kI x.Record.At,kI x.Record.To] rfl (zik (some (kI x.Record.At)) (some (kI x.Record.To)) rfl zeU.el (zJ _ _ _) ⟨rfl,rfl⟩ ⟨rfl,rfl⟩ h_v2) rfl (rl 0 [0] 20 Tryz.call116 (zyI h_rv) rf)) ?_
   obtain ⟨v3,h_v3,h⟩:=bnd h
   refine jr (ra 2 [.own (Rp.int .u64) 75 20 [] all,.own (Rp.int .u64) 75 23 [] rv.1] rfl (zjS 20 [] rfl zld.el rfl (zfq _ _ _ _ _) (zfd _ _ _ _ _) h_v3 (.inl (zsU _)) rfl) rfl rf) ?_
   refine zag ?_
   refine jp ?_
   obtain rfl:=sj h
   exact zL lzz
  refine jF hc1 ?_
  obtain rfl:=sj h
  exact zam rfl lzz
 ·
  refine zbX ⟨[(0,kI k),(1,.sl Rp.byte [0] b),(7,kN),(12,.sl zj [0] l),(13,kI (l.length:Int)),(14,kI 0)],[]⟩ (by kernel_rfl) ?_
  refine zdF 7 (.own (Rp.int .u64) 75 20 [] []) rfl (zbv (Rp.int .u64) 75 20 [] rfl) ?_
  exact lzz
 refine zaD _ rfl ?_
 refine jp ?_
 obtain rfl:=sj h
 refine zz ?_
 refine lk [6] [] 20 2 ?_
 exact lzz
theorem zhk {fuel:Nat} {sv:(List zh)} {root:Int} {x:zc} {r:Bool} (h:zkc fuel sv root x=some r):FnOk Tryz.prog 21 [.sl zi [0] sv,kI root,.rc zd [0] x] [kB r]:=by
 refine zC (E:=⟨[(6,kB r)],[]⟩) 21 Tryz.func21 rfl rfl rfl ⟨rfl,trivial⟩ (fun Xt=>?_)
 refine zp ?_
 unfold zkc at h
 refine jr (ra 0 [.rc zd [0] x] rfl (zcb 11 [.sl za [0] x.Values,.sl Rp.str [0] x.Unknown] [0] rfl rfl rfl (by rw [zo]<;>rfl) rfl) rfl rf) ?_
 obtain ⟨g,h_g,h⟩:=bnd h
 refine zW ⟨[(6,kB g)],[]⟩ ?_ ?_
 ·
  obtain ⟨rv,h_rv,h_g⟩:=bnd h_g
  refine (rl 2 [0] 10 Tryz.call47 (zqG h_rv) (rsl 2 [] 11 (rv==0) (fun hc1=>?_) (fun hc1=>?_)))
  ·
   replace h_g:=iteT h_g hc1
   obtain ⟨rv2,h_rv2,h_g⟩:=bnd h_g
   refine (rc 1 rfl (zG.le (ins':=[(.tmp 12,.ag [.sl za [0] x.Values,.sl Rp.str [0] x.Unknown])]) (zae (args:=[.tmp 12]) [.rc zd [0] x] [0] 10 rfl Tryz.call48 (zom h_rv2) rfl rfl rfl rfl rfl) ⟨⟨rfl,zaa zd [0] x [.sl za [0] x.Values,.sl Rp.str [0] x.Unknown] (by rw [zo]<;>rfl) rfl⟩,trivial⟩) (rsl 2 [] 15 rv2 (fun hc2=>?_) (fun hc2=>?_)))
   ·
    replace h_g:=iteT h_g hc2
    obtain ⟨rv3,h_rv3,h_g⟩:=bnd h_g
    obtain rfl:=sj h_g
    exact (rc 3 rfl (zG.le (ins':=[(.tmp 16,.sl zi [0] sv),(.tmp 17,kI root),(.tmp 18,.ag [.sl za [0] x.Values,.sl Rp.str [0] x.Unknown])]) (zae (args:=[.tmp 16,.tmp 17,.tmp 18]) [.sl zi [0] sv,kI root,.rc zd [0] x] [0] 10 rfl Tryz.call49 (zsh h_rv3) rfl rfl rfl rfl rfl) ⟨⟨rfl,AV.le_refl _⟩,⟨rfl,AV.le_refl _⟩,⟨rfl,zaa zd [0] x [.sl za [0] x.Values,.sl Rp.str [0] x.Unknown] (by rw [zo]<;>rfl) rfl⟩,trivial⟩) rgg)
   replace h_g:=iteF h_g hc2
   obtain rfl:=sj h_g
   exact rgg
  replace h_g:=iteF h_g hc1
  obtain rfl:=sj h_g
  exact rgg
 obtain rfl:=sj h
 exact zz lzz
theorem zon {rec_valid_walk_message:zaF→Int→Int→Int→Int→Option (zF×(List (zn×zg)))} {rec_valid_walk_value:zaF→Int→zg→Int→Option (zF×(List (zn×zg)))} (hrec_valid_walk_message:∀{wv:zaF} {message:Int} {fromv:Int} {tov:Int} {d:Int} {r:(zF×(List (zn×zg)))},rec_valid_walk_message wv message fromv tov d=some r→zjj Tryz.prog 87 [.ag [.sl zi [0] wv.s,.sl Rp.byte [0] wv.b,.om zk zj 2 [0] wv.met],kI message,kI fromv,kI tov,kI d] [.rc zaN [] r.1] [.ag [.any,.any,.om zk zj 2 [0] r.2],.any,.any,.any,.any]) (hrec_valid_walk_value:∀{wv:zaF} {message:Int} {v:zg} {d:Int} {r:(zF×(List (zn×zg)))},rec_valid_walk_value wv message v d=some r→zjj Tryz.prog 110 [.ag [.sl zi [0] wv.s,.sl Rp.byte [0] wv.b,.om zk zj 2 [0] wv.met],kI message,.rc zj [0] v,kI d] [.rc zaN [] r.1] [.ag [.any,.any,.om zk zj 2 [0] r.2],.any,.any,.any]) {wv:zaF} {message:Int} {fromv:Int} {tov:Int} {d:Int} {r:(zF×(List (zn×zg)))} (h:zeM rec_valid_walk_message rec_valid_walk_value wv message fromv tov d=some r):zjj Tryz.prog 87 [.ag [.sl zi [0] wv.s,.sl Rp.byte [0] wv.b,.om zk zj 2 [0] wv.met],kI message,kI fromv,kI tov,kI d] [.rc zaN [] r.1] [.ag [.any,.any,.om zk zj 2 [0] r.2],.any,.any,.any,.any]:=by
 refine zlq (E:=⟨[(0,.ag [.any,.any,.om zk zj 2 [0] r.2]),(10,.ptr 3 0)],[⟨3,105,[kI r.1.depth,kI r.1.place,k8 r.1.e]⟩]⟩) 49 [0] Tryz.func87 rfl rfl rfl ⟨⟨_,_,rfl,rfl,rfl,rfl,⟨Tryz.isAgg105,Tryz.sizeOf105⟩⟩,trivial⟩ ⟨.inr ⟨rfl,rfl⟩,.inl rfl,.inl rfl,.inl rfl,.inl rfl,trivial⟩ rfl (fun Xt old=>?_)
 refine zp ?_
 unfold zeM at h
 refine jq [13,14] ?_
 refine jp ?_
 refine zA ?_
 obtain ⟨q,h_q,h⟩:=bnd h
 refine zal (fun s:((List (zn×zg))×Int×Int)=>zaI d message rec_valid_walk_value tov wv s.1 s.2.1 s.2.2) (fun s=>⟨[(0,.ag [.sl zi [0] wv.s,.sl Rp.byte [0] wv.b,.om zk zj 2 [0] s.1]),(1,kI message),(2,kI s.2.1),(3,kI tov),(4,kI d),(5,.ptr 13 0),(10,.ptr 14 0),(11,kI s.2.2)],[⟨13,153,[.sl zi [0] wv.s,.sl Rp.byte [0] wv.b,.om zk zj 2 [0] s.1]⟩,⟨14,105,[kI 0,kI 0,k8 0]⟩]⟩) (fun o e a w=>match o with| (.inl v_)=>e= .exit 0∧Sx ⟨⟨49,[0]⟩,Xt,false,old⟩ ⟨[(0,.ag [.sl zi [0] wv.s,.sl Rp.byte [0] wv.b,.om zk zj 2 [0] v_.1]),(10,.ptr 14 0),(11,kI v_.2)],[⟨14,105,[kI 0,kI 0,k8 0]⟩]⟩ a w| (.inr v_)=>e= .ret∧Sx ⟨⟨49,[0]⟩,Xt,false,old⟩ ⟨[(0,.ag [.sl zi [0] wv.s,.sl Rp.byte [0] wv.b,.om zk zj 2 [0] v_.1]),(10,.ptr 14 0)],[⟨14,105,[kI v_.2.1,kI v_.2.2.1,k8 v_.2.2.2]⟩]⟩ a w) ?_ h_q lzz ?_
 ·
  clear h
  intro s o h
  obtain ⟨wv2,fromv2,depth⟩:=s
  refine zp ?_
  replace h:zaI d message rec_valid_walk_value tov wv wv2 fromv2 depth=some o:=h
  unfold zaI at h
  refine jp ?_
  rcases zm h with ⟨hc1,h⟩| ⟨hc1,h⟩
  ·
   refine jT hc1 ?_
   refine zA ?_
   obtain ⟨rv2,h_rv2,h⟩:=bnd h
   refine jr (rkl 4 [] ⟨[(0,.ag [.sl zi [0] wv.s,.sl Rp.byte [0] wv.b,.om zk zj 2 [0] wv2]),(1,kI message),(2,kI fromv2),(3,kI tov),(4,kI d),(5,.ptr 13 0),(10,.ptr 14 0),(11,kI depth),(19,.ag [.sl zi [0] wv.s,.sl Rp.byte [0] wv.b,.om zk zj 2 [0] wv2]),(20,kI message),(21,kI fromv2),(22,kI tov)],[⟨13,153,[.sl zi [0] wv.s,.sl Rp.byte [0] wv.b,.om zk zj 2 [0] wv2]⟩,⟨14,105,[kI 0,kI 0,k8 0]⟩]⟩ (zhz ⟨[(0,.ag [.sl zi [0] wv.s,.sl Rp.byte [0] wv.b,.om zk zj 2 [0] rv2.2.2]),(1,kI message),(2,kI fromv2),(3,kI tov),(4,kI d),(5,.ptr 13 0),(10,.ptr 14 0),(11,kI depth),(19,.ag [.sl zi [0] wv.s,.sl Rp.byte [0] wv.b,.om zk zj 2 [0] rv2.2.2]),(20,kI message),(21,kI fromv2),(22,kI tov)],[⟨13,153,[.sl zi [0] wv.s,.sl Rp.byte [0] wv.b,.om zk zj 2 [0] rv2.2.2]⟩,⟨14,105,[kI 0,kI 0,k8 0]⟩]⟩ (zmy [.ag [.sl zi [0] wv.s,.sl Rp.byte [0] wv.b,.om zk zj 2 [0] wv2],kI message,kI fromv2,kI tov] [(2,2)] [0] 15 [] rfl Tryz.call109 (zrl h_rv2) rfl rfl (by kernel_rfl) rfl rfl rfl) rfl (by kernel_rfl) (by kernel_rfl) ⟨⟨_,rfl,znJ ⟨zx rfl,zx rfl,zeJ 0 rfl,trivial⟩⟩,⟨_,rfl,zx rfl⟩,⟨_,rfl,zx rfl⟩,⟨_,rfl,zx rfl⟩,⟨_,rfl,zx rfl⟩,⟨_,rfl,zx rfl⟩,⟨_,rfl,zx rfl⟩,⟨_,rfl,zx rfl⟩,⟨_,rfl,znJ ⟨zx rfl,zx rfl,zeJ 0 rfl,trivial⟩⟩,⟨_,rfl,zx rfl⟩,⟨_,rfl,zx rfl⟩,⟨_,rfl,zx rfl⟩,trivial⟩ ⟨⟨_,rfl,rfl,rfl,⟨zx rfl,zx rfl,zeJ 0 rfl,trivial⟩⟩,⟨_,rfl,rfl,rfl,⟨zx rfl,zx rfl,zx rfl,trivial⟩⟩,trivial⟩ (rfl' [18]))) ?_
   refine jp ?_
   rcases zm h with ⟨hc2,h⟩| ⟨hc2,h⟩
   ·
    refine jT hc2 ?_
    refine jr (rc 2 rfl (zan (r:=zaN) [kI fromv2,k8 rv2.2.1] [] (⟨0,fromv2,rv2.2.1⟩:zF) rfl ztd rfl rfl) rf) ?_
    obtain rfl:=sj h
    exact zaZ lzz
   refine jF hc2 ?_
   obtain ⟨rv4,h_rv4,h⟩:=bnd h
   refine jr (lb 2 zj [] rv2.1 (rkl 1 [] ⟨[(0,.ag [.sl zi [0] wv.s,.sl Rp.byte [0] wv.b,.om zk zj 2 [0] rv2.2.2]),(1,kI message),(3,kI tov),(4,kI d),(5,.ptr 13 0),(10,.ptr 14 0),(11,kI depth),(12,.ptr 18 0),(31,.ag [.sl zi [0] wv.s,.sl Rp.byte [0] wv.b,.om zk zj 2 [0] rv2.2.2]),(32,kI message),(33,.rc zj [] rv2.1),(34,kI d)],[⟨13,153,[.sl zi [0] wv.s,.sl Rp.byte [0] wv.b,.om zk zj 2 [0] rv2.2.2]⟩,⟨14,105,[kI 0,kI 0,k8 0]⟩,⟨18,113,[kI rv2.1.Record.Number,kI rv2.1.Record.Wire,kI rv2.1.Record.From,kI rv2.1.Record.At,kI rv2.1.Record.To,kI rv2.1.Field,kB rv2.1.Run]⟩]⟩ (zhz ⟨[(0,.ag [.sl zi [0] wv.s,.sl Rp.byte [0] wv.b,.om zk zj 2 [0] rv4.2]),(1,kI message),(3,kI tov),(4,kI d),(5,.ptr 13 0),(10,.ptr 14 0),(11,kI depth),(12,.ptr 18 0),(31,.ag [.sl zi [0] wv.s,.sl Rp.byte [0] wv.b,.om zk zj 2 [0] rv4.2]),(32,kI message),(33,.rc zj [] rv2.1),(34,kI d)],[⟨13,153,[.sl zi [0] wv.s,.sl Rp.byte [0] wv.b,.om zk zj 2 [0] rv4.2]⟩,⟨14,105,[kI 0,kI 0,k8 0]⟩,⟨18,113,[kI rv2.1.Record.Number,kI rv2.1.Record.Wire,kI rv2.1.Record.From,kI rv2.1.Record.At,kI rv2.1.Record.To,kI rv2.1.Field,kB rv2.1.Run]⟩]⟩ (zmy [.ag [.sl zi [0] wv.s,.sl Rp.byte [0] wv.b,.om zk zj 2 [0] rv2.2.2],kI message,.rc zj [] rv2.1,kI d] [(2,2)] [0] 18 [] rfl Tryz.call110 (hrec_valid_walk_value h_rv4) rfl rfl (by kernel_rfl) rfl rfl rfl) rfl (by kernel_rfl) (by kernel_rfl) ⟨⟨_,rfl,znJ ⟨zx rfl,zx rfl,zeJ 0 rfl,trivial⟩⟩,⟨_,rfl,zx rfl⟩,⟨_,rfl,zx rfl⟩,⟨_,rfl,zx rfl⟩,⟨_,rfl,zx rfl⟩,⟨_,rfl,zx rfl⟩,⟨_,rfl,zx rfl⟩,⟨_,rfl,zx rfl⟩,⟨_,rfl,znJ ⟨zx rfl,zx rfl,zeJ 0 rfl,trivial⟩⟩,⟨_,rfl,zx rfl⟩,⟨_,rfl,zx rfl⟩,⟨_,rfl,zx rfl⟩,trivial⟩ ⟨⟨_,rfl,rfl,rfl,⟨zx rfl,zx rfl,zeJ 0 rfl,trivial⟩⟩,⟨_,rfl,rfl,rfl,⟨zx rfl,zx rfl,zx rfl,trivial⟩⟩,⟨_,rfl,rfl,rfl,⟨zx rfl,zx rfl,zx rfl,zx rfl,zx rfl,zx rfl,zx rfl,trivial⟩⟩,trivial⟩ (rfl' [21])))) ?_
   refine jp ?_
   rcases zm h with ⟨hc3,h⟩| ⟨hc3,h⟩
   ·
    refine jT hc3 ?_
    refine jr (lb 0 zaN [] rv4.1 rf) ?_
    obtain rfl:=sj h
    exact zaZ lzz
   refine jF hc3 ?_
   refine jp ?_
   refine jp ?_
   refine zag ?_
   obtain rfl:=sj h
   exact zL lzz
  refine jF hc1 ?_
  obtain rfl:=sj h
  exact zam rfl lzz
 rcases q with u| u2
 ·
  refine zaD _ rfl ?_
  refine jr (rc 1 rfl (zan (r:=zaN) [kI u.2] [] (⟨u.2,0,0⟩:zF) rfl ztd rfl rfl) rf) ?_
  obtain rfl:=sj h
  refine zhw ?_
  refine lk [0,10] [14] 14 3 ?_
  refine zbX ⟨[(0,.ag [.sl zi [0] wv.s,.sl Rp.byte [0] wv.b,.om zk zj 2 [0] u.1]),(10,.ptr 3 0)],[⟨3,105,[kI u.2,kI 0,k8 0]⟩]⟩ (by kernel_rfl) ?_
  refine zdF 0 (.ag [.any,.any,.om zk zj 2 [0] (((⟨u.2,0,0⟩:zF),u.1):(zF×(List (zn×zg)))).2]) rfl (zhH ⟨zca _,zca _,AV.le_refl _,trivial⟩) ?_
  exact lzz
 obtain rfl:=sj h
 refine zIL ?_
 refine lk [0,10] [14] 14 3 ?_
 refine zbX ⟨[(0,.ag [.sl zi [0] wv.s,.sl Rp.byte [0] wv.b,.om zk zj 2 [0] u2.1]),(10,.ptr 3 0)],[⟨3,105,[kI u2.2.1,kI u2.2.2.1,k8 u2.2.2.2]⟩]⟩ (by kernel_rfl) ?_
 refine zdF 0 (.ag [.any,.any,.om zk zj 2 [0] (((⟨u2.2.1,u2.2.2.1,u2.2.2.2⟩:zF),u2.1):(zF×(List (zn×zg)))).2]) rfl (zhH ⟨zca _,zca _,AV.le_refl _,trivial⟩) ?_
 exact lzz
theorem zpQ {rec_valid_walk_message:zaF→Int→Int→Int→Int→Option (zF×(List (zn×zg)))} {rec_valid_walk_value:zaF→Int→zg→Int→Option (zF×(List (zn×zg)))} (hrec_valid_walk_message:∀{wv:zaF} {message:Int} {fromv:Int} {tov:Int} {d:Int} {r:(zF×(List (zn×zg)))},rec_valid_walk_message wv message fromv tov d=some r→zjj Tryz.prog 87 [.ag [.sl zi [0] wv.s,.sl Rp.byte [0] wv.b,.om zk zj 2 [0] wv.met],kI message,kI fromv,kI tov,kI d] [.rc zaN [] r.1] [.ag [.any,.any,.om zk zj 2 [0] r.2],.any,.any,.any,.any]) (hrec_valid_walk_value:∀{wv:zaF} {message:Int} {v:zg} {d:Int} {r:(zF×(List (zn×zg)))},rec_valid_walk_value wv message v d=some r→zjj Tryz.prog 110 [.ag [.sl zi [0] wv.s,.sl Rp.byte [0] wv.b,.om zk zj 2 [0] wv.met],kI message,.rc zj [0] v,kI d] [.rc zaN [] r.1] [.ag [.any,.any,.om zk zj 2 [0] r.2],.any,.any,.any]) {wv:zaF} {message:Int} {v:zg} {d:Int} {r:(zF×(List (zn×zg)))} (h:zeu rec_valid_walk_message rec_valid_walk_value wv message v d=some r):zjj Tryz.prog 110 [.ag [.sl zi [0] wv.s,.sl Rp.byte [0] wv.b,.om zk zj 2 [0] wv.met],kI message,.rc zj [0] v,kI d] [.rc zaN [] r.1] [.ag [.any,.any,.om zk zj 2 [0] r.2],.any,.any,.any]:=by
 refine zlq (E:=⟨[(0,.ag [.any,.any,.om zk zj 2 [0] r.2]),(8,.ptr 3 0)],[⟨3,105,[kI r.1.depth,kI r.1.place,k8 r.1.e]⟩]⟩) 71 [0] Tryz.func110 rfl rfl rfl ⟨⟨_,_,rfl,rfl,rfl,rfl,⟨Tryz.isAgg105,Tryz.sizeOf105⟩⟩,trivial⟩ ⟨.inr ⟨rfl,rfl⟩,.inl rfl,.inl rfl,.inl rfl,trivial⟩ rfl (fun Xt old=>?_)
 refine zp ?_
 unfold zeu at h
 refine jq [14,15,16] ?_
 refine jp ?_
 rcases zm h with ⟨hc1,h⟩| ⟨hc1,h⟩
 ·
  refine jT hc1 ?_
  refine jr (rc 0 rfl (zan (r:=zaN) [] [] (⟨0,0,0⟩:zF) rfl ztd rfl rfl) rf) ?_
  obtain rfl:=sj h
  refine zhw ?_
  refine lk [0,8] [16] 16 3 ?_
  refine zbX ⟨[(0,.ag [.sl zi [0] wv.s,.sl Rp.byte [0] wv.b,.om zk zj 2 [0] wv.met]),(8,.ptr 3 0)],[⟨3,105,[kI 0,kI 0,k8 0]⟩]⟩ (by kernel_rfl) ?_
  refine zdF 0 (.ag [.any,.any,.om zk zj 2 [0] (((⟨0,0,0⟩:zF),wv.met):(zF×(List (zn×zg)))).2]) rfl (zhH ⟨zca _,zca _,AV.le_refl _,trivial⟩) ?_
  exact lzz
 refine jF hc1 ?_
 obtain ⟨x,h_x,h⟩:=bnd h
 obtain ⟨x2,h_x2,h⟩:=bnd h
 refine jd [0,3,4,6,8,9] [14,15,16,17] zcc (by exact (lw_e (lw_e (lw_e (ly [.sl zi [0] wv.s,kI message] (zao rfl zhT.el (zJ _ _ _) h_x) rfl (lw_e (ly [.ep zi [0] x 1] (zhq zf x.Fields rfl rfl rfl) rfl (lw_e (lw_e (ly [.sl zf [0] x.Fields,kI v.Field] (zao rfl zle.el (zJ _ _ _) h_x2) rfl (ly [.ep zf [0] x2 0] (zci rfl ⟨Tryz.isAgg64,Tryz.sizeOf64⟩) rfl (lx (zkB 17 [kS [],kI 0,kI 0,kB false,kB false,kI 0] rfl Tryz.zeroValue64 rfl) (ly [.ptr 17 0,.rc zf [0] x2] (zgA (r:=zf) (b:=⟨17,64,[kS [],kI 0,kI 0,kB false,kB false,kI 0]⟩) (off:=0) [kS x2.Name,kI x2.Number,kI x2.Kind,kB x2.Repeated,kB x2.Packed,kI x2.Of] rfl Tryz.sizeOf64 rfl rfl rfl rfl) rfl l0))))))))))))) ?_
 refine zW ⟨[(0,.ag [.sl zi [0] wv.s,.sl Rp.byte [0] wv.b,.om zk zj 2 [0] wv.met]),(3,kI d),(4,.ptr 14 0),(6,.ptr 15 0),(8,.ptr 16 0),(9,.ptr 17 0),(32,kB ((x2.Kind==17)&&(decide (d>0))))],[⟨14,153,[.sl zi [0] wv.s,.sl Rp.byte [0] wv.b,.om zk zj 2 [0] wv.met]⟩,⟨15,113,[kI v.Record.Number,kI v.Record.Wire,kI v.Record.From,kI v.Record.At,kI v.Record.To,kI v.Field,kB v.Run]⟩,⟨16,105,[kI 0,kI 0,k8 0]⟩,⟨17,64,[kS x2.Name,kI x2.Number,kI x2.Kind,kB x2.Repeated,kB x2.Packed,kI x2.Of]⟩]⟩ ?_ ?_
 ·
  refine (rsl 4 [] 29 (x2.Kind==17) (fun hc2=>?_) (fun hc2=>?_))
  · exact (rbl [] 32 (decide (d>0)) ((x2.Kind==17)&&(decide (d>0))) (by rw [hc2]<;>rfl))
  exact (rbl [] 32 false ((x2.Kind==17)&&(decide (d>0))) (by rw [hc2]<;>rfl))
 rcases zm h with ⟨hc3,h⟩| ⟨hc3,h⟩
 ·
  refine jT hc3 ?_
  obtain ⟨rv2,h_rv2,h⟩:=bnd h
  refine jr (rkl 11 [] ⟨[(0,.ag [.sl zi [0] wv.s,.sl Rp.byte [0] wv.b,.om zk zj 2 [0] wv.met]),(8,.ptr 16 0),(33,.ag [.sl zi [0] wv.s,.sl Rp.byte [0] wv.b,.om zk zj 2 [0] wv.met]),(35,kI x2.Of),(38,kI v.Record.At),(41,kI v.Record.To),(43,kI (IntKind.i64.wrap (d - 1)))],[⟨16,105,[kI 0,kI 0,k8 0]⟩]⟩ (zhz ⟨[(0,.ag [.sl zi [0] wv.s,.sl Rp.byte [0] wv.b,.om zk zj 2 [0] rv2.2]),(8,.ptr 16 0),(33,.ag [.sl zi [0] wv.s,.sl Rp.byte [0] wv.b,.om zk zj 2 [0] rv2.2]),(35,kI x2.Of),(38,kI v.Record.At),(41,kI v.Record.To),(43,kI (IntKind.i64.wrap (d - 1)))],[⟨16,105,[kI 0,kI 0,k8 0]⟩]⟩ (zmy [.ag [.sl zi [0] wv.s,.sl Rp.byte [0] wv.b,.om zk zj 2 [0] wv.met],kI x2.Of,kI v.Record.At,kI v.Record.To,kI (IntKind.i64.wrap (d - 1))] [(2,2)] [0] 17 [] rfl Tryz.call87 (hrec_valid_walk_message h_rv2) rfl rfl (by kernel_rfl) rfl rfl rfl) rfl (by kernel_rfl) (by kernel_rfl) ⟨⟨_,rfl,znJ ⟨zx rfl,zx rfl,zeJ 0 rfl,trivial⟩⟩,⟨_,rfl,zx rfl⟩,⟨_,rfl,znJ ⟨zx rfl,zx rfl,zeJ 0 rfl,trivial⟩⟩,⟨_,rfl,zx rfl⟩,⟨_,rfl,zx rfl⟩,⟨_,rfl,zx rfl⟩,⟨_,rfl,zx rfl⟩,trivial⟩ ⟨⟨_,rfl,rfl,rfl,⟨zx rfl,zx rfl,zx rfl,trivial⟩⟩,trivial⟩ (rfl' [20]))) ?_
  refine jp ?_
  refine jr (lb 0 zaN [] (⟨(IntKind.i64.wrap (rv2.1.depth+1)),rv2.1.place,rv2.1.e⟩:zF) rf) ?_
  obtain rfl:=sj h
  refine zhw ?_
  refine lk [0,8] [16] 16 3 ?_
  refine zbX ⟨[(0,.ag [.sl zi [0] wv.s,.sl Rp.byte [0] wv.b,.om zk zj 2 [0] rv2.2]),(8,.ptr 3 0)],[⟨3,105,[kI (IntKind.i64.wrap (rv2.1.depth+1)),kI rv2.1.place,k8 rv2.1.e]⟩]⟩ (by kernel_rfl) ?_
  refine zdF 0 (.ag [.any,.any,.om zk zj 2 [0] (((⟨(IntKind.i64.wrap (rv2.1.depth+1)),rv2.1.place,rv2.1.e⟩:zF),rv2.2):(zF×(List (zn×zg)))).2]) rfl (zhH ⟨zca _,zca _,AV.le_refl _,trivial⟩) ?_
  exact lzz
 refine jF hc3 ?_
 obtain ⟨v3,h_v3,h⟩:=bnd h
 obtain ⟨rv3,h_rv3,h⟩:=bnd h
 refine jd [0,6,8,11] [15,16] zcc (by exact (ly [.ptr 17 0] (zBw (r:=zf) (b:=⟨17,64,[kS x2.Name,kI x2.Number,kI x2.Kind,kB x2.Repeated,kB x2.Packed,kI x2.Of]⟩) x2 [] rfl ⟨Tryz.isAgg64,Tryz.sizeOf64⟩ rfl rfl) rfl (lw_e (lw_e (lw_e (lw_e (lw_e (lw_e (lw_e (lw_e (lw_e (lw_e (ly [.sl Rp.byte [0] wv.b,kI v.Record.At,kI v.Record.To] (zik (some (kI v.Record.At)) (some (kI v.Record.To)) rfl zeU.el (zJ _ _ _) ⟨rfl,rfl⟩ ⟨rfl,rfl⟩ h_v3) rfl (lx (lf1 134 (zae [.rc zf [] x2,kB v.Run,.sl Rp.byte [0] v3] [0] 19 rfl Tryz.call134 (zvZ h_rv3) rfl rfl rfl rfl rfl)) l0)))))))))))))) ?_
 refine jp ?_
 rcases zm h with ⟨hc4,h⟩| ⟨hc4,h⟩
 ·
  refine jT hc4 ?_
  refine jr (rc 4 rfl (zan (r:=zaN) [kI v.Record.From,k8 rv3] [] (⟨0,v.Record.From,rv3⟩:zF) rfl ztd rfl rfl) rf) ?_
  obtain rfl:=sj h
  refine zhw ?_
  refine lk [0,8] [16] 16 3 ?_
  refine zbX ⟨[(0,.ag [.sl zi [0] wv.s,.sl Rp.byte [0] wv.b,.om zk zj 2 [0] wv.met]),(8,.ptr 3 0)],[⟨3,105,[kI 0,kI v.Record.From,k8 rv3]⟩]⟩ (by kernel_rfl) ?_
  refine zdF 0 (.ag [.any,.any,.om zk zj 2 [0] (((⟨0,v.Record.From,rv3⟩:zF),wv.met):(zF×(List (zn×zg)))).2]) rfl (zhH ⟨zca _,zca _,AV.le_refl _,trivial⟩) ?_
  exact lzz
 refine jF hc4 ?_
 refine jr (rc 0 rfl (zan (r:=zaN) [] [] (⟨0,0,0⟩:zF) rfl ztd rfl rfl) rf) ?_
 obtain rfl:=sj h
 refine zhw ?_
 refine lk [0,8] [16] 16 3 ?_
 refine zbX ⟨[(0,.ag [.sl zi [0] wv.s,.sl Rp.byte [0] wv.b,.om zk zj 2 [0] wv.met]),(8,.ptr 3 0)],[⟨3,105,[kI 0,kI 0,k8 0]⟩]⟩ (by kernel_rfl) ?_
 refine zdF 0 (.ag [.any,.any,.om zk zj 2 [0] (((⟨0,0,0⟩:zF),wv.met):(zF×(List (zn×zg)))).2]) rfl (zhH ⟨zca _,zca _,AV.le_refl _,trivial⟩) ?_
 exact lzz
theorem zha (fuel:Nat):(∀{wv:zaF} {message:Int} {fromv:Int} {tov:Int} {d:Int} {r:(zF×(List (zn×zg)))},zbM fuel wv message fromv tov d=some r→zjj Tryz.prog 87 [.ag [.sl zi [0] wv.s,.sl Rp.byte [0] wv.b,.om zk zj 2 [0] wv.met],kI message,kI fromv,kI tov,kI d] [.rc zaN [] r.1] [.ag [.any,.any,.om zk zj 2 [0] r.2],.any,.any,.any,.any])∧(∀{wv:zaF} {message:Int} {v:zg} {d:Int} {r:(zF×(List (zn×zg)))},zet fuel wv message v d=some r→zjj Tryz.prog 110 [.ag [.sl zi [0] wv.s,.sl Rp.byte [0] wv.b,.om zk zj 2 [0] wv.met],kI message,.rc zj [0] v,kI d] [.rc zaN [] r.1] [.ag [.any,.any,.om zk zj 2 [0] r.2],.any,.any,.any]):=by
  induction fuel with
  | zero=>exact ⟨fun h=>absurd h nofun,fun h=>absurd h nofun⟩
  | succ fuel ih=>exact ⟨fun h=>zon (fun hh=>ih.1 hh) (fun hh=>ih.2 hh) h,fun h=>zpQ (fun hh=>ih.1 hh) (fun hh=>ih.2 hh) h⟩
theorem zoX {fuel:Nat} {wv:zaF} {message:Int} {fromv:Int} {tov:Int} {d:Int} {r:(zF×(List (zn×zg)))} (h:zbM fuel wv message fromv tov d=some r):zjj Tryz.prog 87 [.ag [.sl zi [0] wv.s,.sl Rp.byte [0] wv.b,.om zk zj 2 [0] wv.met],kI message,kI fromv,kI tov,kI d] [.rc zaN [] r.1] [.ag [.any,.any,.om zk zj 2 [0] r.2],.any,.any,.any,.any]:=(zha fuel).1 h
theorem ztj {rec_tree_meaning:(List zh)→Int→(List UInt8)→Option zc} {rec_tree_subs:(List zh)→ze→(List UInt8)→(List zg)→Option (List zc)} {rec_tree_value:(List zh)→ze→(List UInt8)→(List zg)→Option zb} (hrec_tree_meaning:∀{sv:(List zh)} {message:Int} {b:(List UInt8)} {r:zc},rec_tree_meaning sv message b=some r→FnOk Tryz.prog 33 [.sl zi [0] sv,kI message,.sl Rp.byte [0] b] [.ag [.own za 50 3 [4] r.Values,.own Rp.str 9 5 [] r.Unknown]]) (hrec_tree_subs:∀{sv:(List zh)} {f:ze} {b:(List UInt8)} {l:(List zg)} {r:(List zc)},rec_tree_subs sv f b l=some r→FnOk Tryz.prog 92 [.sl zi [0] sv,.rc zf [0] f,.sl Rp.byte [0] b,.sl zj [0] l] [.own zd 30 2 [3] r]) (hrec_tree_value:∀{sv:(List zh)} {f:ze} {b:(List UInt8)} {l:(List zg)} {r:zb},rec_tree_value sv f b l=some r→FnOk Tryz.prog 61 [.sl zi [0] sv,.rc zf [0] f,.sl Rp.byte [0] b,.sl zj [0] l] [.ag [kI r.Number,.own (Rp.int .u64) 75 3 [] r.Words,.own Rp.str 9 4 [] r.Texts,.own zd 30 5 [6] r.Subs]]) {sv:(List zh)} {message:Int} {b:(List UInt8)} {r:zc} (h:zhP rec_tree_meaning rec_tree_subs rec_tree_value sv message b=some r):FnOk Tryz.prog 33 [.sl zi [0] sv,kI message,.sl Rp.byte [0] b] [.ag [.own za 50 3 [4] r.Values,.own Rp.str 9 5 [] r.Unknown]]:=by
 refine zC (E:=⟨[(6,.ptr 2 0)],[⟨2,30,[.own za 50 3 [4] r.Values,.own Rp.str 9 5 [] r.Unknown]⟩]⟩) 101 Tryz.func33 rfl rfl rfl ⟨⟨_,_,rfl,rfl,rfl,⟨Tryz.isAgg30,Tryz.sizeOf30⟩⟩,trivial⟩ (fun Xt=>?_)
 refine zp ?_
 unfold zhP at h
 refine jq [33] ?_
 obtain ⟨x,h_x,h⟩:=bnd h
 refine jr (ra 2 [.sl zi [0] sv,kI message] rfl (zao rfl zhT.el (zJ _ _ _) h_x) rfl (ra 0 [.ep zi [0] x 0] rfl (zci rfl ⟨Tryz.isAgg73,Tryz.sizeOf73⟩) rfl (ral 1 [34] [.ptr 34 0,.rc zi [0] x] rfl (zgA (r:=zi) (b:=⟨34,73,[kS [],kN]⟩) (off:=0) [kS x.Name,.sl zf [0] x.Fields] rfl Tryz.sizeOf73 rfl rfl rfl rfl) rfl rf))) ?_
 obtain ⟨rv,h_rv,h⟩:=bnd h
 refine jr (rl 2 [0] 33 Tryz.call58 (zAM h_rv) rf) ?_
 refine jq [36] ?_
 refine jr (ra 0 [] rfl (zGU (rk:=(Rp.int .i64)) (r:=zj) (e:=113) 37 rfl) rfl rf) ?_
 refine jp ?_
 refine zA ?_
 obtain ⟨q,h_q,h⟩:=bnd h
 refine zal (fun s:((List (Int×(List zg)))×Int×(List Str))=>zcD b rv s.1 s.2.1 s.2.2) (fun s=>⟨[(0,.sl zi [0] sv),(2,.sl Rp.byte [0] b),(6,.ptr 33 0),(7,.ptr 34 0),(11,.ptr 36 0),(12,.mo (Rp.int .i64) zj 113 37 [] s.1),(31,.own zj 113 35 [] rv.1),(32,kI (rv.1.length:Int)),(33,kI s.2.1)],[⟨33,30,[kN,kN]⟩,⟨34,73,[kS x.Name,.sl zf [0] x.Fields]⟩,⟨36,30,[kN,.own Rp.str 9 41 [] s.2.2]⟩]⟩) (fun o e a w=>e= .exit 0∧Sx ⟨⟨101,[]⟩,Xt,false,#[]⟩ ⟨[(0,.sl zi [0] sv),(2,.sl Rp.byte [0] b),(6,.ptr 33 0),(7,.ptr 34 0),(11,.ptr 36 0),(12,.mo (Rp.int .i64) zj 113 37 [] o.1)],[⟨33,30,[kN,kN]⟩,⟨34,73,[kS x.Name,.sl zf [0] x.Fields]⟩,⟨36,30,[kN,.own Rp.str 9 41 [] o.2]⟩]⟩ a w) ?_ h_q ?_ ?_
 ·
  clear h
  intro s o h
  obtain ⟨known,v,f⟩:=s
  refine zp ?_
  replace h:zcD b rv known v f=some o:=h
  unfold zcD at h
  refine jp ?_
  rcases zm h with ⟨hc1,h⟩| ⟨hc1,h⟩
  ·
   refine jT hc1 ?_
   refine zA ?_
   obtain ⟨x2,h_x2,h⟩:=bnd h
   refine jr (ra 0 [.own zj 113 35 [] rv.1,kI v] rfl (zao rfl zni.el (zfd _ _ _ _ _) h_x2) rfl (ra 0 [.ep zj [35] x2 0] rfl (zci rfl ⟨Tryz.isAgg113,Tryz.sizeOf113⟩) rfl (rfl' [42]))) ?_
   refine jp ?_
   rcases zm h with ⟨hc2,h⟩| ⟨hc2,h⟩
   ·
    refine jT hc2 ?_
    obtain ⟨v2,h_v2,h⟩:=bnd h
    obtain ⟨v3,h_v3,h⟩:=bnd h
    refine jd [0,2,6,7,11,12,31,32,33] [33,34,36] zcc (by exact (lw_e (lw_e (lw_e (lw_e (lw_e (lw_e (lw_e (lw_e (lw_e (ly [.sl Rp.byte [0] b,kI x2.Record.From,kI x2.Record.To] (zik (some (kI x2.Record.From)) (some (kI x2.Record.To)) rfl zeU.el (zJ _ _ _) ⟨rfl,rfl⟩ ⟨rfl,rfl⟩ h_v2) rfl (ly [.sl Rp.byte [0] v2] (zyt rfl Tryz.underlying24 Tryz.underlying5 Tryz.underlying9 (zJ _ _ _)) rfl (lx (zfk [kS v2] 43 [] ([v2]:(List Str)) rfl zif rfl rfl rfl rfl) (ly [.own Rp.str 9 41 [] f,.own Rp.str 9 43 [] ([v2]:(List Str))] (zG.withBx (zjS 41 [] rfl zif.el rfl (zfq _ _ _ _ _) (zfd _ _ _ _ _) h_v3 (.inl zsV) rfl) ⟨36,30,[kN,.own Rp.str 9 41 [] f]⟩ rfl rfl) rfl (lw_e (ly [.ptr 36 1,.own Rp.str 9 41 [] v3] (zyw (b:=⟨36,30,[kN,.any]⟩) (off:=1) rfl Tryz.sizeOf28 rfl rfl rfl) rfl l0)))))))))))))))) ?_
    refine zGG _ rfl ?_
    refine jp ?_
    obtain rfl:=sj h
    exact zL lzz
   refine jF hc2 ?_
   obtain ⟨v4,h_v4,h⟩:=bnd h
   refine jk [0,2,6,7,11,12,14,31,32,33,39] [33,34,36,42] ?_
   refine zug ⟨[(0,.sl zi [0] sv),(2,.sl Rp.byte [0] b),(6,.ptr 33 0),(7,.ptr 34 0),(11,.ptr 36 0),(12,.mo (Rp.int .i64) zj 113 37 [] (mput known x2.Record.Number v4)),(31,.own zj 113 35 [] rv.1),(32,kI (rv.1.length:Int)),(33,kI v)],[⟨33,30,[kN,kN]⟩,⟨34,73,[kS x.Name,.sl zf [0] x.Fields]⟩,⟨36,30,[kN,.own Rp.str 9 41 [] f]⟩]⟩ [.raw [15] [] [] [.ms 54 37],.ev,.ev,.ev,.raw [19] [] [] [.ms 58 37],.ev,.ev,.ev,.raw [3,13,0] [] [] [.lk 62 (Rp.int .i64) zj 113 37 [] known x2.Record.Number],.ex [42] [] [] (.rc zj [] x2) [],.ex [] [] [44] (.own zj 113 44 [] ([x2]:(List zg))) [],.raw [2,0] [37] [] [.ap 65 (Rp.int .i64) zj 113 37 [] known x2.Record.Number v4],.raw [0,10,7,25] [37] [] [.sl 12 (.mo (Rp.int .i64) zj 113 37 [] (mput known x2.Record.Number v4))]] [⟨[],[],[.ms 12 37]⟩,⟨[],[],[.ms 12 37]⟩,⟨[],[],[.ms 58 37,.sl 12 (.mo (Rp.int .i64) zj 113 37 [] known),.sl 61 (kI x2.Record.Number)]⟩,⟨[(.tmp 14,.ptr 42 0)],[⟨42,113,[kI x2.Record.Number,kI x2.Record.Wire,kI x2.Record.From,kI x2.Record.At,kI x2.Record.To,kI x2.Field,kB x2.Run]⟩],[]⟩,⟨[(.tmp 63,.rc zj [] x2)],[],[]⟩,⟨[],[],[.lk 62 (Rp.int .i64) zj 113 37 [] known x2.Record.Number,.sl 64 (.own zj 113 44 [] ([x2]:(List zg)))]⟩,⟨[],[],[.ap 65 (Rp.int .i64) zj 113 37 [] known x2.Record.Number v4,.ms 54 37,.sl 57 (kI x2.Record.Number),.ms 12 37]⟩] [0,2,6,7,11,12,31,32,33] [33,34,36] zcc (by kernel_rfl) (by exact (lw_r (zFI 12 54 37 (.inl rfl) rfl) (lw_e (lw_e (lw_e (lw_r (zFI 12 58 37 (.inl rfl) rfl) (lw_e (lw_e (lw_e (lw_r (zIn (z:= .tmp 61) 12 58 62 rfl rfl zyx (zfi rfl rfl) trivial) (lw_x (ztx (zBw (r:=zj) (b:=⟨42,113,[kI x2.Record.Number,kI x2.Record.Wire,kI x2.Record.From,kI x2.Record.At,kI x2.Record.To,kI x2.Field,kB x2.Run]⟩) x2 [] rfl ⟨Tryz.isAgg113,Tryz.sizeOf113⟩ rfl rfl) rfl) (lw_x (ztx (zfk [.rc zj [] x2] 44 [] ([x2]:(List zg)) rfl zni rfl rfl rfl rfl) rfl) (lw_r (zIm (y:= .tmp 64) [] 62 65 rfl rfl zni.el rfl (zfd _ _ _ _ _) trivial h_v4 (.inl zjm) rfl) (lw_r (zHc (z:= .tmp 57) 65 54 [12] rfl rfl zyx (zfi rfl rfl) trivial rfl) lw_0)))))))))))))) ?_
   refine zag ?_
   refine jp ?_
   obtain rfl:=sj h
   exact zL lzz
  refine jF hc1 ?_
  obtain rfl:=sj h
  exact zam rfl lzz
 ·
  refine zbX ⟨[(0,.sl zi [0] sv),(2,.sl Rp.byte [0] b),(6,.ptr 33 0),(7,.ptr 34 0),(11,.ptr 36 0),(12,.mo (Rp.int .i64) zj 113 37 [] ([]:(List (Int×(List zg))))),(31,.own zj 113 35 [] rv.1),(32,kI (rv.1.length:Int)),(33,kI 0)],[⟨33,30,[kN,kN]⟩,⟨34,73,[kS x.Name,.sl zf [0] x.Fields]⟩,⟨36,30,[kN,kN]⟩]⟩ (by kernel_rfl) ?_
  refine zdN 36 1 (.own Rp.str 9 41 [] []) rfl rfl (zbv Rp.str 9 41 [] rfl) ?_
  exact lzz
 refine zaD _ rfl ?_
 obtain ⟨v5,h_v5,h⟩:=bnd h
 refine jr (rkl 1 [] ⟨[(0,.sl zi [0] sv),(2,.sl Rp.byte [0] b),(6,.ptr 33 0),(7,.ptr 34 0),(11,.ptr 36 0),(12,.mo (Rp.int .i64) zj 113 37 [] q.1),(67,.mo (Rp.int .i64) zj 113 37 [] q.1)],[⟨33,30,[kN,kN]⟩,⟨34,73,[kS x.Name,.sl zf [0] x.Fields]⟩,⟨36,30,[kN,.own Rp.str 9 41 [] q.2]⟩]⟩ (zAt (rv:=(Rp.list zj)) (m:=q.1) 45 zHf rfl rfl rfl rfl rfl rfl Tryz.call60 Tryz.call59 rfl (zCv _ _ _ _ _ _) h_v5 rfl rf)) ?_
 refine zA ?_
 obtain ⟨q2,h_q2,h⟩:=bnd h
 refine zal (fun s:(Int×(List zb))=>zcE b q rec_tree_value sv v5 x s.1 s.2) (fun s=>⟨[(0,.sl zi [0] sv),(2,.sl Rp.byte [0] b),(6,.ptr 33 0),(7,.ptr 34 0),(11,.ptr 36 0),(12,.mo (Rp.int .i64) zj 113 37 [] q.1),(69,.own (Rp.int .i64) 3 45 [] v5),(70,kI (v5.length:Int)),(71,kI s.1)],[⟨33,30,[kN,kN]⟩,⟨34,73,[kS x.Name,.sl zf [0] x.Fields]⟩,⟨36,30,[.own za 50 54 [46] s.2,.own Rp.str 9 41 [] q.2]⟩]⟩) (fun o e a w=>e= .exit 2∧Sx ⟨⟨101,[]⟩,Xt,false,#[]⟩ ⟨[(6,.ptr 33 0),(11,.ptr 36 0)],[⟨33,30,[kN,kN]⟩,⟨36,30,[.own za 50 54 [46] o,.own Rp.str 9 41 [] q.2]⟩]⟩ a w) ?_ h_q2 ?_ ?_
 ·
  clear h
  intro s o h
  obtain ⟨v6,f3⟩:=s
  refine zp ?_
  replace h:zcE b q rec_tree_value sv v5 x v6 f3=some o:=h
  unfold zcE at h
  refine jp ?_
  rcases zm h with ⟨hc3,h⟩| ⟨hc3,h⟩
  ·
   refine jT hc3 ?_
   refine zA ?_
   obtain ⟨x3,h_x3,h⟩:=bnd h
   refine jr (ra 0 [.own (Rp.int .i64) 3 45 [] v5,kI v6] rfl (zao rfl zDi.el (zfd _ _ _ _ _) h_x3) rfl rf) ?_
   refine jr (ra 2 [.mo (Rp.int .i64) zj 113 37 [] q.1,kI x3] rfl (zuj (rk:=(Rp.int .i64)) (rv:=(Rp.list zj)) (m:=q.1) (k:=x3) (.sl zj [37] ((mget q.1 x3).getD [])) rfl zyx (zCv _ _ _ _ _ _) (zfi rfl rfl) (zGA _ _ _)) rfl rf) ?_
   obtain ⟨x4,h_x4,h⟩:=bnd h
   obtain ⟨x5,h_x5,h⟩:=bnd h
   obtain ⟨rv2,h_rv2,h⟩:=bnd h
   refine jd [0,2,6,7,11,12,18,69,70,71] [33,34,36,67] zcc (by exact (lw_e (lw_e (lw_e (lw_e (ly [.sl zj [37] ((mget q.1 x3).getD []),kI 0] (zao rfl zni.el (zJ _ _ _) h_x4) rfl (lw_e (lw_e (ly [.sl zf [0] x.Fields,kI x4.Field] (zao rfl zle.el (zJ _ _ _) h_x5) rfl (ly [.ep zf [0] x5 0] (zci rfl ⟨Tryz.isAgg64,Tryz.sizeOf64⟩) rfl (lw_e (lw_e (lx (lf1 61 (zae [.sl zi [0] sv,.rc zf [0] x5,.sl Rp.byte [0] b,.sl zj [37] ((mget q.1 x3).getD [])] [0,37] 60 rfl Tryz.call61 (hrec_tree_value h_rv2) rfl rfl rfl rfl rfl)) (lx (zkB 67 [kI 0,kN,kN,kN] rfl Tryz.zeroValue50 rfl) (ly [.ptr 67 0,.ag [kI rv2.Number,.own (Rp.int .u64) 75 63 [] rv2.Words,.own Rp.str 9 64 [] rv2.Texts,.own zd 30 65 [66] rv2.Subs]] (zqd (b:=⟨67,50,[kI 0,kN,kN,kN]⟩) (off:=0) [kI rv2.Number,.own (Rp.int .u64) 75 63 [] rv2.Words,.own Rp.str 9 64 [] rv2.Texts,.own zd 30 65 [66] rv2.Subs] rfl Tryz.sizeOf50 rfl rfl rfl) rfl l0))))))))))))))) ?_
   obtain ⟨rv3,h_rv3,h⟩:=bnd h
   refine jr (rc 1 rfl (zG.le (ins':=[(.tmp 90,.ag [kI rv2.Number,.own (Rp.int .u64) 75 63 [] rv2.Words,.own Rp.str 9 64 [] rv2.Texts,.own zd 30 65 [66] rv2.Subs])]) (zae (args:=[.tmp 90]) [.rc za [63,64,65,66] rv2] [63,64,65,66] 66 rfl Tryz.call62 (zkJ h_rv3) rfl rfl rfl rfl rfl) ⟨⟨rfl,zaa za [63,64,65,66] rv2 [kI rv2.Number,.own (Rp.int .u64) 75 63 [] rv2.Words,.own Rp.str 9 64 [] rv2.Texts,.own zd 30 65 [66] rv2.Subs] (by rw [zq]<;>rfl) rfl⟩,trivial⟩) rf) ?_
   rcases zm h with ⟨hc4,h⟩| ⟨hc4,h⟩
   ·
    refine jT hc4 ?_
    obtain ⟨v7,h_v7,h⟩:=bnd h
    refine jr (rc 3 rfl (zG.le (ins':=[(.tmp 95,.ag [kI rv2.Number,.own (Rp.int .u64) 75 63 [] rv2.Words,.own Rp.str 9 64 [] rv2.Texts,.own zd 30 65 [66] rv2.Subs])]) (zfk [.rc za [63,64,65,66] rv2] 68 [63,64,65,66] ([rv2]:(List zb)) rfl zkQ rfl rfl rfl (by simp only [ztu,zln,zkV,zq,List.flatMap_cons,List.flatMap_nil]<;>rfl)) ⟨⟨rfl,zaa za [63,64,65,66] rv2 [kI rv2.Number,.own (Rp.int .u64) 75 63 [] rv2.Words,.own Rp.str 9 64 [] rv2.Texts,.own zd 30 65 [66] rv2.Subs] (by rw [zq]<;>rfl) rfl⟩,trivial⟩) (ra 0 [.own za 50 54 [46] f3,.own za 50 68 [63,64,65,66] ([rv2]:(List zb))] rfl (zjS 54 [46,68,63,64,65,66] rfl zkQ.el rfl (zfq _ _ _ _ _) (zfd _ _ _ _ _) h_v7 (.inr rfl) rfl) rfl rf)) ?_
    refine zag ?_
    refine jp ?_
    obtain rfl:=sj h
    refine zL ?_
    refine lk [0,2,6,7,11,12,69,70,71] [33,34,36] 68 46 ?_
    refine lk [0,2,6,7,11,12,69,70,71] [33,34,36] 63 46 ?_
    refine lk [0,2,6,7,11,12,69,70,71] [33,34,36] 64 46 ?_
    refine lk [0,2,6,7,11,12,69,70,71] [33,34,36] 65 46 ?_
    refine lk [0,2,6,7,11,12,69,70,71] [33,34,36] 66 46 ?_
    refine zbX ⟨[(0,.sl zi [0] sv),(2,.sl Rp.byte [0] b),(6,.ptr 33 0),(7,.ptr 34 0),(11,.ptr 36 0),(12,.mo (Rp.int .i64) zj 113 37 [] q.1),(69,.own (Rp.int .i64) 3 45 [] v5),(70,kI (v5.length:Int)),(71,kI (IntKind.i64.wrap (v6+1)))],[⟨33,30,[kN,kN]⟩,⟨34,73,[kS x.Name,.sl zf [0] x.Fields]⟩,⟨36,30,[.own za 50 54 [46,46,46,46,46,46] v7,.own Rp.str 9 41 [] q.2]⟩]⟩ (by kernel_rfl) ?_
    refine zdN 36 0 (.own za 50 54 [46] v7) rfl rfl (zij _ _ _ _ _ _ rfl rfl) ?_
    exact lzz
   refine jF hc4 ?_
   refine zag ?_
   refine jp ?_
   obtain rfl:=sj h
   exact zL lzz
  refine jF hc3 ?_
  obtain rfl:=sj h
  exact zam rfl lzz
 ·
  refine zbX ⟨[(0,.sl zi [0] sv),(2,.sl Rp.byte [0] b),(6,.ptr 33 0),(7,.ptr 34 0),(11,.ptr 36 0),(12,.mo (Rp.int .i64) zj 113 37 [] q.1),(69,.own (Rp.int .i64) 3 45 [] v5),(70,kI (v5.length:Int)),(71,kI 0)],[⟨33,30,[kN,kN]⟩,⟨34,73,[kS x.Name,.sl zf [0] x.Fields]⟩,⟨36,30,[kN,.own Rp.str 9 41 [] q.2]⟩]⟩ (by kernel_rfl) ?_
  refine zdN 36 0 (.own za 50 54 [46] []) rfl rfl (zbv za 50 54 [46] rfl) ?_
  exact lzz
 refine zaD _ rfl ?_
 refine jp ?_
 obtain rfl:=sj h
 refine zz ?_
 refine lk [6] [33] 33 2 ?_
 refine lk [6] [2] 54 3 ?_
 refine lk [6] [2] 41 5 ?_
 refine lk [6] [2] 46 4 ?_
 exact lzz
theorem zwA {rec_tree_meaning:(List zh)→Int→(List UInt8)→Option zc} {rec_tree_subs:(List zh)→ze→(List UInt8)→(List zg)→Option (List zc)} {rec_tree_value:(List zh)→ze→(List UInt8)→(List zg)→Option zb} (hrec_tree_meaning:∀{sv:(List zh)} {message:Int} {b:(List UInt8)} {r:zc},rec_tree_meaning sv message b=some r→FnOk Tryz.prog 33 [.sl zi [0] sv,kI message,.sl Rp.byte [0] b] [.ag [.own za 50 3 [4] r.Values,.own Rp.str 9 5 [] r.Unknown]]) (hrec_tree_subs:∀{sv:(List zh)} {f:ze} {b:(List UInt8)} {l:(List zg)} {r:(List zc)},rec_tree_subs sv f b l=some r→FnOk Tryz.prog 92 [.sl zi [0] sv,.rc zf [0] f,.sl Rp.byte [0] b,.sl zj [0] l] [.own zd 30 2 [3] r]) (hrec_tree_value:∀{sv:(List zh)} {f:ze} {b:(List UInt8)} {l:(List zg)} {r:zb},rec_tree_value sv f b l=some r→FnOk Tryz.prog 61 [.sl zi [0] sv,.rc zf [0] f,.sl Rp.byte [0] b,.sl zj [0] l] [.ag [kI r.Number,.own (Rp.int .u64) 75 3 [] r.Words,.own Rp.str 9 4 [] r.Texts,.own zd 30 5 [6] r.Subs]]) {sv:(List zh)} {f:ze} {b:(List UInt8)} {l:(List zg)} {r:(List zc)} (h:zja rec_tree_meaning rec_tree_subs rec_tree_value sv f b l=some r):FnOk Tryz.prog 92 [.sl zi [0] sv,.rc zf [0] f,.sl Rp.byte [0] b,.sl zj [0] l] [.own zd 30 2 [3] r]:=by
 refine zC (E:=⟨[(8,.own zd 30 2 [3] r)],[]⟩) 68 Tryz.func92 rfl rfl rfl ⟨rfl,trivial⟩ (fun Xt=>?_)
 refine zp ?_
 unfold zja at h
 refine jq [21] ?_
 obtain ⟨v,h_v,h⟩:=bnd h
 refine jr (ra 2 [kI (l.length:Int),kI (l.length:Int)] rfl (zyv 22 rfl ztr rfl h_v) rfl rf) ?_
 refine jp ?_
 refine zA ?_
 obtain ⟨q,h_q,h⟩:=bnd h
 refine zal (fun s:((List (List UInt8))×Int)=>zez b l s.1 s.2) (fun s=>⟨[(0,.sl zi [0] sv),(2,.sl Rp.byte [0] b),(5,.ptr 21 0),(9,.own (Rp.list Rp.byte) 24 22 [0] s.1),(18,.sl zj [0] l),(19,kI (l.length:Int)),(20,kI s.2)],[⟨21,64,[kS f.Name,kI f.Number,kI f.Kind,kB f.Repeated,kB f.Packed,kI f.Of]⟩]⟩) (fun o e a w=>e= .exit 0∧Sx ⟨⟨68,[]⟩,Xt,false,#[]⟩ ⟨[(0,.sl zi [0] sv),(5,.ptr 21 0),(9,.own (Rp.list Rp.byte) 24 22 [0] o)],[⟨21,64,[kS f.Name,kI f.Number,kI f.Kind,kB f.Repeated,kB f.Packed,kI f.Of]⟩]⟩ a w) ?_ h_q ?_ ?_
 ·
  clear h
  intro s o h
  obtain ⟨pieces,v2⟩:=s
  refine zp ?_
  replace h:zez b l pieces v2=some o:=h
  unfold zez at h
  refine jp ?_
  rcases zm h with ⟨hc1,h⟩| ⟨hc1,h⟩
  ·
   refine jT hc1 ?_
   refine zA ?_
   obtain ⟨x,h_x,h⟩:=bnd h
   refine jr (ra 1 [.sl zj [0] l,kI v2] rfl (zao rfl zni.el (zJ _ _ _) h_x) rfl (ra 0 [.ep zj [0] x 0] rfl (zci rfl ⟨Tryz.isAgg113,Tryz.sizeOf113⟩) rfl (rfl' [24]))) ?_
   obtain ⟨v3,h_v3,h⟩:=bnd h
   obtain ⟨x2,h_x2,h⟩:=bnd h
   refine jr (ra 9 [.sl Rp.byte [0] b,kI x.Record.At,kI x.Record.To] rfl (zik (some (kI x.Record.At)) (some (kI x.Record.To)) rfl zeU.el (zJ _ _ _) ⟨rfl,rfl⟩ ⟨rfl,rfl⟩ h_v3) rfl (ra 0 [.own (Rp.list Rp.byte) 24 22 [0] pieces,kI v2] rfl (zpq rfl ztr.el h_x2) rfl (rkl 0 [] ⟨[(0,.sl zi [0] sv),(2,.sl Rp.byte [0] b),(5,.ptr 21 0),(9,.own (Rp.list Rp.byte) 24 22 [0] pieces),(18,.sl zj [0] l),(19,kI (l.length:Int)),(20,kI v2),(34,.sl Rp.byte [0] v3),(35,.ptr 22 (Int.toNat v2*(Rp.list Rp.byte).size))],[⟨21,64,[kS f.Name,kI f.Number,kI f.Kind,kB f.Repeated,kB f.Packed,kI f.Of]⟩]⟩ (zBJ (r:=(Rp.list Rp.byte)) (e:=24) (C:=[0]) (xs:=pieces) [9] (Int.toNat v2) 0 x2 v3 [0] rfl rfl rfl rfl rfl rfl Tryz.sizeOf24 rfl (by kernel_rfl) rfl (zpY h_x2) rfl (zrZ rfl _) rfl rf)))) ?_
   refine zag ?_
   refine jp ?_
   obtain rfl:=sj h
   exact zL lzz
  refine jF hc1 ?_
  obtain rfl:=sj h
  exact zam rfl lzz
 ·
  refine zbX ⟨[(0,.sl zi [0] sv),(2,.sl Rp.byte [0] b),(5,.ptr 21 0),(9,.own (Rp.list Rp.byte) 24 22 [] v),(18,.sl zj [0] l),(19,kI (l.length:Int)),(20,kI 0)],[⟨21,64,[kS f.Name,kI f.Number,kI f.Kind,kB f.Repeated,kB f.Packed,kI f.Of]⟩]⟩ (by kernel_rfl) ?_
  refine zdF 9 (.own (Rp.list Rp.byte) 24 22 [0] v) rfl (zij _ _ _ _ _ _ rfl rfl) ?_
  exact lzz
 refine zaD _ rfl ?_
 refine zW ⟨[(0,.sl zi [0] sv),(5,.ptr 21 0),(9,.own (Rp.list Rp.byte) 24 22 [0] q),(44,kB ((!f.Repeated)&&(decide ((q.length:Int)>1))))],[⟨21,64,[kS f.Name,kI f.Number,kI f.Kind,kB f.Repeated,kB f.Packed,kI f.Of]⟩]⟩ ?_ ?_
 ·
  refine (rsl 4 [] 40 (!f.Repeated) (fun hc2=>?_) (fun hc2=>?_))
  · exact (rbl [] 44 (decide ((q.length:Int)>1)) ((!f.Repeated)&&(decide ((q.length:Int)>1))) (by rw [hc2]<;>rfl))
  exact (rbl [] 44 false ((!f.Repeated)&&(decide ((q.length:Int)>1))) (by rw [hc2]<;>rfl))
 obtain ⟨p,h_p,h⟩:=bnd h
 refine zcT (R:=fun e a w=>e= .normal∧Sx ⟨⟨68,[]⟩,Xt,false,#[]⟩ ⟨[(0,.sl zi [0] sv),(5,.ptr 21 0),(9,.own (Rp.list Rp.byte) 24 26 [25,0] p)],[⟨21,64,[kS f.Name,kI f.Number,kI f.Kind,kB f.Repeated,kB f.Packed,kI f.Of]⟩]⟩ a w) ?_ ?_
 ·
  replace h:=h_p
  refine zp ?_
  rcases zm h with ⟨hc3,h⟩| ⟨hc3,h⟩
  ·
   refine jT hc3 ?_
   obtain ⟨rv,h_rv,h⟩:=bnd h
   refine jr (rl 1 [22,0] 25 Tryz.call115 (zkH h_rv) (rc 0 rfl (zfk [.own Rp.byte 5 27 [] rv] 28 [27] ([rv]:(List (List UInt8))) rfl ztr rfl rfl rfl rfl) rf)) ?_
   obtain rfl:=sj h
   refine zL ?_
   refine lk [0,5,9] [21] 28 26 ?_
   refine lk [0,5,9] [21] 27 25 ?_
   refine zbX ⟨[(0,.sl zi [0] sv),(5,.ptr 21 0),(9,.own (Rp.list Rp.byte) 24 26 [25] ([rv]:(List (List UInt8))))],[⟨21,64,[kS f.Name,kI f.Number,kI f.Kind,kB f.Repeated,kB f.Packed,kI f.Of]⟩]⟩ (by kernel_rfl) ?_
   refine zdF 9 (.own (Rp.list Rp.byte) 24 26 [25,0] ([rv]:(List (List UInt8)))) rfl (zij _ _ _ _ _ _ rfl rfl) ?_
   exact lzz
  refine jF hc3 ?_
  obtain rfl:=sj h
  refine zL ?_
  refine lk [0,5,9] [21] 22 26 ?_
  refine zbX ⟨[(0,.sl zi [0] sv),(5,.ptr 21 0),(9,.own (Rp.list Rp.byte) 24 26 [0] q)],[⟨21,64,[kS f.Name,kI f.Number,kI f.Kind,kB f.Repeated,kB f.Packed,kI f.Of]⟩]⟩ (by kernel_rfl) ?_
  refine zdF 9 (.own (Rp.list Rp.byte) 24 26 [25,0] q) rfl (zij _ _ _ _ _ _ rfl rfl) ?_
  exact lzz
 refine zeF ?_
 obtain ⟨v5,h_v5,h⟩:=bnd h
 refine jr (ra 2 [kI (p.length:Int),kI (p.length:Int)] rfl (zyv 29 rfl zoG rfl h_v5) rfl rf) ?_
 refine jp ?_
 refine zA ?_
 obtain ⟨q2,h_q2,h⟩:=bnd h
 refine zal (fun s:((List zc)×Int)=>zeA f p rec_tree_meaning sv s.1 s.2) (fun s=>⟨[(0,.sl zi [0] sv),(5,.ptr 21 0),(12,.own zd 30 29 [30] s.1),(51,.own (Rp.list Rp.byte) 24 26 [25,0] p),(52,kI (p.length:Int)),(53,kI s.2)],[⟨21,64,[kS f.Name,kI f.Number,kI f.Kind,kB f.Repeated,kB f.Packed,kI f.Of]⟩]⟩) (fun o e a w=>e= .exit 2∧Sx ⟨⟨68,[]⟩,Xt,false,#[]⟩ ⟨[(12,.own zd 30 29 [30] o)],[]⟩ a w) ?_ h_q2 ?_ ?_
 ·
  clear h
  intro s o h
  obtain ⟨all,v6⟩:=s
  refine zp ?_
  replace h:zeA f p rec_tree_meaning sv all v6=some o:=h
  unfold zeA at h
  refine jp ?_
  rcases zm h with ⟨hc4,h⟩| ⟨hc4,h⟩
  ·
   refine jT hc4 ?_
   refine zA ?_
   obtain ⟨x3,h_x3,h⟩:=bnd h
   refine jr (ra 1 [.own (Rp.list Rp.byte) 24 26 [25,0] p,kI v6] rfl (zao rfl ztr.el (zfd _ _ _ _ _) h_x3) rfl (ra 0 [.ep (Rp.list Rp.byte) [26,25,0] x3 0] rfl (zhq Rp.byte x3 rfl rfl rfl) rfl rf)) ?_
   obtain ⟨rv2,h_rv2,h⟩:=bnd h
   obtain ⟨x4,h_x4,h⟩:=bnd h
   refine jr (rl 6 [0,26,25] 37 Tryz.call33 (hrec_tree_meaning h_rv2) (ra 0 [.own zd 30 29 [30] all,kI v6] rfl (zpq rfl zoG.el h_x4) rfl (rkl 0 [] ⟨[(0,.sl zi [0] sv),(5,.ptr 21 0),(12,.own zd 30 29 [30] all),(51,.own (Rp.list Rp.byte) 24 26 [25,0] p),(52,kI (p.length:Int)),(53,kI v6),(64,.ag [.own za 50 40 [41] rv2.Values,.own Rp.str 9 42 [] rv2.Unknown]),(65,.ptr 29 (Int.toNat v6*zd.size))],[⟨21,64,[kS f.Name,kI f.Number,kI f.Kind,kB f.Repeated,kB f.Packed,kI f.Of]⟩]⟩ (zBJ (r:=zd) (e:=30) (C:=[30]) (xs:=all) [12] (Int.toNat v6) 0 x4 rv2 [30,40,41,42] rfl rfl rfl rfl rfl rfl Tryz.sizeOf30 rfl (by kernel_rfl) rfl (zpY h_x4) rfl (zrZ (by rw [zo]<;>rfl) _) rfl rf)))) ?_
   refine zag ?_
   refine jp ?_
   obtain rfl:=sj h
   refine zL ?_
   refine lk [0,5,12,51,52,53] [21] 40 30 ?_
   refine lk [0,5,12,51,52,53] [21] 41 30 ?_
   refine lk [0,5,12,51,52,53] [21] 42 30 ?_
   refine zbX ⟨[(0,.sl zi [0] sv),(5,.ptr 21 0),(12,.own zd 30 29 [30,30,30,30] (all.set (Int.toNat v6) rv2)),(51,.own (Rp.list Rp.byte) 24 26 [25,0] p),(52,kI (p.length:Int)),(53,kI (IntKind.i64.wrap (v6+1)))],[⟨21,64,[kS f.Name,kI f.Number,kI f.Kind,kB f.Repeated,kB f.Packed,kI f.Of]⟩]⟩ (by kernel_rfl) ?_
   refine zdF 12 (.own zd 30 29 [30] (all.set (Int.toNat v6) rv2)) rfl (zij _ _ _ _ _ _ rfl rfl) ?_
   exact lzz
  refine jF hc4 ?_
  obtain rfl:=sj h
  exact zam rfl lzz
 ·
  refine zbX ⟨[(0,.sl zi [0] sv),(5,.ptr 21 0),(12,.own zd 30 29 [] v5),(51,.own (Rp.list Rp.byte) 24 26 [25,0] p),(52,kI (p.length:Int)),(53,kI 0)],[⟨21,64,[kS f.Name,kI f.Number,kI f.Kind,kB f.Repeated,kB f.Packed,kI f.Of]⟩]⟩ (by kernel_rfl) ?_
  refine zdF 12 (.own zd 30 29 [30] v5) rfl (zij _ _ _ _ _ _ rfl rfl) ?_
  exact lzz
 refine zaD _ rfl ?_
 refine jp ?_
 obtain rfl:=sj h
 refine zz ?_
 refine lk [8] [] 29 2 ?_
 refine lk [8] [] 30 3 ?_
 exact lzz
theorem zvW {rec_tree_meaning:(List zh)→Int→(List UInt8)→Option zc} {rec_tree_subs:(List zh)→ze→(List UInt8)→(List zg)→Option (List zc)} {rec_tree_value:(List zh)→ze→(List UInt8)→(List zg)→Option zb} (hrec_tree_meaning:∀{sv:(List zh)} {message:Int} {b:(List UInt8)} {r:zc},rec_tree_meaning sv message b=some r→FnOk Tryz.prog 33 [.sl zi [0] sv,kI message,.sl Rp.byte [0] b] [.ag [.own za 50 3 [4] r.Values,.own Rp.str 9 5 [] r.Unknown]]) (hrec_tree_subs:∀{sv:(List zh)} {f:ze} {b:(List UInt8)} {l:(List zg)} {r:(List zc)},rec_tree_subs sv f b l=some r→FnOk Tryz.prog 92 [.sl zi [0] sv,.rc zf [0] f,.sl Rp.byte [0] b,.sl zj [0] l] [.own zd 30 2 [3] r]) (hrec_tree_value:∀{sv:(List zh)} {f:ze} {b:(List UInt8)} {l:(List zg)} {r:zb},rec_tree_value sv f b l=some r→FnOk Tryz.prog 61 [.sl zi [0] sv,.rc zf [0] f,.sl Rp.byte [0] b,.sl zj [0] l] [.ag [kI r.Number,.own (Rp.int .u64) 75 3 [] r.Words,.own Rp.str 9 4 [] r.Texts,.own zd 30 5 [6] r.Subs]]) {sv:(List zh)} {f:ze} {b:(List UInt8)} {l:(List zg)} {r:zb} (h:zhZ rec_tree_meaning rec_tree_subs rec_tree_value sv f b l=some r):FnOk Tryz.prog 61 [.sl zi [0] sv,.rc zf [0] f,.sl Rp.byte [0] b,.sl zj [0] l] [.ag [kI r.Number,.own (Rp.int .u64) 75 3 [] r.Words,.own Rp.str 9 4 [] r.Texts,.own zd 30 5 [6] r.Subs]]:=by
 refine zC (E:=⟨[(8,.ptr 2 0)],[⟨2,50,[kI r.Number,.own (Rp.int .u64) 75 3 [] r.Words,.own Rp.str 9 4 [] r.Texts,.own zd 30 5 [6] r.Subs]⟩]⟩) 50 Tryz.func61 rfl rfl rfl ⟨⟨_,_,rfl,rfl,rfl,⟨Tryz.isAgg50,Tryz.sizeOf50⟩⟩,trivial⟩ (fun Xt=>?_)
 refine zp ?_
 unfold zhZ at h
 refine jq [18,19] ?_
 refine zW ⟨[(0,.sl zi [0] sv),(2,.sl Rp.byte [0] b),(3,.sl zj [0] l),(5,.ptr 18 0),(8,.ptr 19 0),(17,kB ((!f.Repeated)&&(f.Kind !=17)))],[⟨18,64,[kS f.Name,kI f.Number,kI f.Kind,kB f.Repeated,kB f.Packed,kI f.Of]⟩,⟨19,50,[kI 0,kN,kN,kN]⟩]⟩ ?_ ?_
 ·
  refine (rsl 4 [] 13 (!f.Repeated) (fun hc1=>?_) (fun hc1=>?_))
  · exact (rbl [] 17 (f.Kind !=17) ((!f.Repeated)&&(f.Kind !=17)) (by rw [hc1]<;>rfl))
  exact (rbl [] 17 false ((!f.Repeated)&&(f.Kind !=17)) (by rw [hc1]<;>rfl))
 obtain ⟨p,h_p,h⟩:=bnd h
 refine zcT (R:=fun e a w=>e= .normal∧Sx ⟨⟨50,[]⟩,Xt,false,#[]⟩ ⟨[(0,.sl zi [0] sv),(2,.sl Rp.byte [0] b),(3,.sl zj [0] p),(5,.ptr 18 0),(8,.ptr 19 0)],[⟨18,64,[kS f.Name,kI f.Number,kI f.Kind,kB f.Repeated,kB f.Packed,kI f.Of]⟩,⟨19,50,[kI 0,kN,kN,kN]⟩]⟩ a w) ?_ ?_
 ·
  replace h:=h_p
  refine zp ?_
  rcases zm h with ⟨hc2,h⟩| ⟨hc2,h⟩
  ·
   refine jT hc2 ?_
   obtain ⟨v2,h_v2,h⟩:=bnd h
   refine jr (ra 4 [.sl zj [0] l,kI (IntKind.i64.wrap ((l.length:Int) - 1))] rfl (zik (some (kI (IntKind.i64.wrap ((l.length:Int) - 1)))) none rfl zni.el (zJ _ _ _) ⟨rfl,rfl⟩ ⟨rfl,rfl⟩ h_v2) rfl rf) ?_
   obtain rfl:=sj h
   exact zL lzz
  refine jF hc2 ?_
  obtain rfl:=sj h
  exact zL lzz
 refine zeF ?_
 refine jr (ra 2 [kI f.Number] rfl (zeP [kI f.Number] [kI f.Number,kN,kN,kN] rfl zCZ rfl) rfl (rfl' [20])) ?_
 refine jp ?_
 refine zA ?_
 refine jp ?_
 rcases zm h with ⟨hc3,h⟩| ⟨hc3,h⟩
 ·
  refine jT hc3 ?_
  obtain ⟨rv,h_rv,h⟩:=bnd h
  refine jr (lb 1 zf [] f (rl 2 [0] 19 Tryz.call92 (hrec_tree_subs h_rv) rf)) ?_
  refine zag ?_
  refine jp ?_
  obtain rfl:=sj h
  refine zz ?_
  refine lk [8] [19] 19 2 ?_
  refine lk [8] [2] 21 5 ?_
  refine lk [8] [2] 22 6 ?_
  refine zbX ⟨[(8,.ptr 2 0)],[⟨2,50,[kI f.Number,kN,kN,.own zd 30 5 [6] rv]⟩]⟩ (by kernel_rfl) ?_
  refine zdN 2 1 (.own (Rp.int .u64) 75 3 [] ((⟨f.Number,[],[],rv⟩:zb):zb).Words) rfl rfl (zbv (Rp.int .u64) 75 3 [] rfl) ?_
  refine zdN 2 2 (.own Rp.str 9 4 [] ((⟨f.Number,[],[],rv⟩:zb):zb).Texts) rfl rfl (zbv Rp.str 9 4 [] rfl) ?_
  exact lzz
 refine jF hc3 ?_
 refine jp ?_
 obtain ⟨p2,h_p2,h⟩:=bnd h
 refine zcT (R:=fun e a w=>e= .normal∧Sx ⟨⟨50,[]⟩,Xt,false,#[]⟩ ⟨[(2,.sl Rp.byte [0] b),(3,.sl zj [0] p),(5,.ptr 18 0),(8,.ptr 19 0),(9,.ptr 20 0),(42,kB p2)],[⟨18,64,[kS f.Name,kI f.Number,kI f.Kind,kB f.Repeated,kB f.Packed,kI f.Of]⟩,⟨19,50,[kI 0,kN,kN,kN]⟩,⟨20,50,[kI f.Number,kN,kN,kN]⟩]⟩ a w) ?_ ?_
 ·
  replace h:=h_p2
  refine zp ?_
  rcases zm h with ⟨hc4,h⟩| ⟨hc4,h⟩
  ·
   refine jT hc4 ?_
   obtain rfl:=sj h
   exact zL lzz
  refine jF hc4 ?_
  refine jp ?_
  obtain rfl:=sj h
  exact zL lzz
 refine zeF ?_
 rcases zm h with ⟨hc5,h⟩| ⟨hc5,h⟩
 ·
  refine jT hc5 ?_
  obtain ⟨rv2,h_rv2,h⟩:=bnd h
  refine jr (rl 2 [0] 21 Tryz.call93 (zwB h_rv2) rf) ?_
  refine zag ?_
  refine jp ?_
  obtain rfl:=sj h
  refine zz ?_
  refine lk [8] [19] 19 2 ?_
  refine lk [8] [2] 23 4 ?_
  refine zbX ⟨[(8,.ptr 2 0)],[⟨2,50,[kI f.Number,kN,.own Rp.str 9 4 [] rv2,kN]⟩]⟩ (by kernel_rfl) ?_
  refine zdN 2 1 (.own (Rp.int .u64) 75 3 [] ((⟨f.Number,[],rv2,[]⟩:zb):zb).Words) rfl rfl (zbv (Rp.int .u64) 75 3 [] rfl) ?_
  refine zdN 2 3 (.own zd 30 5 [6] ((⟨f.Number,[],rv2,[]⟩:zb):zb).Subs) rfl rfl (zbv zd 30 5 [6] rfl) ?_
  exact lzz
 refine jF hc5 ?_
 obtain ⟨rv3,h_rv3,h⟩:=bnd h
 refine jr (rl 4 [0] 22 Tryz.call94 (zwC h_rv3) rf) ?_
 refine zag ?_
 refine jp ?_
 obtain rfl:=sj h
 refine zz ?_
 refine lk [8] [19] 19 2 ?_
 refine lk [8] [2] 24 3 ?_
 refine zbX ⟨[(8,.ptr 2 0)],[⟨2,50,[kI f.Number,.own (Rp.int .u64) 75 3 [] rv3,kN,kN]⟩]⟩ (by kernel_rfl) ?_
 refine zdN 2 2 (.own Rp.str 9 4 [] ((⟨f.Number,rv3,[],[]⟩:zb):zb).Texts) rfl rfl (zbv Rp.str 9 4 [] rfl) ?_
 refine zdN 2 3 (.own zd 30 5 [6] ((⟨f.Number,rv3,[],[]⟩:zb):zb).Subs) rfl rfl (zbv zd 30 5 [6] rfl) ?_
 exact lzz
theorem zkM (fuel:Nat):(∀{sv:(List zh)} {message:Int} {b:(List UInt8)} {r:zc},zfm fuel sv message b=some r→FnOk Tryz.prog 33 [.sl zi [0] sv,kI message,.sl Rp.byte [0] b] [.ag [.own za 50 3 [4] r.Values,.own Rp.str 9 5 [] r.Unknown]])∧(∀{sv:(List zh)} {f:ze} {b:(List UInt8)} {l:(List zg)} {r:(List zc)},zqn fuel sv f b l=some r→FnOk Tryz.prog 92 [.sl zi [0] sv,.rc zf [0] f,.sl Rp.byte [0] b,.sl zj [0] l] [.own zd 30 2 [3] r])∧(∀{sv:(List zh)} {f:ze} {b:(List UInt8)} {l:(List zg)} {r:zb},zke fuel sv f b l=some r→FnOk Tryz.prog 61 [.sl zi [0] sv,.rc zf [0] f,.sl Rp.byte [0] b,.sl zj [0] l] [.ag [kI r.Number,.own (Rp.int .u64) 75 3 [] r.Words,.own Rp.str 9 4 [] r.Texts,.own zd 30 5 [6] r.Subs]]):=by
  induction fuel with
  | zero=>exact ⟨fun h=>absurd h nofun,fun h=>absurd h nofun,fun h=>absurd h nofun⟩
  | succ fuel ih=>exact ⟨fun h=>ztj (fun hh=>ih.1 hh) (fun hh=>ih.2.1 hh) (fun hh=>ih.2.2 hh) h,fun h=>zwA (fun hh=>ih.1 hh) (fun hh=>ih.2.1 hh) (fun hh=>ih.2.2 hh) h,fun h=>zvW (fun hh=>ih.1 hh) (fun hh=>ih.2.1 hh) (fun hh=>ih.2.2 hh) h⟩
theorem ztU {fuel:Nat} {sv:(List zh)} {message:Int} {b:(List UInt8)} {r:zc} (h:zfm fuel sv message b=some r):FnOk Tryz.prog 33 [.sl zi [0] sv,kI message,.sl Rp.byte [0] b] [.ag [.own za 50 3 [4] r.Values,.own Rp.str 9 5 [] r.Unknown]]:=(zkM fuel).1 h
end Go.Proofs.YtcbkcblkecmjnaaGreat

/-
  The Go functions do what the plain functions say. No condition.
-/
import Derived.Test.YtcbkcblkecmjnaaGreatx1G11
import Derived.Test.YtcbkcblkecmjnaaGreatx1Y
namespace Go.Proofs.YtcbkcblkecmjnaaGreat
open Go Go.RowKit
set_option linter.unusedVariables false
set_option maxRecDepth 100000
set_option maxHeartbeats 3200000
theorem ztA {f:zc} {isRun:Bool} {value:(List UInt8)} {r:Int} (h:ziC f isRun value=some r):FnOk Tryz.prog 134 [.rc za [0] f,kB isRun,.sl Rp.byte [0] value] [k8 r]:=by
 refine zB (E:=⟨[(6,k8 r)],[]⟩) 32 Tryz.func134 rfl rfl rfl ⟨rfl,trivial⟩ (fun Xt=>?_)
 refine zr ?_
 unfold ziC at h
 refine jq [11] ?_
 refine zy ?_
 refine jp ?_
 rcases zn h with ⟨hc1,h⟩| ⟨hc1,h⟩
 ·
  refine jT hc1 ?_
  obtain ⟨rv,h_rv,h⟩:=bnd h
  refine jr (rl 3 [0] 10 Tryz.call161 (zwc h_rv) rf) ?_
  refine jp ?_
  obtain rfl:=sj h
  exact zx lzz
 refine jF hc1 ?_
 obtain ⟨g,h_g,h⟩:=bnd h
 refine zS ⟨[(3,.ptr 11 0),(19,kB g)],[⟨11,64,[kS f.Name,kI f.Number,kI f.Kind,kB f.Repeated,kB f.Packed,kI f.Of]⟩]⟩ ?_ ?_
 ·
  refine (rsl 4 [] 23 (f.Kind==15) (fun hc2=>?_) (fun hc2=>?_))
  ·
   replace h_g:=iteT h_g hc2
   obtain ⟨rv2,h_rv2,h_g⟩:=bnd h_g
   obtain rfl:=sj h_g
   exact (rl 1 [0] 10 Tryz.call106 (zwv h_rv2) (rel [] lzz))
  replace h_g:=iteF h_g hc2
  obtain rfl:=sj h_g
  exact (rel [] lzz)
 rcases zn h with ⟨hc3,h⟩| ⟨hc3,h⟩
 ·
  refine jT hc3 ?_
  refine jp ?_
  obtain rfl:=sj h
  exact zx lzz
 refine jF hc3 ?_
 refine jp ?_
 rcases zn h with ⟨hc4,h⟩| ⟨hc4,h⟩
 ·
  refine jT hc4 ?_
  refine jp ?_
  obtain rfl:=sj h
  exact zx lzz
 refine jF hc4 ?_
 refine zT ?_
 refine jp ?_
 obtain rfl:=sj h
 exact zx lzz
theorem zub {k:Int} {b:(List UInt8)} {l:(List zf)} {r:(List Int)} (h:zjE k b l=some r):FnOk Tryz.prog 94 [kI k,.sl Rp.byte [0] b,.sl zg [0] l] [.own (Rp.int .u64) 75 2 [] r]:=by
 refine zB (E:=⟨[(6,.own (Rp.int .u64) 75 2 [] r)],[]⟩) 36 Tryz.func94 rfl rfl rfl ⟨rfl,trivial⟩ (fun Xt=>?_)
 refine zr ?_
 unfold zjE at h
 refine jp ?_
 refine jp ?_
 refine jp ?_
 refine zy ?_
 obtain ⟨q,h_q,h⟩:=bnd h
 refine zah (fun s:((List Int)×Int)=>zcW b k l s.1 s.2) (fun s=>⟨[(0,kI k),(1,.sl Rp.byte [0] b),(7,.own (Rp.int .u64) 75 20 [] s.1),(12,.sl zg [0] l),(13,kI (l.length:Int)),(14,kI s.2)],[]⟩) (fun o e a w=>e= .exit 0∧Sx ⟨⟨36,[]⟩,Xt,false,#[]⟩ ⟨[(7,.own (Rp.int .u64) 75 20 [] o)],[]⟩ a w) ?_ h_q ?_ ?_
 ·
  clear h
  intro s o h
  obtain ⟨all,v⟩:=s
  refine zr ?_
  replace h:zcW b k l all v=some o:=h
  unfold zcW at h
  refine jp ?_
  rcases zn h with ⟨hc1,h⟩| ⟨hc1,h⟩
  ·
   refine jT hc1 ?_
   refine zy ?_
   obtain ⟨x,h_x,h⟩:=bnd h
   refine jr (ra 0 [.sl zg [0] l,kI v] rfl (zao rfl zkN.el (zI _ _ _) h_x) rfl (ra 0 [.ep zg [0] x 0] rfl (zdm rfl ⟨Tryz.isAgg113,Tryz.sizeOf113⟩) rfl (rfl' [21]))) ?_
   obtain ⟨v2,h_v2,h⟩:=bnd h
   obtain ⟨rv,h_rv,h⟩:=bnd h
   refine jr (ra 8 [.sl Rp.byte [0] b,kI x.Record.At,kI x.Record.To] rfl (zeD (some (kI x.Record.At)) (some (kI x.Record.To)) rfl zcS.el (zI _ _ _) ⟨rfl,rfl⟩ ⟨rfl,rfl⟩ h_v2) rfl (rl 0 [0] 20 Tryz.call116 (zwd h_rv) rf)) ?_
   obtain ⟨v3,h_v3,h⟩:=bnd h
   refine jr (ra 2 [.own (Rp.int .u64) 75 20 [] all,.own (Rp.int .u64) 75 23 [] rv.1] rfl (zeA 20 [] rfl zko.el rfl (zbJ _ _ _ _ _) (zay _ _ _ _ _) h_v3 (.inl (zgy _)) rfl) rfl rf) ?_
   refine zT ?_
   refine jp ?_
   obtain rfl:=sj h
   exact zE lzz
  refine jF hc1 ?_
  obtain rfl:=sj h
  exact zai rfl lzz
 ·
  refine zbn ⟨[(0,kI k),(1,.sl Rp.byte [0] b),(7,kN),(12,.sl zg [0] l),(13,kI (l.length:Int)),(14,kI 0)],[]⟩ (by kernel_rfl) ?_
  refine zcK 7 (.own (Rp.int .u64) 75 20 [] []) rfl (zaj (Rp.int .u64) 75 20 [] rfl) ?_
  exact lzz
 refine zaI _ rfl ?_
 refine jp ?_
 obtain rfl:=sj h
 refine zx ?_
 refine lk [6] [] 20 2 ?_
 exact lzz
theorem zlQ {rec_valid_walk_message:zap→Int→Int→Int→Int→Option (zA×(List (zm×zf)))} {rec_valid_walk_value:zap→Int→zf→Int→Option (zA×(List (zm×zf)))} (hrec_valid_walk_message:∀{wv:zap} {message:Int} {fromv:Int} {tov:Int} {d:Int} {r:(zA×(List (zm×zf)))},rec_valid_walk_message wv message fromv tov d=some r→zhj Tryz.prog 87 [.ag [.sl zi [0] wv.s,.sl Rp.byte [0] wv.b,.om zk zg 2 [0] wv.met],kI message,kI fromv,kI tov,kI d] [.rc zau [] r.1] [.ag [.any,.any,.om zk zg 2 [0] r.2],.any,.any,.any,.any]) (hrec_valid_walk_value:∀{wv:zap} {message:Int} {v:zf} {d:Int} {r:(zA×(List (zm×zf)))},rec_valid_walk_value wv message v d=some r→zhj Tryz.prog 110 [.ag [.sl zi [0] wv.s,.sl Rp.byte [0] wv.b,.om zk zg 2 [0] wv.met],kI message,.rc zg [0] v,kI d] [.rc zau [] r.1] [.ag [.any,.any,.om zk zg 2 [0] r.2],.any,.any,.any]) {wv:zap} {message:Int} {fromv:Int} {tov:Int} {d:Int} {r:(zA×(List (zm×zf)))} (h:zdL rec_valid_walk_message rec_valid_walk_value wv message fromv tov d=some r):zhj Tryz.prog 87 [.ag [.sl zi [0] wv.s,.sl Rp.byte [0] wv.b,.om zk zg 2 [0] wv.met],kI message,kI fromv,kI tov,kI d] [.rc zau [] r.1] [.ag [.any,.any,.om zk zg 2 [0] r.2],.any,.any,.any,.any]:=by
 refine zja (E:=⟨[(0,.ag [.any,.any,.om zk zg 2 [0] r.2]),(10,.ptr 3 0)],[⟨3,105,[kI r.1.depth,kI r.1.place,k8 r.1.e]⟩]⟩) 49 [0] Tryz.func87 rfl rfl rfl ⟨⟨_,_,rfl,rfl,rfl,rfl,⟨Tryz.isAgg105,Tryz.sizeOf105⟩⟩,trivial⟩ ⟨.inr ⟨rfl,rfl⟩,.inl rfl,.inl rfl,.inl rfl,.inl rfl,trivial⟩ rfl (fun Xt old=>?_)
 refine zr ?_
 unfold zdL at h
 refine jq [13,14] ?_
 refine jp ?_
 refine zy ?_
 obtain ⟨q,h_q,h⟩:=bnd h
 refine zah (fun s:((List (zm×zf))×Int×Int)=>zar d message rec_valid_walk_value tov wv s.1 s.2.1 s.2.2) (fun s=>⟨[(0,.ag [.sl zi [0] wv.s,.sl Rp.byte [0] wv.b,.om zk zg 2 [0] s.1]),(1,kI message),(2,kI s.2.1),(3,kI tov),(4,kI d),(5,.ptr 13 0),(10,.ptr 14 0),(11,kI s.2.2)],[⟨13,153,[.sl zi [0] wv.s,.sl Rp.byte [0] wv.b,.om zk zg 2 [0] s.1]⟩,⟨14,105,[kI 0,kI 0,k8 0]⟩]⟩) (fun o e a w=>match o with| (.inl v_)=>e= .exit 0∧Sx ⟨⟨49,[0]⟩,Xt,false,old⟩ ⟨[(0,.ag [.sl zi [0] wv.s,.sl Rp.byte [0] wv.b,.om zk zg 2 [0] v_.1]),(10,.ptr 14 0),(11,kI v_.2)],[⟨14,105,[kI 0,kI 0,k8 0]⟩]⟩ a w| (.inr v_)=>e= .ret∧Sx ⟨⟨49,[0]⟩,Xt,false,old⟩ ⟨[(0,.ag [.sl zi [0] wv.s,.sl Rp.byte [0] wv.b,.om zk zg 2 [0] v_.1]),(10,.ptr 14 0)],[⟨14,105,[kI v_.2.1,kI v_.2.2.1,k8 v_.2.2.2]⟩]⟩ a w) ?_ h_q lzz ?_
 ·
  clear h
  intro s o h
  obtain ⟨wv2,fromv2,depth⟩:=s
  refine zr ?_
  replace h:zar d message rec_valid_walk_value tov wv wv2 fromv2 depth=some o:=h
  unfold zar at h
  refine jp ?_
  rcases zn h with ⟨hc1,h⟩| ⟨hc1,h⟩
  ·
   refine jT hc1 ?_
   refine zy ?_
   obtain ⟨rv2,h_rv2,h⟩:=bnd h
   refine jr (rkl 4 [] ⟨[(0,.ag [.sl zi [0] wv.s,.sl Rp.byte [0] wv.b,.om zk zg 2 [0] wv2]),(1,kI message),(2,kI fromv2),(3,kI tov),(4,kI d),(5,.ptr 13 0),(10,.ptr 14 0),(11,kI depth),(19,.ag [.sl zi [0] wv.s,.sl Rp.byte [0] wv.b,.om zk zg 2 [0] wv2]),(20,kI message),(21,kI fromv2),(22,kI tov)],[⟨13,153,[.sl zi [0] wv.s,.sl Rp.byte [0] wv.b,.om zk zg 2 [0] wv2]⟩,⟨14,105,[kI 0,kI 0,k8 0]⟩]⟩ (zgh ⟨[(0,.ag [.sl zi [0] wv.s,.sl Rp.byte [0] wv.b,.om zk zg 2 [0] rv2.2.2]),(1,kI message),(2,kI fromv2),(3,kI tov),(4,kI d),(5,.ptr 13 0),(10,.ptr 14 0),(11,kI depth),(19,.ag [.sl zi [0] wv.s,.sl Rp.byte [0] wv.b,.om zk zg 2 [0] rv2.2.2]),(20,kI message),(21,kI fromv2),(22,kI tov)],[⟨13,153,[.sl zi [0] wv.s,.sl Rp.byte [0] wv.b,.om zk zg 2 [0] rv2.2.2]⟩,⟨14,105,[kI 0,kI 0,k8 0]⟩]⟩ (zkj [.ag [.sl zi [0] wv.s,.sl Rp.byte [0] wv.b,.om zk zg 2 [0] wv2],kI message,kI fromv2,kI tov] [(2,2)] [0] 15 [] rfl Tryz.call109 (zoN h_rv2) rfl rfl (by kernel_rfl) rfl rfl rfl) rfl (by kernel_rfl) (by kernel_rfl) ⟨⟨_,rfl,zln ⟨zv rfl,zv rfl,zea 0 rfl,trivial⟩⟩,⟨_,rfl,zv rfl⟩,⟨_,rfl,zv rfl⟩,⟨_,rfl,zv rfl⟩,⟨_,rfl,zv rfl⟩,⟨_,rfl,zv rfl⟩,⟨_,rfl,zv rfl⟩,⟨_,rfl,zv rfl⟩,⟨_,rfl,zln ⟨zv rfl,zv rfl,zea 0 rfl,trivial⟩⟩,⟨_,rfl,zv rfl⟩,⟨_,rfl,zv rfl⟩,⟨_,rfl,zv rfl⟩,trivial⟩ ⟨⟨_,rfl,rfl,rfl,⟨zv rfl,zv rfl,zea 0 rfl,trivial⟩⟩,⟨_,rfl,rfl,rfl,⟨zv rfl,zv rfl,zv rfl,trivial⟩⟩,trivial⟩ (rfl' [18]))) ?_
   refine jp ?_
   rcases zn h with ⟨hc2,h⟩| ⟨hc2,h⟩
   ·
    refine jT hc2 ?_
    refine jr (rc 2 rfl (zX (r:=zau) [kI fromv2,k8 rv2.2.1] [] (⟨0,fromv2,rv2.2.1⟩:zA) rfl zqA rfl rfl) rf) ?_
    obtain rfl:=sj h
    exact zbq lzz
   refine jF hc2 ?_
   obtain ⟨rv4,h_rv4,h⟩:=bnd h
   refine jr (lb 2 zg [] rv2.1 (rkl 1 [] ⟨[(0,.ag [.sl zi [0] wv.s,.sl Rp.byte [0] wv.b,.om zk zg 2 [0] rv2.2.2]),(1,kI message),(3,kI tov),(4,kI d),(5,.ptr 13 0),(10,.ptr 14 0),(11,kI depth),(12,.ptr 18 0),(31,.ag [.sl zi [0] wv.s,.sl Rp.byte [0] wv.b,.om zk zg 2 [0] rv2.2.2]),(32,kI message),(33,.rc zg [] rv2.1),(34,kI d)],[⟨13,153,[.sl zi [0] wv.s,.sl Rp.byte [0] wv.b,.om zk zg 2 [0] rv2.2.2]⟩,⟨14,105,[kI 0,kI 0,k8 0]⟩,⟨18,113,[kI rv2.1.Record.Number,kI rv2.1.Record.Wire,kI rv2.1.Record.From,kI rv2.1.Record.At,kI rv2.1.Record.To,kI rv2.1.Field,kB rv2.1.Run]⟩]⟩ (zgh ⟨[(0,.ag [.sl zi [0] wv.s,.sl Rp.byte [0] wv.b,.om zk zg 2 [0] rv4.2]),(1,kI message),(3,kI tov),(4,kI d),(5,.ptr 13 0),(10,.ptr 14 0),(11,kI depth),(12,.ptr 18 0),(31,.ag [.sl zi [0] wv.s,.sl Rp.byte [0] wv.b,.om zk zg 2 [0] rv4.2]),(32,kI message),(33,.rc zg [] rv2.1),(34,kI d)],[⟨13,153,[.sl zi [0] wv.s,.sl Rp.byte [0] wv.b,.om zk zg 2 [0] rv4.2]⟩,⟨14,105,[kI 0,kI 0,k8 0]⟩,⟨18,113,[kI rv2.1.Record.Number,kI rv2.1.Record.Wire,kI rv2.1.Record.From,kI rv2.1.Record.At,kI rv2.1.Record.To,kI rv2.1.Field,kB rv2.1.Run]⟩]⟩ (zkj [.ag [.sl zi [0] wv.s,.sl Rp.byte [0] wv.b,.om zk zg 2 [0] rv2.2.2],kI message,.rc zg [] rv2.1,kI d] [(2,2)] [0] 18 [] rfl Tryz.call110 (hrec_valid_walk_value h_rv4) rfl rfl (by kernel_rfl) rfl rfl rfl) rfl (by kernel_rfl) (by kernel_rfl) ⟨⟨_,rfl,zln ⟨zv rfl,zv rfl,zea 0 rfl,trivial⟩⟩,⟨_,rfl,zv rfl⟩,⟨_,rfl,zv rfl⟩,⟨_,rfl,zv rfl⟩,⟨_,rfl,zv rfl⟩,⟨_,rfl,zv rfl⟩,⟨_,rfl,zv rfl⟩,⟨_,rfl,zv rfl⟩,⟨_,rfl,zln ⟨zv rfl,zv rfl,zea 0 rfl,trivial⟩⟩,⟨_,rfl,zv rfl⟩,⟨_,rfl,zv rfl⟩,⟨_,rfl,zv rfl⟩,trivial⟩ ⟨⟨_,rfl,rfl,rfl,⟨zv rfl,zv rfl,zea 0 rfl,trivial⟩⟩,⟨_,rfl,rfl,rfl,⟨zv rfl,zv rfl,zv rfl,trivial⟩⟩,⟨_,rfl,rfl,rfl,⟨zv rfl,zv rfl,zv rfl,zv rfl,zv rfl,zv rfl,zv rfl,trivial⟩⟩,trivial⟩ (rfl' [21])))) ?_
   refine jp ?_
   rcases zn h with ⟨hc3,h⟩| ⟨hc3,h⟩
   ·
    refine jT hc3 ?_
    refine jr (lb 0 zau [] rv4.1 rf) ?_
    obtain rfl:=sj h
    exact zbq lzz
   refine jF hc3 ?_
   refine jp ?_
   refine jp ?_
   refine zT ?_
   obtain rfl:=sj h
   exact zE lzz
  refine jF hc1 ?_
  obtain rfl:=sj h
  exact zai rfl lzz
 rcases q with u| u2
 ·
  refine zaI _ rfl ?_
  refine jr (rc 1 rfl (zX (r:=zau) [kI u.2] [] (⟨u.2,0,0⟩:zA) rfl zqA rfl rfl) rf) ?_
  obtain rfl:=sj h
  refine zgd ?_
  refine lk [0,10] [14] 14 3 ?_
  refine zbn ⟨[(0,.ag [.sl zi [0] wv.s,.sl Rp.byte [0] wv.b,.om zk zg 2 [0] u.1]),(10,.ptr 3 0)],[⟨3,105,[kI u.2,kI 0,k8 0]⟩]⟩ (by kernel_rfl) ?_
  refine zcK 0 (.ag [.any,.any,.om zk zg 2 [0] (((⟨u.2,0,0⟩:zA),u.1):(zA×(List (zm×zf)))).2]) rfl (zgn ⟨zbr _,zbr _,AV.le_refl _,trivial⟩) ?_
  exact lzz
 obtain rfl:=sj h
 refine zGi ?_
 refine lk [0,10] [14] 14 3 ?_
 refine zbn ⟨[(0,.ag [.sl zi [0] wv.s,.sl Rp.byte [0] wv.b,.om zk zg 2 [0] u2.1]),(10,.ptr 3 0)],[⟨3,105,[kI u2.2.1,kI u2.2.2.1,k8 u2.2.2.2]⟩]⟩ (by kernel_rfl) ?_
 refine zcK 0 (.ag [.any,.any,.om zk zg 2 [0] (((⟨u2.2.1,u2.2.2.1,u2.2.2.2⟩:zA),u2.1):(zA×(List (zm×zf)))).2]) rfl (zgn ⟨zbr _,zbr _,AV.le_refl _,trivial⟩) ?_
 exact lzz
theorem znk {rec_valid_walk_message:zap→Int→Int→Int→Int→Option (zA×(List (zm×zf)))} {rec_valid_walk_value:zap→Int→zf→Int→Option (zA×(List (zm×zf)))} (hrec_valid_walk_message:∀{wv:zap} {message:Int} {fromv:Int} {tov:Int} {d:Int} {r:(zA×(List (zm×zf)))},rec_valid_walk_message wv message fromv tov d=some r→zhj Tryz.prog 87 [.ag [.sl zi [0] wv.s,.sl Rp.byte [0] wv.b,.om zk zg 2 [0] wv.met],kI message,kI fromv,kI tov,kI d] [.rc zau [] r.1] [.ag [.any,.any,.om zk zg 2 [0] r.2],.any,.any,.any,.any]) (hrec_valid_walk_value:∀{wv:zap} {message:Int} {v:zf} {d:Int} {r:(zA×(List (zm×zf)))},rec_valid_walk_value wv message v d=some r→zhj Tryz.prog 110 [.ag [.sl zi [0] wv.s,.sl Rp.byte [0] wv.b,.om zk zg 2 [0] wv.met],kI message,.rc zg [0] v,kI d] [.rc zau [] r.1] [.ag [.any,.any,.om zk zg 2 [0] r.2],.any,.any,.any]) {wv:zap} {message:Int} {v:zf} {d:Int} {r:(zA×(List (zm×zf)))} (h:zdy rec_valid_walk_message rec_valid_walk_value wv message v d=some r):zhj Tryz.prog 110 [.ag [.sl zi [0] wv.s,.sl Rp.byte [0] wv.b,.om zk zg 2 [0] wv.met],kI message,.rc zg [0] v,kI d] [.rc zau [] r.1] [.ag [.any,.any,.om zk zg 2 [0] r.2],.any,.any,.any]:=by
 refine zja (E:=⟨[(0,.ag [.any,.any,.om zk zg 2 [0] r.2]),(8,.ptr 3 0)],[⟨3,105,[kI r.1.depth,kI r.1.place,k8 r.1.e]⟩]⟩) 71 [0] Tryz.func110 rfl rfl rfl ⟨⟨_,_,rfl,rfl,rfl,rfl,⟨Tryz.isAgg105,Tryz.sizeOf105⟩⟩,trivial⟩ ⟨.inr ⟨rfl,rfl⟩,.inl rfl,.inl rfl,.inl rfl,trivial⟩ rfl (fun Xt old=>?_)
 refine zr ?_
 unfold zdy at h
 refine jq [14,15,16] ?_
 refine jp ?_
 rcases zn h with ⟨hc1,h⟩| ⟨hc1,h⟩
 ·
  refine jT hc1 ?_
  refine jr (rc 0 rfl (zX (r:=zau) [] [] (⟨0,0,0⟩:zA) rfl zqA rfl rfl) rf) ?_
  obtain rfl:=sj h
  refine zgd ?_
  refine lk [0,8] [16] 16 3 ?_
  refine zbn ⟨[(0,.ag [.sl zi [0] wv.s,.sl Rp.byte [0] wv.b,.om zk zg 2 [0] wv.met]),(8,.ptr 3 0)],[⟨3,105,[kI 0,kI 0,k8 0]⟩]⟩ (by kernel_rfl) ?_
  refine zcK 0 (.ag [.any,.any,.om zk zg 2 [0] (((⟨0,0,0⟩:zA),wv.met):(zA×(List (zm×zf)))).2]) rfl (zgn ⟨zbr _,zbr _,AV.le_refl _,trivial⟩) ?_
  exact lzz
 refine jF hc1 ?_
 obtain ⟨x,h_x,h⟩:=bnd h
 obtain ⟨x2,h_x2,h⟩:=bnd h
 refine jd [0,3,4,6,8,9] [14,15,16,17] zcy (by exact (lw_e (lw_e (lw_e (ly [.sl zi [0] wv.s,kI message] (zao rfl zgu.el (zI _ _ _) h_x) rfl (lw_e (ly [.ep zi [0] x 1] (zga za x.Fields rfl rfl rfl) rfl (lw_e (lw_e (ly [.sl za [0] x.Fields,kI v.Field] (zao rfl ziD.el (zI _ _ _) h_x2) rfl (ly [.ep za [0] x2 0] (zdm rfl ⟨Tryz.isAgg64,Tryz.sizeOf64⟩) rfl (lx (zkY 17 [kS [],kI 0,kI 0,kB false,kB false,kI 0] rfl Tryz.zeroValue64 rfl) (ly [.ptr 17 0,.rc za [0] x2] (zkG (r:=za) (b:=⟨17,64,[kS [],kI 0,kI 0,kB false,kB false,kI 0]⟩) (off:=0) [kS x2.Name,kI x2.Number,kI x2.Kind,kB x2.Repeated,kB x2.Packed,kI x2.Of] rfl Tryz.sizeOf64 rfl rfl rfl rfl) rfl l0))))))))))))) ?_
 refine zS ⟨[(0,.ag [.sl zi [0] wv.s,.sl Rp.byte [0] wv.b,.om zk zg 2 [0] wv.met]),(3,kI d),(4,.ptr 14 0),(6,.ptr 15 0),(8,.ptr 16 0),(9,.ptr 17 0),(32,kB ((x2.Kind==17)&&(decide (d>0))))],[⟨14,153,[.sl zi [0] wv.s,.sl Rp.byte [0] wv.b,.om zk zg 2 [0] wv.met]⟩,⟨15,113,[kI v.Record.Number,kI v.Record.Wire,kI v.Record.From,kI v.Record.At,kI v.Record.To,kI v.Field,kB v.Run]⟩,⟨16,105,[kI 0,kI 0,k8 0]⟩,⟨17,64,[kS x2.Name,kI x2.Number,kI x2.Kind,kB x2.Repeated,kB x2.Packed,kI x2.Of]⟩]⟩ ?_ ?_
 ·
  refine (rsl 4 [] 29 (x2.Kind==17) (fun hc2=>?_) (fun hc2=>?_))
  · exact (rbl [] 32 (decide (d>0)) ((x2.Kind==17)&&(decide (d>0))) (by rw [hc2]<;>rfl))
  exact (rbl [] 32 false ((x2.Kind==17)&&(decide (d>0))) (by rw [hc2]<;>rfl))
 rcases zn h with ⟨hc3,h⟩| ⟨hc3,h⟩
 ·
  refine jT hc3 ?_
  obtain ⟨rv2,h_rv2,h⟩:=bnd h
  refine jr (rkl 11 [] ⟨[(0,.ag [.sl zi [0] wv.s,.sl Rp.byte [0] wv.b,.om zk zg 2 [0] wv.met]),(8,.ptr 16 0),(33,.ag [.sl zi [0] wv.s,.sl Rp.byte [0] wv.b,.om zk zg 2 [0] wv.met]),(35,kI x2.Of),(38,kI v.Record.At),(41,kI v.Record.To),(43,kI (IntKind.i64.wrap (d - 1)))],[⟨16,105,[kI 0,kI 0,k8 0]⟩]⟩ (zgh ⟨[(0,.ag [.sl zi [0] wv.s,.sl Rp.byte [0] wv.b,.om zk zg 2 [0] rv2.2]),(8,.ptr 16 0),(33,.ag [.sl zi [0] wv.s,.sl Rp.byte [0] wv.b,.om zk zg 2 [0] rv2.2]),(35,kI x2.Of),(38,kI v.Record.At),(41,kI v.Record.To),(43,kI (IntKind.i64.wrap (d - 1)))],[⟨16,105,[kI 0,kI 0,k8 0]⟩]⟩ (zkj [.ag [.sl zi [0] wv.s,.sl Rp.byte [0] wv.b,.om zk zg 2 [0] wv.met],kI x2.Of,kI v.Record.At,kI v.Record.To,kI (IntKind.i64.wrap (d - 1))] [(2,2)] [0] 17 [] rfl Tryz.call87 (hrec_valid_walk_message h_rv2) rfl rfl (by kernel_rfl) rfl rfl rfl) rfl (by kernel_rfl) (by kernel_rfl) ⟨⟨_,rfl,zln ⟨zv rfl,zv rfl,zea 0 rfl,trivial⟩⟩,⟨_,rfl,zv rfl⟩,⟨_,rfl,zln ⟨zv rfl,zv rfl,zea 0 rfl,trivial⟩⟩,⟨_,rfl,zv rfl⟩,⟨_,rfl,zv rfl⟩,⟨_,rfl,zv rfl⟩,⟨_,rfl,zv rfl⟩,trivial⟩ ⟨⟨_,rfl,rfl,rfl,⟨zv rfl,zv rfl,zv rfl,trivial⟩⟩,trivial⟩ (rfl' [20]))) ?_
  refine jp ?_
  refine jr (lb 0 zau [] (⟨(IntKind.i64.wrap (rv2.1.depth+1)),rv2.1.place,rv2.1.e⟩:zA) rf) ?_
  obtain rfl:=sj h
  refine zgd ?_
  refine lk [0,8] [16] 16 3 ?_
  refine zbn ⟨[(0,.ag [.sl zi [0] wv.s,.sl Rp.byte [0] wv.b,.om zk zg 2 [0] rv2.2]),(8,.ptr 3 0)],[⟨3,105,[kI (IntKind.i64.wrap (rv2.1.depth+1)),kI rv2.1.place,k8 rv2.1.e]⟩]⟩ (by kernel_rfl) ?_
  refine zcK 0 (.ag [.any,.any,.om zk zg 2 [0] (((⟨(IntKind.i64.wrap (rv2.1.depth+1)),rv2.1.place,rv2.1.e⟩:zA),rv2.2):(zA×(List (zm×zf)))).2]) rfl (zgn ⟨zbr _,zbr _,AV.le_refl _,trivial⟩) ?_
  exact lzz
 refine jF hc3 ?_
 obtain ⟨v3,h_v3,h⟩:=bnd h
 obtain ⟨rv3,h_rv3,h⟩:=bnd h
 refine jd [0,6,8,11] [15,16] zcy (by exact (ly [.ptr 17 0] (zyP (r:=za) (b:=⟨17,64,[kS x2.Name,kI x2.Number,kI x2.Kind,kB x2.Repeated,kB x2.Packed,kI x2.Of]⟩) x2 [] rfl ⟨Tryz.isAgg64,Tryz.sizeOf64⟩ rfl rfl) rfl (lw_e (lw_e (lw_e (lw_e (lw_e (lw_e (lw_e (lw_e (lw_e (lw_e (ly [.sl Rp.byte [0] wv.b,kI v.Record.At,kI v.Record.To] (zeD (some (kI v.Record.At)) (some (kI v.Record.To)) rfl zcS.el (zI _ _ _) ⟨rfl,rfl⟩ ⟨rfl,rfl⟩ h_v3) rfl (lx (lf1 134 (zce [.rc za [] x2,kB v.Run,.sl Rp.byte [0] v3] [0] 19 rfl Tryz.call134 (ztA h_rv3) rfl rfl rfl rfl rfl)) l0)))))))))))))) ?_
 refine jp ?_
 rcases zn h with ⟨hc4,h⟩| ⟨hc4,h⟩
 ·
  refine jT hc4 ?_
  refine jr (rc 4 rfl (zX (r:=zau) [kI v.Record.From,k8 rv3] [] (⟨0,v.Record.From,rv3⟩:zA) rfl zqA rfl rfl) rf) ?_
  obtain rfl:=sj h
  refine zgd ?_
  refine lk [0,8] [16] 16 3 ?_
  refine zbn ⟨[(0,.ag [.sl zi [0] wv.s,.sl Rp.byte [0] wv.b,.om zk zg 2 [0] wv.met]),(8,.ptr 3 0)],[⟨3,105,[kI 0,kI v.Record.From,k8 rv3]⟩]⟩ (by kernel_rfl) ?_
  refine zcK 0 (.ag [.any,.any,.om zk zg 2 [0] (((⟨0,v.Record.From,rv3⟩:zA),wv.met):(zA×(List (zm×zf)))).2]) rfl (zgn ⟨zbr _,zbr _,AV.le_refl _,trivial⟩) ?_
  exact lzz
 refine jF hc4 ?_
 refine jr (rc 0 rfl (zX (r:=zau) [] [] (⟨0,0,0⟩:zA) rfl zqA rfl rfl) rf) ?_
 obtain rfl:=sj h
 refine zgd ?_
 refine lk [0,8] [16] 16 3 ?_
 refine zbn ⟨[(0,.ag [.sl zi [0] wv.s,.sl Rp.byte [0] wv.b,.om zk zg 2 [0] wv.met]),(8,.ptr 3 0)],[⟨3,105,[kI 0,kI 0,k8 0]⟩]⟩ (by kernel_rfl) ?_
 refine zcK 0 (.ag [.any,.any,.om zk zg 2 [0] (((⟨0,0,0⟩:zA),wv.met):(zA×(List (zm×zf)))).2]) rfl (zgn ⟨zbr _,zbr _,AV.le_refl _,trivial⟩) ?_
 exact lzz
theorem zfI (fuel:Nat):(∀{wv:zap} {message:Int} {fromv:Int} {tov:Int} {d:Int} {r:(zA×(List (zm×zf)))},zbf fuel wv message fromv tov d=some r→zhj Tryz.prog 87 [.ag [.sl zi [0] wv.s,.sl Rp.byte [0] wv.b,.om zk zg 2 [0] wv.met],kI message,kI fromv,kI tov,kI d] [.rc zau [] r.1] [.ag [.any,.any,.om zk zg 2 [0] r.2],.any,.any,.any,.any])∧(∀{wv:zap} {message:Int} {v:zf} {d:Int} {r:(zA×(List (zm×zf)))},zdx fuel wv message v d=some r→zhj Tryz.prog 110 [.ag [.sl zi [0] wv.s,.sl Rp.byte [0] wv.b,.om zk zg 2 [0] wv.met],kI message,.rc zg [0] v,kI d] [.rc zau [] r.1] [.ag [.any,.any,.om zk zg 2 [0] r.2],.any,.any,.any]):=by
  induction fuel with
  | zero=>exact ⟨fun h=>absurd h nofun,fun h=>absurd h nofun⟩
  | succ fuel ih=>exact ⟨fun h=>zlQ (fun hh=>ih.1 hh) (fun hh=>ih.2 hh) h,fun h=>znk (fun hh=>ih.1 hh) (fun hh=>ih.2 hh) h⟩
theorem zmu {fuel:Nat} {wv:zap} {message:Int} {fromv:Int} {tov:Int} {d:Int} {r:(zA×(List (zm×zf)))} (h:zbf fuel wv message fromv tov d=some r):zhj Tryz.prog 87 [.ag [.sl zi [0] wv.s,.sl Rp.byte [0] wv.b,.om zk zg 2 [0] wv.met],kI message,kI fromv,kI tov,kI d] [.rc zau [] r.1] [.ag [.any,.any,.om zk zg 2 [0] r.2],.any,.any,.any,.any]:=(zfI fuel).1 h
theorem zqE {rec_tree_meaning:(List zh)→Int→(List UInt8)→Option ze} {rec_tree_subs:(List zh)→zc→(List UInt8)→(List zf)→Option (List ze)} {rec_tree_value:(List zh)→zc→(List UInt8)→(List zf)→Option zb} (hrec_tree_meaning:∀{sv:(List zh)} {message:Int} {b:(List UInt8)} {r:ze},rec_tree_meaning sv message b=some r→FnOk Tryz.prog 33 [.sl zi [0] sv,kI message,.sl Rp.byte [0] b] [.ag [.own zd 50 3 [4] r.Values,.own Rp.str 9 5 [] r.Unknown]]) (hrec_tree_subs:∀{sv:(List zh)} {f:zc} {b:(List UInt8)} {l:(List zf)} {r:(List ze)},rec_tree_subs sv f b l=some r→FnOk Tryz.prog 92 [.sl zi [0] sv,.rc za [0] f,.sl Rp.byte [0] b,.sl zg [0] l] [.own zj 30 2 [3] r]) (hrec_tree_value:∀{sv:(List zh)} {f:zc} {b:(List UInt8)} {l:(List zf)} {r:zb},rec_tree_value sv f b l=some r→FnOk Tryz.prog 61 [.sl zi [0] sv,.rc za [0] f,.sl Rp.byte [0] b,.sl zg [0] l] [.ag [kI r.Number,.own (Rp.int .u64) 75 3 [] r.Words,.own Rp.str 9 4 [] r.Texts,.own zj 30 5 [6] r.Subs]]) {sv:(List zh)} {message:Int} {b:(List UInt8)} {r:ze} (h:zgr rec_tree_meaning rec_tree_subs rec_tree_value sv message b=some r):FnOk Tryz.prog 33 [.sl zi [0] sv,kI message,.sl Rp.byte [0] b] [.ag [.own zd 50 3 [4] r.Values,.own Rp.str 9 5 [] r.Unknown]]:=by
 refine zB (E:=⟨[(6,.ptr 2 0)],[⟨2,30,[.own zd 50 3 [4] r.Values,.own Rp.str 9 5 [] r.Unknown]⟩]⟩) 101 Tryz.func33 rfl rfl rfl ⟨⟨_,_,rfl,rfl,rfl,⟨Tryz.isAgg30,Tryz.sizeOf30⟩⟩,trivial⟩ (fun Xt=>?_)
 refine zr ?_
 unfold zgr at h
 refine jq [33] ?_
 obtain ⟨x,h_x,h⟩:=bnd h
 refine jr (ra 2 [.sl zi [0] sv,kI message] rfl (zao rfl zgu.el (zI _ _ _) h_x) rfl (ra 0 [.ep zi [0] x 0] rfl (zdm rfl ⟨Tryz.isAgg73,Tryz.sizeOf73⟩) rfl (ral 1 [34] [.ptr 34 0,.rc zi [0] x] rfl (zkG (r:=zi) (b:=⟨34,73,[kS [],kN]⟩) (off:=0) [kS x.Name,.sl za [0] x.Fields] rfl Tryz.sizeOf73 rfl rfl rfl rfl) rfl rf))) ?_
 obtain ⟨rv,h_rv,h⟩:=bnd h
 refine jr (rl 2 [0] 33 Tryz.call58 (zyf h_rv) rf) ?_
 refine jq [36] ?_
 refine jr (ra 0 [] rfl (zEu (rk:=(Rp.int .i64)) (r:=zg) (e:=113) 37 rfl) rfl rf) ?_
 refine jp ?_
 refine zy ?_
 obtain ⟨q,h_q,h⟩:=bnd h
 refine zah (fun s:((List (Int×(List zf)))×Int×(List Str))=>zbM b rv s.1 s.2.1 s.2.2) (fun s=>⟨[(0,.sl zi [0] sv),(2,.sl Rp.byte [0] b),(6,.ptr 33 0),(7,.ptr 34 0),(11,.ptr 36 0),(12,.mo (Rp.int .i64) zg 113 37 [] s.1),(31,.own zg 113 35 [] rv.1),(32,kI (rv.1.length:Int)),(33,kI s.2.1)],[⟨33,30,[kN,kN]⟩,⟨34,73,[kS x.Name,.sl za [0] x.Fields]⟩,⟨36,30,[kN,.own Rp.str 9 41 [] s.2.2]⟩]⟩) (fun o e a w=>e= .exit 0∧Sx ⟨⟨101,[]⟩,Xt,false,#[]⟩ ⟨[(0,.sl zi [0] sv),(2,.sl Rp.byte [0] b),(6,.ptr 33 0),(7,.ptr 34 0),(11,.ptr 36 0),(12,.mo (Rp.int .i64) zg 113 37 [] o.1)],[⟨33,30,[kN,kN]⟩,⟨34,73,[kS x.Name,.sl za [0] x.Fields]⟩,⟨36,30,[kN,.own Rp.str 9 41 [] o.2]⟩]⟩ a w) ?_ h_q ?_ ?_
 ·
  clear h
  intro s o h
  obtain ⟨known,v,f⟩:=s
  refine zr ?_
  replace h:zbM b rv known v f=some o:=h
  unfold zbM at h
  refine jp ?_
  rcases zn h with ⟨hc1,h⟩| ⟨hc1,h⟩
  ·
   refine jT hc1 ?_
   refine zy ?_
   obtain ⟨x2,h_x2,h⟩:=bnd h
   refine jr (ra 0 [.own zg 113 35 [] rv.1,kI v] rfl (zao rfl zkN.el (zay _ _ _ _ _) h_x2) rfl (ra 0 [.ep zg [35] x2 0] rfl (zdm rfl ⟨Tryz.isAgg113,Tryz.sizeOf113⟩) rfl (rfl' [42]))) ?_
   refine jp ?_
   rcases zn h with ⟨hc2,h⟩| ⟨hc2,h⟩
   ·
    refine jT hc2 ?_
    obtain ⟨v2,h_v2,h⟩:=bnd h
    obtain ⟨v3,h_v3,h⟩:=bnd h
    refine jd [0,2,6,7,11,12,31,32,33] [33,34,36] zcy (by exact (lw_e (lw_e (lw_e (lw_e (lw_e (lw_e (lw_e (lw_e (lw_e (ly [.sl Rp.byte [0] b,kI x2.Record.From,kI x2.Record.To] (zeD (some (kI x2.Record.From)) (some (kI x2.Record.To)) rfl zcS.el (zI _ _ _) ⟨rfl,rfl⟩ ⟨rfl,rfl⟩ h_v2) rfl (ly [.sl Rp.byte [0] v2] (zqi rfl Tryz.underlying24 Tryz.underlying5 Tryz.underlying9 (zI _ _ _)) rfl (lx (zcP [kS v2] 43 [] ([v2]:(List Str)) rfl zkn rfl rfl rfl rfl) (ly [.own Rp.str 9 41 [] f,.own Rp.str 9 43 [] ([v2]:(List Str))] (zH.withBx (zeA 41 [] rfl zkn.el rfl (zbJ _ _ _ _ _) (zay _ _ _ _ _) h_v3 (.inl znE) rfl) ⟨36,30,[kN,.own Rp.str 9 41 [] f]⟩ rfl rfl) rfl (lw_e (ly [.ptr 36 1,.own Rp.str 9 41 [] v3] (zqj (b:=⟨36,30,[kN,.any]⟩) (off:=1) rfl Tryz.sizeOf28 rfl rfl rfl) rfl l0)))))))))))))))) ?_
    refine zzS _ rfl ?_
    refine jp ?_
    obtain rfl:=sj h
    exact zE lzz
   refine jF hc2 ?_
   obtain ⟨v4,h_v4,h⟩:=bnd h
   refine jk [0,2,6,7,11,12,14,31,32,33,39] [33,34,36,42] ?_
   refine zzR ⟨[(0,.sl zi [0] sv),(2,.sl Rp.byte [0] b),(6,.ptr 33 0),(7,.ptr 34 0),(11,.ptr 36 0),(12,.mo (Rp.int .i64) zg 113 37 [] (mput known x2.Record.Number v4)),(31,.own zg 113 35 [] rv.1),(32,kI (rv.1.length:Int)),(33,kI v)],[⟨33,30,[kN,kN]⟩,⟨34,73,[kS x.Name,.sl za [0] x.Fields]⟩,⟨36,30,[kN,.own Rp.str 9 41 [] f]⟩]⟩ [.raw [15] [] [] [.ms 54 37],.ev,.ev,.ev,.raw [19] [] [] [.ms 58 37],.ev,.ev,.ev,.raw [3,13,0] [] [] [.lk 62 (Rp.int .i64) zg 113 37 [] known x2.Record.Number],.ex [42] [] [] (.rc zg [] x2) [],.ex [] [] [44] (.own zg 113 44 [] ([x2]:(List zf))) [],.raw [2,0] [37] [] [.ap 65 (Rp.int .i64) zg 113 37 [] known x2.Record.Number v4],.raw [0,10,7,25] [37] [] [.sl 12 (.mo (Rp.int .i64) zg 113 37 [] (mput known x2.Record.Number v4))]] [⟨[],[],[.ms 12 37]⟩,⟨[],[],[.ms 12 37]⟩,⟨[],[],[.ms 58 37,.sl 12 (.mo (Rp.int .i64) zg 113 37 [] known),.sl 61 (kI x2.Record.Number)]⟩,⟨[(.tmp 14,.ptr 42 0)],[⟨42,113,[kI x2.Record.Number,kI x2.Record.Wire,kI x2.Record.From,kI x2.Record.At,kI x2.Record.To,kI x2.Field,kB x2.Run]⟩],[]⟩,⟨[(.tmp 63,.rc zg [] x2)],[],[]⟩,⟨[],[],[.lk 62 (Rp.int .i64) zg 113 37 [] known x2.Record.Number,.sl 64 (.own zg 113 44 [] ([x2]:(List zf)))]⟩,⟨[],[],[.ap 65 (Rp.int .i64) zg 113 37 [] known x2.Record.Number v4,.ms 54 37,.sl 57 (kI x2.Record.Number),.ms 12 37]⟩] [0,2,6,7,11,12,31,32,33] [33,34,36] zcy (by kernel_rfl) (by exact (lw_r (zDb 12 54 37 (.inl rfl) rfl) (lw_e (lw_e (lw_e (lw_r (zDb 12 58 37 (.inl rfl) rfl) (lw_e (lw_e (lw_e (lw_r (zFJ (z:= .tmp 61) 12 58 62 rfl rfl zvP (zeb rfl rfl) trivial) (lw_x (zFg (zyP (r:=zg) (b:=⟨42,113,[kI x2.Record.Number,kI x2.Record.Wire,kI x2.Record.From,kI x2.Record.At,kI x2.Record.To,kI x2.Field,kB x2.Run]⟩) x2 [] rfl ⟨Tryz.isAgg113,Tryz.sizeOf113⟩ rfl rfl) rfl) (lw_x (zFg (zcP [.rc zg [] x2] 44 [] ([x2]:(List zf)) rfl zkN rfl rfl rfl rfl) rfl) (lw_r (zFI (y:= .tmp 64) [] 62 65 rfl rfl zkN.el rfl (zay _ _ _ _ _) trivial h_v4 (.inl zhp) rfl) (lw_r (zEC (z:= .tmp 57) 65 54 [12] rfl rfl zvP (zeb rfl rfl) trivial rfl) lw_0)))))))))))))) ?_
   refine zT ?_
   refine jp ?_
   obtain rfl:=sj h
   exact zE lzz
  refine jF hc1 ?_
  obtain rfl:=sj h
  exact zai rfl lzz
 ·
  refine zbn ⟨[(0,.sl zi [0] sv),(2,.sl Rp.byte [0] b),(6,.ptr 33 0),(7,.ptr 34 0),(11,.ptr 36 0),(12,.mo (Rp.int .i64) zg 113 37 [] ([]:(List (Int×(List zf))))),(31,.own zg 113 35 [] rv.1),(32,kI (rv.1.length:Int)),(33,kI 0)],[⟨33,30,[kN,kN]⟩,⟨34,73,[kS x.Name,.sl za [0] x.Fields]⟩,⟨36,30,[kN,kN]⟩]⟩ (by kernel_rfl) ?_
  refine zex 36 1 (.own Rp.str 9 41 [] []) rfl rfl (zaj Rp.str 9 41 [] rfl) ?_
  exact lzz
 refine zaI _ rfl ?_
 obtain ⟨v5,h_v5,h⟩:=bnd h
 refine jr (rkl 1 [] ⟨[(0,.sl zi [0] sv),(2,.sl Rp.byte [0] b),(6,.ptr 33 0),(7,.ptr 34 0),(11,.ptr 36 0),(12,.mo (Rp.int .i64) zg 113 37 [] q.1),(67,.mo (Rp.int .i64) zg 113 37 [] q.1)],[⟨33,30,[kN,kN]⟩,⟨34,73,[kS x.Name,.sl za [0] x.Fields]⟩,⟨36,30,[kN,.own Rp.str 9 41 [] q.2]⟩]⟩ (zxO (rv:=(Rp.list zg)) (m:=q.1) 45 zEF rfl rfl rfl rfl rfl rfl Tryz.call60 Tryz.call59 rfl (zzN _ _ _ _ _ _) h_v5 rfl rf)) ?_
 refine zy ?_
 obtain ⟨q2,h_q2,h⟩:=bnd h
 refine zah (fun s:(Int×(List zb))=>zbN b q rec_tree_value sv v5 x s.1 s.2) (fun s=>⟨[(0,.sl zi [0] sv),(2,.sl Rp.byte [0] b),(6,.ptr 33 0),(7,.ptr 34 0),(11,.ptr 36 0),(12,.mo (Rp.int .i64) zg 113 37 [] q.1),(69,.own (Rp.int .i64) 3 45 [] v5),(70,kI (v5.length:Int)),(71,kI s.1)],[⟨33,30,[kN,kN]⟩,⟨34,73,[kS x.Name,.sl za [0] x.Fields]⟩,⟨36,30,[.own zd 50 54 [46] s.2,.own Rp.str 9 41 [] q.2]⟩]⟩) (fun o e a w=>e= .exit 2∧Sx ⟨⟨101,[]⟩,Xt,false,#[]⟩ ⟨[(6,.ptr 33 0),(11,.ptr 36 0)],[⟨33,30,[kN,kN]⟩,⟨36,30,[.own zd 50 54 [46] o,.own Rp.str 9 41 [] q.2]⟩]⟩ a w) ?_ h_q2 ?_ ?_
 ·
  clear h
  intro s o h
  obtain ⟨v6,f3⟩:=s
  refine zr ?_
  replace h:zbN b q rec_tree_value sv v5 x v6 f3=some o:=h
  unfold zbN at h
  refine jp ?_
  rcases zn h with ⟨hc3,h⟩| ⟨hc3,h⟩
  ·
   refine jT hc3 ?_
   refine zy ?_
   obtain ⟨x3,h_x3,h⟩:=bnd h
   refine jr (ra 0 [.own (Rp.int .i64) 3 45 [] v5,kI v6] rfl (zao rfl zhD.el (zay _ _ _ _ _) h_x3) rfl rf) ?_
   refine jr (ra 2 [.mo (Rp.int .i64) zg 113 37 [] q.1,kI x3] rfl (zrJ (rk:=(Rp.int .i64)) (rv:=(Rp.list zg)) (m:=q.1) (k:=x3) (.sl zg [37] ((mget q.1 x3).getD [])) rfl zvP (zzN _ _ _ _ _ _) (zeb rfl rfl) (zEa _ _ _)) rfl rf) ?_
   obtain ⟨x4,h_x4,h⟩:=bnd h
   obtain ⟨x5,h_x5,h⟩:=bnd h
   obtain ⟨rv2,h_rv2,h⟩:=bnd h
   refine jd [0,2,6,7,11,12,18,69,70,71] [33,34,36,67] zcy (by exact (lw_e (lw_e (lw_e (lw_e (ly [.sl zg [37] ((mget q.1 x3).getD []),kI 0] (zao rfl zkN.el (zI _ _ _) h_x4) rfl (lw_e (lw_e (ly [.sl za [0] x.Fields,kI x4.Field] (zao rfl ziD.el (zI _ _ _) h_x5) rfl (ly [.ep za [0] x5 0] (zdm rfl ⟨Tryz.isAgg64,Tryz.sizeOf64⟩) rfl (lw_e (lw_e (lx (lf1 61 (zce [.sl zi [0] sv,.rc za [0] x5,.sl Rp.byte [0] b,.sl zg [37] ((mget q.1 x3).getD [])] [0,37] 60 rfl Tryz.call61 (hrec_tree_value h_rv2) rfl rfl rfl rfl rfl)) (lx (zkY 67 [kI 0,kN,kN,kN] rfl Tryz.zeroValue50 rfl) (ly [.ptr 67 0,.ag [kI rv2.Number,.own (Rp.int .u64) 75 63 [] rv2.Words,.own Rp.str 9 64 [] rv2.Texts,.own zj 30 65 [66] rv2.Subs]] (zzY (b:=⟨67,50,[kI 0,kN,kN,kN]⟩) (off:=0) [kI rv2.Number,.own (Rp.int .u64) 75 63 [] rv2.Words,.own Rp.str 9 64 [] rv2.Texts,.own zj 30 65 [66] rv2.Subs] rfl Tryz.sizeOf50 rfl rfl rfl) rfl l0))))))))))))))) ?_
   obtain ⟨rv3,h_rv3,h⟩:=bnd h
   refine jr (rc 1 rfl (zH.le (ins':=[(.tmp 90,.ag [kI rv2.Number,.own (Rp.int .u64) 75 63 [] rv2.Words,.own Rp.str 9 64 [] rv2.Texts,.own zj 30 65 [66] rv2.Subs])]) (zce (args:=[.tmp 90]) [.rc zd [63,64,65,66] rv2] [63,64,65,66] 66 rfl Tryz.call62 (zni h_rv3) rfl rfl rfl rfl rfl) ⟨⟨rfl,zcw zd [63,64,65,66] rv2 [kI rv2.Number,.own (Rp.int .u64) 75 63 [] rv2.Words,.own Rp.str 9 64 [] rv2.Texts,.own zj 30 65 [66] rv2.Subs] (by rw [zL]<;>rfl) rfl⟩,trivial⟩) rf) ?_
   rcases zn h with ⟨hc4,h⟩| ⟨hc4,h⟩
   ·
    refine jT hc4 ?_
    obtain ⟨v7,h_v7,h⟩:=bnd h
    refine jr (rc 3 rfl (zH.le (ins':=[(.tmp 95,.ag [kI rv2.Number,.own (Rp.int .u64) 75 63 [] rv2.Words,.own Rp.str 9 64 [] rv2.Texts,.own zj 30 65 [66] rv2.Subs])]) (zcP [.rc zd [63,64,65,66] rv2] 68 [63,64,65,66] ([rv2]:(List zb)) rfl zve rfl rfl rfl (by simp only [zod,zho,zhn,zL,List.flatMap_cons,List.flatMap_nil]<;>rfl)) ⟨⟨rfl,zcw zd [63,64,65,66] rv2 [kI rv2.Number,.own (Rp.int .u64) 75 63 [] rv2.Words,.own Rp.str 9 64 [] rv2.Texts,.own zj 30 65 [66] rv2.Subs] (by rw [zL]<;>rfl) rfl⟩,trivial⟩) (ra 0 [.own zd 50 54 [46] f3,.own zd 50 68 [63,64,65,66] ([rv2]:(List zb))] rfl (zeA 54 [46,68,63,64,65,66] rfl zve.el rfl (zbJ _ _ _ _ _) (zay _ _ _ _ _) h_v7 (.inr rfl) rfl) rfl rf)) ?_
    refine zT ?_
    refine jp ?_
    obtain rfl:=sj h
    refine zE ?_
    refine lk [0,2,6,7,11,12,69,70,71] [33,34,36] 68 46 ?_
    refine lk [0,2,6,7,11,12,69,70,71] [33,34,36] 63 46 ?_
    refine lk [0,2,6,7,11,12,69,70,71] [33,34,36] 64 46 ?_
    refine lk [0,2,6,7,11,12,69,70,71] [33,34,36] 65 46 ?_
    refine lk [0,2,6,7,11,12,69,70,71] [33,34,36] 66 46 ?_
    refine zbn ⟨[(0,.sl zi [0] sv),(2,.sl Rp.byte [0] b),(6,.ptr 33 0),(7,.ptr 34 0),(11,.ptr 36 0),(12,.mo (Rp.int .i64) zg 113 37 [] q.1),(69,.own (Rp.int .i64) 3 45 [] v5),(70,kI (v5.length:Int)),(71,kI (IntKind.i64.wrap (v6+1)))],[⟨33,30,[kN,kN]⟩,⟨34,73,[kS x.Name,.sl za [0] x.Fields]⟩,⟨36,30,[.own zd 50 54 [46,46,46,46,46,46] v7,.own Rp.str 9 41 [] q.2]⟩]⟩ (by kernel_rfl) ?_
    refine zex 36 0 (.own zd 50 54 [46] v7) rfl rfl (ziF _ _ _ _ _ _ rfl rfl) ?_
    exact lzz
   refine jF hc4 ?_
   refine zT ?_
   refine jp ?_
   obtain rfl:=sj h
   exact zE lzz
  refine jF hc3 ?_
  obtain rfl:=sj h
  exact zai rfl lzz
 ·
  refine zbn ⟨[(0,.sl zi [0] sv),(2,.sl Rp.byte [0] b),(6,.ptr 33 0),(7,.ptr 34 0),(11,.ptr 36 0),(12,.mo (Rp.int .i64) zg 113 37 [] q.1),(69,.own (Rp.int .i64) 3 45 [] v5),(70,kI (v5.length:Int)),(71,kI 0)],[⟨33,30,[kN,kN]⟩,⟨34,73,[kS x.Name,.sl za [0] x.Fields]⟩,⟨36,30,[kN,.own Rp.str 9 41 [] q.2]⟩]⟩ (by kernel_rfl) ?_
  refine zex 36 0 (.own zd 50 54 [46] []) rfl rfl (zaj zd 50 54 [46] rfl) ?_
  exact lzz
 refine zaI _ rfl ?_
 refine jp ?_
 obtain rfl:=sj h
 refine zx ?_
 refine lk [6] [33] 33 2 ?_
 refine lk [6] [2] 54 3 ?_
 refine lk [6] [2] 41 5 ?_
 refine lk [6] [2] 46 4 ?_
 exact lzz
theorem ztZ {rec_tree_meaning:(List zh)→Int→(List UInt8)→Option ze} {rec_tree_subs:(List zh)→zc→(List UInt8)→(List zf)→Option (List ze)} {rec_tree_value:(List zh)→zc→(List UInt8)→(List zf)→Option zb} (hrec_tree_meaning:∀{sv:(List zh)} {message:Int} {b:(List UInt8)} {r:ze},rec_tree_meaning sv message b=some r→FnOk Tryz.prog 33 [.sl zi [0] sv,kI message,.sl Rp.byte [0] b] [.ag [.own zd 50 3 [4] r.Values,.own Rp.str 9 5 [] r.Unknown]]) (hrec_tree_subs:∀{sv:(List zh)} {f:zc} {b:(List UInt8)} {l:(List zf)} {r:(List ze)},rec_tree_subs sv f b l=some r→FnOk Tryz.prog 92 [.sl zi [0] sv,.rc za [0] f,.sl Rp.byte [0] b,.sl zg [0] l] [.own zj 30 2 [3] r]) (hrec_tree_value:∀{sv:(List zh)} {f:zc} {b:(List UInt8)} {l:(List zf)} {r:zb},rec_tree_value sv f b l=some r→FnOk Tryz.prog 61 [.sl zi [0] sv,.rc za [0] f,.sl Rp.byte [0] b,.sl zg [0] l] [.ag [kI r.Number,.own (Rp.int .u64) 75 3 [] r.Words,.own Rp.str 9 4 [] r.Texts,.own zj 30 5 [6] r.Subs]]) {sv:(List zh)} {f:zc} {b:(List UInt8)} {l:(List zf)} {r:(List ze)} (h:zhc rec_tree_meaning rec_tree_subs rec_tree_value sv f b l=some r):FnOk Tryz.prog 92 [.sl zi [0] sv,.rc za [0] f,.sl Rp.byte [0] b,.sl zg [0] l] [.own zj 30 2 [3] r]:=by
 refine zB (E:=⟨[(8,.own zj 30 2 [3] r)],[]⟩) 68 Tryz.func92 rfl rfl rfl ⟨rfl,trivial⟩ (fun Xt=>?_)
 refine zr ?_
 unfold zhc at h
 refine jq [21] ?_
 obtain ⟨v,h_v,h⟩:=bnd h
 refine jr (ra 2 [kI (l.length:Int),kI (l.length:Int)] rfl (zvO 22 rfl zqN rfl h_v) rfl rf) ?_
 refine jp ?_
 refine zy ?_
 obtain ⟨q,h_q,h⟩:=bnd h
 refine zah (fun s:((List (List UInt8))×Int)=>zdE b l s.1 s.2) (fun s=>⟨[(0,.sl zi [0] sv),(2,.sl Rp.byte [0] b),(5,.ptr 21 0),(9,.own (Rp.list Rp.byte) 24 22 [0] s.1),(18,.sl zg [0] l),(19,kI (l.length:Int)),(20,kI s.2)],[⟨21,64,[kS f.Name,kI f.Number,kI f.Kind,kB f.Repeated,kB f.Packed,kI f.Of]⟩]⟩) (fun o e a w=>e= .exit 0∧Sx ⟨⟨68,[]⟩,Xt,false,#[]⟩ ⟨[(0,.sl zi [0] sv),(5,.ptr 21 0),(9,.own (Rp.list Rp.byte) 24 22 [0] o)],[⟨21,64,[kS f.Name,kI f.Number,kI f.Kind,kB f.Repeated,kB f.Packed,kI f.Of]⟩]⟩ a w) ?_ h_q ?_ ?_
 ·
  clear h
  intro s o h
  obtain ⟨pieces,v2⟩:=s
  refine zr ?_
  replace h:zdE b l pieces v2=some o:=h
  unfold zdE at h
  refine jp ?_
  rcases zn h with ⟨hc1,h⟩| ⟨hc1,h⟩
  ·
   refine jT hc1 ?_
   refine zy ?_
   obtain ⟨x,h_x,h⟩:=bnd h
   refine jr (ra 1 [.sl zg [0] l,kI v2] rfl (zao rfl zkN.el (zI _ _ _) h_x) rfl (ra 0 [.ep zg [0] x 0] rfl (zdm rfl ⟨Tryz.isAgg113,Tryz.sizeOf113⟩) rfl (rfl' [24]))) ?_
   obtain ⟨v3,h_v3,h⟩:=bnd h
   obtain ⟨x2,h_x2,h⟩:=bnd h
   refine jr (ra 9 [.sl Rp.byte [0] b,kI x.Record.At,kI x.Record.To] rfl (zeD (some (kI x.Record.At)) (some (kI x.Record.To)) rfl zcS.el (zI _ _ _) ⟨rfl,rfl⟩ ⟨rfl,rfl⟩ h_v3) rfl (ra 0 [.own (Rp.list Rp.byte) 24 22 [0] pieces,kI v2] rfl (zvM rfl zqN.el h_x2) rfl (rkl 0 [] ⟨[(0,.sl zi [0] sv),(2,.sl Rp.byte [0] b),(5,.ptr 21 0),(9,.own (Rp.list Rp.byte) 24 22 [0] pieces),(18,.sl zg [0] l),(19,kI (l.length:Int)),(20,kI v2),(34,.sl Rp.byte [0] v3),(35,.ptr 22 (Int.toNat v2*(Rp.list Rp.byte).size))],[⟨21,64,[kS f.Name,kI f.Number,kI f.Kind,kB f.Repeated,kB f.Packed,kI f.Of]⟩]⟩ (zzh (r:=(Rp.list Rp.byte)) (e:=24) (C:=[0]) (xs:=pieces) [9] (Int.toNat v2) 0 x2 v3 [0] rfl rfl rfl rfl rfl rfl Tryz.sizeOf24 rfl (by kernel_rfl) rfl (zrE h_x2) rfl (zwh rfl _) rfl rf)))) ?_
   refine zT ?_
   refine jp ?_
   obtain rfl:=sj h
   exact zE lzz
  refine jF hc1 ?_
  obtain rfl:=sj h
  exact zai rfl lzz
 ·
  refine zbn ⟨[(0,.sl zi [0] sv),(2,.sl Rp.byte [0] b),(5,.ptr 21 0),(9,.own (Rp.list Rp.byte) 24 22 [] v),(18,.sl zg [0] l),(19,kI (l.length:Int)),(20,kI 0)],[⟨21,64,[kS f.Name,kI f.Number,kI f.Kind,kB f.Repeated,kB f.Packed,kI f.Of]⟩]⟩ (by kernel_rfl) ?_
  refine zcK 9 (.own (Rp.list Rp.byte) 24 22 [0] v) rfl (ziF _ _ _ _ _ _ rfl rfl) ?_
  exact lzz
 refine zaI _ rfl ?_
 refine zS ⟨[(0,.sl zi [0] sv),(5,.ptr 21 0),(9,.own (Rp.list Rp.byte) 24 22 [0] q),(44,kB ((!f.Repeated)&&(decide ((q.length:Int)>1))))],[⟨21,64,[kS f.Name,kI f.Number,kI f.Kind,kB f.Repeated,kB f.Packed,kI f.Of]⟩]⟩ ?_ ?_
 ·
  refine (rsl 4 [] 40 (!f.Repeated) (fun hc2=>?_) (fun hc2=>?_))
  · exact (rbl [] 44 (decide ((q.length:Int)>1)) ((!f.Repeated)&&(decide ((q.length:Int)>1))) (by rw [hc2]<;>rfl))
  exact (rbl [] 44 false ((!f.Repeated)&&(decide ((q.length:Int)>1))) (by rw [hc2]<;>rfl))
 obtain ⟨p,h_p,h⟩:=bnd h
 refine zbV (R:=fun e a w=>e= .normal∧Sx ⟨⟨68,[]⟩,Xt,false,#[]⟩ ⟨[(0,.sl zi [0] sv),(5,.ptr 21 0),(9,.own (Rp.list Rp.byte) 24 26 [25,0] p)],[⟨21,64,[kS f.Name,kI f.Number,kI f.Kind,kB f.Repeated,kB f.Packed,kI f.Of]⟩]⟩ a w) ?_ ?_
 ·
  replace h:=h_p
  refine zr ?_
  rcases zn h with ⟨hc3,h⟩| ⟨hc3,h⟩
  ·
   refine jT hc3 ?_
   obtain ⟨rv,h_rv,h⟩:=bnd h
   refine jr (rl 1 [22,0] 25 Tryz.call115 (ziy h_rv) (rc 0 rfl (zcP [.own Rp.byte 5 27 [] rv] 28 [27] ([rv]:(List (List UInt8))) rfl zqN rfl rfl rfl rfl) rf)) ?_
   obtain rfl:=sj h
   refine zE ?_
   refine lk [0,5,9] [21] 28 26 ?_
   refine lk [0,5,9] [21] 27 25 ?_
   refine zbn ⟨[(0,.sl zi [0] sv),(5,.ptr 21 0),(9,.own (Rp.list Rp.byte) 24 26 [25] ([rv]:(List (List UInt8))))],[⟨21,64,[kS f.Name,kI f.Number,kI f.Kind,kB f.Repeated,kB f.Packed,kI f.Of]⟩]⟩ (by kernel_rfl) ?_
   refine zcK 9 (.own (Rp.list Rp.byte) 24 26 [25,0] ([rv]:(List (List UInt8)))) rfl (ziF _ _ _ _ _ _ rfl rfl) ?_
   exact lzz
  refine jF hc3 ?_
  obtain rfl:=sj h
  refine zE ?_
  refine lk [0,5,9] [21] 22 26 ?_
  refine zbn ⟨[(0,.sl zi [0] sv),(5,.ptr 21 0),(9,.own (Rp.list Rp.byte) 24 26 [0] q)],[⟨21,64,[kS f.Name,kI f.Number,kI f.Kind,kB f.Repeated,kB f.Packed,kI f.Of]⟩]⟩ (by kernel_rfl) ?_
  refine zcK 9 (.own (Rp.list Rp.byte) 24 26 [25,0] q) rfl (ziF _ _ _ _ _ _ rfl rfl) ?_
  exact lzz
 refine zdw ?_
 obtain ⟨v5,h_v5,h⟩:=bnd h
 refine jr (ra 2 [kI (p.length:Int),kI (p.length:Int)] rfl (zvO 29 rfl zAz rfl h_v5) rfl rf) ?_
 refine jp ?_
 refine zy ?_
 obtain ⟨q2,h_q2,h⟩:=bnd h
 refine zah (fun s:((List ze)×Int)=>zdF f p rec_tree_meaning sv s.1 s.2) (fun s=>⟨[(0,.sl zi [0] sv),(5,.ptr 21 0),(12,.own zj 30 29 [30] s.1),(51,.own (Rp.list Rp.byte) 24 26 [25,0] p),(52,kI (p.length:Int)),(53,kI s.2)],[⟨21,64,[kS f.Name,kI f.Number,kI f.Kind,kB f.Repeated,kB f.Packed,kI f.Of]⟩]⟩) (fun o e a w=>e= .exit 2∧Sx ⟨⟨68,[]⟩,Xt,false,#[]⟩ ⟨[(12,.own zj 30 29 [30] o)],[]⟩ a w) ?_ h_q2 ?_ ?_
 ·
  clear h
  intro s o h
  obtain ⟨all,v6⟩:=s
  refine zr ?_
  replace h:zdF f p rec_tree_meaning sv all v6=some o:=h
  unfold zdF at h
  refine jp ?_
  rcases zn h with ⟨hc4,h⟩| ⟨hc4,h⟩
  ·
   refine jT hc4 ?_
   refine zy ?_
   obtain ⟨x3,h_x3,h⟩:=bnd h
   refine jr (ra 1 [.own (Rp.list Rp.byte) 24 26 [25,0] p,kI v6] rfl (zao rfl zqN.el (zay _ _ _ _ _) h_x3) rfl (ra 0 [.ep (Rp.list Rp.byte) [26,25,0] x3 0] rfl (zga Rp.byte x3 rfl rfl rfl) rfl rf)) ?_
   obtain ⟨rv2,h_rv2,h⟩:=bnd h
   obtain ⟨x4,h_x4,h⟩:=bnd h
   refine jr (rl 6 [0,26,25] 37 Tryz.call33 (hrec_tree_meaning h_rv2) (ra 0 [.own zj 30 29 [30] all,kI v6] rfl (zvM rfl zAz.el h_x4) rfl (rkl 0 [] ⟨[(0,.sl zi [0] sv),(5,.ptr 21 0),(12,.own zj 30 29 [30] all),(51,.own (Rp.list Rp.byte) 24 26 [25,0] p),(52,kI (p.length:Int)),(53,kI v6),(64,.ag [.own zd 50 40 [41] rv2.Values,.own Rp.str 9 42 [] rv2.Unknown]),(65,.ptr 29 (Int.toNat v6*zj.size))],[⟨21,64,[kS f.Name,kI f.Number,kI f.Kind,kB f.Repeated,kB f.Packed,kI f.Of]⟩]⟩ (zzh (r:=zj) (e:=30) (C:=[30]) (xs:=all) [12] (Int.toNat v6) 0 x4 rv2 [30,40,41,42] rfl rfl rfl rfl rfl rfl Tryz.sizeOf30 rfl (by kernel_rfl) rfl (zrE h_x4) rfl (zwh (by rw [zO]<;>rfl) _) rfl rf)))) ?_
   refine zT ?_
   refine jp ?_
   obtain rfl:=sj h
   refine zE ?_
   refine lk [0,5,12,51,52,53] [21] 40 30 ?_
   refine lk [0,5,12,51,52,53] [21] 41 30 ?_
   refine lk [0,5,12,51,52,53] [21] 42 30 ?_
   refine zbn ⟨[(0,.sl zi [0] sv),(5,.ptr 21 0),(12,.own zj 30 29 [30,30,30,30] (all.set (Int.toNat v6) rv2)),(51,.own (Rp.list Rp.byte) 24 26 [25,0] p),(52,kI (p.length:Int)),(53,kI (IntKind.i64.wrap (v6+1)))],[⟨21,64,[kS f.Name,kI f.Number,kI f.Kind,kB f.Repeated,kB f.Packed,kI f.Of]⟩]⟩ (by kernel_rfl) ?_
   refine zcK 12 (.own zj 30 29 [30] (all.set (Int.toNat v6) rv2)) rfl (ziF _ _ _ _ _ _ rfl rfl) ?_
   exact lzz
  refine jF hc4 ?_
  obtain rfl:=sj h
  exact zai rfl lzz
 ·
  refine zbn ⟨[(0,.sl zi [0] sv),(5,.ptr 21 0),(12,.own zj 30 29 [] v5),(51,.own (Rp.list Rp.byte) 24 26 [25,0] p),(52,kI (p.length:Int)),(53,kI 0)],[⟨21,64,[kS f.Name,kI f.Number,kI f.Kind,kB f.Repeated,kB f.Packed,kI f.Of]⟩]⟩ (by kernel_rfl) ?_
  refine zcK 12 (.own zj 30 29 [30] v5) rfl (ziF _ _ _ _ _ _ rfl rfl) ?_
  exact lzz
 refine zaI _ rfl ?_
 refine jp ?_
 obtain rfl:=sj h
 refine zx ?_
 refine lk [8] [] 29 2 ?_
 refine lk [8] [] 30 3 ?_
 exact lzz
theorem ztw {rec_tree_meaning:(List zh)→Int→(List UInt8)→Option ze} {rec_tree_subs:(List zh)→zc→(List UInt8)→(List zf)→Option (List ze)} {rec_tree_value:(List zh)→zc→(List UInt8)→(List zf)→Option zb} (hrec_tree_meaning:∀{sv:(List zh)} {message:Int} {b:(List UInt8)} {r:ze},rec_tree_meaning sv message b=some r→FnOk Tryz.prog 33 [.sl zi [0] sv,kI message,.sl Rp.byte [0] b] [.ag [.own zd 50 3 [4] r.Values,.own Rp.str 9 5 [] r.Unknown]]) (hrec_tree_subs:∀{sv:(List zh)} {f:zc} {b:(List UInt8)} {l:(List zf)} {r:(List ze)},rec_tree_subs sv f b l=some r→FnOk Tryz.prog 92 [.sl zi [0] sv,.rc za [0] f,.sl Rp.byte [0] b,.sl zg [0] l] [.own zj 30 2 [3] r]) (hrec_tree_value:∀{sv:(List zh)} {f:zc} {b:(List UInt8)} {l:(List zf)} {r:zb},rec_tree_value sv f b l=some r→FnOk Tryz.prog 61 [.sl zi [0] sv,.rc za [0] f,.sl Rp.byte [0] b,.sl zg [0] l] [.ag [kI r.Number,.own (Rp.int .u64) 75 3 [] r.Words,.own Rp.str 9 4 [] r.Texts,.own zj 30 5 [6] r.Subs]]) {sv:(List zh)} {f:zc} {b:(List UInt8)} {l:(List zf)} {r:zb} (h:zgD rec_tree_meaning rec_tree_subs rec_tree_value sv f b l=some r):FnOk Tryz.prog 61 [.sl zi [0] sv,.rc za [0] f,.sl Rp.byte [0] b,.sl zg [0] l] [.ag [kI r.Number,.own (Rp.int .u64) 75 3 [] r.Words,.own Rp.str 9 4 [] r.Texts,.own zj 30 5 [6] r.Subs]]:=by
 refine zB (E:=⟨[(8,.ptr 2 0)],[⟨2,50,[kI r.Number,.own (Rp.int .u64) 75 3 [] r.Words,.own Rp.str 9 4 [] r.Texts,.own zj 30 5 [6] r.Subs]⟩]⟩) 50 Tryz.func61 rfl rfl rfl ⟨⟨_,_,rfl,rfl,rfl,⟨Tryz.isAgg50,Tryz.sizeOf50⟩⟩,trivial⟩ (fun Xt=>?_)
 refine zr ?_
 unfold zgD at h
 refine jq [18,19] ?_
 refine zS ⟨[(0,.sl zi [0] sv),(2,.sl Rp.byte [0] b),(3,.sl zg [0] l),(5,.ptr 18 0),(8,.ptr 19 0),(17,kB ((!f.Repeated)&&(f.Kind !=17)))],[⟨18,64,[kS f.Name,kI f.Number,kI f.Kind,kB f.Repeated,kB f.Packed,kI f.Of]⟩,⟨19,50,[kI 0,kN,kN,kN]⟩]⟩ ?_ ?_
 ·
  refine (rsl 4 [] 13 (!f.Repeated) (fun hc1=>?_) (fun hc1=>?_))
  · exact (rbl [] 17 (f.Kind !=17) ((!f.Repeated)&&(f.Kind !=17)) (by rw [hc1]<;>rfl))
  exact (rbl [] 17 false ((!f.Repeated)&&(f.Kind !=17)) (by rw [hc1]<;>rfl))
 obtain ⟨p,h_p,h⟩:=bnd h
 refine zbV (R:=fun e a w=>e= .normal∧Sx ⟨⟨50,[]⟩,Xt,false,#[]⟩ ⟨[(0,.sl zi [0] sv),(2,.sl Rp.byte [0] b),(3,.sl zg [0] p),(5,.ptr 18 0),(8,.ptr 19 0)],[⟨18,64,[kS f.Name,kI f.Number,kI f.Kind,kB f.Repeated,kB f.Packed,kI f.Of]⟩,⟨19,50,[kI 0,kN,kN,kN]⟩]⟩ a w) ?_ ?_
 ·
  replace h:=h_p
  refine zr ?_
  rcases zn h with ⟨hc2,h⟩| ⟨hc2,h⟩
  ·
   refine jT hc2 ?_
   obtain ⟨v2,h_v2,h⟩:=bnd h
   refine jr (ra 4 [.sl zg [0] l,kI (IntKind.i64.wrap ((l.length:Int) - 1))] rfl (zeD (some (kI (IntKind.i64.wrap ((l.length:Int) - 1)))) none rfl zkN.el (zI _ _ _) ⟨rfl,rfl⟩ ⟨rfl,rfl⟩ h_v2) rfl rf) ?_
   obtain rfl:=sj h
   exact zE lzz
  refine jF hc2 ?_
  obtain rfl:=sj h
  exact zE lzz
 refine zdw ?_
 refine jr (ra 2 [kI f.Number] rfl (zgx [kI f.Number] [kI f.Number,kN,kN,kN] rfl zGv rfl) rfl (rfl' [20])) ?_
 refine jp ?_
 refine zy ?_
 refine jp ?_
 rcases zn h with ⟨hc3,h⟩| ⟨hc3,h⟩
 ·
  refine jT hc3 ?_
  obtain ⟨rv,h_rv,h⟩:=bnd h
  refine jr (lb 1 za [] f (rl 2 [0] 19 Tryz.call92 (hrec_tree_subs h_rv) rf)) ?_
  refine zT ?_
  refine jp ?_
  obtain rfl:=sj h
  refine zx ?_
  refine lk [8] [19] 19 2 ?_
  refine lk [8] [2] 21 5 ?_
  refine lk [8] [2] 22 6 ?_
  refine zbn ⟨[(8,.ptr 2 0)],[⟨2,50,[kI f.Number,kN,kN,.own zj 30 5 [6] rv]⟩]⟩ (by kernel_rfl) ?_
  refine zex 2 1 (.own (Rp.int .u64) 75 3 [] ((⟨f.Number,[],[],rv⟩:zb):zb).Words) rfl rfl (zaj (Rp.int .u64) 75 3 [] rfl) ?_
  refine zex 2 2 (.own Rp.str 9 4 [] ((⟨f.Number,[],[],rv⟩:zb):zb).Texts) rfl rfl (zaj Rp.str 9 4 [] rfl) ?_
  exact lzz
 refine jF hc3 ?_
 refine jp ?_
 obtain ⟨p2,h_p2,h⟩:=bnd h
 refine zbV (R:=fun e a w=>e= .normal∧Sx ⟨⟨50,[]⟩,Xt,false,#[]⟩ ⟨[(2,.sl Rp.byte [0] b),(3,.sl zg [0] p),(5,.ptr 18 0),(8,.ptr 19 0),(9,.ptr 20 0),(42,kB p2)],[⟨18,64,[kS f.Name,kI f.Number,kI f.Kind,kB f.Repeated,kB f.Packed,kI f.Of]⟩,⟨19,50,[kI 0,kN,kN,kN]⟩,⟨20,50,[kI f.Number,kN,kN,kN]⟩]⟩ a w) ?_ ?_
 ·
  replace h:=h_p2
  refine zr ?_
  rcases zn h with ⟨hc4,h⟩| ⟨hc4,h⟩
  ·
   refine jT hc4 ?_
   obtain rfl:=sj h
   exact zE lzz
  refine jF hc4 ?_
  refine jp ?_
  obtain rfl:=sj h
  exact zE lzz
 refine zdw ?_
 rcases zn h with ⟨hc5,h⟩| ⟨hc5,h⟩
 ·
  refine jT hc5 ?_
  obtain ⟨rv2,h_rv2,h⟩:=bnd h
  refine jr (rl 2 [0] 21 Tryz.call93 (zua h_rv2) rf) ?_
  refine zT ?_
  refine jp ?_
  obtain rfl:=sj h
  refine zx ?_
  refine lk [8] [19] 19 2 ?_
  refine lk [8] [2] 23 4 ?_
  refine zbn ⟨[(8,.ptr 2 0)],[⟨2,50,[kI f.Number,kN,.own Rp.str 9 4 [] rv2,kN]⟩]⟩ (by kernel_rfl) ?_
  refine zex 2 1 (.own (Rp.int .u64) 75 3 [] ((⟨f.Number,[],rv2,[]⟩:zb):zb).Words) rfl rfl (zaj (Rp.int .u64) 75 3 [] rfl) ?_
  refine zex 2 3 (.own zj 30 5 [6] ((⟨f.Number,[],rv2,[]⟩:zb):zb).Subs) rfl rfl (zaj zj 30 5 [6] rfl) ?_
  exact lzz
 refine jF hc5 ?_
 obtain ⟨rv3,h_rv3,h⟩:=bnd h
 refine jr (rl 4 [0] 22 Tryz.call94 (zub h_rv3) rf) ?_
 refine zT ?_
 refine jp ?_
 obtain rfl:=sj h
 refine zx ?_
 refine lk [8] [19] 19 2 ?_
 refine lk [8] [2] 24 3 ?_
 refine zbn ⟨[(8,.ptr 2 0)],[⟨2,50,[kI f.Number,.own (Rp.int .u64) 75 3 [] rv3,kN,kN]⟩]⟩ (by kernel_rfl) ?_
 refine zex 2 2 (.own Rp.str 9 4 [] ((⟨f.Number,rv3,[],[]⟩:zb):zb).Texts) rfl rfl (zaj Rp.str 9 4 [] rfl) ?_
 refine zex 2 3 (.own zj 30 5 [6] ((⟨f.Number,rv3,[],[]⟩:zb):zb).Subs) rfl rfl (zaj zj 30 5 [6] rfl) ?_
 exact lzz
theorem ziA (fuel:Nat):(∀{sv:(List zh)} {message:Int} {b:(List UInt8)} {r:ze},zef fuel sv message b=some r→FnOk Tryz.prog 33 [.sl zi [0] sv,kI message,.sl Rp.byte [0] b] [.ag [.own zd 50 3 [4] r.Values,.own Rp.str 9 5 [] r.Unknown]])∧(∀{sv:(List zh)} {f:zc} {b:(List UInt8)} {l:(List zf)} {r:(List ze)},znO fuel sv f b l=some r→FnOk Tryz.prog 92 [.sl zi [0] sv,.rc za [0] f,.sl Rp.byte [0] b,.sl zg [0] l] [.own zj 30 2 [3] r])∧(∀{sv:(List zh)} {f:zc} {b:(List UInt8)} {l:(List zf)} {r:zb},zhW fuel sv f b l=some r→FnOk Tryz.prog 61 [.sl zi [0] sv,.rc za [0] f,.sl Rp.byte [0] b,.sl zg [0] l] [.ag [kI r.Number,.own (Rp.int .u64) 75 3 [] r.Words,.own Rp.str 9 4 [] r.Texts,.own zj 30 5 [6] r.Subs]]):=by
  induction fuel with
  | zero=>exact ⟨fun h=>absurd h nofun,fun h=>absurd h nofun,fun h=>absurd h nofun⟩
  | succ fuel ih=>exact ⟨fun h=>zqE (fun hh=>ih.1 hh) (fun hh=>ih.2.1 hh) (fun hh=>ih.2.2 hh) h,fun h=>ztZ (fun hh=>ih.1 hh) (fun hh=>ih.2.1 hh) (fun hh=>ih.2.2 hh) h,fun h=>ztw (fun hh=>ih.1 hh) (fun hh=>ih.2.1 hh) (fun hh=>ih.2.2 hh) h⟩
theorem zrs {fuel:Nat} {sv:(List zh)} {message:Int} {b:(List UInt8)} {r:ze} (h:zef fuel sv message b=some r):FnOk Tryz.prog 33 [.sl zi [0] sv,kI message,.sl Rp.byte [0] b] [.ag [.own zd 50 3 [4] r.Values,.own Rp.str 9 5 [] r.Unknown]]:=(ziA fuel).1 h
end Go.Proofs.YtcbkcblkecmjnaaGreat

/-
  The Go functions do what the plain functions say. No condition.
-/
import Derived.Test.YtcbkcblkecmjnaaGreatx2G8
namespace Go.Proofs.YtcbkcblkecmjnaaGreat
open Go Go.RowKit
set_option linter.unusedVariables false
set_option maxRecDepth 100000
set_option maxHeartbeats 3200000
theorem ztQ {sv:(List zh)} {r:(zbC×Int)} (h:zjr sv=some r):FnOk Tryz.prog 80 [.sl zi [0] sv] [.rc zeC [] r.1,k8 r.2]:=by
 refine zC (E:=⟨[(2,.ptr 2 0),(3,k8 r.2)],[⟨2,142,[kI r.1.Message,kI r.1.Field,kI r.1.What]⟩]⟩) 62 Tryz.func80 rfl rfl rfl ⟨⟨_,_,rfl,rfl,rfl,rfl,⟨Tryz.isAgg142,Tryz.sizeOf142⟩⟩,rfl,trivial⟩ (fun Xt=>?_)
 refine zp ?_
 unfold zjr at h
 refine jq [12] ?_
 refine zW ⟨[(0,.sl zi [0] sv),(2,.ptr 12 0),(18,kB ((decide ((sv.length:Int)<1))|| (decide ((sv.length:Int)>100))))],[⟨12,142,[kI 0,kI 0,kI 0]⟩]⟩ ?_ ?_
 ·
  refine (rsl 4 [] 14 (decide ((sv.length:Int)<1)) (fun hc1=>?_) (fun hc1=>?_))
  · exact (rbl [] 18 true ((decide ((sv.length:Int)<1))|| (decide ((sv.length:Int)>100))) (by rw [hc1]<;>rfl))
  exact (rbl [] 18 (decide ((sv.length:Int)>100)) ((decide ((sv.length:Int)<1))|| (decide ((sv.length:Int)>100))) (by rw [hc1]<;>rfl))
 rcases zm h with ⟨hc2,h⟩| ⟨hc2,h⟩
 ·
  refine jT hc2 ?_
  refine jr (rc 0 rfl (zan (r:=zeC) [kI (-1),kI (-1),kI 1] [] (⟨(-1),(-1),1⟩:zbC) rfl zyR rfl rfl) rf) ?_
  obtain rfl:=sj h
  refine zz ?_
  refine lk [2,3] [12] 12 2 ?_
  exact lzz
 refine jF hc2 ?_
 obtain ⟨rv,h_rv,h⟩:=bnd h
 refine jr (rl 2 [1] 11 Tryz.call103 (zzZ h_rv) (rc 0 rfl (znw (rk:=zw) (rv:=Rp.bool) 14 rfl) (rc 0 rfl (znw (rk:=zv) (rv:=Rp.bool) 15 rfl) (ra 0 [kI (sv.length:Int),.own (Rp.int .i64) 3 13 [] rv,.om zw Rp.bool 14 [] ([]:(List (zr×Bool))),.om zv Rp.bool 15 [] ([]:(List (zt×Bool)))] rfl (zeP [kI (sv.length:Int),.own (Rp.int .i64) 3 13 [] rv,.om zw Rp.bool 14 [] ([]:(List (zr×Bool))),.om zv Rp.bool 15 [] ([]:(List (zt×Bool)))] [kI (sv.length:Int),.own (Rp.int .i64) 3 13 [] rv,.om zw Rp.bool 14 [] ([]:(List (zr×Bool))),.om zv Rp.bool 15 [] ([]:(List (zt×Bool)))] rfl zIs rfl) rfl (rfl' [16]))))) ?_
 refine jp ?_
 refine zA ?_
 obtain ⟨q2,h_q2,h⟩:=bnd h
 refine zal (fun s:(Int×(List (zr×Bool))×(List (zt×Bool)))=>zbw rv sv s.1 s.2.1 s.2.2) (fun s=>⟨[(2,.ptr 12 0),(4,.ptr 16 0),(26,.sl zi [0] sv),(27,kI (sv.length:Int)),(28,kI s.1)],[⟨12,142,[kI 0,kI 0,kI 0]⟩,⟨16,174,[kI (sv.length:Int),.own (Rp.int .i64) 3 13 [] rv,.om zw Rp.bool 14 [13,0] s.2.1,.om zv Rp.bool 15 [13,0] s.2.2]⟩]⟩) (fun o e a w=>match o with| (.inl v_)=>e= .exit 0∧Sx ⟨⟨62,[]⟩,Xt,false,#[]⟩ ⟨[(2,.ptr 12 0)],[⟨12,142,[kI 0,kI 0,kI 0]⟩]⟩ a w| (.inr v_)=>e= .ret∧Sx ⟨⟨62,[]⟩,Xt,false,#[]⟩ ⟨[(2,.ptr 12 0),(3,k8 9)],[⟨12,142,[kI v_.1,kI v_.2.1,kI v_.2.2]⟩]⟩ a w) ?_ h_q2 ?_ ?_
 ·
  clear h
  intro s o h
  obtain ⟨v2,f,f2⟩:=s
  refine zp ?_
  replace h:zbw rv sv v2 f f2=some o:=h
  unfold zbw at h
  refine jp ?_
  rcases zm h with ⟨hc3,h⟩| ⟨hc3,h⟩
  ·
   refine jT hc3 ?_
   refine zA ?_
   obtain ⟨x,h_x,h⟩:=bnd h
   refine jr (ra 1 [.sl zi [0] sv,kI v2] rfl (zao rfl zhT.el (zJ _ _ _) h_x) rfl (ra 0 [.ep zi [0] x 0] rfl (zci rfl ⟨Tryz.isAgg73,Tryz.sizeOf73⟩) rfl (ral 2 [18] [.ptr 18 0,.rc zi [0] x] rfl (zgA (r:=zi) (b:=⟨18,73,[kS [],kN]⟩) (off:=0) [kS x.Name,.sl zf [0] x.Fields] rfl Tryz.sizeOf73 rfl rfl rfl rfl) rfl rf))) ?_
   obtain ⟨rv3,h_rv3,h⟩:=bnd h
   refine jr (rkl 2 [] ⟨[(2,.ptr 12 0),(4,.ptr 16 0),(5,kI v2),(6,.ptr 18 0),(26,.sl zi [0] sv),(27,kI (sv.length:Int)),(28,kI v2),(33,.ag [kI (sv.length:Int),.own (Rp.int .i64) 3 13 [] rv,.om zw Rp.bool 14 [13,0] f,.om zv Rp.bool 15 [13,0] f2]),(34,.ag [kS x.Name,.sl zf [0] x.Fields])],[⟨12,142,[kI 0,kI 0,kI 0]⟩,⟨16,174,[kI (sv.length:Int),.own (Rp.int .i64) 3 13 [] rv,.om zw Rp.bool 14 [13,0] f,.om zv Rp.bool 15 [13,0] f2]⟩,⟨18,73,[kS x.Name,.sl zf [0] x.Fields]⟩]⟩ (zhz ⟨[(2,.ptr 12 0),(4,.ptr 16 0),(5,kI v2),(6,.ptr 18 0),(26,.sl zi [0] sv),(27,kI (sv.length:Int)),(28,kI v2),(33,.ag [kI (sv.length:Int),.own (Rp.int .i64) 3 13 [] rv,.om zw Rp.bool 14 [13,0] rv3.2.1,.om zv Rp.bool 15 [13,0] rv3.2.2]),(34,.ag [kS x.Name,.sl zf [0] x.Fields])],[⟨12,142,[kI 0,kI 0,kI 0]⟩,⟨16,174,[kI (sv.length:Int),.own (Rp.int .i64) 3 13 [] rv,.om zw Rp.bool 14 [13,0] rv3.2.1,.om zv Rp.bool 15 [13,0] rv3.2.2]⟩,⟨18,73,[kS x.Name,.sl zf [0] x.Fields]⟩]⟩ (zor.le (ins':=[(.tmp 33,.ag [kI (sv.length:Int),.own (Rp.int .i64) 3 13 [] rv,.om zw Rp.bool 14 [13,0] f,.om zv Rp.bool 15 [13,0] f2]),(.tmp 34,.ag [kS x.Name,.sl zf [0] x.Fields])]) (zmy (args:=[.tmp 33,.tmp 34]) [.ag [kI (sv.length:Int),.own (Rp.int .i64) 3 13 [] rv,.om zw Rp.bool 14 [13,0] f,.om zv Rp.bool 15 [13,0] f2],.rc zi [0] x] [(14,2),(15,3)] [13,0] 19 [] rfl Tryz.call104 (znG h_rv3) rfl rfl (by kernel_rfl) rfl rfl rfl) ⟨⟨rfl,AV.le_refl _⟩,⟨rfl,zaa zi [0] x [kS x.Name,.sl zf [0] x.Fields] rfl rfl⟩,trivial⟩) rfl (by kernel_rfl) (by kernel_rfl) ⟨⟨_,rfl,zx rfl⟩,⟨_,rfl,zx rfl⟩,⟨_,rfl,zx rfl⟩,⟨_,rfl,zx rfl⟩,⟨_,rfl,zx rfl⟩,⟨_,rfl,zx rfl⟩,⟨_,rfl,zx rfl⟩,⟨_,rfl,znJ ⟨zx rfl,zx rfl,zeJ 0 rfl,zeJ 1 rfl,trivial⟩⟩,⟨_,rfl,zx rfl⟩,trivial⟩ ⟨⟨_,rfl,rfl,rfl,⟨zx rfl,zx rfl,zx rfl,trivial⟩⟩,⟨_,rfl,rfl,rfl,⟨zx rfl,zx rfl,zeJ 0 rfl,zeJ 1 rfl,trivial⟩⟩,⟨_,rfl,rfl,rfl,⟨zx rfl,zx rfl,trivial⟩⟩,trivial⟩ rf)) ?_
   refine jp ?_
   rcases zm h with ⟨hc4,h⟩| ⟨hc4,h⟩
   ·
    refine jT hc4 ?_
    refine jr (rc 2 rfl (zan (r:=zeC) [kI v2,kI (-1),kI rv3.1] [] (⟨v2,(-1),rv3.1⟩:zbC) rfl zyR rfl rfl) rf) ?_
    obtain rfl:=sj h
    exact zaZ lzz
   refine jF hc4 ?_
   refine jp ?_
   refine zA ?_
   obtain ⟨q,h_q,h⟩:=bnd h
   refine zal (fun s:(Int×(List (zr×Bool))×(List (zt×Bool)))=>zco rv sv v2 x s.1 s.2.1 s.2.2) (fun s=>⟨[(2,.ptr 12 0),(4,.ptr 16 0),(5,kI v2),(26,.sl zi [0] sv),(27,kI (sv.length:Int)),(28,kI v2),(42,.sl zf [0] x.Fields),(43,kI (x.Fields.length:Int)),(44,kI s.1)],[⟨12,142,[kI 0,kI 0,kI 0]⟩,⟨16,174,[kI (sv.length:Int),.own (Rp.int .i64) 3 13 [] rv,.om zw Rp.bool 14 [13,0] s.2.1,.om zv Rp.bool 15 [13,0] s.2.2]⟩]⟩) (fun o e a w=>match o with| (.inl v_)=>e= .exit 2∧Sx ⟨⟨62,[]⟩,Xt,false,#[]⟩ ⟨[(2,.ptr 12 0),(4,.ptr 16 0),(26,.sl zi [0] sv),(27,kI (sv.length:Int)),(28,kI v2)],[⟨12,142,[kI 0,kI 0,kI 0]⟩,⟨16,174,[kI (sv.length:Int),.own (Rp.int .i64) 3 13 [] rv,.om zw Rp.bool 14 [13,0] v_.1,.om zv Rp.bool 15 [13,0] v_.2]⟩]⟩ a w| (.inr v_)=>e= .ret∧Sx ⟨⟨62,[]⟩,Xt,false,#[]⟩ ⟨[(2,.ptr 12 0),(3,k8 9)],[⟨12,142,[kI v2,kI v_.1,kI v_.2]⟩]⟩ a w) ?_ h_q lzz ?_
   ·
    clear h
    intro s o h
    obtain ⟨v3,f6,f7⟩:=s
    refine zp ?_
    replace h:zco rv sv v2 x v3 f6 f7=some o:=h
    unfold zco at h
    refine jp ?_
    rcases zm h with ⟨hc5,h⟩| ⟨hc5,h⟩
    ·
     refine jT hc5 ?_
     refine zA ?_
     obtain ⟨x2,h_x2,h⟩:=bnd h
     refine jr (ra 1 [.sl zf [0] x.Fields,kI v3] rfl (zao rfl zle.el (zJ _ _ _) h_x2) rfl (ra 0 [.ep zf [0] x2 0] rfl (zci rfl ⟨Tryz.isAgg64,Tryz.sizeOf64⟩) rfl (rfl' [24]))) ?_
     obtain ⟨rv5,h_rv5,h⟩:=bnd h
     refine jr (lb 2 zf [] x2 (rkl 0 [] ⟨[(2,.ptr 12 0),(4,.ptr 16 0),(5,kI v2),(8,kI v3),(26,.sl zi [0] sv),(27,kI (sv.length:Int)),(28,kI v2),(42,.sl zf [0] x.Fields),(43,kI (x.Fields.length:Int)),(44,kI v3),(49,.ag [kI (sv.length:Int),.own (Rp.int .i64) 3 13 [] rv,.om zw Rp.bool 14 [13,0] f6,.om zv Rp.bool 15 [13,0] f7]),(50,kI v2),(51,.rc zf [] x2)],[⟨12,142,[kI 0,kI 0,kI 0]⟩,⟨16,174,[kI (sv.length:Int),.own (Rp.int .i64) 3 13 [] rv,.om zw Rp.bool 14 [13,0] f6,.om zv Rp.bool 15 [13,0] f7]⟩]⟩ (zhz ⟨[(2,.ptr 12 0),(4,.ptr 16 0),(5,kI v2),(8,kI v3),(26,.sl zi [0] sv),(27,kI (sv.length:Int)),(28,kI v2),(42,.sl zf [0] x.Fields),(43,kI (x.Fields.length:Int)),(44,kI v3),(49,.ag [kI (sv.length:Int),.own (Rp.int .i64) 3 13 [] rv,.om zw Rp.bool 14 [13,0] rv5.2.1,.om zv Rp.bool 15 [13,0] rv5.2.2]),(50,kI v2),(51,.rc zf [] x2)],[⟨12,142,[kI 0,kI 0,kI 0]⟩,⟨16,174,[kI (sv.length:Int),.own (Rp.int .i64) 3 13 [] rv,.om zw Rp.bool 14 [13,0] rv5.2.1,.om zv Rp.bool 15 [13,0] rv5.2.2]⟩]⟩ (zmy [.ag [kI (sv.length:Int),.own (Rp.int .i64) 3 13 [] rv,.om zw Rp.bool 14 [13,0] f6,.om zv Rp.bool 15 [13,0] f7],kI v2,.rc zf [] x2] [(14,2),(15,3)] [13,0] 25 [] rfl Tryz.call105 (zoT h_rv5) rfl rfl (by kernel_rfl) rfl rfl rfl) rfl (by kernel_rfl) (by kernel_rfl) ⟨⟨_,rfl,zx rfl⟩,⟨_,rfl,zx rfl⟩,⟨_,rfl,zx rfl⟩,⟨_,rfl,zx rfl⟩,⟨_,rfl,zx rfl⟩,⟨_,rfl,zx rfl⟩,⟨_,rfl,zx rfl⟩,⟨_,rfl,zx rfl⟩,⟨_,rfl,zx rfl⟩,⟨_,rfl,zx rfl⟩,⟨_,rfl,znJ ⟨zx rfl,zx rfl,zeJ 0 rfl,zeJ 1 rfl,trivial⟩⟩,⟨_,rfl,zx rfl⟩,⟨_,rfl,zx rfl⟩,trivial⟩ ⟨⟨_,rfl,rfl,rfl,⟨zx rfl,zx rfl,zx rfl,trivial⟩⟩,⟨_,rfl,rfl,rfl,⟨zx rfl,zx rfl,zeJ 0 rfl,zeJ 1 rfl,trivial⟩⟩,trivial⟩ rf))) ?_
     refine jp ?_
     rcases zm h with ⟨hc6,h⟩| ⟨hc6,h⟩
     ·
      refine jT hc6 ?_
      refine jr (rc 3 rfl (zan (r:=zeC) [kI v2,kI v3,kI rv5.1] [] (⟨v2,v3,rv5.1⟩:zbC) rfl zyR rfl rfl) rf) ?_
      obtain rfl:=sj h
      exact zaZ lzz
     refine jF hc6 ?_
     refine zag ?_
     refine jp ?_
     obtain rfl:=sj h
     exact zL lzz
    refine jF hc5 ?_
    obtain rfl:=sj h
    exact zam rfl lzz
   rcases q with u| u2
   ·
    refine zaD _ rfl ?_
    refine zag ?_
    refine jp ?_
    obtain rfl:=sj h
    exact zL lzz
   obtain rfl:=sj h
   exact zyn lzz
  refine jF hc3 ?_
  obtain rfl:=sj h
  exact zam rfl lzz
 ·
  refine zbX ⟨[(2,.ptr 12 0),(4,.ptr 16 0),(26,.sl zi [0] sv),(27,kI (sv.length:Int)),(28,kI 0)],[⟨12,142,[kI 0,kI 0,kI 0]⟩,⟨16,174,[kI (sv.length:Int),.own (Rp.int .i64) 3 13 [] rv,.om zw Rp.bool 14 [] ([]:(List (zr×Bool))),.om zv Rp.bool 15 [] ([]:(List (zt×Bool)))]⟩]⟩ (by kernel_rfl) ?_
  refine zdN 16 2 (.om zw Rp.bool 14 [13,0] ([]:(List (zr×Bool)))) rfl rfl (zFn _ _ _ _ rfl rfl) ?_
  refine zdN 16 3 (.om zv Rp.bool 15 [13,0] ([]:(List (zt×Bool)))) rfl rfl (zFn _ _ _ _ rfl rfl) ?_
  exact lzz
 rcases q2 with u3| u4
 ·
  refine zaD _ rfl ?_
  refine jr (rc 0 rfl (zan (r:=zeC) [] [] (⟨0,0,0⟩:zbC) rfl zyR rfl rfl) rf) ?_
  obtain rfl:=sj h
  refine zz ?_
  refine lk [2,3] [12] 12 2 ?_
  exact lzz
 obtain rfl:=sj h
 refine zcK ?_
 refine lk [2,3] [12] 12 2 ?_
 exact lzz
theorem zsq {m:zh} {b:(List UInt8)} {fromv:Int} {met:(List (zS×zX))} {r:(zg×Int×(List (zS×zX)))} (h:zlu m b fromv met=some r):zjj Tryz.prog 88 [.rc zi [0] m,.sl Rp.byte [0] b,kI fromv,.om zad zaf 2 [0] met] [.rc zj [] r.1,k8 r.2.1] [.any,.any,.any,.om zad zaf 2 [0] r.2.2]:=by
 refine zlq (E:=⟨[(3,.om zad zaf 2 [0] r.2.2),(8,.ptr 3 0),(9,k8 r.2.1)],[⟨3,113,[kI r.1.Record.Number,kI r.1.Record.Wire,kI r.1.Record.From,kI r.1.Record.At,kI r.1.Record.To,kI r.1.Field,kB r.1.Run]⟩]⟩) 56 [3] Tryz.func88 rfl rfl rfl ⟨⟨_,_,rfl,rfl,rfl,rfl,⟨Tryz.isAgg113,Tryz.sizeOf113⟩⟩,rfl,trivial⟩ ⟨.inl rfl,.inl rfl,.inl rfl,.inr ⟨rfl,rfl⟩,trivial⟩ rfl (fun Xt old=>?_)
 refine zp ?_
 unfold zlu at h
 refine jr (ra 0 [.rc zi [0] m] rfl (zcb 13 [kS m.Name,.sl zf [0] m.Fields] [0] rfl rfl rfl rfl rfl) rfl (rfl' [14])) ?_
 obtain ⟨rv,h_rv,h⟩:=bnd h
 refine jr (rl 2 [0] 13 Tryz.call98 (zlO h_rv) (rfl' [15])) ?_
 refine jp ?_
 rcases zm h with ⟨hc1,h⟩| ⟨hc1,h⟩
 ·
  refine jT hc1 ?_
  refine jr (rc 0 rfl (zan (r:=zj) [] [] (⟨(⟨0,0,0,0,0⟩:zu),0,false⟩:zg) rfl zvM rfl rfl) rf) ?_
  obtain rfl:=sj h
  refine zhw ?_
  refine lk [3,8,9] [14] 14 3 ?_
  exact lzz
 refine jF hc1 ?_
 refine jr (rc 4 rfl (zan (r:=zad) [kI rv.1.Number,kI rv.1.Wire] [] (⟨rv.1.Number,rv.1.Wire⟩:zS) rfl zIu rfl rfl) (rfl' [16])) ?_
 refine jr (lb 1 zad [] (⟨rv.1.Number,rv.1.Wire⟩:zS) (ra 0 [.om zad zaf 2 [0] met,.rc zad [] (⟨rv.1.Number,rv.1.Wire⟩:zS)] rfl (zvf (rk:=zad) (rv:=zaf) (m:=met) (k:=(⟨rv.1.Number,rv.1.Wire⟩:zS)) (.rc zaf [2,0] ((mget met (⟨rv.1.Number,rv.1.Wire⟩:zS)).getD (⟨0,false,0⟩:zX))) rfl zCH (zoc _ _ _ _ _) (zdS rfl) (zyc rfl)) rfl (rfl' [17]))) ?_
 refine jp ?_
 obtain ⟨p,h_p,h⟩:=bnd h
 refine zcT (R:=fun e a w=>e= .normal∧Sx ⟨⟨56,[3]⟩,Xt,false,old⟩ ⟨[(3,.om zad zaf 2 [0] p.1),(8,.ptr 14 0),(10,.ptr 15 0),(13,.ptr 17 0)],[⟨14,113,[kI 0,kI 0,kI 0,kI 0,kI 0,kI 0,kB false]⟩,⟨15,111,[kI rv.1.Number,kI rv.1.Wire,kI rv.1.From,kI rv.1.At,kI rv.1.To]⟩,⟨17,185,[kI p.2.1,kB p.2.2.1,k8 p.2.2.2]⟩]⟩ a w) ?_ ?_
 ·
  replace h:=h_p
  refine zp ?_
  rcases zm h with ⟨hc2,h⟩| ⟨hc2,h⟩
  ·
   refine jT hc2 ?_
   obtain ⟨rv2,h_rv2,h⟩:=bnd h
   refine jr (lb 1 zad [] (⟨rv.1.Number,rv.1.Wire⟩:zS) (rl 0 [0] 16 Tryz.call111 (zwb h_rv2) rf)) ?_
   refine jr (lb 1 zad [] (⟨rv.1.Number,rv.1.Wire⟩:zS) (lb 0 zaf [] rv2 (rkl 0 [] ⟨[(3,.om zad zaf 2 [0] met),(8,.ptr 14 0),(10,.ptr 15 0),(13,.ptr 17 0),(41,.om zad zaf 2 [0] met),(42,.rc zad [] (⟨rv.1.Number,rv.1.Wire⟩:zS)),(43,.rc zaf [] rv2)],[⟨14,113,[kI 0,kI 0,kI 0,kI 0,kI 0,kI 0,kB false]⟩,⟨15,111,[kI rv.1.Number,kI rv.1.Wire,kI rv.1.From,kI rv.1.At,kI rv.1.To]⟩,⟨17,185,[kI rv2.field,kB rv2.run,k8 rv2.e]⟩]⟩ (zhz ⟨[(3,.om zad zaf 2 [0] (mput met (⟨rv.1.Number,rv.1.Wire⟩:zS) rv2)),(8,.ptr 14 0),(10,.ptr 15 0),(13,.ptr 17 0),(41,.om zad zaf 2 [0] (mput met (⟨rv.1.Number,rv.1.Wire⟩:zS) rv2)),(42,.rc zad [] (⟨rv.1.Number,rv.1.Wire⟩:zS)),(43,.rc zaf [] rv2)],[⟨14,113,[kI 0,kI 0,kI 0,kI 0,kI 0,kI 0,kB false]⟩,⟨15,111,[kI rv.1.Number,kI rv.1.Wire,kI rv.1.From,kI rv.1.At,kI rv.1.To]⟩,⟨17,185,[kI rv2.field,kB rv2.run,k8 rv2.e]⟩]⟩ (zsb (rk:=zad) (rv:=zaf) (m:=met) (ℓ:=2) (C:=[0]) (C1:=[]) (D:=[]) (⟨rv.1.Number,rv.1.Wire⟩:zS) rv2 [0] zCH (.inl rfl) (zdS rfl) (zdS rfl) rfl) rfl (by kernel_rfl) (by kernel_rfl) ⟨⟨_,rfl,zeJ 0 rfl⟩,⟨_,rfl,zx rfl⟩,⟨_,rfl,zx rfl⟩,⟨_,rfl,zx rfl⟩,⟨_,rfl,zeJ 0 rfl⟩,⟨_,rfl,zx rfl⟩,⟨_,rfl,zx rfl⟩,trivial⟩ ⟨⟨_,rfl,rfl,rfl,⟨zx rfl,zx rfl,zx rfl,zx rfl,zx rfl,zx rfl,zx rfl,trivial⟩⟩,⟨_,rfl,rfl,rfl,⟨zx rfl,zx rfl,zx rfl,zx rfl,zx rfl,trivial⟩⟩,⟨_,rfl,rfl,rfl,⟨zx rfl,zx rfl,zx rfl,trivial⟩⟩,trivial⟩ rf)))) ?_
   obtain rfl:=sj h
   exact zL lzz
  refine jF hc2 ?_
  obtain rfl:=sj h
  exact zL lzz
 refine zeF ?_
 refine jp ?_
 rcases zm h with ⟨hc3,h⟩| ⟨hc3,h⟩
 ·
  refine jT hc3 ?_
  refine jd [3,8,9] [14] zcc (by exact (lx (zan (r:=zj) [] [] (⟨(⟨0,0,0,0,0⟩:zu),0,false⟩:zg) rfl zvM rfl rfl) (lw_e (lw_e (ly [.ptr 14 0,.rc zj [] (⟨(⟨0,0,0,0,0⟩:zu),0,false⟩:zg)] (zgA (r:=zj) (b:=⟨14,113,[kI 0,kI 0,kI 0,kI 0,kI 0,kI 0,kB false]⟩) (off:=0) [kI 0,kI 0,kI 0,kI 0,kI 0,kI 0,kB false] rfl Tryz.sizeOf113 rfl rfl rfl rfl) rfl l0))))) ?_
  obtain rfl:=sj h
  refine zhw ?_
  refine lk [3,8,9] [14] 14 3 ?_
  exact lzz
 refine jF hc3 ?_
 refine jr (lb 0 zY [] rv.1 (rc 4 rfl (zan (r:=zj) [.rc zY [] rv.1,kI p.2.1,kB p.2.2.1] [] (⟨rv.1,p.2.1,p.2.2.1⟩:zg) rfl zvM rfl rfl) rf)) ?_
 obtain rfl:=sj h
 refine zhw ?_
 refine lk [3,8,9] [14] 14 3 ?_
 exact lzz
theorem zoy (v:Int) (v2:(List UInt8)):ItOk Tryz.prog 170 [.bp (Rp.int .i64) 3 917000 [] v,.bp (Rp.list Rp.byte) 24 917001 [0] v2] (fun x:((List UInt8)×Int)=>[.sl Rp.byte [0] x.1,k8 x.2]) (fun {σ:Type} (kf:Rnd σ ((List UInt8)×Int)) (sg:σ)=>zfl v v2 kf sg):=by
 refine zEW 38 [(1,.ptr 917000 0),(2,.ptr 917001 0)] [⟨917000,3,[kI v]⟩,⟨917001,24,[.sl Rp.byte [0] v2]⟩] Tryz.func170 rfl rfl rfl rfl (.cons (Rp.int .i64) 3 917000 [] v [kI v] rfl rfl (.cons (Rp.list Rp.byte) 24 917001 [0] v2 [.sl Rp.byte [0] v2] rfl rfl (.nil _))) ?_
 intro σ kf sg s1 h l I hI F_ hT
 replace h:zfl v v2 kf sg=some s1:=h
 refine zp ?_
 refine zpm (E':=⟨[(0,.lf (.val (.func (.yield l) #[] #[]))),(1,.ptr 917000 0),(2,.ptr 917001 0)],[⟨917000,3,[kI v]⟩,⟨917001,24,[.sl Rp.byte [0] v2]⟩]⟩) (fun _ _ _ hs=>hs) ?_
 unfold zfl at h
 obtain ⟨rv,h_rv,h⟩:=bnd h
 refine jr (rl 1 [1] 9 Tryz.call171 (zyL h_rv) rf) ?_
 refine jp ?_
 rcases zm h with ⟨hc1,h⟩| ⟨hc1,h⟩
 ·
  refine jT hc1 ?_
  obtain ⟨y,h_y,h⟩:=bnd h
  refine zzV (E':=⟨[],[]⟩) (x:=(([]:(List UInt8)),2)) (b:=y.1) (s':=y.2) 1 (some 13) [.const (.slice none 0 0),.const (.int .u8 2)] [kN,k8 2] [.sl Rp.byte [0] ([]:(List UInt8)),k8 2] ⟨[(12,.lf (.val (.func (.yield l) #[] #[])))],[]⟩ hT rfl rfl rfl rfl rfl rgg rfl ⟨rfl,⟨rfl,trivial⟩⟩ rfl ⟨zgz _ _,AV.le_refl _,trivial⟩ rfl rfl h_y rgg ?_
  obtain rfl:=sj h
  exact zHX lzz
 refine jF hc1 ?_
 refine jp ?_
 refine zA ?_
 obtain ⟨q,h_q,h⟩:=bnd h
 refine zEY (fun s:((List UInt8)×σ)=>zcn kf rv s.1 s.2) (fun s=>⟨⟨38,[]⟩,itX I hI F_ s.2,false,#[]⟩) (fun s=>⟨[(0,.lf (.val (.func (.yield l) #[] #[]))),(4,kI rv),(5,.sl Rp.byte [0] s.1)],[]⟩) (fun o e a w=>match o with| (.inl v_)=>e= .exit 0∧Sx ⟨⟨38,[]⟩,itX I hI F_ v_,false,#[]⟩ ⟨[],[]⟩ a w| (.inr v_)=>e= .ret∧Sx ⟨⟨38,[]⟩,itX I hI F_ v_,false,#[]⟩ ⟨[],[]⟩ a w) ?_ h_q rfl lzz ?_
 ·
  clear h
  intro s o h
  obtain ⟨rest,sg2⟩:=s
  refine zp ?_
  replace h:zcn kf rv rest sg2=some o:=h
  unfold zcn at h
  refine jp ?_
  rcases zm h with ⟨hc2,h⟩| ⟨hc2,h⟩
  ·
   refine jT hc2 ?_
   refine zA ?_
   obtain ⟨rv2,h_rv2,h⟩:=bnd h
   refine jr (rl 2 [0] 10 Tryz.call172 (zyK h_rv2) rf) ?_
   obtain ⟨v3,h_v3,h⟩:=bnd h
   obtain ⟨y2,h_y2,h⟩:=bnd h
   refine zzV (E':=⟨[(0,.lf (.val (.func (.yield l) #[] #[]))),(4,kI rv),(5,.sl Rp.byte [0] rest),(6,kI rv2.1),(34,kB ((!y2.1)|| (rv2.2 !=0)))],[]⟩) (x:=(v3,rv2.2)) (b:=y2.1) (s':=y2.2) 5 (some 29) [.tmp 27,.tmp 28] [.sl Rp.byte [0] v3,k8 rv2.2] [.sl Rp.byte [0] v3,k8 rv2.2] ⟨[(0,.lf (.val (.func (.yield l) #[] #[]))),(4,kI rv),(5,.sl Rp.byte [0] rest),(6,kI rv2.1),(7,k8 rv2.2),(24,.lf (.val (.func (.yield l) #[] #[]))),(27,.sl Rp.byte [0] v3),(28,k8 rv2.2)],[]⟩ hT rfl rfl rfl rfl rfl (ra 3 [.sl Rp.byte [0] rest,kI rv2.1] rfl (zik none (some (kI rv2.1)) rfl zeU.el (zJ _ _ _) ⟨rfl,rfl⟩ ⟨rfl,rfl⟩ h_v3) rfl rgg) rfl ⟨rfl,⟨rfl,trivial⟩⟩ rfl ⟨AV.le_refl _,AV.le_refl _,trivial⟩ rfl rfl h_y2 ?_ ?_
   ·
    refine (rsl 2 [] 31 (!y2.1) (fun hc3=>?_) (fun hc3=>?_))
    · exact (rbl [] 34 true ((!y2.1)|| (rv2.2 !=0)) (by rw [hc3]<;>rfl))
    exact (rbl [] 34 (rv2.2 !=0) ((!y2.1)|| (rv2.2 !=0)) (by rw [hc3]<;>rfl))
   rcases zm h with ⟨hc4,h⟩| ⟨hc4,h⟩
   ·
    refine jT hc4 ?_
    obtain rfl:=sj h
    exact zaZ lzz
   refine jF hc4 ?_
   obtain ⟨v5,h_v5,h⟩:=bnd h
   refine jr (ra 2 [.sl Rp.byte [0] rest,kI rv2.1] rfl (zik (some (kI rv2.1)) none rfl zeU.el (zJ _ _ _) ⟨rfl,rfl⟩ ⟨rfl,rfl⟩ h_v5) rfl rf) ?_
   refine zag ?_
   obtain rfl:=sj h
   exact zL lzz
  refine jF hc2 ?_
  obtain rfl:=sj h
  exact zam rfl lzz
 rcases q with u| u2
 ·
  refine zaD _ rfl ?_
  obtain rfl:=sj h
  exact zHW lzz
 obtain rfl:=sj h
 exact zHZ lzz
theorem zti {l:(List Str)} {r:Bool} (h:ziC l=some r):FnOk Tryz.prog 81 [.sl Rp.str [0] l] [kB r]:=by
 refine zC (E:=⟨[(2,kB r)],[]⟩) 16 Tryz.func81 rfl rfl rfl ⟨rfl,trivial⟩ (fun Xt=>?_)
 refine zp ?_
 unfold ziC at h
 refine jp ?_
 refine jp ?_
 refine zA ?_
 obtain ⟨q,h_q,h⟩:=bnd h
 refine zal (fun s:Int=>zcr l s) (fun s=>⟨[(5,.sl Rp.str [0] l),(6,kI (l.length:Int)),(7,kI s)],[]⟩) (fun o e a w=>match o with| (.inl v_)=>e= .exit 0∧Sx ⟨⟨16,[]⟩,Xt,false,#[]⟩ ⟨[],[]⟩ a w| (.inr v_)=>e= .ret∧Sx ⟨⟨16,[]⟩,Xt,false,#[]⟩ ⟨[(2,kB false)],[]⟩ a w) ?_ h_q lzz ?_
 ·
  clear h
  intro v o h
  refine zp ?_
  replace h:zcr l v=some o:=h
  unfold zcr at h
  refine jp ?_
  rcases zm h with ⟨hc1,h⟩| ⟨hc1,h⟩
  ·
   refine jT hc1 ?_
   refine zA ?_
   obtain ⟨x,h_x,h⟩:=bnd h
   refine jr (ra 0 [.sl Rp.str [0] l,kI v] rfl (zao rfl zif.el (zJ _ _ _) h_x) rfl rf) ?_
   obtain ⟨v2,h_v2,h⟩:=bnd h
   obtain ⟨rv,h_rv,h⟩:=bnd h
   refine jr (ra 1 [kS x] rfl (zuk 12 rfl Tryz.underlying9 Tryz.underlying24 Tryz.underlying5 h_v2) rfl (rl 0 [12] 11 Tryz.call106 (zsn h_rv) rf)) ?_
   rcases zm h with ⟨hc2,h⟩| ⟨hc2,h⟩
   ·
    refine jT hc2 ?_
    refine jp ?_
    obtain rfl:=sj h
    exact zaZ lzz
   refine jF hc2 ?_
   refine zag ?_
   refine jp ?_
   obtain rfl:=sj h
   exact zL lzz
  refine jF hc1 ?_
  obtain rfl:=sj h
  exact zam rfl lzz
 rcases q with u| u2
 ·
  refine zaD _ rfl ?_
  refine jp ?_
  obtain rfl:=sj h
  exact zz lzz
 obtain rfl:=sj h
 exact zcK lzz
end Go.Proofs.YtcbkcblkecmjnaaGreat

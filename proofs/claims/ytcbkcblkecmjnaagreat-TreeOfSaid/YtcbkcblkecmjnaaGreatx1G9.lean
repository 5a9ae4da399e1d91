/-
  The Go functions do what the plain functions say. No condition.
-/
import Derived.Test.YtcbkcblkecmjnaaGreatx1G8
namespace Go.Proofs.YtcbkcblkecmjnaaGreat
open Go Go.RowKit
set_option linter.unusedVariables false
set_option maxRecDepth 100000
set_option maxHeartbeats 3200000
theorem zrq {sv:(List zh)} {r:(zaX×Int)} (h:zhs sv=some r):FnOk Tryz.prog 80 [.sl zi [0] sv] [.rc zdG [] r.1,k8 r.2]:=by
 refine zB (E:=⟨[(2,.ptr 2 0),(3,k8 r.2)],[⟨2,142,[kI r.1.Message,kI r.1.Field,kI r.1.What]⟩]⟩) 62 Tryz.func80 rfl rfl rfl ⟨⟨_,_,rfl,rfl,rfl,rfl,⟨Tryz.isAgg142,Tryz.sizeOf142⟩⟩,rfl,trivial⟩ (fun Xt=>?_)
 refine zr ?_
 unfold zhs at h
 refine jq [12] ?_
 refine zS ⟨[(0,.sl zi [0] sv),(2,.ptr 12 0),(18,kB ((decide ((sv.length:Int)<1))|| (decide ((sv.length:Int)>100))))],[⟨12,142,[kI 0,kI 0,kI 0]⟩]⟩ ?_ ?_
 ·
  refine (rsl 4 [] 14 (decide ((sv.length:Int)<1)) (fun hc1=>?_) (fun hc1=>?_))
  · exact (rbl [] 18 true ((decide ((sv.length:Int)<1))|| (decide ((sv.length:Int)>100))) (by rw [hc1]<;>rfl))
  exact (rbl [] 18 (decide ((sv.length:Int)>100)) ((decide ((sv.length:Int)<1))|| (decide ((sv.length:Int)>100))) (by rw [hc1]<;>rfl))
 rcases zn h with ⟨hc2,h⟩| ⟨hc2,h⟩
 ·
  refine jT hc2 ?_
  refine jr (rc 0 rfl (zX (r:=zdG) [kI (-1),kI (-1),kI 1] [] (⟨(-1),(-1),1⟩:zaX) rfl zwo rfl rfl) rf) ?_
  obtain rfl:=sj h
  refine zx ?_
  refine lk [2,3] [12] 12 2 ?_
  exact lzz
 refine jF hc2 ?_
 obtain ⟨rv,h_rv,h⟩:=bnd h
 refine jr (rl 2 [1] 11 Tryz.call103 (zxq h_rv) (rc 0 rfl (zkZ (rk:=zu) (rv:=Rp.bool) 14 rfl) (rc 0 rfl (zkZ (rk:=zt) (rv:=Rp.bool) 15 rfl) (ra 0 [kI (sv.length:Int),.own (Rp.int .i64) 3 13 [] rv,.om zu Rp.bool 14 [] ([]:(List (zp×Bool))),.om zt Rp.bool 15 [] ([]:(List (zq×Bool)))] rfl (zgx [kI (sv.length:Int),.own (Rp.int .i64) 3 13 [] rv,.om zu Rp.bool 14 [] ([]:(List (zp×Bool))),.om zt Rp.bool 15 [] ([]:(List (zq×Bool)))] [kI (sv.length:Int),.own (Rp.int .i64) 3 13 [] rv,.om zu Rp.bool 14 [] ([]:(List (zp×Bool))),.om zt Rp.bool 15 [] ([]:(List (zq×Bool)))] rfl zFR rfl) rfl (rfl' [16]))))) ?_
 refine jp ?_
 refine zy ?_
 obtain ⟨q2,h_q2,h⟩:=bnd h
 refine zah (fun s:(Int×(List (zp×Bool))×(List (zq×Bool)))=>zaV rv sv s.1 s.2.1 s.2.2) (fun s=>⟨[(2,.ptr 12 0),(4,.ptr 16 0),(26,.sl zi [0] sv),(27,kI (sv.length:Int)),(28,kI s.1)],[⟨12,142,[kI 0,kI 0,kI 0]⟩,⟨16,174,[kI (sv.length:Int),.own (Rp.int .i64) 3 13 [] rv,.om zu Rp.bool 14 [13,0] s.2.1,.om zt Rp.bool 15 [13,0] s.2.2]⟩]⟩) (fun o e a w=>match o with| (.inl v_)=>e= .exit 0∧Sx ⟨⟨62,[]⟩,Xt,false,#[]⟩ ⟨[(2,.ptr 12 0)],[⟨12,142,[kI 0,kI 0,kI 0]⟩]⟩ a w| (.inr v_)=>e= .ret∧Sx ⟨⟨62,[]⟩,Xt,false,#[]⟩ ⟨[(2,.ptr 12 0),(3,k8 9)],[⟨12,142,[kI v_.1,kI v_.2.1,kI v_.2.2]⟩]⟩ a w) ?_ h_q2 ?_ ?_
 ·
  clear h
  intro s o h
  obtain ⟨v2,f,f2⟩:=s
  refine zr ?_
  replace h:zaV rv sv v2 f f2=some o:=h
  unfold zaV at h
  refine jp ?_
  rcases zn h with ⟨hc3,h⟩| ⟨hc3,h⟩
  ·
   refine jT hc3 ?_
   refine zy ?_
   obtain ⟨x,h_x,h⟩:=bnd h
   refine jr (ra 1 [.sl zi [0] sv,kI v2] rfl (zao rfl zgu.el (zI _ _ _) h_x) rfl (ra 0 [.ep zi [0] x 0] rfl (zdm rfl ⟨Tryz.isAgg73,Tryz.sizeOf73⟩) rfl (ral 2 [18] [.ptr 18 0,.rc zi [0] x] rfl (zkG (r:=zi) (b:=⟨18,73,[kS [],kN]⟩) (off:=0) [kS x.Name,.sl za [0] x.Fields] rfl Tryz.sizeOf73 rfl rfl rfl rfl) rfl rf))) ?_
   obtain ⟨rv3,h_rv3,h⟩:=bnd h
   refine jr (rkl 2 [] ⟨[(2,.ptr 12 0),(4,.ptr 16 0),(5,kI v2),(6,.ptr 18 0),(26,.sl zi [0] sv),(27,kI (sv.length:Int)),(28,kI v2),(33,.ag [kI (sv.length:Int),.own (Rp.int .i64) 3 13 [] rv,.om zu Rp.bool 14 [13,0] f,.om zt Rp.bool 15 [13,0] f2]),(34,.ag [kS x.Name,.sl za [0] x.Fields])],[⟨12,142,[kI 0,kI 0,kI 0]⟩,⟨16,174,[kI (sv.length:Int),.own (Rp.int .i64) 3 13 [] rv,.om zu Rp.bool 14 [13,0] f,.om zt Rp.bool 15 [13,0] f2]⟩,⟨18,73,[kS x.Name,.sl za [0] x.Fields]⟩]⟩ (zgh ⟨[(2,.ptr 12 0),(4,.ptr 16 0),(5,kI v2),(6,.ptr 18 0),(26,.sl zi [0] sv),(27,kI (sv.length:Int)),(28,kI v2),(33,.ag [kI (sv.length:Int),.own (Rp.int .i64) 3 13 [] rv,.om zu Rp.bool 14 [13,0] rv3.2.1,.om zt Rp.bool 15 [13,0] rv3.2.2]),(34,.ag [kS x.Name,.sl za [0] x.Fields])],[⟨12,142,[kI 0,kI 0,kI 0]⟩,⟨16,174,[kI (sv.length:Int),.own (Rp.int .i64) 3 13 [] rv,.om zu Rp.bool 14 [13,0] rv3.2.1,.om zt Rp.bool 15 [13,0] rv3.2.2]⟩,⟨18,73,[kS x.Name,.sl za [0] x.Fields]⟩]⟩ (zmy.le (ins':=[(.tmp 33,.ag [kI (sv.length:Int),.own (Rp.int .i64) 3 13 [] rv,.om zu Rp.bool 14 [13,0] f,.om zt Rp.bool 15 [13,0] f2]),(.tmp 34,.ag [kS x.Name,.sl za [0] x.Fields])]) (zkj (args:=[.tmp 33,.tmp 34]) [.ag [kI (sv.length:Int),.own (Rp.int .i64) 3 13 [] rv,.om zu Rp.bool 14 [13,0] f,.om zt Rp.bool 15 [13,0] f2],.rc zi [0] x] [(14,2),(15,3)] [13,0] 19 [] rfl Tryz.call104 (zlk h_rv3) rfl rfl (by kernel_rfl) rfl rfl rfl) ⟨⟨rfl,AV.le_refl _⟩,⟨rfl,zcw zi [0] x [kS x.Name,.sl za [0] x.Fields] rfl rfl⟩,trivial⟩) rfl (by kernel_rfl) (by kernel_rfl) ⟨⟨_,rfl,zv rfl⟩,⟨_,rfl,zv rfl⟩,⟨_,rfl,zv rfl⟩,⟨_,rfl,zv rfl⟩,⟨_,rfl,zv rfl⟩,⟨_,rfl,zv rfl⟩,⟨_,rfl,zv rfl⟩,⟨_,rfl,zln ⟨zv rfl,zv rfl,zea 0 rfl,zea 1 rfl,trivial⟩⟩,⟨_,rfl,zv rfl⟩,trivial⟩ ⟨⟨_,rfl,rfl,rfl,⟨zv rfl,zv rfl,zv rfl,trivial⟩⟩,⟨_,rfl,rfl,rfl,⟨zv rfl,zv rfl,zea 0 rfl,zea 1 rfl,trivial⟩⟩,⟨_,rfl,rfl,rfl,⟨zv rfl,zv rfl,trivial⟩⟩,trivial⟩ rf)) ?_
   refine jp ?_
   rcases zn h with ⟨hc4,h⟩| ⟨hc4,h⟩
   ·
    refine jT hc4 ?_
    refine jr (rc 2 rfl (zX (r:=zdG) [kI v2,kI (-1),kI rv3.1] [] (⟨v2,(-1),rv3.1⟩:zaX) rfl zwo rfl rfl) rf) ?_
    obtain rfl:=sj h
    exact zbq lzz
   refine jF hc4 ?_
   refine jp ?_
   refine zy ?_
   obtain ⟨q,h_q,h⟩:=bnd h
   refine zah (fun s:(Int×(List (zp×Bool))×(List (zq×Bool)))=>zbA rv sv v2 x s.1 s.2.1 s.2.2) (fun s=>⟨[(2,.ptr 12 0),(4,.ptr 16 0),(5,kI v2),(26,.sl zi [0] sv),(27,kI (sv.length:Int)),(28,kI v2),(42,.sl za [0] x.Fields),(43,kI (x.Fields.length:Int)),(44,kI s.1)],[⟨12,142,[kI 0,kI 0,kI 0]⟩,⟨16,174,[kI (sv.length:Int),.own (Rp.int .i64) 3 13 [] rv,.om zu Rp.bool 14 [13,0] s.2.1,.om zt Rp.bool 15 [13,0] s.2.2]⟩]⟩) (fun o e a w=>match o with| (.inl v_)=>e= .exit 2∧Sx ⟨⟨62,[]⟩,Xt,false,#[]⟩ ⟨[(2,.ptr 12 0),(4,.ptr 16 0),(26,.sl zi [0] sv),(27,kI (sv.length:Int)),(28,kI v2)],[⟨12,142,[kI 0,kI 0,kI 0]⟩,⟨16,174,[kI (sv.length:Int),.own (Rp.int .i64) 3 13 [] rv,.om zu Rp.bool 14 [13,0] v_.1,.om zt Rp.bool 15 [13,0] v_.2]⟩]⟩ a w| (.inr v_)=>e= .ret∧Sx ⟨⟨62,[]⟩,Xt,false,#[]⟩ ⟨[(2,.ptr 12 0),(3,k8 9)],[⟨12,142,[kI v2,kI v_.1,kI v_.2]⟩]⟩ a w) ?_ h_q lzz ?_
   ·
    clear h
    intro s o h
    obtain ⟨v3,f6,f7⟩:=s
    refine zr ?_
    replace h:zbA rv sv v2 x v3 f6 f7=some o:=h
    unfold zbA at h
    refine jp ?_
    rcases zn h with ⟨hc5,h⟩| ⟨hc5,h⟩
    ·
     refine jT hc5 ?_
     refine zy ?_
     obtain ⟨x2,h_x2,h⟩:=bnd h
     refine jr (ra 1 [.sl za [0] x.Fields,kI v3] rfl (zao rfl ziD.el (zI _ _ _) h_x2) rfl (ra 0 [.ep za [0] x2 0] rfl (zdm rfl ⟨Tryz.isAgg64,Tryz.sizeOf64⟩) rfl (rfl' [24]))) ?_
     obtain ⟨rv5,h_rv5,h⟩:=bnd h
     refine jr (lb 2 za [] x2 (rkl 0 [] ⟨[(2,.ptr 12 0),(4,.ptr 16 0),(5,kI v2),(8,kI v3),(26,.sl zi [0] sv),(27,kI (sv.length:Int)),(28,kI v2),(42,.sl za [0] x.Fields),(43,kI (x.Fields.length:Int)),(44,kI v3),(49,.ag [kI (sv.length:Int),.own (Rp.int .i64) 3 13 [] rv,.om zu Rp.bool 14 [13,0] f6,.om zt Rp.bool 15 [13,0] f7]),(50,kI v2),(51,.rc za [] x2)],[⟨12,142,[kI 0,kI 0,kI 0]⟩,⟨16,174,[kI (sv.length:Int),.own (Rp.int .i64) 3 13 [] rv,.om zu Rp.bool 14 [13,0] f6,.om zt Rp.bool 15 [13,0] f7]⟩]⟩ (zgh ⟨[(2,.ptr 12 0),(4,.ptr 16 0),(5,kI v2),(8,kI v3),(26,.sl zi [0] sv),(27,kI (sv.length:Int)),(28,kI v2),(42,.sl za [0] x.Fields),(43,kI (x.Fields.length:Int)),(44,kI v3),(49,.ag [kI (sv.length:Int),.own (Rp.int .i64) 3 13 [] rv,.om zu Rp.bool 14 [13,0] rv5.2.1,.om zt Rp.bool 15 [13,0] rv5.2.2]),(50,kI v2),(51,.rc za [] x2)],[⟨12,142,[kI 0,kI 0,kI 0]⟩,⟨16,174,[kI (sv.length:Int),.own (Rp.int .i64) 3 13 [] rv,.om zu Rp.bool 14 [13,0] rv5.2.1,.om zt Rp.bool 15 [13,0] rv5.2.2]⟩]⟩ (zkj [.ag [kI (sv.length:Int),.own (Rp.int .i64) 3 13 [] rv,.om zu Rp.bool 14 [13,0] f6,.om zt Rp.bool 15 [13,0] f7],kI v2,.rc za [] x2] [(14,2),(15,3)] [13,0] 25 [] rfl Tryz.call105 (zms h_rv5) rfl rfl (by kernel_rfl) rfl rfl rfl) rfl (by kernel_rfl) (by kernel_rfl) ⟨⟨_,rfl,zv rfl⟩,⟨_,rfl,zv rfl⟩,⟨_,rfl,zv rfl⟩,⟨_,rfl,zv rfl⟩,⟨_,rfl,zv rfl⟩,⟨_,rfl,zv rfl⟩,⟨_,rfl,zv rfl⟩,⟨_,rfl,zv rfl⟩,⟨_,rfl,zv rfl⟩,⟨_,rfl,zv rfl⟩,⟨_,rfl,zln ⟨zv rfl,zv rfl,zea 0 rfl,zea 1 rfl,trivial⟩⟩,⟨_,rfl,zv rfl⟩,⟨_,rfl,zv rfl⟩,trivial⟩ ⟨⟨_,rfl,rfl,rfl,⟨zv rfl,zv rfl,zv rfl,trivial⟩⟩,⟨_,rfl,rfl,rfl,⟨zv rfl,zv rfl,zea 0 rfl,zea 1 rfl,trivial⟩⟩,trivial⟩ rf))) ?_
     refine jp ?_
     rcases zn h with ⟨hc6,h⟩| ⟨hc6,h⟩
     ·
      refine jT hc6 ?_
      refine jr (rc 3 rfl (zX (r:=zdG) [kI v2,kI v3,kI rv5.1] [] (⟨v2,v3,rv5.1⟩:zaX) rfl zwo rfl rfl) rf) ?_
      obtain rfl:=sj h
      exact zbq lzz
     refine jF hc6 ?_
     refine zT ?_
     refine jp ?_
     obtain rfl:=sj h
     exact zE lzz
    refine jF hc5 ?_
    obtain rfl:=sj h
    exact zai rfl lzz
   rcases q with u| u2
   ·
    refine zaI _ rfl ?_
    refine zT ?_
    refine jp ?_
    obtain rfl:=sj h
    exact zE lzz
   obtain rfl:=sj h
   exact zrG lzz
  refine jF hc3 ?_
  obtain rfl:=sj h
  exact zai rfl lzz
 ·
  refine zbn ⟨[(2,.ptr 12 0),(4,.ptr 16 0),(26,.sl zi [0] sv),(27,kI (sv.length:Int)),(28,kI 0)],[⟨12,142,[kI 0,kI 0,kI 0]⟩,⟨16,174,[kI (sv.length:Int),.own (Rp.int .i64) 3 13 [] rv,.om zu Rp.bool 14 [] ([]:(List (zp×Bool))),.om zt Rp.bool 15 [] ([]:(List (zq×Bool)))]⟩]⟩ (by kernel_rfl) ?_
  refine zex 16 2 (.om zu Rp.bool 14 [13,0] ([]:(List (zp×Bool)))) rfl rfl (zCG _ _ _ _ rfl rfl) ?_
  refine zex 16 3 (.om zt Rp.bool 15 [13,0] ([]:(List (zq×Bool)))) rfl rfl (zCG _ _ _ _ rfl rfl) ?_
  exact lzz
 rcases q2 with u3| u4
 ·
  refine zaI _ rfl ?_
  refine jr (rc 0 rfl (zX (r:=zdG) [] [] (⟨0,0,0⟩:zaX) rfl zwo rfl rfl) rf) ?_
  obtain rfl:=sj h
  refine zx ?_
  refine lk [2,3] [12] 12 2 ?_
  exact lzz
 obtain rfl:=sj h
 refine zed ?_
 refine lk [2,3] [12] 12 2 ?_
 exact lzz
theorem zpL {m:zh} {b:(List UInt8)} {fromv:Int} {met:(List (zK×zP))} {r:(zf×Int×(List (zK×zP)))} (h:zje m b fromv met=some r):zhj Tryz.prog 88 [.rc zi [0] m,.sl Rp.byte [0] b,kI fromv,.om zQ zR 2 [0] met] [.rc zg [] r.1,k8 r.2.1] [.any,.any,.any,.om zQ zR 2 [0] r.2.2]:=by
 refine zja (E:=⟨[(3,.om zQ zR 2 [0] r.2.2),(8,.ptr 3 0),(9,k8 r.2.1)],[⟨3,113,[kI r.1.Record.Number,kI r.1.Record.Wire,kI r.1.Record.From,kI r.1.Record.At,kI r.1.Record.To,kI r.1.Field,kB r.1.Run]⟩]⟩) 56 [3] Tryz.func88 rfl rfl rfl ⟨⟨_,_,rfl,rfl,rfl,rfl,⟨Tryz.isAgg113,Tryz.sizeOf113⟩⟩,rfl,trivial⟩ ⟨.inl rfl,.inl rfl,.inl rfl,.inr ⟨rfl,rfl⟩,trivial⟩ rfl (fun Xt old=>?_)
 refine zr ?_
 unfold zje at h
 refine jr (ra 0 [.rc zi [0] m] rfl (zeC 13 [kS m.Name,.sl za [0] m.Fields] [0] rfl rfl rfl rfl rfl) rfl (rfl' [14])) ?_
 obtain ⟨rv,h_rv,h⟩:=bnd h
 refine jr (rl 2 [0] 13 Tryz.call98 (zna h_rv) (rfl' [15])) ?_
 refine jp ?_
 rcases zn h with ⟨hc1,h⟩| ⟨hc1,h⟩
 ·
  refine jT hc1 ?_
  refine jr (rc 0 rfl (zX (r:=zg) [] [] (⟨(⟨0,0,0,0,0⟩:zo),0,false⟩:zf) rfl ztn rfl rfl) rf) ?_
  obtain rfl:=sj h
  refine zgd ?_
  refine lk [3,8,9] [14] 14 3 ?_
  exact lzz
 refine jF hc1 ?_
 refine jr (rc 4 rfl (zX (r:=zQ) [kI rv.1.Number,kI rv.1.Wire] [] (⟨rv.1.Number,rv.1.Wire⟩:zK) rfl zFU rfl rfl) (rfl' [16])) ?_
 refine jr (lb 1 zQ [] (⟨rv.1.Number,rv.1.Wire⟩:zK) (ra 0 [.om zQ zR 2 [0] met,.rc zQ [] (⟨rv.1.Number,rv.1.Wire⟩:zK)] rfl (zsE (rk:=zQ) (rv:=zR) (m:=met) (k:=(⟨rv.1.Number,rv.1.Wire⟩:zK)) (.rc zR [2,0] ((mget met (⟨rv.1.Number,rv.1.Wire⟩:zK)).getD (⟨0,false,0⟩:zP))) rfl zAb (zlG _ _ _ _ _) (zcX rfl) (zvy rfl)) rfl (rfl' [17]))) ?_
 refine jp ?_
 obtain ⟨p,h_p,h⟩:=bnd h
 refine zbV (R:=fun e a w=>e= .normal∧Sx ⟨⟨56,[3]⟩,Xt,false,old⟩ ⟨[(3,.om zQ zR 2 [0] p.1),(8,.ptr 14 0),(10,.ptr 15 0),(13,.ptr 17 0)],[⟨14,113,[kI 0,kI 0,kI 0,kI 0,kI 0,kI 0,kB false]⟩,⟨15,111,[kI rv.1.Number,kI rv.1.Wire,kI rv.1.From,kI rv.1.At,kI rv.1.To]⟩,⟨17,185,[kI p.2.1,kB p.2.2.1,k8 p.2.2.2]⟩]⟩ a w) ?_ ?_
 ·
  replace h:=h_p
  refine zr ?_
  rcases zn h with ⟨hc2,h⟩| ⟨hc2,h⟩
  ·
   refine jT hc2 ?_
   obtain ⟨rv2,h_rv2,h⟩:=bnd h
   refine jr (lb 1 zQ [] (⟨rv.1.Number,rv.1.Wire⟩:zK) (rl 0 [0] 16 Tryz.call111 (ztC h_rv2) rf)) ?_
   refine jr (lb 1 zQ [] (⟨rv.1.Number,rv.1.Wire⟩:zK) (lb 0 zR [] rv2 (rkl 0 [] ⟨[(3,.om zQ zR 2 [0] met),(8,.ptr 14 0),(10,.ptr 15 0),(13,.ptr 17 0),(41,.om zQ zR 2 [0] met),(42,.rc zQ [] (⟨rv.1.Number,rv.1.Wire⟩:zK)),(43,.rc zR [] rv2)],[⟨14,113,[kI 0,kI 0,kI 0,kI 0,kI 0,kI 0,kB false]⟩,⟨15,111,[kI rv.1.Number,kI rv.1.Wire,kI rv.1.From,kI rv.1.At,kI rv.1.To]⟩,⟨17,185,[kI rv2.field,kB rv2.run,k8 rv2.e]⟩]⟩ (zgh ⟨[(3,.om zQ zR 2 [0] (mput met (⟨rv.1.Number,rv.1.Wire⟩:zK) rv2)),(8,.ptr 14 0),(10,.ptr 15 0),(13,.ptr 17 0),(41,.om zQ zR 2 [0] (mput met (⟨rv.1.Number,rv.1.Wire⟩:zK) rv2)),(42,.rc zQ [] (⟨rv.1.Number,rv.1.Wire⟩:zK)),(43,.rc zR [] rv2)],[⟨14,113,[kI 0,kI 0,kI 0,kI 0,kI 0,kI 0,kB false]⟩,⟨15,111,[kI rv.1.Number,kI rv.1.Wire,kI rv.1.From,kI rv.1.At,kI rv.1.To]⟩,⟨17,185,[kI rv2.field,kB rv2.run,k8 rv2.e]⟩]⟩ (zpB (rk:=zQ) (rv:=zR) (m:=met) (ℓ:=2) (C:=[0]) (C1:=[]) (D:=[]) (⟨rv.1.Number,rv.1.Wire⟩:zK) rv2 [0] zAb (.inl rfl) (zcX rfl) (zcX rfl) rfl) rfl (by kernel_rfl) (by kernel_rfl) ⟨⟨_,rfl,zea 0 rfl⟩,⟨_,rfl,zv rfl⟩,⟨_,rfl,zv rfl⟩,⟨_,rfl,zv rfl⟩,⟨_,rfl,zea 0 rfl⟩,⟨_,rfl,zv rfl⟩,⟨_,rfl,zv rfl⟩,trivial⟩ ⟨⟨_,rfl,rfl,rfl,⟨zv rfl,zv rfl,zv rfl,zv rfl,zv rfl,zv rfl,zv rfl,trivial⟩⟩,⟨_,rfl,rfl,rfl,⟨zv rfl,zv rfl,zv rfl,zv rfl,zv rfl,trivial⟩⟩,⟨_,rfl,rfl,rfl,⟨zv rfl,zv rfl,zv rfl,trivial⟩⟩,trivial⟩ rf)))) ?_
   obtain rfl:=sj h
   exact zE lzz
  refine jF hc2 ?_
  obtain rfl:=sj h
  exact zE lzz
 refine zdw ?_
 refine jp ?_
 rcases zn h with ⟨hc3,h⟩| ⟨hc3,h⟩
 ·
  refine jT hc3 ?_
  refine jd [3,8,9] [14] zcy (by exact (lx (zX (r:=zg) [] [] (⟨(⟨0,0,0,0,0⟩:zo),0,false⟩:zf) rfl ztn rfl rfl) (lw_e (lw_e (ly [.ptr 14 0,.rc zg [] (⟨(⟨0,0,0,0,0⟩:zo),0,false⟩:zf)] (zkG (r:=zg) (b:=⟨14,113,[kI 0,kI 0,kI 0,kI 0,kI 0,kI 0,kB false]⟩) (off:=0) [kI 0,kI 0,kI 0,kI 0,kI 0,kI 0,kB false] rfl Tryz.sizeOf113 rfl rfl rfl rfl) rfl l0))))) ?_
  obtain rfl:=sj h
  refine zgd ?_
  refine lk [3,8,9] [14] 14 3 ?_
  exact lzz
 refine jF hc3 ?_
 refine jr (lb 0 zF [] rv.1 (rc 4 rfl (zX (r:=zg) [.rc zF [] rv.1,kI p.2.1,kB p.2.2.1] [] (⟨rv.1,p.2.1,p.2.2.1⟩:zf) rfl ztn rfl rfl) rf)) ?_
 obtain rfl:=sj h
 refine zgd ?_
 refine lk [3,8,9] [14] 14 3 ?_
 exact lzz
theorem zlX (v:Int) (v2:(List UInt8)):ItOk Tryz.prog 170 [.bp (Rp.int .i64) 3 917000 [] v,.bp (Rp.list Rp.byte) 24 917001 [0] v2] (fun x:((List UInt8)×Int)=>[.sl Rp.byte [0] x.1,k8 x.2]) (fun {σ:Type} (kf:Rnd σ ((List UInt8)×Int)) (sg:σ)=>zee v v2 kf sg):=by
 refine zCp 38 [(1,.ptr 917000 0),(2,.ptr 917001 0)] [⟨917000,3,[kI v]⟩,⟨917001,24,[.sl Rp.byte [0] v2]⟩] Tryz.func170 rfl rfl rfl rfl (.cons (Rp.int .i64) 3 917000 [] v [kI v] rfl rfl (.cons (Rp.list Rp.byte) 24 917001 [0] v2 [.sl Rp.byte [0] v2] rfl rfl (.nil _))) ?_
 intro σ kf sg s1 h l I hI F_ hT
 replace h:zee v v2 kf sg=some s1:=h
 refine zr ?_
 refine zmN (E':=⟨[(0,.lf (.val (.func (.yield l) #[] #[]))),(1,.ptr 917000 0),(2,.ptr 917001 0)],[⟨917000,3,[kI v]⟩,⟨917001,24,[.sl Rp.byte [0] v2]⟩]⟩) (fun _ _ _ hs=>hs) ?_
 unfold zee at h
 obtain ⟨rv,h_rv,h⟩:=bnd h
 refine jr (rl 1 [1] 9 Tryz.call171 (zwg h_rv) rf) ?_
 refine jp ?_
 rcases zn h with ⟨hc1,h⟩| ⟨hc1,h⟩
 ·
  refine jT hc1 ?_
  obtain ⟨y,h_y,h⟩:=bnd h
  refine zxm (E':=⟨[],[]⟩) (x:=(([]:(List UInt8)),2)) (b:=y.1) (s':=y.2) 1 (some 13) [.const (.slice none 0 0),.const (.int .u8 2)] [kN,k8 2] [.sl Rp.byte [0] ([]:(List UInt8)),k8 2] ⟨[(12,.lf (.val (.func (.yield l) #[] #[])))],[]⟩ hT rfl rfl rfl rfl rfl rgg rfl ⟨rfl,⟨rfl,trivial⟩⟩ rfl ⟨zqg _ _,AV.le_refl _,trivial⟩ rfl rfl h_y rgg ?_
  obtain rfl:=sj h
  exact zFv lzz
 refine jF hc1 ?_
 refine jp ?_
 refine zy ?_
 obtain ⟨q,h_q,h⟩:=bnd h
 refine zCr (fun s:((List UInt8)×σ)=>zbz kf rv s.1 s.2) (fun s=>⟨⟨38,[]⟩,itX I hI F_ s.2,false,#[]⟩) (fun s=>⟨[(0,.lf (.val (.func (.yield l) #[] #[]))),(4,kI rv),(5,.sl Rp.byte [0] s.1)],[]⟩) (fun o e a w=>match o with| (.inl v_)=>e= .exit 0∧Sx ⟨⟨38,[]⟩,itX I hI F_ v_,false,#[]⟩ ⟨[],[]⟩ a w| (.inr v_)=>e= .ret∧Sx ⟨⟨38,[]⟩,itX I hI F_ v_,false,#[]⟩ ⟨[],[]⟩ a w) ?_ h_q rfl lzz ?_
 ·
  clear h
  intro s o h
  obtain ⟨rest,sg2⟩:=s
  refine zr ?_
  replace h:zbz kf rv rest sg2=some o:=h
  unfold zbz at h
  refine jp ?_
  rcases zn h with ⟨hc2,h⟩| ⟨hc2,h⟩
  ·
   refine jT hc2 ?_
   refine zy ?_
   obtain ⟨rv2,h_rv2,h⟩:=bnd h
   refine jr (rl 2 [0] 10 Tryz.call172 (zwf h_rv2) rf) ?_
   obtain ⟨v3,h_v3,h⟩:=bnd h
   obtain ⟨y2,h_y2,h⟩:=bnd h
   refine zxm (E':=⟨[(0,.lf (.val (.func (.yield l) #[] #[]))),(4,kI rv),(5,.sl Rp.byte [0] rest),(6,kI rv2.1),(34,kB ((!y2.1)|| (rv2.2 !=0)))],[]⟩) (x:=(v3,rv2.2)) (b:=y2.1) (s':=y2.2) 5 (some 29) [.tmp 27,.tmp 28] [.sl Rp.byte [0] v3,k8 rv2.2] [.sl Rp.byte [0] v3,k8 rv2.2] ⟨[(0,.lf (.val (.func (.yield l) #[] #[]))),(4,kI rv),(5,.sl Rp.byte [0] rest),(6,kI rv2.1),(7,k8 rv2.2),(24,.lf (.val (.func (.yield l) #[] #[]))),(27,.sl Rp.byte [0] v3),(28,k8 rv2.2)],[]⟩ hT rfl rfl rfl rfl rfl (ra 3 [.sl Rp.byte [0] rest,kI rv2.1] rfl (zeD none (some (kI rv2.1)) rfl zcS.el (zI _ _ _) ⟨rfl,rfl⟩ ⟨rfl,rfl⟩ h_v3) rfl rgg) rfl ⟨rfl,⟨rfl,trivial⟩⟩ rfl ⟨AV.le_refl _,AV.le_refl _,trivial⟩ rfl rfl h_y2 ?_ ?_
   ·
    refine (rsl 2 [] 31 (!y2.1) (fun hc3=>?_) (fun hc3=>?_))
    · exact (rbl [] 34 true ((!y2.1)|| (rv2.2 !=0)) (by rw [hc3]<;>rfl))
    exact (rbl [] 34 (rv2.2 !=0) ((!y2.1)|| (rv2.2 !=0)) (by rw [hc3]<;>rfl))
   rcases zn h with ⟨hc4,h⟩| ⟨hc4,h⟩
   ·
    refine jT hc4 ?_
    obtain rfl:=sj h
    exact zbq lzz
   refine jF hc4 ?_
   obtain ⟨v5,h_v5,h⟩:=bnd h
   refine jr (ra 2 [.sl Rp.byte [0] rest,kI rv2.1] rfl (zeD (some (kI rv2.1)) none rfl zcS.el (zI _ _ _) ⟨rfl,rfl⟩ ⟨rfl,rfl⟩ h_v5) rfl rf) ?_
   refine zT ?_
   obtain rfl:=sj h
   exact zE lzz
  refine jF hc2 ?_
  obtain rfl:=sj h
  exact zai rfl lzz
 rcases q with u| u2
 ·
  refine zaI _ rfl ?_
  obtain rfl:=sj h
  exact zFu lzz
 obtain rfl:=sj h
 exact zFx lzz
theorem zmo {fuel:Nat} {sv:(List zh)} {root:Int} {b:(List UInt8)} {d:Int} {r:(Int×Int)} (h:zes fuel sv root b d=some r):FnOk Tryz.prog 10 [.sl zi [0] sv,kI root,.sl Rp.byte [0] b,kI d] [kI r.1,kI r.2]:=by
 refine zB (E:=⟨[(8,kI r.1),(9,kI r.2)],[]⟩) 25 Tryz.func10 rfl rfl rfl ⟨rfl,rfl,trivial⟩ (fun Xt=>?_)
 refine zr ?_
 unfold zes at h
 refine jp ?_
 obtain ⟨rv,h_rv,h⟩:=bnd h
 refine jr (rl 3 [0] 9 Tryz.call34 (zmJ h_rv) rf) ?_
 refine jp ?_
 rcases zn h with ⟨hc1,h⟩| ⟨hc1,h⟩
 ·
  refine jT hc1 ?_
  refine jp ?_
  obtain rfl:=sj h
  exact zx lzz
 refine jF hc1 ?_
 obtain ⟨rv2,h_rv2,h⟩:=bnd h
 refine jr (rl 4 [0] 9 Tryz.call35 (zmp h_rv2) rf) ?_
 obtain rfl:=sj h
 exact zx lzz
theorem znT {rec_darningref14_Of:(List zh)→Int→(List UInt8)→Option ze} (hrec_darningref14_Of:∀{sv:(List zh)} {root:Int} {b:(List UInt8)} {r:ze},rec_darningref14_Of sv root b=some r→FnOk Tryz.prog 13 [.sl zi [0] sv,kI root,.sl Rp.byte [0] b] [.ag [.own zd 56 3 [4] r.Values,.own Rp.str 9 5 [] r.Unknown]]) {sv:(List zh)} {root:Int} {b:(List UInt8)} {r:ze} (h:zeT rec_darningref14_Of sv root b=some r):FnOk Tryz.prog 13 [.sl zi [0] sv,kI root,.sl Rp.byte [0] b] [.ag [.own zd 56 3 [4] r.Values,.own Rp.str 9 5 [] r.Unknown]]:=by
 refine zB (E:=⟨[(6,.ptr 2 0)],[⟨2,39,[.own zd 56 3 [4] r.Values,.own Rp.str 9 5 [] r.Unknown]⟩]⟩) 221 Tryz.func13 rfl rfl rfl ⟨⟨_,_,rfl,rfl,rfl,⟨Tryz.isAgg39,Tryz.sizeOf39⟩⟩,trivial⟩ (fun Xt=>?_)
 refine zr ?_
 unfold zeT at h
 refine jq [146] ?_
 obtain ⟨x,h_x,h⟩:=bnd h
 obtain ⟨rv,h_rv,h⟩:=bnd h
 refine jr (ra 2 [.sl zi [0] sv,kI root] rfl (zao rfl zgu.el (zI _ _ _) h_x) rfl (ra 0 [.ep zi [0] x 0] rfl (zdm rfl ⟨Tryz.isAgg73,Tryz.sizeOf73⟩) rfl (rl 1 [0] 145 Tryz.call36 (znS h_rv) rf))) ?_
 refine jq [148] ?_
 obtain ⟨x2,h_x2,h⟩:=bnd h
 obtain ⟨rv2,h_rv2,h⟩:=bnd h
 refine jr (ra 2 [.sl zi [0] sv,kI root] rfl (zao rfl zgu.el (zI _ _ _) h_x2) rfl (ra 0 [.ep zi [0] x2 0] rfl (zdm rfl ⟨Tryz.isAgg73,Tryz.sizeOf73⟩) rfl (rl 0 [0] 147 Tryz.call37 (zlz h_rv2) rf))) ?_
 refine jp ?_
 refine zy ?_
 obtain ⟨q2,h_q2,h⟩:=bnd h
 refine zah (fun s:(Int×(List zb))=>zbd b rec_darningref14_Of root rv rv2 sv s.1 s.2) (fun s=>⟨[(0,.sl zi [0] sv),(1,kI root),(2,.sl Rp.byte [0] b),(6,.ptr 146 0),(7,.own zJ 87 147 [] rv.1),(10,.ptr 148 0),(11,.own (Rp.int .i64) 3 149 [] rv2),(12,kI s.1)],[⟨146,39,[kN,kN]⟩,⟨148,39,[.own zd 56 193 [150] s.2,kN]⟩]⟩) (fun o e a w=>e= .exit 0∧Sx ⟨⟨221,[]⟩,Xt,false,#[]⟩ ⟨[(2,.sl Rp.byte [0] b),(6,.ptr 146 0),(7,.own zJ 87 147 [] rv.1),(10,.ptr 148 0)],[⟨146,39,[kN,kN]⟩,⟨148,39,[.own zd 56 193 [150] o,kN]⟩]⟩ a w) ?_ h_q2 ?_ ?_
 ·
  clear h
  intro s o h
  obtain ⟨i,f⟩:=s
  refine zr ?_
  replace h:zbd b rec_darningref14_Of root rv rv2 sv i f=some o:=h
  unfold zbd at h
  refine jp ?_
  rcases zn h with ⟨hc1,h⟩| ⟨hc1,h⟩
  ·
   refine jT hc1 ?_
   refine zy ?_
   obtain ⟨x3,h_x3,h⟩:=bnd h
   obtain ⟨x4,h_x4,h⟩:=bnd h
   obtain ⟨x5,h_x5,h⟩:=bnd h
   refine jd [0,1,2,6,7,10,11,12,13] [146,148,236] zcy (by exact (lw_e (lw_e (ly [.sl zi [0] sv,kI root] (zao rfl zgu.el (zI _ _ _) h_x3) rfl (lw_e (ly [.ep zi [0] x3 1] (zga za x3.Fields rfl rfl rfl) rfl (lw_e (lw_e (ly [.own (Rp.int .i64) 3 149 [] rv2,kI i] (zao rfl zhD.el (zay _ _ _ _ _) h_x4) rfl (lw_e (ly [.sl za [0] x3.Fields,kI x4] (zao rfl ziD.el (zI _ _ _) h_x5) rfl (ly [.ep za [0] x5 0] (zdm rfl ⟨Tryz.isAgg64,Tryz.sizeOf64⟩) rfl (lx (zkY 236 [kS [],kI 0,kI 0,kB false,kB false,kI 0] rfl Tryz.zeroValue64 rfl) (ly [.ptr 236 0,.rc za [0] x5] (zkG (r:=za) (b:=⟨236,64,[kS [],kI 0,kI 0,kB false,kB false,kI 0]⟩) (off:=0) [kS x5.Name,kI x5.Number,kI x5.Kind,kB x5.Repeated,kB x5.Packed,kI x5.Of] rfl Tryz.sizeOf64 rfl rfl rfl rfl) rfl l0)))))))))))))) ?_
   refine jr (ra 2 [kI x5.Number] rfl (zgx [kI x5.Number] [kI x5.Number,kN,kN,kN] rfl zFk rfl) rfl (rfl' [237])) ?_
   refine jp ?_
   refine jp ?_
   refine jp ?_
   refine zy ?_
   obtain ⟨q,h_q,h⟩:=bnd h
   refine zah (fun s:((List UInt8)×Bool×Int×(List Int)×(List Str)×(List ze))=>zbe b i rec_darningref14_Of rv rv2 sv x5 s.1 s.2.1 s.2.2.1 s.2.2.2.1 s.2.2.2.2.1 s.2.2.2.2.2) (fun s=>⟨[(0,.sl zi [0] sv),(1,kI root),(2,.sl Rp.byte [0] b),(6,.ptr 146 0),(7,.own zJ 87 147 [] rv.1),(10,.ptr 148 0),(11,.own (Rp.int .i64) 3 149 [] rv2),(12,kI i),(13,.ptr 236 0),(14,.ptr 237 0),(15,.own Rp.byte 5 249 [] s.1),(16,kB s.2.1),(17,kI s.2.2.1)],[⟨146,39,[kN,kN]⟩,⟨148,39,[.own zd 56 193 [150] f,kN]⟩,⟨236,64,[kS x5.Name,kI x5.Number,kI x5.Kind,kB x5.Repeated,kB x5.Packed,kI x5.Of]⟩,⟨237,56,[kI x5.Number,.own (Rp.int .u64) 75 240 [] s.2.2.2.1,.own Rp.str 9 251 [] s.2.2.2.2.1,.own zj 39 248 [238] s.2.2.2.2.2]⟩]⟩) (fun o e a w=>e= .exit 2∧Sx ⟨⟨221,[]⟩,Xt,false,#[]⟩ ⟨[(0,.sl zi [0] sv),(1,kI root),(2,.sl Rp.byte [0] b),(6,.ptr 146 0),(7,.own zJ 87 147 [] rv.1),(10,.ptr 148 0),(11,.own (Rp.int .i64) 3 149 [] rv2),(12,kI i),(13,.ptr 236 0),(14,.ptr 237 0),(15,.own Rp.byte 5 249 [] o.1),(16,kB o.2.1)],[⟨146,39,[kN,kN]⟩,⟨148,39,[.own zd 56 193 [150] f,kN]⟩,⟨236,64,[kS x5.Name,kI x5.Number,kI x5.Kind,kB x5.Repeated,kB x5.Packed,kI x5.Of]⟩,⟨237,56,[kI x5.Number,.own (Rp.int .u64) 75 240 [] o.2.2.1,.own Rp.str 9 251 [] o.2.2.2.1,.own zj 39 248 [238] o.2.2.2.2]⟩]⟩ a w) ?_ h_q ?_ ?_
   ·
    clear h
    intro s o h
    obtain ⟨joined,met,k,f3,f4,f5⟩:=s
    refine zr ?_
    replace h:zbe b i rec_darningref14_Of rv rv2 sv x5 joined met k f3 f4 f5=some o:=h
    unfold zbe at h
    refine jp ?_
    rcases zn h with ⟨hc2,h⟩| ⟨hc2,h⟩
    ·
     refine jT hc2 ?_
     refine zy ?_
     obtain ⟨x6,h_x6,h⟩:=bnd h
     obtain ⟨x7,h_x7,h⟩:=bnd h
     refine jd [0,1,2,6,7,10,11,12,13,14,15,16,17,74] [146,148,236,237] zcy (by exact (lw_e (lw_e (ly [.own zJ 87 147 [] rv.1,kI k] (zao rfl zpP.el (zay _ _ _ _ _) h_x6) rfl (lw_e (lw_e (lw_e (lw_e (ly [.own (Rp.int .i64) 3 149 [] rv2,kI i] (zao rfl zhD.el (zay _ _ _ _ _) h_x7) rfl l0))))))))) ?_
     rcases zn h with ⟨hc3,h⟩| ⟨hc3,h⟩
     ·
      refine jT hc3 ?_
      refine zzS _ rfl ?_
      refine jp ?_
      obtain rfl:=sj h
      exact zE lzz
     refine jF hc3 ?_
     refine jp ?_
     obtain ⟨x8,h_x8,h⟩:=bnd h
     obtain ⟨x9,h_x9,h⟩:=bnd h
     obtain ⟨v,h_v,h⟩:=bnd h
     refine jd [0,1,2,6,7,10,11,12,13,14,15,16,17,18] [146,148,236,237] zcy (by exact (lw_e (lw_e (lw_e (ly [.own zJ 87 147 [] rv.1,kI k] (zao rfl zpP.el (zay _ _ _ _ _) h_x8) rfl (lw_e (lw_e (lw_e (lw_e (lw_e (ly [.own zJ 87 147 [] rv.1,kI k] (zao rfl zpP.el (zay _ _ _ _ _) h_x9) rfl (lw_e (lw_e (lw_e (ly [.sl Rp.byte [0] b,kI x8.R.At,kI x9.R.To] (zeD (some (kI x8.R.At)) (some (kI x9.R.To)) rfl zcS.el (zI _ _ _) ⟨rfl,rfl⟩ ⟨rfl,rfl⟩ h_v) rfl l0))))))))))))))) ?_
     refine jp ?_
     obtain ⟨p,h_p,h⟩:=bnd h
     refine zbV (R:=fun e a w=>e= .normal∧Sx ⟨⟨221,[]⟩,Xt,false,#[]⟩ ⟨[(0,.sl zi [0] sv),(1,kI root),(2,.sl Rp.byte [0] b),(6,.ptr 146 0),(7,.own zJ 87 147 [] rv.1),(10,.ptr 148 0),(11,.own (Rp.int .i64) 3 149 [] rv2),(12,kI i),(13,.ptr 236 0),(14,.ptr 237 0),(15,.own Rp.byte 5 249 [] joined),(16,kB true),(17,kI k),(18,.sl Rp.byte [0] v)],[⟨146,39,[kN,kN]⟩,⟨148,39,[.own zd 56 193 [150] f,kN]⟩,⟨236,64,[kS x5.Name,kI x5.Number,kI x5.Kind,kB x5.Repeated,kB x5.Packed,kI x5.Of]⟩,⟨237,56,[kI x5.Number,.own (Rp.int .u64) 75 240 [] p.1,.own Rp.str 9 251 [] p.2,.own zj 39 248 [238] f5]⟩]⟩ a w) ?_ ?_
     ·
      replace h:=h_p
      refine zr ?_
      rcases zn h with ⟨hc4,h⟩| ⟨hc4,h⟩
      ·
       refine jT hc4 ?_
       refine jp ?_
       obtain rfl:=sj h
       refine zE ?_
       refine zbn ⟨[(0,.sl zi [0] sv),(1,kI root),(2,.sl Rp.byte [0] b),(6,.ptr 146 0),(7,.own zJ 87 147 [] rv.1),(10,.ptr 148 0),(11,.own (Rp.int .i64) 3 149 [] rv2),(12,kI i),(13,.ptr 236 0),(14,.ptr 237 0),(15,.own Rp.byte 5 249 [] joined),(16,kB true),(17,kI k),(18,.sl Rp.byte [0] v)],[⟨146,39,[kN,kN]⟩,⟨148,39,[.own zd 56 193 [150] f,kN]⟩,⟨236,64,[kS x5.Name,kI x5.Number,kI x5.Kind,kB x5.Repeated,kB x5.Packed,kI x5.Of]⟩,⟨237,56,[kI x5.Number,kN,kN,.own zj 39 248 [238] f5]⟩]⟩ (by kernel_rfl) ?_
       refine zex 237 1 (.own (Rp.int .u64) 75 240 [] []) rfl rfl (zaj (Rp.int .u64) 75 240 [] rfl) ?_
       refine zex 237 2 (.own Rp.str 9 251 [] []) rfl rfl (zaj Rp.str 9 251 [] rfl) ?_
       exact lzz
      refine jF hc4 ?_
      obtain rfl:=sj h
      exact zE lzz
     refine zdw ?_
     refine zy ?_
     obtain ⟨x10,h_x10,h⟩:=bnd h
     refine jr (ra 2 [.own zJ 87 147 [] rv.1,kI k] rfl (zao rfl zpP.el (zay _ _ _ _ _) h_x10) rfl rf) ?_
     rcases zn h with ⟨hc5,h⟩| ⟨hc5,h⟩
     ·
      refine jT hc5 ?_
      obtain ⟨rv3,h_rv3,h⟩:=bnd h
      refine jr (rl 3 [0] 257 Tryz.call38 (zmn h_rv3) rf) ?_
      obtain ⟨v2,h_v2,h⟩:=bnd h
      refine jr (ra 3 [.own (Rp.int .u64) 75 240 [] p.1,.own (Rp.int .u64) 75 259 [] rv3.1] rfl (zeA 240 [] rfl zko.el rfl (zbJ _ _ _ _ _) (zay _ _ _ _ _) h_v2 (.inl (zgy _)) rfl) rfl rf) ?_
      refine zT ?_
      refine zT ?_
      refine jp ?_
      obtain rfl:=sj h
      exact zE lzz
     refine jF hc5 ?_
     obtain ⟨rv4,h_rv4,h⟩:=bnd h
     refine jr (rl 2 [1] 258 Tryz.call39 (zda h_rv4) rf) ?_
     rcases zn h with ⟨hc6,h⟩| ⟨hc6,h⟩
     ·
      refine jT hc6 ?_
      obtain ⟨rv5,h_rv5,h⟩:=bnd h
      refine jr (rl 3 [0] 258 Tryz.call40 (zih h_rv5) rf) ?_
      obtain ⟨v3,h_v3,h⟩:=bnd h
      refine jr (rc 3 rfl (zcP [kU rv5.1] 260 [] ([rv5.1]:(List Int)) rfl zko rfl rfl rfl rfl) (ra 0 [.own (Rp.int .u64) 75 240 [] p.1,.own (Rp.int .u64) 75 260 [] ([rv5.1]:(List Int))] rfl (zeA 240 [] rfl zko.el rfl (zbJ _ _ _ _ _) (zay _ _ _ _ _) h_v3 (.inl (zgy _)) rfl) rfl rf)) ?_
      refine zT ?_
      refine zT ?_
      refine jp ?_
      obtain rfl:=sj h
      exact zE lzz
     refine jF hc6 ?_
     refine zS ⟨[(0,.sl zi [0] sv),(1,kI root),(2,.sl Rp.byte [0] b),(6,.ptr 146 0),(7,.own zJ 87 147 [] rv.1),(10,.ptr 148 0),(11,.own (Rp.int .i64) 3 149 [] rv2),(12,kI i),(13,.ptr 236 0),(14,.ptr 237 0),(15,.own Rp.byte 5 249 [] joined),(16,kB true),(17,kI k),(18,.sl Rp.byte [0] v),(136,kB ((x5.Kind==17)&&x5.Repeated))],[⟨146,39,[kN,kN]⟩,⟨148,39,[.own zd 56 193 [150] f,kN]⟩,⟨236,64,[kS x5.Name,kI x5.Number,kI x5.Kind,kB x5.Repeated,kB x5.Packed,kI x5.Of]⟩,⟨237,56,[kI x5.Number,.own (Rp.int .u64) 75 240 [] p.1,.own Rp.str 9 251 [] p.2,.own zj 39 248 [238] f5]⟩]⟩ ?_ ?_
     ·
      refine (rsl 4 [] 140 (x5.Kind==17) (fun hc7=>?_) (fun hc7=>?_))
      · exact (rbl [] 136 x5.Repeated ((x5.Kind==17)&&x5.Repeated) (by rw [hc7]<;>rfl))
      exact (rbl [] 136 false ((x5.Kind==17)&&x5.Repeated) (by rw [hc7]<;>rfl))
     rcases zn h with ⟨hc8,h⟩| ⟨hc8,h⟩
     ·
      refine jT hc8 ?_
      obtain ⟨rv6,h_rv6,h⟩:=bnd h
      obtain ⟨v5,h_v5,h⟩:=bnd h
      refine jd [0,1,2,6,7,10,11,12,13,14,15,16,17] [146,148,236,237] zcy (by exact (lw_e (lw_e (lw_e (lw_e (lw_e (lw_e (lx (lf1 13 (zce [.sl zi [0] sv,kI x5.Of,.sl Rp.byte [0] v] [0] 259 rfl Tryz.call13 (hrec_darningref14_Of h_rv6) rfl rfl rfl rfl rfl)) (lx (zH.le (ins':=[(.tmp 150,.ag [.own zd 56 262 [263] rv6.Values,.own Rp.str 9 264 [] rv6.Unknown])]) (zcP [.rc zj [262,263,264] rv6] 265 [262,263,264] ([rv6]:(List ze)) rfl zrk rfl rfl rfl (by simp only [zod,zho,zhn,zO,List.flatMap_cons,List.flatMap_nil]<;>rfl)) ⟨⟨rfl,zcw zj [262,263,264] rv6 [.own zd 56 262 [263] rv6.Values,.own Rp.str 9 264 [] rv6.Unknown] (by rw [zO]<;>rfl) rfl⟩,trivial⟩) (ly [.own zj 39 248 [238] f5,.own zj 39 265 [262,263,264] ([rv6]:(List ze))] (zH.withBx (zeA 248 [238,265,262,263,264] rfl zrk.el rfl (zbJ _ _ _ _ _) (zay _ _ _ _ _) h_v5 (.inr rfl) rfl) ⟨237,56,[kI x5.Number,.own (Rp.int .u64) 75 240 [] p.1,.own Rp.str 9 251 [] p.2,.own zj 39 248 [238] f5]⟩ rfl rfl) rfl (lw_e (ly [.ptr 237 3,.own zj 39 248 [238,265,262,263,264] v5] (zqj (b:=⟨237,56,[kI x5.Number,.own (Rp.int .u64) 75 240 [] p.1,.own Rp.str 9 251 [] p.2,.any]⟩) (off:=3) rfl Tryz.sizeOf54 rfl rfl rfl) rfl l0)))))))))))) ?_
      refine zT ?_
      refine zT ?_
      refine jp ?_
      obtain rfl:=sj h
      refine zE ?_
      refine lk [0,1,2,6,7,10,11,12,13,14,15,16,17] [146,148,236,237] 265 238 ?_
      refine lk [0,1,2,6,7,10,11,12,13,14,15,16,17] [146,148,236,237] 262 238 ?_
      refine lk [0,1,2,6,7,10,11,12,13,14,15,16,17] [146,148,236,237] 263 238 ?_
      refine lk [0,1,2,6,7,10,11,12,13,14,15,16,17] [146,148,236,237] 264 238 ?_
      refine zbn ⟨[(0,.sl zi [0] sv),(1,kI root),(2,.sl Rp.byte [0] b),(6,.ptr 146 0),(7,.own zJ 87 147 [] rv.1),(10,.ptr 148 0),(11,.own (Rp.int .i64) 3 149 [] rv2),(12,kI i),(13,.ptr 236 0),(14,.ptr 237 0),(15,.own Rp.byte 5 249 [] joined),(16,kB true),(17,kI (IntKind.i64.wrap (k+1)))],[⟨146,39,[kN,kN]⟩,⟨148,39,[.own zd 56 193 [150] f,kN]⟩,⟨236,64,[kS x5.Name,kI x5.Number,kI x5.Kind,kB x5.Repeated,kB x5.Packed,kI x5.Of]⟩,⟨237,56,[kI x5.Number,.own (Rp.int .u64) 75 240 [] p.1,.own Rp.str 9 251 [] p.2,.own zj 39 248 [238,238,238,238,238] v5]⟩]⟩ (by kernel_rfl) ?_
      refine zex 237 3 (.own zj 39 248 [238] v5) rfl rfl (ziF _ _ _ _ _ _ rfl rfl) ?_
      exact lzz
     refine jF hc8 ?_
     refine jp ?_
     rcases zn h with ⟨hc9,h⟩| ⟨hc9,h⟩
     ·
      refine jT hc9 ?_
      obtain ⟨v6,h_v6,h⟩:=bnd h
      refine jr (ra 2 [.own Rp.byte 5 249 [] joined,.sl Rp.byte [0] v] rfl (zeA 249 [] rfl zcS.el rfl (zbJ _ _ _ _ _) (zI _ _ _) h_v6 (.inl zsT) rfl) rfl rf) ?_
      refine zT ?_
      refine zT ?_
      refine jp ?_
      obtain rfl:=sj h
      exact zE lzz
     refine jF hc9 ?_
     obtain ⟨v7,h_v7,h⟩:=bnd h
     refine jr (ra 3 [.sl Rp.byte [0] v] rfl (zqi rfl Tryz.underlying24 Tryz.underlying5 Tryz.underlying9 (zI _ _ _)) rfl (rc 0 rfl (zcP [kS v] 266 [] ([v]:(List Str)) rfl zkn rfl rfl rfl rfl) (ra 0 [.own Rp.str 9 251 [] p.2,.own Rp.str 9 266 [] ([v]:(List Str))] rfl (zeA 251 [] rfl zkn.el rfl (zbJ _ _ _ _ _) (zay _ _ _ _ _) h_v7 (.inl znE) rfl) rfl rf))) ?_
     refine zT ?_
     refine zT ?_
     refine jp ?_
     obtain rfl:=sj h
     exact zE lzz
    refine jF hc2 ?_
    obtain rfl:=sj h
    exact zai rfl lzz
   ·
    refine zbn ⟨[(0,.sl zi [0] sv),(1,kI root),(2,.sl Rp.byte [0] b),(6,.ptr 146 0),(7,.own zJ 87 147 [] rv.1),(10,.ptr 148 0),(11,.own (Rp.int .i64) 3 149 [] rv2),(12,kI i),(13,.ptr 236 0),(14,.ptr 237 0),(15,kN),(16,kB false),(17,kI 0)],[⟨146,39,[kN,kN]⟩,⟨148,39,[.own zd 56 193 [150] f,kN]⟩,⟨236,64,[kS x5.Name,kI x5.Number,kI x5.Kind,kB x5.Repeated,kB x5.Packed,kI x5.Of]⟩,⟨237,56,[kI x5.Number,kN,kN,kN]⟩]⟩ (by kernel_rfl) ?_
    refine zcK 15 (.own Rp.byte 5 249 [] []) rfl (zaj Rp.byte 5 249 [] rfl) ?_
    refine zex 237 1 (.own (Rp.int .u64) 75 240 [] []) rfl rfl (zaj (Rp.int .u64) 75 240 [] rfl) ?_
    refine zex 237 2 (.own Rp.str 9 251 [] []) rfl rfl (zaj Rp.str 9 251 [] rfl) ?_
    refine zex 237 3 (.own zj 39 248 [238] []) rfl rfl (zaj zj 39 248 [238] rfl) ?_
    exact lzz
   refine zaI _ rfl ?_
   refine zS ⟨[(0,.sl zi [0] sv),(1,kI root),(2,.sl Rp.byte [0] b),(6,.ptr 146 0),(7,.own zJ 87 147 [] rv.1),(10,.ptr 148 0),(11,.own (Rp.int .i64) 3 149 [] rv2),(12,kI i),(13,.ptr 236 0),(14,.ptr 237 0),(15,.own Rp.byte 5 249 [] q.1),(171,kB (q.2.1&&((x5.Kind==17)&&(!x5.Repeated))))],[⟨146,39,[kN,kN]⟩,⟨148,39,[.own zd 56 193 [150] f,kN]⟩,⟨236,64,[kS x5.Name,kI x5.Number,kI x5.Kind,kB x5.Repeated,kB x5.Packed,kI x5.Of]⟩,⟨237,56,[kI x5.Number,.own (Rp.int .u64) 75 240 [] q.2.2.1,.own Rp.str 9 251 [] q.2.2.2.1,.own zj 39 248 [238] q.2.2.2.2]⟩]⟩ ?_ ?_
   ·
    refine (rsl 2 [] 162 q.2.1 (fun hc10=>?_) (fun hc10=>?_))
    ·
     refine (rsl 5 [] 167 (x5.Kind==17) (fun hc11=>?_) (fun hc11=>?_))
     · exact (rbl [] 171 (!x5.Repeated) (q.2.1&&((x5.Kind==17)&&(!x5.Repeated))) (by rw [hc10,hc11]<;>rfl))
     exact (rbl [] 171 false (q.2.1&&((x5.Kind==17)&&(!x5.Repeated))) (by rw [hc10,hc11]<;>rfl))
    exact (rbl [] 171 false (q.2.1&&((x5.Kind==17)&&(!x5.Repeated))) (by rw [hc10]<;>rfl))
   obtain ⟨p2,h_p2,h⟩:=bnd h
   refine zbV (R:=fun e a w=>e= .normal∧Sx ⟨⟨221,[]⟩,Xt,false,#[]⟩ ⟨[(0,.sl zi [0] sv),(1,kI root),(2,.sl Rp.byte [0] b),(6,.ptr 146 0),(7,.own zJ 87 147 [] rv.1),(10,.ptr 148 0),(11,.own (Rp.int .i64) 3 149 [] rv2),(12,kI i),(14,.ptr 237 0)],[⟨146,39,[kN,kN]⟩,⟨148,39,[.own zd 56 193 [150] f,kN]⟩,⟨237,56,[kI x5.Number,.own (Rp.int .u64) 75 240 [] q.2.2.1,.own Rp.str 9 251 [] q.2.2.2.1,.own zj 39 271 [268,269,270,238] p2]⟩]⟩ a w) ?_ ?_
   ·
    replace h:=h_p2
    refine zr ?_
    rcases zn h with ⟨hc12,h⟩| ⟨hc12,h⟩
    ·
     refine jT hc12 ?_
     obtain ⟨rv7,h_rv7,h⟩:=bnd h
     refine jr (rl 4 [0,249] 270 Tryz.call13 (hrec_darningref14_Of h_rv7) (rc 0 rfl (zH.le (ins':=[(.tmp 176,.ag [.own zd 56 273 [274] rv7.Values,.own Rp.str 9 275 [] rv7.Unknown])]) (zcP [.rc zj [273,274,275] rv7] 276 [273,274,275] ([rv7]:(List ze)) rfl zrk rfl rfl rfl (by simp only [zod,zho,zhn,zO,List.flatMap_cons,List.flatMap_nil]<;>rfl)) ⟨⟨rfl,zcw zj [273,274,275] rv7 [.own zd 56 273 [274] rv7.Values,.own Rp.str 9 275 [] rv7.Unknown] (by rw [zO]<;>rfl) rfl⟩,trivial⟩) rf)) ?_
     obtain rfl:=sj h
     refine zE ?_
     refine lk [0,1,2,6,7,10,11,12,14] [146,148,237] 276 271 ?_
     refine lk [0,1,2,6,7,10,11,12,14] [146,148,237] 273 238 ?_
     refine lk [0,1,2,6,7,10,11,12,14] [146,148,237] 274 238 ?_
     refine lk [0,1,2,6,7,10,11,12,14] [146,148,237] 275 238 ?_
     refine zbn ⟨[(0,.sl zi [0] sv),(1,kI root),(2,.sl Rp.byte [0] b),(6,.ptr 146 0),(7,.own zJ 87 147 [] rv.1),(10,.ptr 148 0),(11,.own (Rp.int .i64) 3 149 [] rv2),(12,kI i),(14,.ptr 237 0)],[⟨146,39,[kN,kN]⟩,⟨148,39,[.own zd 56 193 [150] f,kN]⟩,⟨237,56,[kI x5.Number,.own (Rp.int .u64) 75 240 [] q.2.2.1,.own Rp.str 9 251 [] q.2.2.2.1,.own zj 39 271 [238,238,238] ([rv7]:(List ze))]⟩]⟩ (by kernel_rfl) ?_
     refine zex 237 3 (.own zj 39 271 [268,269,270,238] ([rv7]:(List ze))) rfl rfl (ziF _ _ _ _ _ _ rfl rfl) ?_
     exact lzz
    refine jF hc12 ?_
    obtain rfl:=sj h
    refine zE ?_
    refine lk [0,1,2,6,7,10,11,12,14] [146,148,237] 248 271 ?_
    refine zbn ⟨[(0,.sl zi [0] sv),(1,kI root),(2,.sl Rp.byte [0] b),(6,.ptr 146 0),(7,.own zJ 87 147 [] rv.1),(10,.ptr 148 0),(11,.own (Rp.int .i64) 3 149 [] rv2),(12,kI i),(14,.ptr 237 0)],[⟨146,39,[kN,kN]⟩,⟨148,39,[.own zd 56 193 [150] f,kN]⟩,⟨237,56,[kI x5.Number,.own (Rp.int .u64) 75 240 [] q.2.2.1,.own Rp.str 9 251 [] q.2.2.2.1,.own zj 39 271 [238] q.2.2.2.2]⟩]⟩ (by kernel_rfl) ?_
    refine zex 237 3 (.own zj 39 271 [268,269,270,238] q.2.2.2.2) rfl rfl (ziF _ _ _ _ _ _ rfl rfl) ?_
    exact lzz
   refine zdw ?_
   obtain ⟨rv8,h_rv8,h⟩:=bnd h
   refine jr (rc 1 rfl (zH.le (ins':=[(.tmp 179,.ag [kI x5.Number,.own (Rp.int .u64) 75 240 [] q.2.2.1,.own Rp.str 9 251 [] q.2.2.2.1,.own zj 39 271 [268,269,270,238] p2])]) (zce (args:=[.tmp 179]) [.rc zd [240,251,271,268,269,270,238] (⟨x5.Number,q.2.2.1,q.2.2.2.1,p2⟩:zb)] [240,251,271,268,269,270,238] 275 rfl Tryz.call41 (zmK h_rv8) rfl rfl rfl rfl rfl) ⟨⟨rfl,zcw zd [240,251,271,268,269,270,238] (⟨x5.Number,q.2.2.1,q.2.2.2.1,p2⟩:zb) [kI x5.Number,.own (Rp.int .u64) 75 240 [] q.2.2.1,.own Rp.str 9 251 [] q.2.2.2.1,.own zj 39 271 [268,269,270,238] p2] (by rw [zL]<;>rfl) rfl⟩,trivial⟩) rf) ?_
   rcases zn h with ⟨hc13,h⟩| ⟨hc13,h⟩
   ·
    refine jT hc13 ?_
    obtain ⟨v9,h_v9,h⟩:=bnd h
    refine jr (rc 3 rfl (zH.le (ins':=[(.tmp 184,.ag [kI x5.Number,.own (Rp.int .u64) 75 240 [] q.2.2.1,.own Rp.str 9 251 [] q.2.2.2.1,.own zj 39 271 [268,269,270,238] p2])]) (zcP [.rc zd [240,251,271,268,269,270,238] (⟨x5.Number,q.2.2.1,q.2.2.2.1,p2⟩:zb)] 277 [240,251,271,268,269,270,238] ([(⟨x5.Number,q.2.2.1,q.2.2.2.1,p2⟩:zb)]:(List zb)) rfl zrj rfl rfl rfl (by simp only [zod,zho,zhn,zL,List.flatMap_cons,List.flatMap_nil]<;>rfl)) ⟨⟨rfl,zcw zd [240,251,271,268,269,270,238] (⟨x5.Number,q.2.2.1,q.2.2.2.1,p2⟩:zb) [kI x5.Number,.own (Rp.int .u64) 75 240 [] q.2.2.1,.own Rp.str 9 251 [] q.2.2.2.1,.own zj 39 271 [268,269,270,238] p2] (by rw [zL]<;>rfl) rfl⟩,trivial⟩) (ra 0 [.own zd 56 193 [150] f,.own zd 56 277 [240,251,271,268,269,270,238] ([(⟨x5.Number,q.2.2.1,q.2.2.2.1,p2⟩:zb)]:(List zb))] rfl (zeA 193 [150,277,240,251,271,268,269,270,238] rfl zrj.el rfl (zbJ _ _ _ _ _) (zay _ _ _ _ _) h_v9 (.inr rfl) rfl) rfl rf)) ?_
    refine zT ?_
    refine jp ?_
    obtain rfl:=sj h
    refine zE ?_
    refine lk [0,1,2,6,7,10,11,12] [146,148] 277 150 ?_
    refine lk [0,1,2,6,7,10,11,12] [146,148] 240 150 ?_
    refine lk [0,1,2,6,7,10,11,12] [146,148] 251 150 ?_
    refine lk [0,1,2,6,7,10,11,12] [146,148] 271 150 ?_
    refine lk [0,1,2,6,7,10,11,12] [146,148] 268 150 ?_
    refine lk [0,1,2,6,7,10,11,12] [146,148] 269 150 ?_
    refine lk [0,1,2,6,7,10,11,12] [146,148] 270 150 ?_
    refine lk [0,1,2,6,7,10,11,12] [146,148] 238 150 ?_
    refine zbn ⟨[(0,.sl zi [0] sv),(1,kI root),(2,.sl Rp.byte [0] b),(6,.ptr 146 0),(7,.own zJ 87 147 [] rv.1),(10,.ptr 148 0),(11,.own (Rp.int .i64) 3 149 [] rv2),(12,kI (IntKind.i64.wrap (i+1)))],[⟨146,39,[kN,kN]⟩,⟨148,39,[.own zd 56 193 [150,150,150,150,150,150,150,150,150] v9,kN]⟩]⟩ (by kernel_rfl) ?_
    refine zex 148 0 (.own zd 56 193 [150] v9) rfl rfl (ziF _ _ _ _ _ _ rfl rfl) ?_
    exact lzz
   refine jF hc13 ?_
   refine zT ?_
   refine jp ?_
   obtain rfl:=sj h
   exact zE lzz
  refine jF hc1 ?_
  obtain rfl:=sj h
  exact zai rfl lzz
 ·
  refine zbn ⟨[(0,.sl zi [0] sv),(1,kI root),(2,.sl Rp.byte [0] b),(6,.ptr 146 0),(7,.own zJ 87 147 [] rv.1),(10,.ptr 148 0),(11,.own (Rp.int .i64) 3 149 [] rv2),(12,kI 0)],[⟨146,39,[kN,kN]⟩,⟨148,39,[kN,kN]⟩]⟩ (by kernel_rfl) ?_
  refine zex 148 0 (.own zd 56 193 [150] []) rfl rfl (zaj zd 56 193 [150] rfl) ?_
  exact lzz
 refine zaI _ rfl ?_
 refine jp ?_
 refine zy ?_
 obtain ⟨q3,h_q3,h⟩:=bnd h
 refine zah (fun s:(Int×(List Str))=>zaH b rv s.1 s.2) (fun s=>⟨[(2,.sl Rp.byte [0] b),(6,.ptr 146 0),(7,.own zJ 87 147 [] rv.1),(10,.ptr 148 0),(23,kI s.1)],[⟨146,39,[kN,kN]⟩,⟨148,39,[.own zd 56 193 [150] q2,.own Rp.str 9 280 [] s.2]⟩]⟩) (fun o e a w=>e= .exit 5∧Sx ⟨⟨221,[]⟩,Xt,false,#[]⟩ ⟨[(6,.ptr 146 0),(10,.ptr 148 0)],[⟨146,39,[kN,kN]⟩,⟨148,39,[.own zd 56 193 [150] q2,.own Rp.str 9 280 [] o]⟩]⟩ a w) ?_ h_q3 ?_ ?_
 ·
  clear h
  intro s o h
  obtain ⟨k2,f12⟩:=s
  refine zr ?_
  replace h:zaH b rv k2 f12=some o:=h
  unfold zaH at h
  refine jp ?_
  rcases zn h with ⟨hc14,h⟩| ⟨hc14,h⟩
  ·
   refine jT hc14 ?_
   refine zy ?_
   obtain ⟨x11,h_x11,h⟩:=bnd h
   refine jr (ra 2 [.own zJ 87 147 [] rv.1,kI k2] rfl (zao rfl zpP.el (zay _ _ _ _ _) h_x11) rfl rf) ?_
   rcases zn h with ⟨hc15,h⟩| ⟨hc15,h⟩
   ·
    refine jT hc15 ?_
    obtain ⟨x12,h_x12,h⟩:=bnd h
    obtain ⟨x13,h_x13,h⟩:=bnd h
    obtain ⟨v10,h_v10,h⟩:=bnd h
    obtain ⟨v11,h_v11,h⟩:=bnd h
    refine jd [2,6,7,10,23] [146,148] zcy (by exact (lw_e (lw_e (lw_e (lw_e (lw_e (ly [.own zJ 87 147 [] rv.1,kI k2] (zao rfl zpP.el (zay _ _ _ _ _) h_x12) rfl (lw_e (lw_e (lw_e (lw_e (lw_e (ly [.own zJ 87 147 [] rv.1,kI k2] (zao rfl zpP.el (zay _ _ _ _ _) h_x13) rfl (lw_e (lw_e (lw_e (ly [.sl Rp.byte [0] b,kI x12.R.From,kI x13.R.To] (zeD (some (kI x12.R.From)) (some (kI x13.R.To)) rfl zcS.el (zI _ _ _) ⟨rfl,rfl⟩ ⟨rfl,rfl⟩ h_v10) rfl (ly [.sl Rp.byte [0] v10] (zqi rfl Tryz.underlying24 Tryz.underlying5 Tryz.underlying9 (zI _ _ _)) rfl (lx (zcP [kS v10] 281 [] ([v10]:(List Str)) rfl zkn rfl rfl rfl rfl) (ly [.own Rp.str 9 280 [] f12,.own Rp.str 9 281 [] ([v10]:(List Str))] (zH.withBx (zeA 280 [] rfl zkn.el rfl (zbJ _ _ _ _ _) (zay _ _ _ _ _) h_v11 (.inl znE) rfl) ⟨148,39,[.own zd 56 193 [150] q2,.own Rp.str 9 280 [] f12]⟩ rfl rfl) rfl (lw_e (ly [.ptr 148 1,.own Rp.str 9 280 [] v11] (zqj (b:=⟨148,39,[.own zd 56 193 [150] q2,.any]⟩) (off:=1) rfl Tryz.sizeOf28 rfl rfl rfl) rfl l0)))))))))))))))))))))) ?_
    refine zT ?_
    refine jp ?_
    obtain rfl:=sj h
    exact zE lzz
   refine jF hc15 ?_
   refine zT ?_
   refine jp ?_
   obtain rfl:=sj h
   exact zE lzz
  refine jF hc14 ?_
  obtain rfl:=sj h
  exact zai rfl lzz
 ·
  refine zbn ⟨[(2,.sl Rp.byte [0] b),(6,.ptr 146 0),(7,.own zJ 87 147 [] rv.1),(10,.ptr 148 0),(23,kI 0)],[⟨146,39,[kN,kN]⟩,⟨148,39,[.own zd 56 193 [150] q2,kN]⟩]⟩ (by kernel_rfl) ?_
  refine zex 148 1 (.own Rp.str 9 280 [] []) rfl rfl (zaj Rp.str 9 280 [] rfl) ?_
  exact lzz
 refine zaI _ rfl ?_
 refine jp ?_
 obtain rfl:=sj h
 refine zx ?_
 refine lk [6] [146] 146 2 ?_
 refine lk [6] [2] 193 3 ?_
 refine lk [6] [2] 280 5 ?_
 refine lk [6] [2] 150 4 ?_
 exact lzz
theorem zor {fuel:Nat} {sv:(List zh)} {root:Int} {b:(List UInt8)} {r:ze} (h:zdi fuel sv root b=some r):FnOk Tryz.prog 13 [.sl zi [0] sv,kI root,.sl Rp.byte [0] b] [.ag [.own zd 56 3 [4] r.Values,.own Rp.str 9 5 [] r.Unknown]]:=by
  induction fuel generalizing sv root b r with
  | zero=>exact absurd h nofun
  | succ fuel ih=>exact znT (fun hh=>ih hh) h
end Go.Proofs.YtcbkcblkecmjnaaGreat

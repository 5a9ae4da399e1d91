/-
  The Go functions do what the plain functions say. No condition.
-/
import Derived.Test.YtcbkcblkecmjnaaGreatx3G8
namespace Go.Proofs.YtcbkcblkecmjnaaGreat
open Go Go.RowKit
set_option linter.unusedVariables false
set_option maxRecDepth 100000
set_option maxHeartbeats 3200000
theorem zrc {sv:(List zg)} {r:(zaT×Int)} (h:zhq sv=some r):FnOk Tryz.prog 80 [.sl zi [0] sv] [.rc zdp [] r.1,k8 r.2]:=by
 refine zC (E:=⟨[(2,.ptr 2 0),(3,k8 r.2)],[⟨2,142,[kI r.1.Message,kI r.1.Field,kI r.1.What]⟩]⟩) 62 Tryz.func80 rfl rfl rfl ⟨⟨_,_,rfl,rfl,rfl,rfl,⟨Tryz.isAgg142,Tryz.sizeOf142⟩⟩,rfl,trivial⟩ (fun Xt=>?_)
 refine zr ?_
 unfold zhq at h
 refine jq [12] ?_
 refine zS ⟨[(0,.sl zi [0] sv),(2,.ptr 12 0),(18,kB ((decide ((sv.length:Int)<1))|| (decide ((sv.length:Int)>100))))],[⟨12,142,[kI 0,kI 0,kI 0]⟩]⟩ ?_ ?_
 ·
  refine (rsl 4 [] 14 (decide ((sv.length:Int)<1)) (fun hc1=>?_) (fun hc1=>?_))
  · exact (rbl [] 18 true ((decide ((sv.length:Int)<1))|| (decide ((sv.length:Int)>100))) (by rw [hc1]<;>rfl))
  exact (rbl [] 18 (decide ((sv.length:Int)>100)) ((decide ((sv.length:Int)<1))|| (decide ((sv.length:Int)>100))) (by rw [hc1]<;>rfl))
 rcases zn h with ⟨hc2,h⟩| ⟨hc2,h⟩
 ·
  refine jT hc2 ?_
  refine jr (rc 0 rfl (zV (r:=zdp) [kI (-1),kI (-1),kI 1] [] (⟨(-1),(-1),1⟩:zaT) rfl zvV rfl rfl) rf) ?_
  obtain rfl:=sj h
  refine zy ?_
  refine lk [2,3] [12] 12 2 ?_
  exact lzz
 refine jF hc2 ?_
 obtain ⟨rv,h_rv,h⟩:=bnd h
 refine jr (rl 2 [1] 11 Tryz.call103 (zwZ h_rv) (rc 0 rfl (zlb (rk:=zu) (rv:=Rp.bool) 14 rfl) (rc 0 rfl (zlb (rk:=zt) (rv:=Rp.bool) 15 rfl) (ra 0 [kI (sv.length:Int),.own (Rp.int .i64) 3 13 [] rv,.om zu Rp.bool 14 [] ([]:(List (zo×Bool))),.om zt Rp.bool 15 [] ([]:(List (zp×Bool)))] rfl (zgU [kI (sv.length:Int),.own (Rp.int .i64) 3 13 [] rv,.om zu Rp.bool 14 [] ([]:(List (zo×Bool))),.om zt Rp.bool 15 [] ([]:(List (zp×Bool)))] [kI (sv.length:Int),.own (Rp.int .i64) 3 13 [] rv,.om zu Rp.bool 14 [] ([]:(List (zo×Bool))),.om zt Rp.bool 15 [] ([]:(List (zp×Bool)))] rfl zFi rfl) rfl (rfl' [16]))))) ?_
 refine jp ?_
 refine zz ?_
 obtain ⟨q2,h_q2,h⟩:=bnd h
 refine zak (fun s:(Int×(List (zo×Bool))×(List (zp×Bool)))=>zaQ rv sv s.1 s.2.1 s.2.2) (fun s=>⟨[(2,.ptr 12 0),(4,.ptr 16 0),(26,.sl zi [0] sv),(27,kI (sv.length:Int)),(28,kI s.1)],[⟨12,142,[kI 0,kI 0,kI 0]⟩,⟨16,174,[kI (sv.length:Int),.own (Rp.int .i64) 3 13 [] rv,.om zu Rp.bool 14 [13,0] s.2.1,.om zt Rp.bool 15 [13,0] s.2.2]⟩]⟩) (fun o e a w=>match o with| (.inl v_)=>e= .exit 0∧Sx ⟨⟨62,[]⟩,Xt,false,#[]⟩ ⟨[(2,.ptr 12 0)],[⟨12,142,[kI 0,kI 0,kI 0]⟩]⟩ a w| (.inr v_)=>e= .ret∧Sx ⟨⟨62,[]⟩,Xt,false,#[]⟩ ⟨[(2,.ptr 12 0),(3,k8 9)],[⟨12,142,[kI v_.1,kI v_.2.1,kI v_.2.2]⟩]⟩ a w) ?_ h_q2 ?_ ?_
 ·
  clear h
  intro s o h
  obtain ⟨v2,f,f2⟩:=s
  refine zr ?_
  replace h:zaQ rv sv v2 f f2=some o:=h
  unfold zaQ at h
  refine jp ?_
  rcases zn h with ⟨hc3,h⟩| ⟨hc3,h⟩
  ·
   refine jT hc3 ?_
   refine zz ?_
   obtain ⟨x,h_x,h⟩:=bnd h
   refine jr (ra 1 [.sl zi [0] sv,kI v2] rfl (zar rfl zge.el (zI _ _ _) h_x) rfl (ra 0 [.ep zi [0] x 0] rfl (zcq rfl ⟨Tryz.isAgg73,Tryz.sizeOf73⟩) rfl (ral 2 [18] [.ptr 18 0,.rc zi [0] x] rfl (zjn (r:=zi) (b:=⟨18,73,[kS [],kN]⟩) (off:=0) [kS x.Name,.sl zb [0] x.Fields] rfl Tryz.sizeOf73 rfl rfl rfl rfl) rfl rf))) ?_
   obtain ⟨rv3,h_rv3,h⟩:=bnd h
   refine jr (rkl 2 [] ⟨[(2,.ptr 12 0),(4,.ptr 16 0),(5,kI v2),(6,.ptr 18 0),(26,.sl zi [0] sv),(27,kI (sv.length:Int)),(28,kI v2),(33,.ag [kI (sv.length:Int),.own (Rp.int .i64) 3 13 [] rv,.om zu Rp.bool 14 [13,0] f,.om zt Rp.bool 15 [13,0] f2]),(34,.ag [kS x.Name,.sl zb [0] x.Fields])],[⟨12,142,[kI 0,kI 0,kI 0]⟩,⟨16,174,[kI (sv.length:Int),.own (Rp.int .i64) 3 13 [] rv,.om zu Rp.bool 14 [13,0] f,.om zt Rp.bool 15 [13,0] f2]⟩,⟨18,73,[kS x.Name,.sl zb [0] x.Fields]⟩]⟩ (zfO ⟨[(2,.ptr 12 0),(4,.ptr 16 0),(5,kI v2),(6,.ptr 18 0),(26,.sl zi [0] sv),(27,kI (sv.length:Int)),(28,kI v2),(33,.ag [kI (sv.length:Int),.own (Rp.int .i64) 3 13 [] rv,.om zu Rp.bool 14 [13,0] rv3.2.1,.om zt Rp.bool 15 [13,0] rv3.2.2]),(34,.ag [kS x.Name,.sl zb [0] x.Fields])],[⟨12,142,[kI 0,kI 0,kI 0]⟩,⟨16,174,[kI (sv.length:Int),.own (Rp.int .i64) 3 13 [] rv,.om zu Rp.bool 14 [13,0] rv3.2.1,.om zt Rp.bool 15 [13,0] rv3.2.2]⟩,⟨18,73,[kS x.Name,.sl zb [0] x.Fields]⟩]⟩ (zmx.le (ins':=[(.tmp 33,.ag [kI (sv.length:Int),.own (Rp.int .i64) 3 13 [] rv,.om zu Rp.bool 14 [13,0] f,.om zt Rp.bool 15 [13,0] f2]),(.tmp 34,.ag [kS x.Name,.sl zb [0] x.Fields])]) (zkg (args:=[.tmp 33,.tmp 34]) [.ag [kI (sv.length:Int),.own (Rp.int .i64) 3 13 [] rv,.om zu Rp.bool 14 [13,0] f,.om zt Rp.bool 15 [13,0] f2],.rc zi [0] x] [(14,2),(15,3)] [13,0] 19 [] rfl Tryz.call104 (zlm h_rv3) rfl rfl (by kernel_rfl) rfl rfl rfl) ⟨⟨rfl,AV.le_refl _⟩,⟨rfl,zcP zi [0] x [kS x.Name,.sl zb [0] x.Fields] rfl rfl⟩,trivial⟩) rfl (by kernel_rfl) (by kernel_rfl) ⟨⟨_,rfl,zv rfl⟩,⟨_,rfl,zv rfl⟩,⟨_,rfl,zv rfl⟩,⟨_,rfl,zv rfl⟩,⟨_,rfl,zv rfl⟩,⟨_,rfl,zv rfl⟩,⟨_,rfl,zv rfl⟩,⟨_,rfl,zlp ⟨zv rfl,zv rfl,zdO 0 rfl,zdO 1 rfl,trivial⟩⟩,⟨_,rfl,zv rfl⟩,trivial⟩ ⟨⟨_,rfl,rfl,rfl,⟨zv rfl,zv rfl,zv rfl,trivial⟩⟩,⟨_,rfl,rfl,rfl,⟨zv rfl,zv rfl,zdO 0 rfl,zdO 1 rfl,trivial⟩⟩,⟨_,rfl,rfl,rfl,⟨zv rfl,zv rfl,trivial⟩⟩,trivial⟩ rf)) ?_
   refine jp ?_
   rcases zn h with ⟨hc4,h⟩| ⟨hc4,h⟩
   ·
    refine jT hc4 ?_
    refine jr (rc 2 rfl (zV (r:=zdp) [kI v2,kI (-1),kI rv3.1] [] (⟨v2,(-1),rv3.1⟩:zaT) rfl zvV rfl rfl) rf) ?_
    obtain rfl:=sj h
    exact zbr lzz
   refine jF hc4 ?_
   refine jp ?_
   refine zz ?_
   obtain ⟨q,h_q,h⟩:=bnd h
   refine zak (fun s:(Int×(List (zo×Bool))×(List (zp×Bool)))=>zbt rv sv v2 x s.1 s.2.1 s.2.2) (fun s=>⟨[(2,.ptr 12 0),(4,.ptr 16 0),(5,kI v2),(26,.sl zi [0] sv),(27,kI (sv.length:Int)),(28,kI v2),(42,.sl zb [0] x.Fields),(43,kI (x.Fields.length:Int)),(44,kI s.1)],[⟨12,142,[kI 0,kI 0,kI 0]⟩,⟨16,174,[kI (sv.length:Int),.own (Rp.int .i64) 3 13 [] rv,.om zu Rp.bool 14 [13,0] s.2.1,.om zt Rp.bool 15 [13,0] s.2.2]⟩]⟩) (fun o e a w=>match o with| (.inl v_)=>e= .exit 2∧Sx ⟨⟨62,[]⟩,Xt,false,#[]⟩ ⟨[(2,.ptr 12 0),(4,.ptr 16 0),(26,.sl zi [0] sv),(27,kI (sv.length:Int)),(28,kI v2)],[⟨12,142,[kI 0,kI 0,kI 0]⟩,⟨16,174,[kI (sv.length:Int),.own (Rp.int .i64) 3 13 [] rv,.om zu Rp.bool 14 [13,0] v_.1,.om zt Rp.bool 15 [13,0] v_.2]⟩]⟩ a w| (.inr v_)=>e= .ret∧Sx ⟨⟨62,[]⟩,Xt,false,#[]⟩ ⟨[(2,.ptr 12 0),(3,k8 9)],[⟨12,142,[kI v2,kI v_.1,kI v_.2]⟩]⟩ a w) ?_ h_q lzz ?_
   ·
    clear h
    intro s o h
    obtain ⟨v3,f6,f7⟩:=s
    refine zr ?_
    replace h:zbt rv sv v2 x v3 f6 f7=some o:=h
    unfold zbt at h
    refine jp ?_
    rcases zn h with ⟨hc5,h⟩| ⟨hc5,h⟩
    ·
     refine jT hc5 ?_
     refine zz ?_
     obtain ⟨x2,h_x2,h⟩:=bnd h
     refine jr (ra 1 [.sl zb [0] x.Fields,kI v3] rfl (zar rfl ziJ.el (zI _ _ _) h_x2) rfl (ra 0 [.ep zb [0] x2 0] rfl (zcq rfl ⟨Tryz.isAgg64,Tryz.sizeOf64⟩) rfl (rfl' [24]))) ?_
     obtain ⟨rv5,h_rv5,h⟩:=bnd h
     refine jr (lb 2 zb [] x2 (rkl 0 [] ⟨[(2,.ptr 12 0),(4,.ptr 16 0),(5,kI v2),(8,kI v3),(26,.sl zi [0] sv),(27,kI (sv.length:Int)),(28,kI v2),(42,.sl zb [0] x.Fields),(43,kI (x.Fields.length:Int)),(44,kI v3),(49,.ag [kI (sv.length:Int),.own (Rp.int .i64) 3 13 [] rv,.om zu Rp.bool 14 [13,0] f6,.om zt Rp.bool 15 [13,0] f7]),(50,kI v2),(51,.rc zb [] x2)],[⟨12,142,[kI 0,kI 0,kI 0]⟩,⟨16,174,[kI (sv.length:Int),.own (Rp.int .i64) 3 13 [] rv,.om zu Rp.bool 14 [13,0] f6,.om zt Rp.bool 15 [13,0] f7]⟩]⟩ (zfO ⟨[(2,.ptr 12 0),(4,.ptr 16 0),(5,kI v2),(8,kI v3),(26,.sl zi [0] sv),(27,kI (sv.length:Int)),(28,kI v2),(42,.sl zb [0] x.Fields),(43,kI (x.Fields.length:Int)),(44,kI v3),(49,.ag [kI (sv.length:Int),.own (Rp.int .i64) 3 13 [] rv,.om zu Rp.bool 14 [13,0] rv5.2.1,.om zt Rp.bool 15 [13,0] rv5.2.2]),(50,kI v2),(51,.rc zb [] x2)],[⟨12,142,[kI 0,kI 0,kI 0]⟩,⟨16,174,[kI (sv.length:Int),.own (Rp.int .i64) 3 13 [] rv,.om zu Rp.bool 14 [13,0] rv5.2.1,.om zt Rp.bool 15 [13,0] rv5.2.2]⟩]⟩ (zkg [.ag [kI (sv.length:Int),.own (Rp.int .i64) 3 13 [] rv,.om zu Rp.bool 14 [13,0] f6,.om zt Rp.bool 15 [13,0] f7],kI v2,.rc zb [] x2] [(14,2),(15,3)] [13,0] 25 [] rfl Tryz.call105 (zmp h_rv5) rfl rfl (by kernel_rfl) rfl rfl rfl) rfl (by kernel_rfl) (by kernel_rfl) ⟨⟨_,rfl,zv rfl⟩,⟨_,rfl,zv rfl⟩,⟨_,rfl,zv rfl⟩,⟨_,rfl,zv rfl⟩,⟨_,rfl,zv rfl⟩,⟨_,rfl,zv rfl⟩,⟨_,rfl,zv rfl⟩,⟨_,rfl,zv rfl⟩,⟨_,rfl,zv rfl⟩,⟨_,rfl,zv rfl⟩,⟨_,rfl,zlp ⟨zv rfl,zv rfl,zdO 0 rfl,zdO 1 rfl,trivial⟩⟩,⟨_,rfl,zv rfl⟩,⟨_,rfl,zv rfl⟩,trivial⟩ ⟨⟨_,rfl,rfl,rfl,⟨zv rfl,zv rfl,zv rfl,trivial⟩⟩,⟨_,rfl,rfl,rfl,⟨zv rfl,zv rfl,zdO 0 rfl,zdO 1 rfl,trivial⟩⟩,trivial⟩ rf))) ?_
     refine jp ?_
     rcases zn h with ⟨hc6,h⟩| ⟨hc6,h⟩
     ·
      refine jT hc6 ?_
      refine jr (rc 3 rfl (zV (r:=zdp) [kI v2,kI v3,kI rv5.1] [] (⟨v2,v3,rv5.1⟩:zaT) rfl zvV rfl rfl) rf) ?_
      obtain rfl:=sj h
      exact zbr lzz
     refine jF hc6 ?_
     refine zX ?_
     refine jp ?_
     obtain rfl:=sj h
     exact zG lzz
    refine jF hc5 ?_
    obtain rfl:=sj h
    exact zal rfl lzz
   rcases q with u| u2
   ·
    refine zaM _ rfl ?_
    refine zX ?_
    refine jp ?_
    obtain rfl:=sj h
    exact zG lzz
   obtain rfl:=sj h
   exact zvn lzz
  refine jF hc3 ?_
  obtain rfl:=sj h
  exact zal rfl lzz
 ·
  refine zbU ⟨[(2,.ptr 12 0),(4,.ptr 16 0),(26,.sl zi [0] sv),(27,kI (sv.length:Int)),(28,kI 0)],[⟨12,142,[kI 0,kI 0,kI 0]⟩,⟨16,174,[kI (sv.length:Int),.own (Rp.int .i64) 3 13 [] rv,.om zu Rp.bool 14 [] ([]:(List (zo×Bool))),.om zt Rp.bool 15 [] ([]:(List (zp×Bool)))]⟩]⟩ (by kernel_rfl) ?_
  refine zhk 16 2 (.om zu Rp.bool 14 [13,0] ([]:(List (zo×Bool)))) rfl rfl (zCa _ _ _ _ rfl rfl) ?_
  refine zhk 16 3 (.om zt Rp.bool 15 [13,0] ([]:(List (zp×Bool)))) rfl rfl (zCa _ _ _ _ rfl rfl) ?_
  exact lzz
 rcases q2 with u3| u4
 ·
  refine zaM _ rfl ?_
  refine jr (rc 0 rfl (zV (r:=zdp) [] [] (⟨0,0,0⟩:zaT) rfl zvV rfl rfl) rf) ?_
  obtain rfl:=sj h
  refine zy ?_
  refine lk [2,3] [12] 12 2 ?_
  exact lzz
 obtain rfl:=sj h
 refine zdr ?_
 refine lk [2,3] [12] 12 2 ?_
 exact lzz
theorem zpB {m:zg} {b:(List UInt8)} {fromv:Int} {met:(List (zJ×zM))} {r:(ze×Int×(List (zJ×zM)))} (h:ziY m b fromv met=some r):zhg Tryz.prog 88 [.rc zi [0] m,.sl Rp.byte [0] b,kI fromv,.om zP zR 2 [0] met] [.rc zh [] r.1,k8 r.2.1] [.any,.any,.any,.om zP zR 2 [0] r.2.2]:=by
 refine ziV (E:=⟨[(3,.om zP zR 2 [0] r.2.2),(8,.ptr 3 0),(9,k8 r.2.1)],[⟨3,113,[kI r.1.Record.Number,kI r.1.Record.Wire,kI r.1.Record.From,kI r.1.Record.At,kI r.1.Record.To,kI r.1.Field,kB r.1.Run]⟩]⟩) 56 [3] Tryz.func88 rfl rfl rfl ⟨⟨_,_,rfl,rfl,rfl,rfl,⟨Tryz.isAgg113,Tryz.sizeOf113⟩⟩,rfl,trivial⟩ ⟨.inl rfl,.inl rfl,.inl rfl,.inr ⟨rfl,rfl⟩,trivial⟩ rfl (fun Xt old=>?_)
 refine zr ?_
 unfold ziY at h
 refine jr (ra 0 [.rc zi [0] m] rfl (zds 13 [kS m.Name,.sl zb [0] m.Fields] [0] rfl rfl rfl rfl rfl) rfl (rfl' [14])) ?_
 obtain ⟨rv,h_rv,h⟩:=bnd h
 refine jr (rl 2 [0] 13 Tryz.call98 (zjt h_rv) (rfl' [15])) ?_
 refine jp ?_
 rcases zn h with ⟨hc1,h⟩| ⟨hc1,h⟩
 ·
  refine jT hc1 ?_
  refine jr (rc 0 rfl (zV (r:=zh) [] [] (⟨(⟨0,0,0,0,0⟩:zq),0,false⟩:ze) rfl zsS rfl rfl) rf) ?_
  obtain rfl:=sj h
  refine zfL ?_
  refine lk [3,8,9] [14] 14 3 ?_
  exact lzz
 refine jF hc1 ?_
 refine jr (rc 4 rfl (zV (r:=zP) [kI rv.1.Number,kI rv.1.Wire] [] (⟨rv.1.Number,rv.1.Wire⟩:zJ) rfl zFk rfl rfl) (rfl' [16])) ?_
 refine jr (lb 1 zP [] (⟨rv.1.Number,rv.1.Wire⟩:zJ) (ra 0 [.om zP zR 2 [0] met,.rc zP [] (⟨rv.1.Number,rv.1.Wire⟩:zJ)] rfl (zso (rk:=zP) (rv:=zR) (m:=met) (k:=(⟨rv.1.Number,rv.1.Wire⟩:zJ)) (.rc zR [2,0] ((mget met (⟨rv.1.Number,rv.1.Wire⟩:zJ)).getD (⟨0,false,0⟩:zM))) rfl zzz (zlG _ _ _ _ _) (zcL rfl) (zvc rfl)) rfl (rfl' [17]))) ?_
 refine jp ?_
 obtain ⟨p,h_p,h⟩:=bnd h
 refine zcn (R:=fun e a w=>e= .normal∧Sx ⟨⟨56,[3]⟩,Xt,false,old⟩ ⟨[(3,.om zP zR 2 [0] p.1),(8,.ptr 14 0),(10,.ptr 15 0),(13,.ptr 17 0)],[⟨14,113,[kI 0,kI 0,kI 0,kI 0,kI 0,kI 0,kB false]⟩,⟨15,111,[kI rv.1.Number,kI rv.1.Wire,kI rv.1.From,kI rv.1.At,kI rv.1.To]⟩,⟨17,185,[kI p.2.1,kB p.2.2.1,k8 p.2.2.2]⟩]⟩ a w) ?_ ?_
 ·
  replace h:=h_p
  refine zr ?_
  rcases zn h with ⟨hc2,h⟩| ⟨hc2,h⟩
  ·
   refine jT hc2 ?_
   obtain ⟨rv2,h_rv2,h⟩:=bnd h
   refine jr (lb 1 zP [] (⟨rv.1.Number,rv.1.Wire⟩:zJ) (rl 0 [0] 16 Tryz.call111 (ztf h_rv2) rf)) ?_
   refine jr (lb 1 zP [] (⟨rv.1.Number,rv.1.Wire⟩:zJ) (lb 0 zR [] rv2 (rkl 0 [] ⟨[(3,.om zP zR 2 [0] met),(8,.ptr 14 0),(10,.ptr 15 0),(13,.ptr 17 0),(41,.om zP zR 2 [0] met),(42,.rc zP [] (⟨rv.1.Number,rv.1.Wire⟩:zJ)),(43,.rc zR [] rv2)],[⟨14,113,[kI 0,kI 0,kI 0,kI 0,kI 0,kI 0,kB false]⟩,⟨15,111,[kI rv.1.Number,kI rv.1.Wire,kI rv.1.From,kI rv.1.At,kI rv.1.To]⟩,⟨17,185,[kI rv2.field,kB rv2.run,k8 rv2.e]⟩]⟩ (zfO ⟨[(3,.om zP zR 2 [0] (mput met (⟨rv.1.Number,rv.1.Wire⟩:zJ) rv2)),(8,.ptr 14 0),(10,.ptr 15 0),(13,.ptr 17 0),(41,.om zP zR 2 [0] (mput met (⟨rv.1.Number,rv.1.Wire⟩:zJ) rv2)),(42,.rc zP [] (⟨rv.1.Number,rv.1.Wire⟩:zJ)),(43,.rc zR [] rv2)],[⟨14,113,[kI 0,kI 0,kI 0,kI 0,kI 0,kI 0,kB false]⟩,⟨15,111,[kI rv.1.Number,kI rv.1.Wire,kI rv.1.From,kI rv.1.At,kI rv.1.To]⟩,⟨17,185,[kI rv2.field,kB rv2.run,k8 rv2.e]⟩]⟩ (zpo (rk:=zP) (rv:=zR) (m:=met) (ℓ:=2) (C:=[0]) (C1:=[]) (D:=[]) (⟨rv.1.Number,rv.1.Wire⟩:zJ) rv2 [0] zzz (.inl rfl) (zcL rfl) (zcL rfl) rfl) rfl (by kernel_rfl) (by kernel_rfl) ⟨⟨_,rfl,zdO 0 rfl⟩,⟨_,rfl,zv rfl⟩,⟨_,rfl,zv rfl⟩,⟨_,rfl,zv rfl⟩,⟨_,rfl,zdO 0 rfl⟩,⟨_,rfl,zv rfl⟩,⟨_,rfl,zv rfl⟩,trivial⟩ ⟨⟨_,rfl,rfl,rfl,⟨zv rfl,zv rfl,zv rfl,zv rfl,zv rfl,zv rfl,zv rfl,trivial⟩⟩,⟨_,rfl,rfl,rfl,⟨zv rfl,zv rfl,zv rfl,zv rfl,zv rfl,trivial⟩⟩,⟨_,rfl,rfl,rfl,⟨zv rfl,zv rfl,zv rfl,trivial⟩⟩,trivial⟩ rf)))) ?_
   obtain rfl:=sj h
   exact zG lzz
  refine jF hc2 ?_
  obtain rfl:=sj h
  exact zG lzz
 refine zdR ?_
 refine jp ?_
 rcases zn h with ⟨hc3,h⟩| ⟨hc3,h⟩
 ·
  refine jT hc3 ?_
  refine jd [3,8,9] [14] zcp (by exact (lx (zV (r:=zh) [] [] (⟨(⟨0,0,0,0,0⟩:zq),0,false⟩:ze) rfl zsS rfl rfl) (lw_e (lw_e (ly [.ptr 14 0,.rc zh [] (⟨(⟨0,0,0,0,0⟩:zq),0,false⟩:ze)] (zjn (r:=zh) (b:=⟨14,113,[kI 0,kI 0,kI 0,kI 0,kI 0,kI 0,kB false]⟩) (off:=0) [kI 0,kI 0,kI 0,kI 0,kI 0,kI 0,kB false] rfl Tryz.sizeOf113 rfl rfl rfl rfl) rfl l0))))) ?_
  obtain rfl:=sj h
  refine zfL ?_
  refine lk [3,8,9] [14] 14 3 ?_
  exact lzz
 refine jF hc3 ?_
 refine jr (lb 0 zN [] rv.1 (rc 4 rfl (zV (r:=zh) [.rc zN [] rv.1,kI p.2.1,kB p.2.2.1] [] (⟨rv.1,p.2.1,p.2.2.1⟩:ze) rfl zsS rfl rfl) rf)) ?_
 obtain rfl:=sj h
 refine zfL ?_
 refine lk [3,8,9] [14] 14 3 ?_
 exact lzz
theorem zlY (v:Int) (v2:(List UInt8)):ItOk Tryz.prog 170 [.bp (Rp.int .i64) 3 917000 [] v,.bp (Rp.list Rp.byte) 24 917001 [0] v2] (fun x:((List UInt8)×Int)=>[.sl Rp.byte [0] x.1,k8 x.2]) (fun {σ:Type} (kf:Rnd σ ((List UInt8)×Int)) (sg:σ)=>zdS v v2 kf sg):=by
 refine zBJ 38 [(1,.ptr 917000 0),(2,.ptr 917001 0)] [⟨917000,3,[kI v]⟩,⟨917001,24,[.sl Rp.byte [0] v2]⟩] Tryz.func170 rfl rfl rfl rfl (.cons (Rp.int .i64) 3 917000 [] v [kI v] rfl rfl (.cons (Rp.list Rp.byte) 24 917001 [0] v2 [.sl Rp.byte [0] v2] rfl rfl (.nil _))) ?_
 intro σ kf sg s1 h l I hI F_ hT
 replace h:zdS v v2 kf sg=some s1:=h
 refine zr ?_
 refine zmJ (E':=⟨[(0,.lf (.val (.func (.yield l) #[] #[]))),(1,.ptr 917000 0),(2,.ptr 917001 0)],[⟨917000,3,[kI v]⟩,⟨917001,24,[.sl Rp.byte [0] v2]⟩]⟩) (fun _ _ _ hs=>hs) ?_
 unfold zdS at h
 obtain ⟨rv,h_rv,h⟩:=bnd h
 refine jr (rl 1 [1] 9 Tryz.call171 (zvO h_rv) rf) ?_
 refine jp ?_
 rcases zn h with ⟨hc1,h⟩| ⟨hc1,h⟩
 ·
  refine jT hc1 ?_
  obtain ⟨y,h_y,h⟩:=bnd h
  refine zwV (E':=⟨[],[]⟩) (x:=(([]:(List UInt8)),2)) (b:=y.1) (s':=y.2) 1 (some 13) [.const (.slice none 0 0),.const (.int .u8 2)] [kN,k8 2] [.sl Rp.byte [0] ([]:(List UInt8)),k8 2] ⟨[(12,.lf (.val (.func (.yield l) #[] #[])))],[]⟩ hT rfl rfl rfl rfl rfl rgg rfl ⟨rfl,⟨rfl,trivial⟩⟩ rfl ⟨zuf _ _,AV.le_refl _,trivial⟩ rfl rfl h_y rgg ?_
  obtain rfl:=sj h
  exact zEM lzz
 refine jF hc1 ?_
 refine jp ?_
 refine zz ?_
 obtain ⟨q,h_q,h⟩:=bnd h
 refine zBL (fun s:((List UInt8)×σ)=>zbs kf rv s.1 s.2) (fun s=>⟨⟨38,[]⟩,itX I hI F_ s.2,false,#[]⟩) (fun s=>⟨[(0,.lf (.val (.func (.yield l) #[] #[]))),(4,kI rv),(5,.sl Rp.byte [0] s.1)],[]⟩) (fun o e a w=>match o with| (.inl v_)=>e= .exit 0∧Sx ⟨⟨38,[]⟩,itX I hI F_ v_,false,#[]⟩ ⟨[],[]⟩ a w| (.inr v_)=>e= .ret∧Sx ⟨⟨38,[]⟩,itX I hI F_ v_,false,#[]⟩ ⟨[],[]⟩ a w) ?_ h_q rfl lzz ?_
 ·
  clear h
  intro s o h
  obtain ⟨rest,sg2⟩:=s
  refine zr ?_
  replace h:zbs kf rv rest sg2=some o:=h
  unfold zbs at h
  refine jp ?_
  rcases zn h with ⟨hc2,h⟩| ⟨hc2,h⟩
  ·
   refine jT hc2 ?_
   refine zz ?_
   obtain ⟨rv2,h_rv2,h⟩:=bnd h
   refine jr (rl 2 [0] 10 Tryz.call172 (zvN h_rv2) rf) ?_
   obtain ⟨v3,h_v3,h⟩:=bnd h
   obtain ⟨y2,h_y2,h⟩:=bnd h
   refine zwV (E':=⟨[(0,.lf (.val (.func (.yield l) #[] #[]))),(4,kI rv),(5,.sl Rp.byte [0] rest),(6,kI rv2.1),(34,kB ((!y2.1)|| (rv2.2 !=0)))],[]⟩) (x:=(v3,rv2.2)) (b:=y2.1) (s':=y2.2) 5 (some 29) [.tmp 27,.tmp 28] [.sl Rp.byte [0] v3,k8 rv2.2] [.sl Rp.byte [0] v3,k8 rv2.2] ⟨[(0,.lf (.val (.func (.yield l) #[] #[]))),(4,kI rv),(5,.sl Rp.byte [0] rest),(6,kI rv2.1),(7,k8 rv2.2),(24,.lf (.val (.func (.yield l) #[] #[]))),(27,.sl Rp.byte [0] v3),(28,k8 rv2.2)],[]⟩ hT rfl rfl rfl rfl rfl (ra 3 [.sl Rp.byte [0] rest,kI rv2.1] rfl (zgu none (some (kI rv2.1)) rfl zdD.el (zI _ _ _) ⟨rfl,rfl⟩ ⟨rfl,rfl⟩ h_v3) rfl rgg) rfl ⟨rfl,⟨rfl,trivial⟩⟩ rfl ⟨AV.le_refl _,AV.le_refl _,trivial⟩ rfl rfl h_y2 ?_ ?_
   ·
    refine (rsl 2 [] 31 (!y2.1) (fun hc3=>?_) (fun hc3=>?_))
    · exact (rbl [] 34 true ((!y2.1)|| (rv2.2 !=0)) (by rw [hc3]<;>rfl))
    exact (rbl [] 34 (rv2.2 !=0) ((!y2.1)|| (rv2.2 !=0)) (by rw [hc3]<;>rfl))
   rcases zn h with ⟨hc4,h⟩| ⟨hc4,h⟩
   ·
    refine jT hc4 ?_
    obtain rfl:=sj h
    exact zbr lzz
   refine jF hc4 ?_
   obtain ⟨v5,h_v5,h⟩:=bnd h
   refine jr (ra 2 [.sl Rp.byte [0] rest,kI rv2.1] rfl (zgu (some (kI rv2.1)) none rfl zdD.el (zI _ _ _) ⟨rfl,rfl⟩ ⟨rfl,rfl⟩ h_v5) rfl rf) ?_
   refine zX ?_
   obtain rfl:=sj h
   exact zG lzz
  refine jF hc2 ?_
  obtain rfl:=sj h
  exact zal rfl lzz
 rcases q with u| u2
 ·
  refine zaM _ rfl ?_
  obtain rfl:=sj h
  exact zEL lzz
 obtain rfl:=sj h
 exact zEO lzz
theorem zqu {l:(List Str)} {r:Bool} (h:zgH l=some r):FnOk Tryz.prog 81 [.sl Rp.str [0] l] [kB r]:=by
 refine zC (E:=⟨[(2,kB r)],[]⟩) 16 Tryz.func81 rfl rfl rfl ⟨rfl,trivial⟩ (fun Xt=>?_)
 refine zr ?_
 unfold zgH at h
 refine jp ?_
 refine jp ?_
 refine zz ?_
 obtain ⟨q,h_q,h⟩:=bnd h
 refine zak (fun s:Int=>zbw l s) (fun s=>⟨[(5,.sl Rp.str [0] l),(6,kI (l.length:Int)),(7,kI s)],[]⟩) (fun o e a w=>match o with| (.inl v_)=>e= .exit 0∧Sx ⟨⟨16,[]⟩,Xt,false,#[]⟩ ⟨[],[]⟩ a w| (.inr v_)=>e= .ret∧Sx ⟨⟨16,[]⟩,Xt,false,#[]⟩ ⟨[(2,kB false)],[]⟩ a w) ?_ h_q lzz ?_
 ·
  clear h
  intro v o h
  refine zr ?_
  replace h:zbw l v=some o:=h
  unfold zbw at h
  refine jp ?_
  rcases zn h with ⟨hc1,h⟩| ⟨hc1,h⟩
  ·
   refine jT hc1 ?_
   refine zz ?_
   obtain ⟨x,h_x,h⟩:=bnd h
   refine jr (ra 0 [.sl Rp.str [0] l,kI v] rfl (zar rfl zkk.el (zI _ _ _) h_x) rfl rf) ?_
   obtain ⟨v2,h_v2,h⟩:=bnd h
   obtain ⟨rv,h_rv,h⟩:=bnd h
   refine jr (ra 1 [kS x] rfl (zru 12 rfl Tryz.underlying9 Tryz.underlying24 Tryz.underlying5 h_v2) rfl (rl 0 [12] 11 Tryz.call106 (zpy h_rv) rf)) ?_
   rcases zn h with ⟨hc2,h⟩| ⟨hc2,h⟩
   ·
    refine jT hc2 ?_
    refine jp ?_
    obtain rfl:=sj h
    exact zbr lzz
   refine jF hc2 ?_
   refine zX ?_
   refine jp ?_
   obtain rfl:=sj h
   exact zG lzz
  refine jF hc1 ?_
  obtain rfl:=sj h
  exact zal rfl lzz
 rcases q with u| u2
 ·
  refine zaM _ rfl ?_
  refine jp ?_
  obtain rfl:=sj h
  exact zy lzz
 obtain rfl:=sj h
 exact zdr lzz
end Go.Proofs.YtcbkcblkecmjnaaGreat

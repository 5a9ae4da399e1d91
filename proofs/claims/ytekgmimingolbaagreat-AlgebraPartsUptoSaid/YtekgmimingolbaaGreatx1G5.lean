/-
  The Go functions do what the plain functions say. No condition.
-/
import Derived.Test.YtekgmimingolbaaGreatx1G2
import Derived.Test.YtekgmimingolbaaGreatx1G3
set_option autoImplicit true
set_option relaxedAutoImplicit true
namespace Go.Proofs.YtekgmimingolbaaGreat
open Go Go.RowKit
set_option linter.unusedVariables false
set_option maxRecDepth 100000
set_option maxHeartbeats 3200000
theorem zqi (h:zgK b atv=some r):FnOk Tryz.prog 127 [.sl Rp.byte [0] b,kI atv] [kI r]:=by
 refine zu (E:=⟨[(4,kI r)],[]⟩) 61 Tryz.func127 rfl rfl rfl ⟨rfl,trivial⟩ (fun Xt=>?_);refine zj ?_;unfold zgK at h;refine jp (jp (zq ?_));obtain ⟨q2,u0,h⟩:=bnd h;refine zW (fun s:Int=>zbA atv b s) (fun s=>⟨[(0,.sl Rp.byte [0] b),(1,kI atv),(5,kI s)],[]⟩) (fun o e a w=>match o with| (.inl v_)=>e= .exit 0/\Sx ⟨⟨61,[]⟩,Xt,false,#[]⟩ ⟨[],[]⟩ a w| (.inr v_)=>e= .ret/\Sx ⟨⟨61,[]⟩,Xt,false,#[]⟩ ⟨[(4,kI v_)],[]⟩ a w) ?_ u0 lzz ?_
 ·clear h;intro n o h;refine zj ?_;replace h:zbA atv b n=some o:=h;unfold zbA at h;refine zO ⟨[(0,.sl Rp.byte [0] b),(1,kI atv),(5,kI n),(17,kB ((decide (n<=4))&&(decide ((IntKind.i64.wrap (atv+n))<=(b.length:Int)))))],[]⟩ ?_ ?_
  ·refine (rsl 3 [] 10 (decide (n<=4)) (fun uC=>?_) (fun uC=>?_))
   · exact (rbl [] 17 (decide ((IntKind.i64.wrap (atv+n))<=(b.length:Int))) rfl (by rw [uC]<;>rfl))
   exact (rbl [] 17 false rfl (by rw [uC]<;>rfl))
  refine jI h (fun uD h=>?_) fun uD h=>?_
  ·refine zq ?_;obtain ⟨x,uM,h⟩:=bnd h;refine jr (ra 2 [.sl Rp.byte [0] b,kI atv] rfl (zP rfl zir.el (zw _ _ _) uM) rfl rf) (jp ?_);obtain ⟨p,vm,h⟩:=bnd h;refine zek (R:=fun e a w=>e= .normal/\Sx ⟨⟨61,[]⟩,Xt,false,#[]⟩ ⟨[(0,.sl Rp.byte [0] b),(1,kI atv),(5,kI n),(6,kI p)],[]⟩ a w) ?_ ?_
   ·replace h:=vm;refine zj (jI h (fun uE h=>?_) fun uE h=>?_)
    ·obtain ⟨x2,uP,h⟩:=bnd h;obtain ⟨v3,vc,h⟩:=bnd h;refine jr (rc 1 rfl (zcr [kI 0,kI 0,kI 32,kI 16,kI 8] 12 [] ([0,0,32,16,8]:(List Int)) rfl zhz rfl rfl rfl rfl) (ra 1 [.own (Rp.int .i64) 3 12 [] ([0,0,32,16,8]:(List Int)),kI n] rfl (zP rfl zhz.el (zet _ _ _ _ _) uP) rfl (ra 1 [kI (IntKind.i64.wrap (x.toNat:Int)),kI x2] rfl (zIN rfl vc) rfl rf))) ?_;cases h;exact zD lzz
    cases h;exact zD lzz
   refine zgm (jp (zq ?_));obtain ⟨q,uJ,h⟩:=bnd h;refine zW (fun s:(Int×Int)=>zbB atv b n s.1 s.2) (fun s=>⟨[(0,.sl Rp.byte [0] b),(1,kI atv),(5,kI n),(6,kI s.1),(7,kI s.2)],[]⟩) (fun o e a w=>e= .exit 2/\Sx ⟨⟨61,[]⟩,Xt,false,#[]⟩ ⟨[(0,.sl Rp.byte [0] b),(1,kI atv),(5,kI n),(6,kI o)],[]⟩ a w) ?_ uJ lzz ?_
   ·clear h;intro s o h;obtain ⟨rv2,i⟩:=s;refine zj ?_;replace h:zbB atv b n rv2 i=some o:=h;unfold zbB at h;refine jp (jI h (fun uI h=>?_) fun uI h=>?_)
    ·refine zq ?_;obtain ⟨x3,uW,h⟩:=bnd h;refine jr (ra 6 [.sl Rp.byte [0] b,kI (IntKind.i64.wrap (atv+i))] rfl (zP rfl zir.el (zw _ _ _) uW) rfl rf) (zQ (jp ?_));cases h;exact zD lzz
    cases h;exact zX rfl lzz
   refine zaj _ rfl ?_;obtain ⟨rv4,vb,h⟩:=bnd h;obtain ⟨v4,vq,h⟩:=bnd h;refine jd [0,1,5,59] [] zbq (by exact (lw_e (lx (lf1 156 (zR [kI q] [1] 12 rfl Tryz.call156 (zrA vb) rfl rfl rfl rfl rfl)) (ly [.own Rp.byte 5 14 [] rv4] (zGe rfl Tryz.underlying114 Tryz.underlying5 Tryz.underlying9 (zet _ _ _ _ _)) rfl (lw_e (lw_e (lw_e (lw_e (lw_e (ly [.sl Rp.byte [0] b,kI atv,kI (IntKind.i64.wrap (atv+n))] (zlw (some (kI atv)) (some (kI (IntKind.i64.wrap (atv+n)))) rfl zir.el (zw _ _ _) ⟨rfl,rfl⟩ ⟨rfl,rfl⟩ vq) rfl (ly [.sl Rp.byte [0] v4] (zGe rfl Tryz.underlying114 Tryz.underlying5 Tryz.underlying9 (zw _ _ _)) rfl l0))))))))))) (jI h (fun uL h=>?_) fun uL h=>?_)
   ·refine jp ?_;cases h;exact zaK lzz
   refine zQ (jp ?_);cases h;exact zD lzz
  cases h;exact zX rfl lzz
 rcases q2 with u| u2
 ·refine zaj _ rfl (jp ?_);cases h;exact zt lzz
 obtain rfl:=(sj h);exact zcN lzz
theorem zqh (h:zgJ b atv=some r):FnOk Tryz.prog 118 [.sl Rp.byte [0] b,kI atv] [kI r.1,kI r.2.1,kI r.2.2.1,kI r.2.2.2]:=by
 refine zu (E:=⟨[(4,kI r.1),(5,kI r.2.1),(6,kI r.2.2.1),(7,kI r.2.2.2)],[]⟩) 40 Tryz.func118 rfl rfl rfl ⟨rfl,rfl,rfl,rfl,trivial⟩ (fun Xt=>?_);refine zj ?_;unfold zgJ at h;refine jp ?_;obtain ⟨rv,uF,h⟩:=bnd h;refine jr (rl 2 [0] 9 Tryz.call119 (ziB uF) rf) (jp (jI h (fun uC h=>?_) fun uC h=>?_))
 ·refine jp ?_;cases h;exact zt lzz
 obtain ⟨g,uB,h⟩:=bnd h;refine zO ⟨[(8,kU rv.1),(9,kI rv.2.1),(32,kB g)],[]⟩ ?_ ?_
 ·refine (rsl 3 [] 23 (decide (rv.1>4294967295)) (fun uD=>?_) (fun uD=>?_))
  ·replace uB:=iteT uB uD;cases uB;exact rgg
  replace uB:=iteF uB uD;obtain ⟨rv2,uQ,uB⟩:=bnd uB;cases uB;exact (rl 6 [1] 9 Tryz.call151 (zpD uQ) rgg)
 refine jI h (fun uE h=>?_) fun uE h=>?_
 ·refine jp ?_;cases h;exact zt lzz
 refine jp ?_;cases h;exact zt lzz
theorem zhM (h:zeE way withv=some r):FnOk Tryz.prog 46 [.sl (Rp.int .i64) [0] way,.sl (Rp.int .i64) [0] withv] [kB r]:=by
 refine zu (E:=⟨[(4,kB r)],[]⟩) 18 Tryz.func46 rfl rfl rfl ⟨rfl,trivial⟩ (fun Xt=>?_);refine zj ?_;unfold zeE at h;refine jp ?_;obtain ⟨g,uB,h⟩:=bnd h;refine zO ⟨[(4,kB g)],[]⟩ ?_ ?_
 ·refine (rsl 6 [] 10 (decide ((withv.length:Int)<=(way.length:Int))) (fun uC=>?_) (fun uC=>?_))
  ·replace uB:=iteT uB uC;obtain ⟨v,uZ,uB⟩:=bnd uB;obtain ⟨rv,uF,uB⟩:=bnd uB;cases uB;exact (ra 3 [.sl (Rp.int .i64) [0] way,kI (withv.length:Int)] rfl (zlw none (some (kI (withv.length:Int))) rfl zhz.el (zw _ _ _) ⟨rfl,rfl⟩ ⟨rfl,rfl⟩ uZ) rfl (rl 1 [0] 9 Tryz.call86 (znC uF) rgg))
  replace uB:=iteF uB uC;cases uB;exact rgg
 obtain rfl:=(sj h);exact zt lzz
theorem zpP (wJ:∀{sv:(List zg)} {uK:Int} {x:zc} {m:(List (List Int))} {keep:Bool} {r:zc},xp sv uK x m keep=some r->FnOk Tryz.prog 21 [.sl zh [0] sv,kI uK,.rc zd [0] x,.sl (Rp.list (Rp.int .i64)) [0] m,kB keep] [.ag [.own za 59 3 [4,0] r.Values,.sl Rp.str [0] r.Unknown]]) (h:zfN xp sv uK x m keep=some r):FnOk Tryz.prog 21 [.sl zh [0] sv,kI uK,.rc zd [0] x,.sl (Rp.list (Rp.int .i64)) [0] m,kB keep] [.ag [.own za 59 3 [4,0] r.Values,.sl Rp.str [0] r.Unknown]]:=by
 refine zu (E:=⟨[(10,.ptr 2 0)],[⟨2,33,[.own za 59 3 [4,0] r.Values,.sl Rp.str [0] r.Unknown]⟩]⟩) 103 Tryz.func21 rfl rfl rfl ⟨⟨_,_,rfl,rfl,rfl,⟨Tryz.isAgg33,Tryz.sizeOf33⟩⟩,trivial⟩ (fun Xt=>?_);refine zj ?_;unfold zfN at h;refine jr (ra 0 [.rc zd [0] x] rfl (zbL 25 [.sl za [0] x.Values,.sl Rp.str [0] x.Unknown] [0] rfl rfl rfl (by rw [zi]<;>rfl) rfl) rfl (rfl' [26])) (jr (ra 0 [] rfl (zcs [] [kN,kN] rfl zDD rfl) rfl (rfl' [27])) (jp ?_));obtain ⟨p,vm,h⟩:=bnd h;refine zek (R:=fun e a w=>e= .normal/\Sx ⟨⟨103,[]⟩,Xt,false,#[]⟩ ⟨[(0,.sl zh [0] sv),(1,kI uK),(3,.sl (Rp.list (Rp.int .i64)) [0] m),(4,kB keep),(7,.ptr 25 0),(10,.ptr 26 0),(11,.ptr 27 0)],[⟨25,33,[.sl za [0] x.Values,.sl Rp.str [0] x.Unknown]⟩,⟨26,33,[kN,kN]⟩,⟨27,33,[kN,.sl Rp.str [0] p]⟩]⟩ a w) ?_ ?_
 ·replace h:=vm;refine zj (jI h (fun uC h=>?_) fun uC h=>?_)
  ·refine jp ?_;cases h;exact zD lzz
  cases h;exact zD (zaJ ⟨[(0,.sl zh [0] sv),(1,kI uK),(3,.sl (Rp.list (Rp.int .i64)) [0] m),(4,kB keep),(7,.ptr 25 0),(10,.ptr 26 0),(11,.ptr 27 0)],[⟨25,33,[.sl za [0] x.Values,.sl Rp.str [0] x.Unknown]⟩,⟨26,33,[kN,kN]⟩,⟨27,33,[kN,kN]⟩]⟩ (by kernel_rfl) (zcU 27 1 (.sl Rp.str [0] []) rfl rfl (zed Rp.str [0]) lzz))
 refine zgm (jp (zq ?_));obtain ⟨q,uJ,h⟩:=bnd h;refine zW (fun s:(Int×(List zb))=>zbF keep m xp uK sv x s.1 s.2) (fun s=>⟨[(0,.sl zh [0] sv),(1,kI uK),(3,.sl (Rp.list (Rp.int .i64)) [0] m),(4,kB keep),(7,.ptr 25 0),(10,.ptr 26 0),(11,.ptr 27 0),(12,kI s.1)],[⟨25,33,[.sl za [0] x.Values,.sl Rp.str [0] x.Unknown]⟩,⟨26,33,[kN,kN]⟩,⟨27,33,[.own za 59 38 [28,0] s.2,.sl Rp.str [0] p]⟩]⟩) (fun o e a w=>e= .exit 0/\Sx ⟨⟨103,[]⟩,Xt,false,#[]⟩ ⟨[(10,.ptr 26 0),(11,.ptr 27 0)],[⟨26,33,[kN,kN]⟩,⟨27,33,[.own za 59 38 [28,0] o,.sl Rp.str [0] p]⟩]⟩ a w) ?_ uJ ?_ ?_
 ·clear h;intro s o h;obtain ⟨i,f2⟩:=s;refine zj ?_;replace h:zbF keep m xp uK sv x i f2=some o:=h;unfold zbF at h;refine jp (jI h (fun uD h=>?_) fun uD h=>?_)
  ·refine zq ?_;obtain ⟨x2,uP,h⟩:=bnd h;refine jr (ra 3 [.sl za [0] x.Values,kI i] rfl (zP rfl zlF.el (zw _ _ _) uP) rfl (ra 0 [.ep za [0] x2 0] rfl (zcM rfl ⟨Tryz.isAgg59,Tryz.sizeOf59⟩) rfl (ral 1 [50] [.ptr 50 0,.rc za [0] x2] rfl (zio (r:=za) (b:=⟨50,59,[kI 0,kN,kN,kN]⟩) (off:=0) [kI x2.Number,.sl (Rp.int .u64) [0] x2.Words,.sl Rp.str [0] x2.Texts,.sl zd [0] x2.Subs] rfl Tryz.sizeOf59 rfl rfl (by rw [zk]<;>rfl) rfl) rfl rf))) ?_;obtain ⟨x3,uW,h⟩:=bnd h;obtain ⟨x4,va,h⟩:=bnd h;obtain ⟨rv,uF,h⟩:=bnd h;obtain ⟨x5,vi,h⟩:=bnd h;refine jd [0,1,3,4,7,10,11,12,13,14] [25,26,27,50,51] zbq (by exact (lw_e (lw_e (ly [.sl zh [0] sv,kI uK] (zP rfl ziM.el (zw _ _ _) uW) rfl (lw_e (ly [.ep zh [0] x3 1] (zbv zf x3.Fields rfl rfl rfl) rfl (lw_e (lw_e (ly [.sl zh [0] sv,kI uK] (zP rfl ziM.el (zw _ _ _) va) rfl (ly [.ep zh [0] x4 0] (zcM rfl ⟨Tryz.isAgg82,Tryz.sizeOf82⟩) rfl (lw_e (lw_e (lx (lf1 42 (zR [.rc zh [0] x4,kI x2.Number] [0] 49 rfl Tryz.call42 (zin uF) rfl rfl rfl rfl rfl)) (ly [.sl zf [0] x3.Fields,kI rv] (zP rfl zoF.el (zw _ _ _) vi) rfl (ly [.ep zf [0] x5 0] (zcM rfl ⟨Tryz.isAgg65,Tryz.sizeOf65⟩) rfl (lx (zmp 51 [kS [],kI 0,kI 0,kB false,kB false,kI 0] rfl Tryz.zeroValue65 rfl) (ly [.ptr 51 0,.rc zf [0] x5] (zio (r:=zf) (b:=⟨51,65,[kS [],kI 0,kI 0,kB false,kB false,kI 0]⟩) (off:=0) [kS x5.Name,kI x5.Number,kI x5.Kind,kB x5.Repeated,kB x5.Packed,kI x5.Of] rfl Tryz.sizeOf65 rfl rfl rfl rfl) rfl l0))))))))))))))))) ?_;obtain ⟨rv2,uQ,h⟩:=bnd h;refine jr (rl 3 [0] 50 Tryz.call48 (zpK uQ) rf) ?_;obtain ⟨rv3,uT,h⟩:=bnd h;refine jr (rl 3 [0] 52 Tryz.call49 (zpL uT) rf) (zO ⟨[(0,.sl zh [0] sv),(1,kI uK),(3,.sl (Rp.list (Rp.int .i64)) [0] m),(4,kB keep),(7,.ptr 25 0),(10,.ptr 26 0),(11,.ptr 27 0),(12,kI i),(13,.ptr 50 0),(14,.ptr 51 0),(15,.own (Rp.list (Rp.int .i64)) 53 52 [53,0] rv2),(16,kB rv3),(73,kB ((!rv3)&&((decide ((rv2.length:Int)>0))&&((x5.Kind==17)&&(!x5.Repeated)))))],[⟨25,33,[.sl za [0] x.Values,.sl Rp.str [0] x.Unknown]⟩,⟨26,33,[kN,kN]⟩,⟨27,33,[.own za 59 38 [28,0] f2,.sl Rp.str [0] p]⟩,⟨50,59,[kI x2.Number,.sl (Rp.int .u64) [0] x2.Words,.sl Rp.str [0] x2.Texts,.sl zd [0] x2.Subs]⟩,⟨51,65,[kS x5.Name,kI x5.Number,kI x5.Kind,kB x5.Repeated,kB x5.Packed,kI x5.Of]⟩]⟩ ?_ ?_)
   ·refine (rsl 3 [] 59 (!rv3) (fun uE=>?_) (fun uE=>?_))
    ·refine (rsl 5 [] 64 (decide ((rv2.length:Int)>0)) (fun uI=>?_) (fun uI=>?_))
     ·refine (rsl 5 [] 69 (x5.Kind==17) (fun uL=>?_) (fun uL=>?_))
      · exact (rbl [] 73 (!x5.Repeated) rfl (by rw [uE,uI,uL]<;>rfl))
      exact (rbl [] 73 false rfl (by rw [uE,uI,uL]<;>rfl))
     exact (rbl [] 73 false rfl (by rw [uE,uI]<;>rfl))
    exact (rbl [] 73 false rfl (by rw [uE]<;>rfl))
   refine jI h (fun uN h=>?_) fun uN h=>?_
   ·obtain ⟨x6,vo,h⟩:=bnd h;obtain ⟨rv4,vb,h⟩:=bnd h;obtain ⟨v2,vd,h⟩:=bnd h;refine jd [0,1,3,4,7,10,11,12] [25,26,27] zbq (by exact (lw_e (lw_e (lw_e (lw_e (lw_e (lw_e (lw_e (lw_e (lw_e (ly [.sl zd [0] x2.Subs,kI 0] (zP rfl ztB.el (zw _ _ _) vo) rfl (ly [.ep zd [0] x6 0] (zcM rfl ⟨Tryz.isAgg33,Tryz.sizeOf33⟩) rfl (lw_e (lw_e (lx (lf1 21 (zR [.sl zh [0] sv,kI x5.Of,.rc zd [0] x6,.own (Rp.list (Rp.int .i64)) 53 52 [53,0] rv2,kB keep] [0,52,53] 52 rfl Tryz.call21 (wJ vb) rfl rfl rfl rfl rfl)) (lx (zx.le (ins':=[(.tmp 87,.ag [.own za 59 55 [56,0,52,53] rv4.Values,.sl Rp.str [0,52,53] rv4.Unknown])]) (zcr [.rc zd [55,56,0,52,53] rv4] 57 [55,56,0,52,53] ([rv4]:(List zc)) rfl ztB rfl rfl rfl (by simp only [zjZ,zfT,zgz,zi,xS,yw]<;>rfl)) ⟨⟨rfl,zT zd [55,56,0,52,53] rv4 [.own za 59 55 [56,0,52,53] rv4.Values,.sl Rp.str [0,52,53] rv4.Unknown] (by rw [zi]<;>rfl) rfl⟩,trivial⟩) (ly [kI x2.Number,.own zd 33 57 [55,56,0,52,53] ([rv4]:(List zc))] (zcs [kI x2.Number,.own zd 33 57 [55,56,0,52,53] ([rv4]:(List zc))] [kI x2.Number,kN,kN,.own zd 33 57 [55,56,0,52,53] ([rv4]:(List zc))] rfl zIr rfl) rfl (lx (zx.le (ins':=[(.tmp 89,.ag [kI x2.Number,kN,kN,.own zd 33 57 [55,56,0,52,53] ([rv4]:(List zc))])]) (zcr [.rc za [57,55,56,0,52,53] (⟨x2.Number,[],[],([rv4]:(List zc))⟩:zb)] 58 [57,55,56,0,52,53] ([(⟨x2.Number,[],[],([rv4]:(List zc))⟩:zb)]:(List zb)) rfl zlF rfl rfl rfl (by simp only [zjZ,zfT,zgz,zk,xS,yw]<;>rfl)) ⟨⟨rfl,zAv (b:= .ag [kI x2.Number,.sl (Rp.int .u64) [] [],.sl Rp.str [] [],.own zd 33 57 [55,56,0,52,53] ([rv4]:(List zc))]) (zlh ⟨AV.le_refl _,zed _ _,zed _ _,AV.le_refl _,trivial⟩) (zT za [57,55,56,0,52,53] (⟨x2.Number,[],[],([rv4]:(List zc))⟩:zb) [kI x2.Number,.sl (Rp.int .u64) [] [],.sl Rp.str [] [],.own zd 33 57 [55,56,0,52,53] ([rv4]:(List zc))] (by rw [zk]<;>rfl) rfl)⟩,trivial⟩) (ly [.own za 59 38 [28,0] f2,.own za 59 58 [57,55,56,0,52,53] ([(⟨x2.Number,[],[],([rv4]:(List zc))⟩:zb)]:(List zb))] (zx.withBx (zgx 38 [28,0,58,57,55,56,52,53] rfl zlF.el rfl (zcI _ _ _ _ _) (zet _ _ _ _ _) vd (.inr rfl) rfl) ⟨27,33,[.own za 59 38 [28,0] f2,.sl Rp.str [0] p]⟩ rfl rfl) rfl (lw_e (ly [.ptr 27 0,.own za 59 38 [28,0,58,57,55,56,52,53] v2] (zwe (b:=⟨27,33,[.any,.sl Rp.str [0] p]⟩) (off:=0) rfl Tryz.sizeOf31 rfl rfl rfl) rfl l0))))))))))))))))))))) (zQ (jp ?_));cases h;exact zD (lk [0,1,3,4,7,10,11,12] [25,26,27] 58 28 (lk [0,1,3,4,7,10,11,12] [25,26,27] 57 28 (lk [0,1,3,4,7,10,11,12] [25,26,27] 55 28 (lk [0,1,3,4,7,10,11,12] [25,26,27] 56 28 (lk [0,1,3,4,7,10,11,12] [25,26,27] 52 28 (lk [0,1,3,4,7,10,11,12] [25,26,27] 53 28 (zaJ ⟨[(0,.sl zh [0] sv),(1,kI uK),(3,.sl (Rp.list (Rp.int .i64)) [0] m),(4,kB keep),(7,.ptr 25 0),(10,.ptr 26 0),(11,.ptr 27 0),(12,kI (IntKind.i64.wrap (i+1)))],[⟨25,33,[.sl za [0] x.Values,.sl Rp.str [0] x.Unknown]⟩,⟨26,33,[kN,kN]⟩,⟨27,33,[.own za 59 38 [28,0,28,28,28,28,28,28] v2,.sl Rp.str [0] p]⟩]⟩ (by kernel_rfl) (zcU 27 0 (.own za 59 38 [28,0] v2) rfl rfl (zdM _ _ _ _ _ _ rfl rfl) lzz))))))))
   refine jp (jI h (fun uS h=>?_) fun uS h=>?_)
   ·obtain ⟨v3,vc,h⟩:=bnd h;refine jr (rc 3 rfl (zx.le (ins':=[(.tmp 98,.ag [kI x2.Number,.sl (Rp.int .u64) [0] x2.Words,.sl Rp.str [0] x2.Texts,.sl zd [0] x2.Subs])]) (zcr [.rc za [0] x2] 59 [0] ([x2]:(List zb)) rfl zlF rfl rfl rfl (by simp only [zjZ,zfT,zgz,zk,xS,yw]<;>rfl)) ⟨⟨rfl,zT za [0] x2 [kI x2.Number,.sl (Rp.int .u64) [0] x2.Words,.sl Rp.str [0] x2.Texts,.sl zd [0] x2.Subs] (by rw [zk]<;>rfl) rfl⟩,trivial⟩) (ra 0 [.own za 59 38 [28,0] f2,.own za 59 59 [0] ([x2]:(List zb))] rfl (zgx 38 [28,0,59] rfl zlF.el rfl (zcI _ _ _ _ _) (zet _ _ _ _ _) vc (.inr rfl) rfl) rfl rf)) (zQ (jp ?_));cases h;exact zD (lk [0,1,3,4,7,10,11,12] [25,26,27] 59 28 (zaJ ⟨[(0,.sl zh [0] sv),(1,kI uK),(3,.sl (Rp.list (Rp.int .i64)) [0] m),(4,kB keep),(7,.ptr 25 0),(10,.ptr 26 0),(11,.ptr 27 0),(12,kI (IntKind.i64.wrap (i+1)))],[⟨25,33,[.sl za [0] x.Values,.sl Rp.str [0] x.Unknown]⟩,⟨26,33,[kN,kN]⟩,⟨27,33,[.own za 59 38 [28,0,28] v3,.sl Rp.str [0] p]⟩]⟩ (by kernel_rfl) (zcU 27 0 (.own za 59 38 [28,0] v3) rfl rfl (zdM _ _ _ _ _ _ rfl rfl) lzz)))
   refine zQ (jp ?_);cases h;exact zD lzz
  cases h;exact zX rfl lzz
 ·exact zaJ ⟨[(0,.sl zh [0] sv),(1,kI uK),(3,.sl (Rp.list (Rp.int .i64)) [0] m),(4,kB keep),(7,.ptr 25 0),(10,.ptr 26 0),(11,.ptr 27 0),(12,kI 0)],[⟨25,33,[.sl za [0] x.Values,.sl Rp.str [0] x.Unknown]⟩,⟨26,33,[kN,kN]⟩,⟨27,33,[kN,.sl Rp.str [0] p]⟩]⟩ (by kernel_rfl) (zcU 27 0 (.own za 59 38 [28,0] []) rfl rfl (zbJ za 59 38 [28,0] rfl) lzz)
 refine zaj _ rfl (jp ?_);cases h;exact zt (lk [10] [26] 26 2 (lk [10] [2] 38 3 (lk [10] [2] 28 4 lzz)))
theorem ziC (h:zdp uO sv uK x m keep=some r):FnOk Tryz.prog 21 [.sl zh [0] sv,kI uK,.rc zd [0] x,.sl (Rp.list (Rp.int .i64)) [0] m,kB keep] [.ag [.own za 59 3 [4,0] r.Values,.sl Rp.str [0] r.Unknown]]:=by
  induction uO generalizing sv uK x m keep r with
  | zero=>exact absurd h nofun
  | succ uO ih=>exact zpP (fun hh=>ih hh) h
end Go.Proofs.YtekgmimingolbaaGreat

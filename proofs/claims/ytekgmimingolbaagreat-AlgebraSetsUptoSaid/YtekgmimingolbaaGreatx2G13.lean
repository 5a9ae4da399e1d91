/-
  The Go functions do what the plain functions say. No condition.
-/
import Derived.Test.YtekgmimingolbaaGreatx2G12
import Derived.Test.YtekgmimingolbaaGreatx2Y
set_option autoImplicit true
set_option relaxedAutoImplicit true
namespace Go.Proofs.YtekgmimingolbaaGreat
open Go Go.RowKit
set_option linter.unusedVariables false
set_option maxRecDepth 100000
set_option maxHeartbeats 3200000
theorem zzT (h:zog sv uW d=some r):FnOk Tryz.prog 63 [.sl zh [0] sv,kI uW,kI d] [k8 r]:=by
 refine zu (E:=⟨[(6,k8 r)],[]⟩) 28 Tryz.func63 rfl rfl rfl ⟨rfl,trivial⟩ (fun Xt=>?_);refine zk ?_;unfold zog at h;refine jp (zp ?_);obtain ⟨rv,uS,h⟩:=bnd h;refine jr (rl 1 [0] 9 Tryz.call77 (ziY uS) rf) (jI h (fun uQ h=>?_) fun uQ h=>?_)
 ·refine jp ?_;cases h;exact zo lzz
 refine zU ⟨[(11,kB ((decide (uW<0))|| ((decide (uW>=(sv.length:Int)))|| ((decide (d<0))|| (decide (d>64))))))],[]⟩ ?_ ?_
 ·refine (rsl 3 [] 14 (decide (uW<0)) (fun uR=>?_) (fun uR=>?_))
  · exact (rbl [] 11 true rfl (by rw [uR]<;>rfl))
  refine (rsl 6 [] 20 (decide (uW>=(sv.length:Int))) (fun uT=>?_) (fun uT=>?_))
  · exact (rbl [] 11 true rfl (by rw [uR,uT]<;>rfl))
  refine (rsl 4 [] 24 (decide (d<0)) (fun uX=>?_) (fun uX=>?_))
  · exact (rbl [] 11 true rfl (by rw [uR,uT,uX]<;>rfl))
  exact (rbl [] 11 (decide (d>64)) rfl (by rw [uR,uT,uX]<;>rfl))
 refine jI h (fun vb h=>?_) fun vb h=>?_
 ·refine jp ?_;cases h;exact zo lzz
 refine zV (jp ?_);cases h;exact zo lzz
theorem zBL (h:zpQ sv uW=some r):FnOk Tryz.prog 121 [.sl zh [0] sv,kI uW] [k8 r]:=by
 refine zu (E:=⟨[(4,k8 r)],[]⟩) 18 Tryz.func121 rfl rfl rfl ⟨rfl,trivial⟩ (fun Xt=>?_);refine zk ?_;unfold zpQ at h;refine jp (zp ?_);obtain ⟨rv,uS,h⟩:=bnd h;refine jr (rl 1 [0] 9 Tryz.call77 (ziY uS) rf) (jI h (fun uQ h=>?_) fun uQ h=>?_)
 ·refine jp ?_;cases h;exact zo lzz
 refine zU ⟨[(9,kB ((decide (uW<0))|| (decide (uW>=(sv.length:Int)))))],[]⟩ ?_ ?_
 ·refine (rsl 3 [] 12 (decide (uW<0)) (fun uR=>?_) (fun uR=>?_))
  · exact (rbl [] 9 true rfl (by rw [uR]<;>rfl))
  exact (rbl [] 9 (decide (uW>=(sv.length:Int))) rfl (by rw [uR]<;>rfl))
 refine jI h (fun uT h=>?_) fun uT h=>?_
 ·refine jp ?_;cases h;exact zo lzz
 refine zV (jp ?_);cases h;exact zo lzz
theorem zwc (h:zkB l=some r):FnOk Tryz.prog 179 [.sl Rp.str [0] l] [kB r]:=by
 refine zu (E:=⟨[(2,kB r)],[]⟩) 28 Tryz.func179 rfl rfl rfl ⟨rfl,trivial⟩ (fun Xt=>?_);refine zk ?_;unfold zkB at h;refine jp ?_;obtain ⟨rv,uS,h⟩:=bnd h;obtain ⟨rv2,u9,h⟩:=bnd h;refine jr (rl 1 [0] 0 Tryz.call210 (zlk uS) (rc 0 rfl (zw.le (ins':=[(.tmp 7,.fv 223 [.bp (Rp.list Rp.str) 25 922300 [0] rv])]) (zL (args:=[.tmp 7]) [.fv 223 [.ep (Rp.list Rp.str) [922300,0] rv 0]] [922300,0] 9 rfl Tryz.call209 (zfQ u9) rfl rfl rfl rfl rfl) ⟨⟨rfl,zLS ⟨zGy _ _ _ _ _ _ rfl,trivial⟩⟩,trivial⟩) (ra 0 [.own Rp.str 9 11 [] rv2] rfl (zMr rfl Tryz.call208 zMQ) rfl rf))) ?_;obtain ⟨v,vf,h⟩:=bnd h;refine jr (ra 2 [kI ((zdn rv2).length:Int),kI ((zdn rv2).length:Int)] rfl (zuW 12 rfl zhT rfl vf) rfl rf) (jp (zp ?_));obtain ⟨q,uU,h⟩:=bnd h;refine zab (fun s:((List zg)×Int)=>zdl rv2 s.1 s.2) (fun s=>⟨[(3,.own zh 82 12 [] s.1),(13,.own Rp.str 9 11 [] (zdn rv2)),(14,kI ((zdn rv2).length:Int)),(15,kI s.2)],[]⟩) (fun o e a w=>e= .exit 0/\Sx ⟨⟨28,[]⟩,Xt,false,#[]⟩ ⟨[(3,.own zh 82 12 [] o)],[]⟩ a w) ?_ uU lzz ?_
 ·clear h;intro s o h;obtain ⟨sv,v2⟩:=s;refine zk ?_;replace h:zdl rv2 sv v2=some o:=h;unfold zdl at h;refine jp (jI h (fun uQ h=>?_) fun uQ h=>?_)
  ·refine zp ?_;obtain ⟨x,u0,h⟩:=bnd h;refine jr (ra 1 [.own Rp.str 9 11 [] (zdn rv2),kI v2] rfl (zW rfl zgI.el (zeG _ _ _ _ _) u0) rfl rf) ?_;obtain ⟨x2,va,h⟩:=bnd h;refine jr (ra 3 [.own zh 82 12 [] sv,kI v2] rfl (zsb rfl zhT.el va) rfl (rkl 1 [] ⟨[(3,.own zh 82 12 [] sv),(13,.own Rp.str 9 11 [] (zdn rv2)),(14,kI ((zdn rv2).length:Int)),(15,kI v2),(22,kS x),(24,.ptr 12 ((Int.toNat v2*zh.size)+0))],[]⟩ (zCf (r:=zh) (e:=82) (C:=[]) (xs:=sv) [3] (Int.toNat v2) 0 x2 (⟨x,x2.Fields⟩:zg) [] rfl rfl rfl rfl rfl rfl Tryz.sizeOf9 rfl (by kernel_rfl) rfl (zsT va) rfl rfl rfl rf))) (zV (jp ?_));cases h;exact zD lzz
  cases h;exact zaa rfl lzz
 refine zan _ rfl ?_;obtain ⟨rv3,ve,h⟩:=bnd h;refine jr (rl 1 [12] 12 Tryz.call77 (ziY ve) rf) ?_;obtain rfl:=(sj h);exact zo lzz
theorem zCs (h:znw uY f sv v=some r):FnOk Tryz.prog 52 [.rc zf [0] f,.sl zh [0] sv,.rc za [0] v] [kB r]:=by
 refine zu (E:=⟨[(6,kB r)],[]⟩) 21 Tryz.func52 rfl rfl rfl ⟨rfl,trivial⟩ (fun Xt=>?_);refine zk ?_;unfold znw at h;refine jr (ral 1 [11] [.rc za [0] v] rfl (zaR 12 [kI v.Number,.sl (Rp.int .u64) [0] v.Words,.sl Rp.str [0] v.Texts,.sl zc [0] v.Subs] [0] rfl rfl rfl (by rw [zi]<;>rfl) rfl) rfl rf) ?_;obtain ⟨g,uP,h⟩:=bnd h;refine zU ⟨[(6,kB g)],[]⟩ ?_ ?_
 ·obtain ⟨rv,uS,uP⟩:=bnd uP;refine (rl 1 [0] 11 Tryz.call77 (ziY uS) (rsl 1 [] 9 rv (fun uQ=>?_) (fun uQ=>?_)))
  ·replace uP:=iteT uP uQ;obtain ⟨rv2,u9,uP⟩:=bnd uP;refine (rc 1 rfl (zw.le (ins':=[(.tmp 10,.ag [kI v.Number,.sl (Rp.int .u64) [0] v.Words,.sl Rp.str [0] v.Texts,.sl zc [0] v.Subs])]) (zbZ [.rc za [0] v] 13 [0] ([v]:(List zb)) rfl zjx rfl rfl rfl (by simp only [zju,zeO,zfP,zi,xO,yp]<;>rfl)) ⟨⟨rfl,zK za [0] v [kI v.Number,.sl (Rp.int .u64) [0] v.Words,.sl Rp.str [0] v.Texts,.sl zc [0] v.Subs] (by rw [zi]<;>rfl) rfl⟩,trivial⟩) (ra 0 [.own za 57 13 [0] ([v]:(List zb))] rfl (zaM [.own za 57 13 [0] ([v]:(List zb))] [.own za 57 13 [0] ([v]:(List zb)),kN] rfl zod rfl) rfl (rc 0 rfl (zw.le (ins':=[(.tmp 12,.ag [.own za 57 13 [0] ([v]:(List zb)),kN])]) (zL (args:=[.tmp 12]) [.rc zc [13,0] (⟨([v]:(List zb)),[]⟩:zd)] [13,0] 12 rfl Tryz.call64 (zqU u9) rfl rfl rfl rfl rfl) ⟨⟨rfl,zwD (b:= .ag [.own za 57 13 [0] ([v]:(List zb)),.sl Rp.str [] []]) (zkZ ⟨AV.le_refl _,zaz _ _,trivial⟩) (zK zc [13,0] (⟨([v]:(List zb)),[]⟩:zd) [.own za 57 13 [0] ([v]:(List zb)),.sl Rp.str [] []] (by rw [zj]<;>rfl) rfl)⟩,trivial⟩) (rsl 2 [] 15 rv2 (fun uR=>?_) (fun uR=>?_)))))
   ·replace uP:=iteT uP uR;obtain ⟨rv3,ve,uP⟩:=bnd uP;cases uP;exact (lb 0 zf [] f (rc 2 rfl (zw.le (ins':=[(.tmp 16,.rc zf [] f),(.tmp 17,.sl zh [0] sv),(.tmp 18,.ag [kI v.Number,.sl (Rp.int .u64) [0] v.Words,.sl Rp.str [0] v.Texts,.sl zc [0] v.Subs])]) (zL (args:=[.tmp 16,.tmp 17,.tmp 18]) [.rc zf [] f,.sl zh [0] sv,.rc za [0] v] [0] 12 rfl Tryz.call88 (zCt ve) rfl rfl rfl rfl rfl) ⟨⟨rfl,AV.le_refl _⟩,⟨rfl,AV.le_refl _⟩,⟨rfl,zK za [0] v [kI v.Number,.sl (Rp.int .u64) [0] v.Words,.sl Rp.str [0] v.Texts,.sl zc [0] v.Subs] (by rw [zi]<;>rfl) rfl⟩,trivial⟩) rgg))
   replace uP:=iteF uP uR;cases uP;exact rgg
  replace uP:=iteF uP uQ;cases uP;exact rgg
 obtain rfl:=(sj h);exact zo lzz
theorem zzP (h:zmg uY sv uW x=some r):FnOk Tryz.prog 31 [.sl zh [0] sv,kI uW,.rc zc [0] x] [kB r]:=by
 refine zu (E:=⟨[(6,kB r)],[]⟩) 21 Tryz.func31 rfl rfl rfl ⟨rfl,trivial⟩ (fun Xt=>?_);refine zk ?_;unfold zmg at h;refine jr (ra 0 [.rc zc [0] x] rfl (zaR 11 [.sl za [0] x.Values,.sl Rp.str [0] x.Unknown] [0] rfl rfl rfl (by rw [zj]<;>rfl) rfl) rfl rf) ?_;obtain ⟨g,uP,h⟩:=bnd h;refine zU ⟨[(6,kB g)],[]⟩ ?_ ?_
 ·obtain ⟨rv,uS,uP⟩:=bnd uP;refine (rl 2 [0] 10 Tryz.call63 (zzT uS) (rsl 2 [] 11 (rv==0) (fun uQ=>?_) (fun uQ=>?_)))
  ·replace uP:=iteT uP uQ;obtain ⟨rv2,u9,uP⟩:=bnd uP;refine (rc 1 rfl (zw.le (ins':=[(.tmp 12,.ag [.sl za [0] x.Values,.sl Rp.str [0] x.Unknown])]) (zL (args:=[.tmp 12]) [.rc zc [0] x] [0] 10 rfl Tryz.call64 (zqU u9) rfl rfl rfl rfl rfl) ⟨⟨rfl,zK zc [0] x [.sl za [0] x.Values,.sl Rp.str [0] x.Unknown] (by rw [zj]<;>rfl) rfl⟩,trivial⟩) (rsl 2 [] 15 rv2 (fun uR=>?_) (fun uR=>?_)))
   ·replace uP:=iteT uP uR;obtain ⟨rv3,ve,uP⟩:=bnd uP;cases uP;exact (rc 3 rfl (zw.le (ins':=[(.tmp 16,.sl zh [0] sv),(.tmp 17,kI uW),(.tmp 18,.ag [.sl za [0] x.Values,.sl Rp.str [0] x.Unknown])]) (zL (args:=[.tmp 16,.tmp 17,.tmp 18]) [.sl zh [0] sv,kI uW,.rc zc [0] x] [0] 10 rfl Tryz.call65 (zvw ve) rfl rfl rfl rfl rfl) ⟨⟨rfl,AV.le_refl _⟩,⟨rfl,AV.le_refl _⟩,⟨rfl,zK zc [0] x [.sl za [0] x.Values,.sl Rp.str [0] x.Unknown] (by rw [zj]<;>rfl) rfl⟩,trivial⟩) rgg)
   replace uP:=iteF uP uR;cases uP;exact rgg
  replace uP:=iteF uP uQ;cases uP;exact rgg
 obtain rfl:=(sj h);exact zo lzz
theorem zBR (h:zpW l=some r):FnOk Tryz.prog 153 [.sl Rp.str [0] l] [kS r.1,k8 r.2]:=by
 refine zu (E:=⟨[(2,kS r.1),(3,k8 r.2)],[]⟩) 14 Tryz.func153 rfl rfl rfl ⟨rfl,rfl,trivial⟩ (fun Xt=>?_);refine zk ?_;unfold zpW at h;refine jp ?_;obtain ⟨g,uP,h⟩:=bnd h;refine zU ⟨[(0,.sl Rp.str [0] l),(11,kB g)],[]⟩ ?_ ?_
 ·refine (rsl 4 [] 7 (decide ((l.length:Int)>65)) (fun uQ=>?_) (fun uQ=>?_))
  ·replace uP:=iteT uP uQ;cases uP;exact rgg
  replace uP:=iteF uP uQ;obtain ⟨rv,uS,uP⟩:=bnd uP;cases uP;exact (rl 1 [0] 9 Tryz.call179 (zwc uS) rgg)
 refine jI h (fun uR h=>?_) fun uR h=>?_
 ·refine jp ?_;cases h;exact zo lzz
 obtain ⟨rv2,u9,h⟩:=bnd h;refine jr (rl 1 [0] 9 Tryz.call180 (zxf u9) rf) ?_;cases h;exact zo lzz
theorem zuA (h:zjA uY x v v2=some r):FnOk Tryz.prog 76 [.rc zc [0] x,.ep (Rp.list zh) [0] v 0,.ep (Rp.int .i64) [0] v2 0] [kB r]:=by
 refine zu (E:=⟨[(4,kB r)],[]⟩) 10 Tryz.func76 rfl rfl rfl ⟨rfl,trivial⟩ (fun Xt=>?_);refine zk ?_;unfold zjA at h;refine jr (ra 0 [.rc zc [0] x] rfl (zaR 11 [.sl za [0] x.Values,.sl Rp.str [0] x.Unknown] [0] rfl rfl rfl (by rw [zj]<;>rfl) rfl) rfl rf) ?_;obtain ⟨rv,uS,h⟩:=bnd h;refine jr (ra 0 [.ep (Rp.list zh) [0] v 0] rfl (zeR zh v rfl rfl rfl) rfl (rc 2 rfl (zw.le (ins':=[(.tmp 5,.sl zh [0] v),(.tmp 6,kI v2),(.tmp 7,.ag [.sl za [0] x.Values,.sl Rp.str [0] x.Unknown])]) (zL (args:=[.tmp 5,.tmp 6,.tmp 7]) [.sl zh [0] v,kI v2,.rc zc [0] x] [0] 10 rfl Tryz.call31 (zzP uS) rfl rfl rfl rfl rfl) ⟨⟨rfl,AV.le_refl _⟩,⟨rfl,AV.le_refl _⟩,⟨rfl,zK zc [0] x [.sl za [0] x.Values,.sl Rp.str [0] x.Unknown] (by rw [zj]<;>rfl) rfl⟩,trivial⟩) rf)) ?_;cases h;exact zo lzz
theorem zyC (h:zmG sv uW way=some r):FnOk Tryz.prog 122 [.sl zh [0] sv,kI uW,.sl (Rp.int .i64) [0] way] [kS r.1,k8 r.2]:=by
 refine zu (E:=⟨[(6,kS r.1),(7,k8 r.2)],[]⟩) 48 Tryz.func122 rfl rfl rfl ⟨rfl,rfl,trivial⟩ (fun Xt=>?_);refine zk ?_;unfold zmG at h;refine jp ?_;obtain ⟨rv,uS,h⟩:=bnd h;refine jr (rl 3 [0] 9 Tryz.call152 (zkm uS) rf) (jp (jI h (fun uQ h=>?_) fun uQ h=>?_))
 ·refine jp ?_;cases h;exact zo lzz
 obtain ⟨v,vf,h⟩:=bnd h;refine jr (ra 2 [kI (rv.1.length:Int),kI (rv.1.length:Int)] rfl (zuW 12 rfl zgI rfl vf) rfl rf) (jp (zp ?_));obtain ⟨q,uU,h⟩:=bnd h;refine zab (fun s:((List Str)×Int)=>zel rv s.1 s.2) (fun s=>⟨[(10,.own Rp.str 9 12 [] s.1),(27,.own zf 65 11 [] rv.1),(28,kI (rv.1.length:Int)),(29,kI s.2)],[]⟩) (fun o e a w=>e= .exit 0/\Sx ⟨⟨48,[]⟩,Xt,false,#[]⟩ ⟨[(10,.own Rp.str 9 12 [] o)],[]⟩ a w) ?_ uU lzz ?_
 ·clear h;intro s o h;obtain ⟨names,v2⟩:=s;refine zk ?_;replace h:zel rv names v2=some o:=h;unfold zel at h;refine jp (jI h (fun uR h=>?_) fun uR h=>?_)
  ·refine zp ?_;obtain ⟨x,u0,h⟩:=bnd h;refine jr (ra 1 [.own zf 65 11 [] rv.1,kI v2] rfl (zW rfl zlP.el (zeG _ _ _ _ _) u0) rfl (ra 0 [.ep zf [11] x 0] rfl (zbM rfl ⟨Tryz.isAgg65,Tryz.sizeOf65⟩) rfl (rfl' [14]))) ?_;obtain ⟨x2,va,h⟩:=bnd h;refine jr (ra 4 [.own Rp.str 9 12 [] names,kI v2] rfl (zsb rfl zgI.el va) rfl (rkl 0 [] ⟨[(10,.own Rp.str 9 12 [] names),(27,.own zf 65 11 [] rv.1),(28,kI (rv.1.length:Int)),(29,kI v2),(37,kS x.Name),(38,.ptr 12 (Int.toNat v2*Rp.str.size))],[]⟩ (zCf (r:=Rp.str) (e:=9) (C:=[]) (xs:=names) [10] (Int.toNat v2) 0 x2 x.Name [] rfl rfl rfl rfl rfl rfl Tryz.sizeOf9 rfl (by kernel_rfl) rfl (zsT va) rfl (zvo rfl _) rfl rf))) (zV (jp ?_));cases h;exact zD lzz
  cases h;exact zaa rfl lzz
 refine zan _ rfl ?_;obtain ⟨rv2,u9,h⟩:=bnd h;refine jr (rl 1 [12] 13 Tryz.call153 (zBR u9) rf) (jp (jI h (fun uT h=>?_) fun uT h=>?_))
 ·refine jp ?_;cases h;exact zo lzz
 refine jp ?_;cases h;exact zo lzz
end Go.Proofs.YtekgmimingolbaaGreat

/-
  The Go functions do what the plain functions say. No condition.
-/
import Derived.Test.YtekgmimingolbaaGreatx1T
import Derived.Test.YtekgmimingolbaaGreatx1Y
set_option autoImplicit true
set_option relaxedAutoImplicit true
namespace Go.Proofs.YtekgmimingolbaaGreat
open Go Go.RowKit
set_option linter.unusedVariables false
set_option maxRecDepth 100000
set_option maxHeartbeats 3200000
theorem znw (h:ziS x=some r):FnOk Tryz.prog 138 [kI x] [kB r]:=by
 refine zy (E:=⟨[(2,kB r)],[]⟩) 6 Tryz.func138 rfl rfl rfl ⟨rfl,trivial⟩ (fun Xt=>?_);refine zm ?_;unfold ziS at h;refine jp (jp ?_);cases h;exact zw lzz
theorem zmY (h:zeD s1 s2=some r):FnOk Tryz.prog 134 [.sl kp [0] s1,.sl kp [0] s2] [kB r]:=by
 refine zy (E:=⟨[(4,kB r)],[]⟩) 26 Tryz.func134 rfl rfl rfl ⟨rfl,trivial⟩ (fun Xt=>?_);refine zm ?_;unfold zeD at h;refine jp (jp (jI h (fun uW h=>?_) fun uW h=>?_))
 ·refine jp ?_;obtain rfl:=(sj h);exact zw lzz
 refine jp (zv (jb h fun q vc h=>zac (fun s:Int=>zap s1 s2 s) (fun s=>⟨[(0,.sl kp [0] s1),(1,.sl kp [0] s2),(12,kI (s1.length:Int)),(13,kI s)],[]⟩) (fun o e a w=>match o with| (.inl v_)=>e= .exit 0/\Sx ⟨⟨26,[]⟩,Xt,false,#[]⟩ ⟨[],[]⟩ a w| (.inr v_)=>e= .ret/\Sx ⟨⟨26,[]⟩,Xt,false,#[]⟩ ⟨[(4,kB false)],[]⟩ a w) ?_ vc lzz ?_))
 ·clear h;intro v o h;refine zm ?_;replace h:zap s1 s2 v=some o:=h;unfold zap at h;refine jp (jI h (fun uY h=>?_) fun uY h=>?_)
  ·refine zv (jp (jb h fun x vg h=>jb h fun x2 vk h=>jd [0,1,12,13,24] [] zbh (by exact (lw_e (lw_e (ly [.sl kp [0] s1,kI v] (zai rfl zlP.el (zC _ _ _) vg) rfl (lw_e (lw_e (lw_e (ly [.sl kp [0] s2,kI v] (zai rfl zlP.el (zC _ _ _) vk) rfl l0)))))))) (jI h (fun u9 h=>?_) fun u9 h=>?_)))
   ·refine jp ?_;cases h;exact zbf lzz
   refine zX (jp ?_);cases h;exact zH lzz
  cases h;exact zad rfl lzz
 rcases q with u| u2
 ·refine zas _ rfl (jp ?_);obtain rfl:=(sj h);exact zw lzz
 obtain rfl:=(sj h);exact zdj lzz
theorem zmX (h:zeC sv=some r):FnOk Tryz.prog 102 [.sl kp [0] sv] [.own kp 3 2 [] r]:=by
 refine zy (E:=⟨[(2,.own kp 3 2 [] r)],[]⟩) 8 Tryz.func102 rfl rfl rfl ⟨rfl,trivial⟩ (fun Xt=>?_);refine zm ?_;unfold zeC at h;refine jp ?_;have hn1:=zoP h;refine zqR 1 4 true ⟨[(0,.sl kp [0] sv),(3,.sl kp [0] sv)],[]⟩ ⟨[(0,.sl kp [0] sv),(4,kB true)],[]⟩ ⟨[(0,.sl kp [0] sv),(4,kB false)],[]⟩ (by kernel_rfl) rfl rfl rfl (by kernel_rfl) rfl Tryz.underlying53 rfl (zC _ _ _) (by kernel_rfl) (by kernel_rfl) (fun hx_=>?_) ?_
 ·replace h:=hn1.1 hx_;refine jT rfl (jp ?_);cases h;exact zw (lq ⟨[(2,kN)],[]⟩ (zdE 2 (.own kp 3 2 [] ([]:(List Int))) rfl (zaT kp 3 2 [] rfl) lzz))
 replace h:=hn1.2;refine jF rfl (jb h fun v vr h=>jr (rc 0 rfl (zbX [] 12 [] ([]:(List Int)) rfl zlP rfl rfl rfl rfl) (ra 1 [.own kp 3 12 [] ([]:(List Int)),.sl kp [0] sv] rfl (zeR 12 [] rfl zlP.el rfl (zbu _ _ _ _ _) (zC _ _ _) vr (.inl (zoT _)) rfl) rfl rf)) ?_);obtain rfl:=(sj h);exact zw (lk [2] [] 12 2 lzz)
theorem zkh (v:(List (List Int))):ItOk Tryz.prog 105 [.ep kr [0] v 0] (fun x:(List Int)=>[.sl kp [0] x]) (fun {σ:Type} (kf:Rnd σ (List Int)) (sg:σ)=>zbe v kf sg):=by
 refine zGW 16 [(1,.ep kr [0] v 0)] [] Tryz.func105 rfl rfl rfl rfl (.ep kr [0] v (.nil _)) ?_;intro σ kf sg s1 h l I hI F_ hT;replace h:zbe v kf sg=some s1:=h;refine zm (zBo (E':=⟨[(0,.lf (.val (.func (.yield l) #[] #[]))),(1,.ep kr [0] v 0)],[]⟩) (fun _ _ _ hs=>hs) ?_);unfold zbe at h;refine jr (ra 0 [.ep kr [0] v 0] rfl (zgf kq v rfl rfl rfl) rfl rf) (zv (jb h fun q vc h=>zGY (fun s:(Int×σ)=>zag kf v s.1 s.2) (fun s=>⟨⟨16,[]⟩,itX I hI F_ s.2,false,#[]⟩) (fun s=>⟨[(0,.lf (.val (.func (.yield l) #[] #[]))),(5,.sl kq [0] v),(6,kI (v.length:Int)),(7,kI s.1)],[]⟩) (fun o e a w=>match o with| (.inl v_)=>e= .exit 0/\Sx ⟨⟨16,[]⟩,itX I hI F_ v_,false,#[]⟩ ⟨[],[]⟩ a w| (.inr v_)=>e= .ret/\Sx ⟨⟨16,[]⟩,itX I hI F_ v_,false,#[]⟩ ⟨[],[]⟩ a w) ?_ vc rfl lzz ?_))
 ·clear h;intro s o h;obtain ⟨v2,sg2⟩:=s;refine zm ?_;replace h:zag kf v v2 sg2=some o:=h;unfold zag at h;refine jp (jI h (fun uW h=>?_) fun uW h=>?_)
  ·refine zv (jb h fun x vg h=>jr (ra 0 [.sl kq [0] v,kI v2] rfl (zai rfl zne.el (zC _ _ _) vg) rfl (ra 0 [.ep kq [0] x 0] rfl (zgf kp x rfl rfl rfl) rfl rf)) (jb h fun y wd h=>zHd (E':=⟨[(0,.lf (.val (.func (.yield l) #[] #[]))),(5,.sl kq [0] v),(6,kI (v.length:Int)),(7,kI v2),(14,kB (!y.1))],[]⟩) (x:=x) (b:=y.1) (s':=y.2) 2 (some 13) [.tmp 12] [.sl kp [0] x] [.sl kp [0] x] ⟨[(0,.lf (.val (.func (.yield l) #[] #[]))),(5,.sl kq [0] v),(6,kI (v.length:Int)),(7,kI v2),(11,.lf (.val (.func (.yield l) #[] #[]))),(12,.sl kp [0] x)],[]⟩ hT rfl rfl rfl rfl rfl rgg rfl ⟨rfl,trivial⟩ rfl ⟨ky _,trivial⟩ rfl rfl wd rgg (jI h (fun uY h=>?_) fun uY h=>?_)))
   ·cases h;exact zbf lzz
   refine zX (jp ?_);cases h;exact zH lzz
  cases h;exact zad rfl lzz
 rcases q with u| u2
 ·refine zas _ rfl ?_;cases h;exact zKc lzz
 cases h;exact zKe lzz
theorem zsT (h:zgY t way=some r):FnOk Tryz.prog 72 [.mp zaW kp [0] t,.sl kp [0] way] [kB r]:=by
 refine zy (E:=⟨[(4,kB r)],[]⟩) 30 Tryz.func72 rfl rfl rfl ⟨rfl,trivial⟩ (fun Xt=>?_);refine zm ?_;unfold zgY at h;refine jp (jp (jp (zv (jb h fun q vc h=>zac (fun s:(Int×Int)=>zbd t way s.1 s.2) (fun s=>⟨[(0,.mp zaW kp [0] t),(5,kI s.1),(10,.sl kp [0] way),(11,kI (way.length:Int)),(12,kI s.2)],[]⟩) (fun o e a w=>match o with| (.inl v_)=>e= .exit 0/\Sx ⟨⟨30,[]⟩,Xt,false,#[]⟩ ⟨[],[]⟩ a w| (.inr v_)=>e= .ret/\Sx ⟨⟨30,[]⟩,Xt,false,#[]⟩ ⟨[(4,kB v_)],[]⟩ a w) ?_ vc lzz ?_))))
 ·clear h;intro s o h;obtain ⟨place,v⟩:=s;refine zm ?_;replace h:zbd t way place v=some o:=h;unfold zbd at h;refine jp (jI h (fun uW h=>?_) fun uW h=>?_)
  ·refine zv (jb h fun x vg h=>jr (ra 0 [.sl kp [0] way,kI v] rfl (zai rfl zlP.el (zC _ _ _) vg) rfl rf) (jr (ra 3 [kI place,kI x] rfl (zyS (r:=zaW) [kI place,kI x] [] (⟨place,x⟩:zal) rfl zGh rfl rfl) rfl (ra 0 [.mp zaW kp [0] t,.rc zaW [] (⟨place,x⟩:zal)] rfl (zHx (rk:=zaW) (rv:=kp) (m:=t) (k:=(⟨place,x⟩:zal)) (kI ((mget t (⟨place,x⟩:zal)).getD 0)) rfl zrW (ztE _ _ _ _) (zea rfl) (zpv rfl rfl rfl)) rfl rf)) (jp (jI h (fun uY h=>?_) fun uY h=>?_))))
   ·refine jp ?_;cases h;exact zbf lzz
   refine jp (jI h (fun u9 h=>?_) fun u9 h=>?_)
   ·refine jp ?_;cases h;exact zbf lzz
   refine jp (zX (jp ?_));cases h;exact zH lzz
  cases h;exact zad rfl lzz
 rcases q with u| u2
 ·refine zas _ rfl (jp ?_);obtain rfl:=(sj h);exact zw lzz
 obtain rfl:=(sj h);exact zdj lzz
theorem zvC (h:zkE t way=some r):zqw Tryz.prog 73 [.om zaW kp 2 [0] t,.sl kp [0] way] [] [.om zaW kp 2 [0] r,.any]:=by
 refine zuB (E:=⟨[(0,.om zaW kp 2 [0] r)],[]⟩) 38 [0] Tryz.func73 rfl rfl rfl trivial ⟨.inr ⟨rfl,rfl⟩,.inl rfl,trivial⟩ rfl (fun Xt old=>?_);refine zm ?_;unfold zkE at h;refine jp (jq [11] (jp (zv (jb h fun q vc h=>zac (fun s:((List (zal×Int))×Int×Int×Int×Int)=>zcm way s.1 s.2.1 s.2.2.1 s.2.2.2.1 s.2.2.2.2) (fun s=>⟨[(0,.om zaW kp 2 [0] s.1),(4,kI s.2.1),(5,.ptr 11 0),(10,.sl kp [0] way),(11,kI (way.length:Int)),(12,kI s.2.2.1)],[⟨11,156,[kI s.2.2.2.1,kI s.2.2.2.2]⟩]⟩) (fun o e a w=>e= .exit 0/\Sx ⟨⟨38,[0]⟩,Xt,false,old⟩ ⟨[(0,.om zaW kp 2 [0] o.1),(5,.ptr 11 0)],[⟨11,156,[kI o.2.1,kI o.2.2]⟩]⟩ a w) ?_ vc lzz ?_))))
 ·clear h;intro s o h;obtain ⟨t2,place,v,f,f2⟩:=s;refine zm ?_;replace h:zcm way t2 place v f f2=some o:=h;unfold zcm at h;refine jp (jI h (fun uW h=>?_) fun uW h=>?_)
  ·refine zv (jb h fun x vg h=>jr (ra 0 [.sl kp [0] way,kI v] rfl (zai rfl zlP.el (zC _ _ _) vg) rfl rf) (jr (ra 2 [kI place,kI x] rfl (zyS (r:=zaW) [kI place,kI x] [] (⟨place,x⟩:zal) rfl zGh rfl rfl) rfl rf) (jr (lb 1 zaW [] (⟨place,x⟩:zal) (ra 0 [.om zaW kp 2 [0] t2,.rc zaW [] (⟨place,x⟩:zal)] rfl (zuH (rk:=zaW) (rv:=kp) (m:=t2) (k:=(⟨place,x⟩:zal)) (kI ((mget t2 (⟨place,x⟩:zal)).getD 0)) rfl zrW (zea rfl) (zpv rfl rfl rfl)) rfl rf)) (jp (jI h (fun uY h=>?_) fun uY h=>?_)))))
   ·refine jr (lb 1 zaW [] (⟨place,x⟩:zal) (ra 1 [.om zaW kp 2 [0] t2] rfl (zEt (rk:=zaW) (rv:=kp) (m:=t2) rfl Tryz.underlying118 (zEf _ _ _ _ _)) rfl (rkl 1 [] ⟨[(0,.om zaW kp 2 [0] t2),(5,.ptr 11 0),(10,.sl kp [0] way),(11,kI (way.length:Int)),(12,kI v),(27,.om zaW kp 2 [0] t2),(28,.rc zaW [] (⟨place,x⟩:zal)),(31,kI (IntKind.i64.wrap ((t2.length:Int)+1)))],[⟨11,156,[kI place,kI x]⟩]⟩ (zmp ⟨[(0,.om zaW kp 2 [0] (mput t2 (⟨place,x⟩:zal) (IntKind.i64.wrap ((t2.length:Int)+1)))),(5,.ptr 11 0),(10,.sl kp [0] way),(11,kI (way.length:Int)),(12,kI v),(27,.om zaW kp 2 [0] (mput t2 (⟨place,x⟩:zal) (IntKind.i64.wrap ((t2.length:Int)+1)))),(28,.rc zaW [] (⟨place,x⟩:zal)),(31,kI (IntKind.i64.wrap ((t2.length:Int)+1)))],[⟨11,156,[kI place,kI x]⟩]⟩ (zub (rk:=zaW) (rv:=kp) (m:=t2) (ℓ:=2) (C:=[0]) (C1:=[]) (D:=[]) (⟨place,x⟩:zal) (IntKind.i64.wrap ((t2.length:Int)+1)) [0] zrW (.inl rfl) (zea rfl) (zei rfl rfl) rfl) rfl (by kernel_rfl) (by kernel_rfl) ⟨⟨_,rfl,zhR 0 rfl⟩,⟨_,rfl,zaa rfl⟩,⟨_,rfl,zaa rfl⟩,⟨_,rfl,zaa rfl⟩,⟨_,rfl,zaa rfl⟩,⟨_,rfl,zhR 0 rfl⟩,⟨_,rfl,zaa rfl⟩,⟨_,rfl,zaa rfl⟩,trivial⟩ ⟨⟨_,rfl,rfl,rfl,⟨zaa rfl,zaa rfl,trivial⟩⟩,trivial⟩ rf)))) (jr (lb 1 zaW [] (⟨place,x⟩:zal) (ra 0 [.om zaW kp 2 [0] (mput t2 (⟨place,x⟩:zal) (IntKind.i64.wrap ((t2.length:Int)+1))),.rc zaW [] (⟨place,x⟩:zal)] rfl (zqX (rk:=zaW) (rv:=kp) (m:=(mput t2 (⟨place,x⟩:zal) (IntKind.i64.wrap ((t2.length:Int)+1)))) (k:=(⟨place,x⟩:zal)) (kI ((mget (mput t2 (⟨place,x⟩:zal) (IntKind.i64.wrap ((t2.length:Int)+1))) (⟨place,x⟩:zal)).getD 0)) rfl zrW (zea rfl) (zpv rfl rfl rfl)) rfl rf)) (zX (jp ?_)));cases h;exact zH lzz
   refine jr (lb 1 zaW [] (⟨place,x⟩:zal) (ra 0 [.om zaW kp 2 [0] t2,.rc zaW [] (⟨place,x⟩:zal)] rfl (zqX (rk:=zaW) (rv:=kp) (m:=t2) (k:=(⟨place,x⟩:zal)) (kI ((mget t2 (⟨place,x⟩:zal)).getD 0)) rfl zrW (zea rfl) (zpv rfl rfl rfl)) rfl rf)) (zX (jp ?_));cases h;exact zH lzz
  cases h;exact zad rfl lzz
 refine zas _ rfl (jr (lb 1 zaW [] (⟨q.2.1,q.2.2⟩:zal) (rkl 0 [] ⟨[(0,.om zaW kp 2 [0] q.1),(36,.om zaW kp 2 [0] q.1),(37,.rc zaW [] (⟨q.2.1,q.2.2⟩:zal))],[]⟩ (zmp ⟨[(0,.om zaW kp 2 [0] (mput q.1 (⟨q.2.1,q.2.2⟩:zal) (-1))),(36,.om zaW kp 2 [0] (mput q.1 (⟨q.2.1,q.2.2⟩:zal) (-1))),(37,.rc zaW [] (⟨q.2.1,q.2.2⟩:zal))],[]⟩ (zub (rk:=zaW) (rv:=kp) (m:=q.1) (ℓ:=2) (C:=[0]) (C1:=[]) (D:=[]) (⟨q.2.1,q.2.2⟩:zal) (-1) [0] zrW (.inl rfl) (zea rfl) (zei rfl rfl) rfl) rfl (by kernel_rfl) (by kernel_rfl) ⟨⟨_,rfl,zhR 0 rfl⟩,⟨_,rfl,zhR 0 rfl⟩,⟨_,rfl,zaa rfl⟩,trivial⟩ trivial rf))) ?_);cases h;exact zKQ lzz
theorem zfr (h:zbg x=some r):zqw Tryz.prog 104 [.own kq 53 2 [0] x,.lf (.val (.func (.func 71) #[] #[]))] [] [.own kq 53 2 [0] r,.any]:=zFN zLb (enters_of Tryz.func71 (by kernel_rfl) rfl) zKM 53 h
abbrev zHi:=(mput ([]:(List (Int×zz))) 1 (⟨[105,110,116,51,50],0⟩:zz))
abbrev zHj:=(mput zHi 2 (⟨[105,110,116,54,52],0⟩:zz))
abbrev zHk:=(mput zHj 3 (⟨[117,105,110,116,51,50],0⟩:zz))
abbrev zHl:=(mput zHk 4 (⟨[117,105,110,116,54,52],0⟩:zz))
abbrev zHm:=(mput zHl 5 (⟨[115,105,110,116,51,50],0⟩:zz))
abbrev zHn:=(mput zHm 6 (⟨[115,105,110,116,54,52],0⟩:zz))
abbrev zHo:=(mput zHn 7 (⟨[98,111,111,108],0⟩:zz))
abbrev zHp:=(mput zHo 8 (⟨[101,110,117,109],0⟩:zz))
abbrev zHq:=(mput zHp 9 (⟨[102,105,120,101,100,51,50],5⟩:zz))
abbrev zDc:=(mput zHq 10 (⟨[115,102,105,120,101,100,51,50],5⟩:zz))
abbrev zDd:=(mput zDc 11 (⟨[102,108,111,97,116],5⟩:zz))
abbrev zDe:=(mput zDd 12 (⟨[102,105,120,101,100,54,52],1⟩:zz))
abbrev zDf:=(mput zDe 13 (⟨[115,102,105,120,101,100,54,52],1⟩:zz))
abbrev zDg:=(mput zDf 14 (⟨[100,111,117,98,108,101],1⟩:zz))
abbrev zzQ:=(mput zDg 15 (⟨[115,116,114,105,110,103],2⟩:zz))
theorem zsv (h:zmK=some r):FnOk Tryz.prog 171 [] [.om kp zF 2 [] r]:=by
 refine zy (E:=⟨[(0,.om kp zF 2 [] r)],[]⟩) 20 Tryz.func171 rfl rfl rfl ⟨rfl,trivial⟩ (fun Xt=>?_);refine zm ?_;unfold zmK at h;refine jp (jr (rc 0 rfl (ztL (rk:=kp) (rv:=zF) 12 rfl) (rc 0 rfl (zaO (r:=zF) [kS [105,110,116,51,50],kI 0] [] (⟨[105,110,116,51,50],0⟩:zz) rfl zja rfl rfl) (rkl 0 [] ⟨[(1,.om kp zF 12 [] ([]:(List (Int×zz)))),(2,.rc zF [] (⟨[105,110,116,51,50],0⟩:zz))],[]⟩ (zfV (rk:=kp) (rv:=zF) (m:=([]:(List (Int×zz)))) (C:=[]) (C1:=[]) (D:=[]) [1] 1 (⟨[105,110,116,51,50],0⟩:zz) [] zgO rfl (.inr rfl) rfl rfl rfl rfl (zei rfl rfl) (zea rfl) (by kernel_rfl) rfl (rc 0 rfl (zaO (r:=zF) [kS [105,110,116,54,52],kI 0] [] (⟨[105,110,116,54,52],0⟩:zz) rfl zja rfl rfl) (rkl 0 [] ⟨[(1,.om kp zF 12 [] zHi),(3,.rc zF [] (⟨[105,110,116,54,52],0⟩:zz))],[]⟩ (zfV (rk:=kp) (rv:=zF) (m:=zHi) (C:=[]) (C1:=[]) (D:=[]) [1] 2 (⟨[105,110,116,54,52],0⟩:zz) [] zgO rfl (.inr rfl) rfl rfl rfl rfl (zei rfl rfl) (zea rfl) (by kernel_rfl) rfl (rc 0 rfl (zaO (r:=zF) [kS [117,105,110,116,51,50],kI 0] [] (⟨[117,105,110,116,51,50],0⟩:zz) rfl zja rfl rfl) (rkl 0 [] ⟨[(1,.om kp zF 12 [] zHj),(4,.rc zF [] (⟨[117,105,110,116,51,50],0⟩:zz))],[]⟩ (zfV (rk:=kp) (rv:=zF) (m:=zHj) (C:=[]) (C1:=[]) (D:=[]) [1] 3 (⟨[117,105,110,116,51,50],0⟩:zz) [] zgO rfl (.inr rfl) rfl rfl rfl rfl (zei rfl rfl) (zea rfl) (by kernel_rfl) rfl (rc 0 rfl (zaO (r:=zF) [kS [117,105,110,116,54,52],kI 0] [] (⟨[117,105,110,116,54,52],0⟩:zz) rfl zja rfl rfl) (rkl 0 [] ⟨[(1,.om kp zF 12 [] zHk),(5,.rc zF [] (⟨[117,105,110,116,54,52],0⟩:zz))],[]⟩ (zfV (rk:=kp) (rv:=zF) (m:=zHk) (C:=[]) (C1:=[]) (D:=[]) [1] 4 (⟨[117,105,110,116,54,52],0⟩:zz) [] zgO rfl (.inr rfl) rfl rfl rfl rfl (zei rfl rfl) (zea rfl) (by kernel_rfl) rfl (rc 0 rfl (zaO (r:=zF) [kS [115,105,110,116,51,50],kI 0] [] (⟨[115,105,110,116,51,50],0⟩:zz) rfl zja rfl rfl) (rkl 0 [] ⟨[(1,.om kp zF 12 [] zHl),(6,.rc zF [] (⟨[115,105,110,116,51,50],0⟩:zz))],[]⟩ (zfV (rk:=kp) (rv:=zF) (m:=zHl) (C:=[]) (C1:=[]) (D:=[]) [1] 5 (⟨[115,105,110,116,51,50],0⟩:zz) [] zgO rfl (.inr rfl) rfl rfl rfl rfl (zei rfl rfl) (zea rfl) (by kernel_rfl) rfl (rc 0 rfl (zaO (r:=zF) [kS [115,105,110,116,54,52],kI 0] [] (⟨[115,105,110,116,54,52],0⟩:zz) rfl zja rfl rfl) (rkl 0 [] ⟨[(1,.om kp zF 12 [] zHm),(7,.rc zF [] (⟨[115,105,110,116,54,52],0⟩:zz))],[]⟩ (zfV (rk:=kp) (rv:=zF) (m:=zHm) (C:=[]) (C1:=[]) (D:=[]) [1] 6 (⟨[115,105,110,116,54,52],0⟩:zz) [] zgO rfl (.inr rfl) rfl rfl rfl rfl (zei rfl rfl) (zea rfl) (by kernel_rfl) rfl (rc 0 rfl (zaO (r:=zF) [kS [98,111,111,108],kI 0] [] (⟨[98,111,111,108],0⟩:zz) rfl zja rfl rfl) (rkl 0 [] ⟨[(1,.om kp zF 12 [] zHn),(8,.rc zF [] (⟨[98,111,111,108],0⟩:zz))],[]⟩ (zfV (rk:=kp) (rv:=zF) (m:=zHn) (C:=[]) (C1:=[]) (D:=[]) [1] 7 (⟨[98,111,111,108],0⟩:zz) [] zgO rfl (.inr rfl) rfl rfl rfl rfl (zei rfl rfl) (zea rfl) (by kernel_rfl) rfl (rc 0 rfl (zaO (r:=zF) [kS [101,110,117,109],kI 0] [] (⟨[101,110,117,109],0⟩:zz) rfl zja rfl rfl) (rkl 0 [] ⟨[(1,.om kp zF 12 [] zHo),(9,.rc zF [] (⟨[101,110,117,109],0⟩:zz))],[]⟩ (zfV (rk:=kp) (rv:=zF) (m:=zHo) (C:=[]) (C1:=[]) (D:=[]) [1] 8 (⟨[101,110,117,109],0⟩:zz) [] zgO rfl (.inr rfl) rfl rfl rfl rfl (zei rfl rfl) (zea rfl) (by kernel_rfl) rfl (rc 0 rfl (zaO (r:=zF) [kS [102,105,120,101,100,51,50],kI 5] [] (⟨[102,105,120,101,100,51,50],5⟩:zz) rfl zja rfl rfl) (rkl 0 [] ⟨[(1,.om kp zF 12 [] zHp),(10,.rc zF [] (⟨[102,105,120,101,100,51,50],5⟩:zz))],[]⟩ (zfV (rk:=kp) (rv:=zF) (m:=zHp) (C:=[]) (C1:=[]) (D:=[]) [1] 9 (⟨[102,105,120,101,100,51,50],5⟩:zz) [] zgO rfl (.inr rfl) rfl rfl rfl rfl (zei rfl rfl) (zea rfl) (by kernel_rfl) rfl (rc 0 rfl (zaO (r:=zF) [kS [115,102,105,120,101,100,51,50],kI 5] [] (⟨[115,102,105,120,101,100,51,50],5⟩:zz) rfl zja rfl rfl) (rkl 0 [] ⟨[(1,.om kp zF 12 [] zHq),(11,.rc zF [] (⟨[115,102,105,120,101,100,51,50],5⟩:zz))],[]⟩ (zfV (rk:=kp) (rv:=zF) (m:=zHq) (C:=[]) (C1:=[]) (D:=[]) [1] 10 (⟨[115,102,105,120,101,100,51,50],5⟩:zz) [] zgO rfl (.inr rfl) rfl rfl rfl rfl (zei rfl rfl) (zea rfl) (by kernel_rfl) rfl (rc 0 rfl (zaO (r:=zF) [kS [102,108,111,97,116],kI 5] [] (⟨[102,108,111,97,116],5⟩:zz) rfl zja rfl rfl) (rkl 0 [] ⟨[(1,.om kp zF 12 [] zDc),(12,.rc zF [] (⟨[102,108,111,97,116],5⟩:zz))],[]⟩ (zfV (rk:=kp) (rv:=zF) (m:=zDc) (C:=[]) (C1:=[]) (D:=[]) [1] 11 (⟨[102,108,111,97,116],5⟩:zz) [] zgO rfl (.inr rfl) rfl rfl rfl rfl (zei rfl rfl) (zea rfl) (by kernel_rfl) rfl (rc 0 rfl (zaO (r:=zF) [kS [102,105,120,101,100,54,52],kI 1] [] (⟨[102,105,120,101,100,54,52],1⟩:zz) rfl zja rfl rfl) (rkl 0 [] ⟨[(1,.om kp zF 12 [] zDd),(13,.rc zF [] (⟨[102,105,120,101,100,54,52],1⟩:zz))],[]⟩ (zfV (rk:=kp) (rv:=zF) (m:=zDd) (C:=[]) (C1:=[]) (D:=[]) [1] 12 (⟨[102,105,120,101,100,54,52],1⟩:zz) [] zgO rfl (.inr rfl) rfl rfl rfl rfl (zei rfl rfl) (zea rfl) (by kernel_rfl) rfl (rc 0 rfl (zaO (r:=zF) [kS [115,102,105,120,101,100,54,52],kI 1] [] (⟨[115,102,105,120,101,100,54,52],1⟩:zz) rfl zja rfl rfl) (rkl 0 [] ⟨[(1,.om kp zF 12 [] zDe),(14,.rc zF [] (⟨[115,102,105,120,101,100,54,52],1⟩:zz))],[]⟩ (zfV (rk:=kp) (rv:=zF) (m:=zDe) (C:=[]) (C1:=[]) (D:=[]) [1] 13 (⟨[115,102,105,120,101,100,54,52],1⟩:zz) [] zgO rfl (.inr rfl) rfl rfl rfl rfl (zei rfl rfl) (zea rfl) (by kernel_rfl) rfl (rc 0 rfl (zaO (r:=zF) [kS [100,111,117,98,108,101],kI 1] [] (⟨[100,111,117,98,108,101],1⟩:zz) rfl zja rfl rfl) (rkl 0 [] ⟨[(1,.om kp zF 12 [] zDf),(15,.rc zF [] (⟨[100,111,117,98,108,101],1⟩:zz))],[]⟩ (zfV (rk:=kp) (rv:=zF) (m:=zDf) (C:=[]) (C1:=[]) (D:=[]) [1] 14 (⟨[100,111,117,98,108,101],1⟩:zz) [] zgO rfl (.inr rfl) rfl rfl rfl rfl (zei rfl rfl) (zea rfl) (by kernel_rfl) rfl (rc 0 rfl (zaO (r:=zF) [kS [115,116,114,105,110,103],kI 2] [] (⟨[115,116,114,105,110,103],2⟩:zz) rfl zja rfl rfl) (rkl 0 [] ⟨[(1,.om kp zF 12 [] zDg),(16,.rc zF [] (⟨[115,116,114,105,110,103],2⟩:zz))],[]⟩ (zfV (rk:=kp) (rv:=zF) (m:=zDg) (C:=[]) (C1:=[]) (D:=[]) [1] 15 (⟨[115,116,114,105,110,103],2⟩:zz) [] zgO rfl (.inr rfl) rfl rfl rfl rfl (zei rfl rfl) (zea rfl) (by kernel_rfl) rfl (rc 0 rfl (zaO (r:=zF) [kS [98,121,116,101,115],kI 2] [] (⟨[98,121,116,101,115],2⟩:zz) rfl zja rfl rfl) (rkl 0 [] ⟨[(1,.om kp zF 12 [] zzQ),(17,.rc zF [] (⟨[98,121,116,101,115],2⟩:zz))],[]⟩ (zfV (rk:=kp) (rv:=zF) (m:=zzQ) (C:=[]) (C1:=[]) (D:=[]) [1] 16 (⟨[98,121,116,101,115],2⟩:zz) [] zgO rfl (.inr rfl) rfl rfl rfl rfl (zei rfl rfl) (zea rfl) (by kernel_rfl) rfl (rc 0 rfl (zaO (r:=zF) [kS [109,101,115,115,97,103,101],kI 2] [] (⟨[109,101,115,115,97,103,101],2⟩:zz) rfl zja rfl rfl) (rkl 0 [] ⟨[(1,.om kp zF 12 [] (mput zzQ 16 (⟨[98,121,116,101,115],2⟩:zz))),(18,.rc zF [] (⟨[109,101,115,115,97,103,101],2⟩:zz))],[]⟩ (zfV (rk:=kp) (rv:=zF) (m:=(mput zzQ 16 (⟨[98,121,116,101,115],2⟩:zz))) (C:=[]) (C1:=[]) (D:=[]) [1] 17 (⟨[109,101,115,115,97,103,101],2⟩:zz) [] zgO rfl (.inr rfl) rfl rfl rfl rfl (zei rfl rfl) (zea rfl) (by kernel_rfl) rfl rf)))))))))))))))))))))))))))))))))))))))))))))))))))) ?_);cases h;exact zw (lk [0] [] 12 2 lzz)
theorem znM (h:zhN c=some r):FnOk Tryz.prog 195 [k8 c] [kB r]:=by
 refine zy (E:=⟨[(2,kB r)],[]⟩) 9 Tryz.func195 rfl rfl rfl ⟨rfl,trivial⟩ (fun Xt=>?_);refine zm ?_;unfold zhN at h;refine jp (zab ⟨[(2,kB ((decide (c>=48))&&(decide (c<=57))))],[]⟩ ?_ ?_)
 ·refine (rsl 3 [] 5 (decide (c>=48)) (fun uW=>?_) (fun uW=>?_))
  · exact (rbl [] 2 (decide (c<=57)) rfl (by rw [uW]<;>rfl))
  exact (rbl [] 2 false rfl (by rw [uW]<;>rfl))
 cases h;exact zw lzz
theorem ztd (h:ziw c=some r):FnOk Tryz.prog 196 [k8 c] [kB r]:=by
 refine zy (E:=⟨[(2,kB r)],[]⟩) 21 Tryz.func196 rfl rfl rfl ⟨rfl,trivial⟩ (fun Xt=>?_);refine zm ?_;unfold ziw at h;refine jp (zab ⟨[(2,kB (if (decide (c>=97)) then ((decide (c<=122))|| (if (decide (c>=65)) then ((decide (c<=90))|| (c==95)) else (c==95))) else (if (decide (c>=65)) then ((decide (c<=90))|| (c==95)) else (c==95))))],[]⟩ ?_ ?_)
 ·refine (rsl 3 [] 5 (decide (c>=97)) (fun uW=>?_) (fun uW=>?_))
  ·refine (rsl 4 [] 9 (decide (c<=122)) (fun uY=>?_) (fun uY=>?_))
   · exact (rbl [] 2 true rfl (by rw [uW,uY]<;>rfl))
   refine (rsl 3 [] 12 (decide (c>=65)) (fun u9=>?_) (fun u9=>?_))
   ·refine (rsl 5 [] 17 (decide (c<=90)) (fun vd=>?_) (fun vd=>?_))
    · exact (rbl [] 2 true rfl (by rw [uW,uY,u9,vd]<;>rfl))
    exact (rbl [] 2 (c==95) rfl (by rw [uW,uY,u9,vd]<;>rfl))
   exact (rbl [] 2 (c==95) rfl (by rw [uW,uY,u9]<;>rfl))
  refine (rsl 7 [] 12 (decide (c>=65)) (fun vh=>?_) (fun vh=>?_))
  ·refine (rsl 5 [] 17 (decide (c<=90)) (fun vi=>?_) (fun vi=>?_))
   · exact (rbl [] 2 true rfl (by rw [uW,vh,vi]<;>rfl))
   exact (rbl [] 2 (c==95) rfl (by rw [uW,vh,vi]<;>rfl))
  exact (rbl [] 2 (c==95) rfl (by rw [uW,vh]<;>rfl))
 cases h;exact zw lzz
theorem zte (h:zix n=some r):FnOk Tryz.prog 173 [kI n] [kB r]:=by
 refine zy (E:=⟨[(2,kB r)],[]⟩) 17 Tryz.func173 rfl rfl rfl ⟨rfl,trivial⟩ (fun Xt=>?_);refine zm ?_;unfold zix at h;refine jp (zab ⟨[(2,kB ((decide (n>=1))&&((decide (n<=536870911))&&((decide (n<19000))|| (decide (n>19999))))))],[]⟩ ?_ ?_)
 ·refine (rsl 3 [] 5 (decide (n>=1)) (fun uW=>?_) (fun uW=>?_))
  ·refine (rsl 4 [] 9 (decide (n<=536870911)) (fun uY=>?_) (fun uY=>?_))
   ·refine (rsl 3 [] 12 (decide (n<19000)) (fun u9=>?_) (fun u9=>?_))
    · exact (rbl [] 2 true rfl (by rw [uW,uY,u9]<;>rfl))
    exact (rbl [] 2 (decide (n>19999)) rfl (by rw [uW,uY,u9]<;>rfl))
   exact (rbl [] 2 false rfl (by rw [uW,uY]<;>rfl))
  exact (rbl [] 2 false rfl (by rw [uW]<;>rfl))
 cases h;exact zw lzz
theorem zmZ (h:zeF sv v=some r):FnOk Tryz.prog 197 [.sl kp [0] sv,kI v] [kI r]:=by
 refine zy (E:=⟨[(4,kI r)],[]⟩) 19 Tryz.func197 rfl rfl rfl ⟨rfl,trivial⟩ (fun Xt=>?_);refine zm ?_;unfold zeF at h;refine jp (jp (zv (jb h fun q vc h=>zac (fun s:Int=>zax sv v s) (fun s=>⟨[(0,.sl kp [0] sv),(1,kI v),(7,kI (sv.length:Int)),(8,kI s)],[]⟩) (fun o e a w=>match o with| (.inl v_)=>e= .exit 0/\Sx ⟨⟨19,[]⟩,Xt,false,#[]⟩ ⟨[],[]⟩ a w| (.inr v_)=>e= .ret/\Sx ⟨⟨19,[]⟩,Xt,false,#[]⟩ ⟨[(4,kI v_)],[]⟩ a w) ?_ vc lzz ?_)))
 ·clear h;intro v2 o h;refine zm ?_;replace h:zax sv v v2=some o:=h;unfold zax at h;refine jp (jI h (fun uW h=>?_) fun uW h=>?_)
  ·refine zv (jp (jb h fun x vg h=>jr (ra 3 [.sl kp [0] sv,kI v2] rfl (zai rfl zlP.el (zC _ _ _) vg) rfl rf) (jI h (fun uY h=>?_) fun uY h=>?_)))
   ·refine jp ?_;cases h;exact zbf lzz
   refine zX (jp ?_);cases h;exact zH lzz
  cases h;exact zad rfl lzz
 rcases q with u| u2
 ·refine zas _ rfl (jp ?_);cases h;exact zw lzz
 obtain rfl:=(sj h);exact zdj lzz
theorem zqq (h:zgK c f=some r):FnOk Tryz.prog 176 [.ag [kI c.size,.sl kp [0] c.kinds,.mp zu Rp.bool [0] c.names,.mp zt Rp.bool [0] c.numbers],.rc zg [0] f] [kB r]:=by
 refine zy (E:=⟨[(4,kB r)],[]⟩) 21 Tryz.func176 rfl rfl rfl ⟨rfl,trivial⟩ (fun Xt=>?_);refine zm ?_;unfold zgK at h;refine jq [11,12] (jp (jI h (fun uW h=>?_) fun uW h=>?_))
 ·refine zab ⟨[(4,kB ((decide (f.Of>=0))&&(decide (f.Of<c.size))))],[]⟩ ?_ ?_
  ·refine (rsl 4 [] 11 (decide (f.Of>=0)) (fun uY=>?_) (fun uY=>?_))
   · exact (rbl [] 4 (decide (f.Of<c.size)) rfl (by rw [uY]<;>rfl))
   exact (rbl [] 4 false rfl (by rw [uY]<;>rfl))
  cases h;exact zw lzz
 refine jp ?_;cases h;exact zw lzz
theorem zxR (wL:∀{x:zc} {most:Int} {r:Int},xa x most=some r->FnOk Tryz.prog 128 [.rc zd [0] x,kI most] [kI r]) (h:zkI xa x most=some r):FnOk Tryz.prog 128 [.rc zd [0] x,kI most] [kI r]:=by
 refine zy (E:=⟨[(4,kI r)],[]⟩) 40 Tryz.func128 rfl rfl rfl ⟨rfl,trivial⟩ (fun Xt=>?_);refine zm ?_;unfold zkI at h;refine jr (ra 0 [.rc zd [0] x] rfl (zbc 11 (zh [0] x) [0] rfl rfl rfl (by rw [zk]<;>rfl) rfl) rfl rf) (jp (jp (zv (jb h fun q2 vu h=>zac (fun s:(Int×Int)=>zeK most xa x s.1 s.2) (fun s=>⟨[(1,kI most),(5,kI s.1),(11,.sl zb [0] x.Values),(12,kI (x.Values.length:Int)),(13,kI s.2)],[]⟩) (fun o e a w=>match o with| (.inl v_)=>e= .exit 0/\Sx ⟨⟨40,[]⟩,Xt,false,#[]⟩ ⟨[(5,kI v_)],[]⟩ a w| (.inr v_)=>e= .ret/\Sx ⟨⟨40,[]⟩,Xt,false,#[]⟩ ⟨[(4,kI v_)],[]⟩ a w) ?_ vu lzz ?_))))
 ·clear h;intro s o h;obtain ⟨deep,v⟩:=s;refine zm ?_;replace h:zeK most xa x deep v=some o:=h;unfold zeK at h;refine jp (jI h (fun uW h=>?_) fun uW h=>?_)
  ·refine zv (jb h fun x2 vk h=>jr (ra 0 [.sl zb [0] x.Values,kI v] rfl (zai rfl zjz.el (zC _ _ _) vk) rfl (ra 0 [.ep zb [0] x2 0] rfl (zcr rfl ⟨Tryz.isAgg57,Tryz.sizeOf57⟩) rfl (ral 1 [13] [.ptr 13 0,.rc zb [0] x2] rfl (zgU (r:=zb) (b:=⟨13,57,[kI 0,kN,kN,kN]⟩) (off:=0) (zi [0] x2) rfl Tryz.sizeOf57 rfl rfl (by rw [zn]<;>rfl) rfl) rfl rf))) (jp (zv (jb h fun q vc h=>zac (fun s:(Int×Int)=>zeL most xa x2 s.1 s.2) (fun s=>⟨[(1,kI most),(5,kI s.1),(11,.sl zb [0] x.Values),(12,kI (x.Values.length:Int)),(13,kI v),(18,.sl zd [0] x2.Subs),(19,kI (x2.Subs.length:Int)),(20,kI s.2)],[]⟩) (fun o e a w=>match o with| (.inl v_)=>e= .exit 2/\Sx ⟨⟨40,[]⟩,Xt,false,#[]⟩ ⟨[(1,kI most),(5,kI v_),(11,.sl zb [0] x.Values),(12,kI (x.Values.length:Int)),(13,kI v)],[]⟩ a w| (.inr v_)=>e= .ret/\Sx ⟨⟨40,[]⟩,Xt,false,#[]⟩ ⟨[(4,kI v_)],[]⟩ a w) ?_ vc lzz ?_))))
   ·clear h;intro s o h;obtain ⟨deep3,v3⟩:=s;refine zm ?_;replace h:zeL most xa x2 deep3 v3=some o:=h;unfold zeL at h;refine jp (jI h (fun uY h=>?_) fun uY h=>?_)
    ·refine zv (jb h fun x3 vo h=>jr (ra 0 [.sl zd [0] x2.Subs,kI v3] rfl (zai rfl zjg.el (zC _ _ _) vo) rfl (ra 0 [.ep zd [0] x3 0] rfl (zcr rfl ⟨Tryz.isAgg27,Tryz.sizeOf27⟩) rfl (ral 1 [15] [.ptr 15 0,.rc zd [0] x3] rfl (zgU (r:=zd) (b:=⟨15,27,[kN,kN]⟩) (off:=0) (zh [0] x3) rfl Tryz.sizeOf27 rfl rfl (by rw [zk]<;>rfl) rfl) rfl rf))) (jp (jI h (fun u9 h=>?_) fun u9 h=>?_)))
     ·refine jp ?_;cases h;exact zbf lzz
     refine jb h fun rv uZ h=>jr (rc 4 rfl (zA.le (ins':=[(.tmp 27,.ag (zh [0] x3)),(.tmp 29,kI (IntKind.i64.wrap (most - 1)))]) (zQ (args:=[.tmp 27,.tmp 29]) [.rc zd [0] x3,kI (IntKind.i64.wrap (most - 1))] [0] 14 rfl Tryz.call128 (wL uZ) rfl rfl rfl rfl rfl) ⟨⟨rfl,zM [0] x3⟩,⟨rfl,ky _⟩,trivial⟩) rf) (jp (jI h (fun vd h=>?_) fun vd h=>?_))
     ·refine jp ?_;cases h;exact zbf lzz
     refine zX (jp ?_);cases h;exact zH lzz
    cases h;exact zad rfl lzz
   rcases q with u| u2
   ·refine zas _ rfl (zX (jp ?_));cases h;exact zH lzz
   cases h;exact zzO lzz
  cases h;exact zad rfl lzz
 rcases q2 with u3| u4
 ·refine zas _ rfl (jp ?_);obtain rfl:=(sj h);exact zw lzz
 obtain rfl:=(sj h);exact zdj lzz
theorem zyl (h:zhx vf x most=some r):FnOk Tryz.prog 128 [.rc zd [0] x,kI most] [kI r]:=by
  induction vf generalizing x most r with
  | zero=>exact absurd h nofun
  | succ vf ih=>exact zxR (fun hh=>ih hh) h
theorem zru (h:zhk f v=some r):FnOk Tryz.prog 130 [.rc zg [0] f,.ep kp [0] v 0] [kB r]:=by
 refine zy (E:=⟨[(3,kB r)],[]⟩) 8 Tryz.func130 rfl rfl rfl ⟨rfl,trivial⟩ (fun Xt=>?_);refine zm ?_;unfold zhk at h;refine jq [11] (jp ?_);cases h;exact zw lzz
theorem zrz (h:zhm v=some r):FnOk Tryz.prog 123 [.rc zb [0] v] [kI r]:=by
 refine zy (E:=⟨[(2,kI r)],[]⟩) 14 Tryz.func123 rfl rfl rfl ⟨rfl,trivial⟩ (fun Xt=>?_);refine zm ?_;unfold zhm at h;refine jr (ra 0 [.rc zb [0] v] rfl (zbc 11 (zi [0] v) [0] rfl rfl rfl (by rw [zn]<;>rfl) rfl) rfl rf) (jp ?_);cases h;exact zw lzz
theorem zCl (h:zuk c=some r):FnOk Tryz.prog 232 [k8 c] [kI r.1,.lf (.int .u32 r.2)]:=by
 refine zy (E:=⟨[(2,kI r.1),(3,.lf (.int .u32 r.2))],[]⟩) 31 Tryz.func232 rfl rfl rfl ⟨rfl,rfl,trivial⟩ (fun Xt=>?_);refine zm ?_;unfold zuk at h;refine jp (zv (jr (ra 1 [k8 c,kU 7] rfl (zoo rfl rfl) rfl rf) (jI h (fun uW h=>?_) fun uW h=>?_)))
 ·refine jp ?_;cases h;exact zw lzz
 refine jr (ra 1 [k8 c,kU 5] rfl (zoo rfl rfl) rfl rf) (jI h (fun uY h=>?_) fun uY h=>?_)
 ·refine jp ?_;cases h;exact zw lzz
 refine jr (ra 1 [k8 c,kU 4] rfl (zoo rfl rfl) rfl rf) (jI h (fun u9 h=>?_) fun u9 h=>?_)
 ·refine jp ?_;cases h;exact zw lzz
 refine jr (ra 1 [k8 c,kU 3] rfl (zoo rfl rfl) rfl rf) (jI h (fun vd h=>?_) fun vd h=>?_)
 ·refine jp ?_;cases h;exact zw lzz
 refine zX (jp ?_);cases h;exact zw lzz
theorem zCk (h:zph wv=some r):FnOk Tryz.prog 233 [.lf (.int .u32 wv)] [kI r]:=by
 refine zy (E:=⟨[(2,kI r)],[]⟩) 22 Tryz.func233 rfl rfl rfl ⟨rfl,trivial⟩ (fun Xt=>?_);refine zm ?_;unfold zph at h;refine jp (zv (jr (ra 1 [.lf (.int .u32 wv),kU 7] rfl (zoo rfl rfl) rfl rf) (jI h (fun uW h=>?_) fun uW h=>?_)))
 ·refine jp ?_;cases h;exact zw lzz
 refine jr (ra 1 [.lf (.int .u32 wv),kU 11] rfl (zoo rfl rfl) rfl rf) (jI h (fun uY h=>?_) fun uY h=>?_)
 ·refine jp ?_;cases h;exact zw lzz
 refine jr (ra 1 [.lf (.int .u32 wv),kU 11] rfl (zoo rfl rfl) rfl rf) (jI h (fun u9 h=>?_) fun u9 h=>?_)
 ·refine jp ?_;cases h;exact zw lzz
 refine jr (ra 1 [.lf (.int .u32 wv),kU 16] rfl (zoo rfl rfl) rfl rf) (jI h (fun vd h=>?_) fun vd h=>?_)
 ·refine jp ?_;cases h;exact zw lzz
 refine jp (jI h (fun vh h=>?_) fun vh h=>?_)
 ·refine jp ?_;cases h;exact zw lzz
 refine zX (jp ?_);cases h;exact zw lzz
theorem zsu (h:zkU wv=some r):FnOk Tryz.prog 184 [kU wv] [.lf (.int .u32 r)]:=by
 refine zy (E:=⟨[(2,.lf (.int .u32 r))],[]⟩) 5 Tryz.func184 rfl rfl rfl ⟨rfl,trivial⟩ (fun Xt=>?_);refine zm ?_;unfold zkU at h;refine jp (jp ?_);cases h;exact zw lzz
theorem zwp (h:zlq n=some r):FnOk Tryz.prog 182 [.lf (.int .i32 n)] [kU r]:=by
 refine zy (E:=⟨[(2,kU r)],[]⟩) 6 Tryz.func182 rfl rfl rfl ⟨rfl,trivial⟩ (fun Xt=>?_);refine zm ?_;unfold zlq at h;refine jp (jp ?_);cases h;exact zw lzz
theorem zyd (h:zpz wv=some r):FnOk Tryz.prog 185 [kU wv] [kU r]:=by
 refine zy (E:=⟨[(2,kU r)],[]⟩) 5 Tryz.func185 rfl rfl rfl ⟨rfl,trivial⟩ (fun Xt=>?_);refine zm ?_;unfold zpz at h;refine jp (jp ?_);cases h;exact zw lzz
theorem znd (h:zig b=some r):FnOk Tryz.prog 186 [.sl Rp.byte [0] b] [kU r.1,kI r.2.1,k8 r.2.2]:=by
 refine zy (E:=⟨[(2,kU r.1),(3,kI r.2.1),(4,k8 r.2.2)],[]⟩) 38 Tryz.func186 rfl rfl rfl ⟨rfl,rfl,rfl,trivial⟩ (fun Xt=>?_);refine zm ?_;unfold zig at h;refine jp (jb h fun v vr h=>jr (ra 4 [.sl Rp.byte [0] b,kI (if (10:Int)<(b.length:Int) then 10 else (b.length:Int))] rfl (zqV none (some (kI (if (10:Int)<(b.length:Int) then 10 else (b.length:Int)))) rfl ziJ.el (zC _ _ _) ⟨rfl,rfl⟩ ⟨rfl,rfl⟩ vr) rfl rf) (zv (jb h fun q vc h=>zac (fun s:(Int×Int)=>zdu v s.1 s.2) (fun s=>⟨[(2,kU s.1),(11,.sl Rp.byte [0] v),(12,kI (v.length:Int)),(13,kI s.2)],[]⟩) (fun o e a w=>match o with| (.inl v_)=>e= .exit 0/\Sx ⟨⟨38,[]⟩,Xt,false,#[]⟩ ⟨[],[]⟩ a w| (.inr v_)=>e= .ret/\Sx ⟨⟨38,[]⟩,Xt,false,#[]⟩ ⟨[(2,kU v_.1),(3,kI v_.2.1),(4,k8 v_.2.2)],[]⟩ a w) ?_ vc lzz ?_)))
 ·clear h;intro s o h;obtain ⟨wv,v2⟩:=s;refine zm ?_;replace h:zdu v wv v2=some o:=h;unfold zdu at h;refine jp (jI h (fun uW h=>?_) fun uW h=>?_)
  ·refine zv (jb h fun x vg h=>jr (ra 1 [.sl Rp.byte [0] v,kI v2] rfl (zai rfl ziJ.el (zC _ _ _) vg) rfl rf) (zab ⟨[(2,kU wv),(5,kI v2),(6,k8 (x.toNat:Int)),(11,.sl Rp.byte [0] v),(12,kI (v.length:Int)),(13,kI v2),(23,kB ((v2==9)&&(decide ((x.toNat:Int)>1))))],[]⟩ ?_ ?_))
   ·refine (rsl 3 [] 20 (v2==9) (fun uY=>?_) (fun uY=>?_))
    · exact (rbl [] 23 (decide ((x.toNat:Int)>1)) rfl (by rw [uY]<;>rfl))
    exact (rbl [] 23 false rfl (by rw [uY]<;>rfl))
   refine jI h (fun u9 h=>?_) fun u9 h=>?_
   ·refine jp ?_;cases h;exact zbf lzz
   refine jb h fun v4 vO h=>jr (ra 6 [kU (IntKind.u64.wrap (andI .u8 (x.toNat:Int) 127)),kI (IntKind.i64.wrap (7*v2))] rfl (zHy rfl vO) rfl rf) (jp (jI h (fun vd h=>?_) fun vd h=>?_))
   ·refine jp ?_;cases h;exact zbf lzz
   refine zX (jp ?_);cases h;exact zH lzz
  cases h;exact zad rfl lzz
 rcases q with u| u2
 ·refine zas _ rfl (jp ?_);cases h;exact zw lzz
 cases h;exact zdj lzz
theorem zuW (h:zjU wire=some r):FnOk Tryz.prog 215 [kI wire] [kB r]:=by
 refine zy (E:=⟨[(2,kB r)],[]⟩) 9 Tryz.func215 rfl rfl rfl ⟨rfl,trivial⟩ (fun Xt=>?_);refine zm ?_;unfold zjU at h;refine jp (jp (zv (jp (jI h (fun uW h=>?_) fun uW h=>?_))))
 ·refine jI h (fun uY h=>?_) fun uY h=>?_
  ·refine jp ?_;obtain rfl:=(sj h);exact zw lzz
  refine zX (jp ?_);obtain rfl:=(sj h);exact zw lzz
 refine jp (jI h (fun u9 h=>?_) fun u9 h=>?_)
 ·refine jI h (fun vd h=>?_) fun vd h=>?_
  ·refine jp ?_;obtain rfl:=(sj h);exact zw lzz
  refine zX (jp ?_);obtain rfl:=(sj h);exact zw lzz
 refine jp (jI h (fun vh h=>?_) fun vh h=>?_)
 ·refine jI h (fun vi h=>?_) fun vi h=>?_
  ·refine jp ?_;obtain rfl:=(sj h);exact zw lzz
  refine zX (jp ?_);obtain rfl:=(sj h);exact zw lzz
 refine jp (jI h (fun vm h=>?_) fun vm h=>?_)
 ·refine jp ?_;obtain rfl:=(sj h);exact zw lzz
 refine zX (jp ?_);obtain rfl:=(sj h);exact zw lzz
end Go.Proofs.YtekgmimingolbaaGreat

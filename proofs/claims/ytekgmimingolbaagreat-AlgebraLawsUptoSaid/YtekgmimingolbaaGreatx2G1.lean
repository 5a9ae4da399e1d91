/-
  The Go functions do what the plain functions say. No condition.
-/
import Derived.Test.YtekgmimingolbaaGreatx2T
import Derived.Test.YtekgmimingolbaaGreatx2Y
set_option autoImplicit true
set_option relaxedAutoImplicit true
namespace Go.Proofs.YtekgmimingolbaaGreat
open Go Go.RowKit
set_option linter.unusedVariables false
set_option maxRecDepth 100000
set_option maxHeartbeats 3200000
theorem zle (h:zhi x=some r):FnOk Tryz.prog 138 [kI x] [kB r]:=by
 refine zz (E:=⟨[(2,kB r)],[]⟩) 6 Tryz.func138 rfl rfl rfl ⟨rfl,trivial⟩ (fun Xt=>?_);refine zq ?_;unfold zhi at h;refine jp (jp ?_);cases h;exact zA lzz
theorem zkV (h:zdu s1 s2=some r):FnOk Tryz.prog 134 [.sl wu [0] s1,.sl wu [0] s2] [kB r]:=by
 refine zz (E:=⟨[(4,kB r)],[]⟩) 26 Tryz.func134 rfl rfl rfl ⟨rfl,trivial⟩ (fun Xt=>?_);refine zq ?_;unfold zdu at h;refine jp (jp (jI h (fun uA h=>?_) fun uA h=>?_))
 ·refine jp ?_;obtain rfl:=(sj h);exact zA lzz
 refine jp (zB (jb h fun q uF h=>zaH (fun s:Int=>zat s1 s2 s) (fun s=>⟨[(0,.sl wu [0] s1),(1,.sl wu [0] s2),(12,kI (s1.length:Int)),(13,kI s)],[]⟩) (fun o e a w=>match o with| (.inl v_)=>e= .exit 0/\Sx ⟨⟨26,[]⟩,Xt,false,#[]⟩ ⟨[],[]⟩ a w| (.inr v_)=>e= .ret/\Sx ⟨⟨26,[]⟩,Xt,false,#[]⟩ ⟨[(4,kB false)],[]⟩ a w) ?_ uF lzz ?_))
 ·clear h;intro v o h;refine zq ?_;replace h:zat s1 s2 v=some o:=h;unfold zat at h;refine jp (jI h (fun uB h=>?_) fun uB h=>?_)
  ·refine zB (jp (jb h fun x uI h=>jb h fun x2 uL h=>jd [0,1,12,13,24] [] zes (by exact (lw_e (lw_e (ly [.sl wu [0] s1,kI v] (zbt rfl zlb.el (zV _ _ _) uI) rfl (lw_e (lw_e (lw_e (ly [.sl wu [0] s2,kI v] (zbt rfl zlb.el (zV _ _ _) uL) rfl l0)))))))) (jI h (fun uE h=>?_) fun uE h=>?_)))
   ·refine jp ?_;cases h;exact zcA lzz
   refine zas (jp ?_);cases h;exact zal lzz
  cases h;exact zaF rfl lzz
 rcases q with u| u2
 ·refine zbj _ rfl (jp ?_);obtain rfl:=(sj h);exact zA lzz
 obtain rfl:=(sj h);exact zfb lzz
theorem zkU (h:zdt sv=some r):FnOk Tryz.prog 102 [.sl wu [0] sv] [.own wu 3 2 [] r]:=by
 refine zz (E:=⟨[(2,.own wu 3 2 [] r)],[]⟩) 8 Tryz.func102 rfl rfl rfl ⟨rfl,trivial⟩ (fun Xt=>?_);refine zq ?_;unfold zdt at h;refine jp ?_;have hn1:=zmg h;refine znM 1 4 true ⟨[(0,.sl wu [0] sv),(3,.sl wu [0] sv)],[]⟩ ⟨[(0,.sl wu [0] sv),(4,kB true)],[]⟩ ⟨[(0,.sl wu [0] sv),(4,kB false)],[]⟩ (by kernel_rfl) rfl rfl rfl (by kernel_rfl) rfl Tryz.underlying53 rfl (zV _ _ _) (by kernel_rfl) (by kernel_rfl) (fun hx_=>?_) ?_
 ·replace h:=hn1.1 hx_;refine jT rfl (jp ?_);cases h;exact zA (lq ⟨[(2,kN)],[]⟩ (zcW 2 (.own wu 3 2 [] ([]:(List Int))) rfl (zch wu 3 2 [] rfl) lzz))
 replace h:=hn1.2;refine jF rfl (jb h fun v uR h=>jr (rc 0 rfl (zeo [] 12 [] ([]:(List Int)) rfl zlb rfl rfl rfl rfl) (ra 1 [.own wu 3 12 [] ([]:(List Int)),.sl wu [0] sv] rfl (zji 12 [] rfl zlb.el rfl (zfi _ _ _ _ _) (zV _ _ _) uR (.inl (zrw _)) rfl) rfl rf)) ?_);obtain rfl:=(sj h);exact zA (lk [2] [] 12 2 lzz)
theorem zim (v:(List (List Int))):ItOk Tryz.prog 105 [.ep wy [0] v 0] (fun x:(List Int)=>[.sl wu [0] x]) (fun {σ:Type} (kf:Rnd σ (List Int)) (sg:σ)=>zaX v kf sg):=by
 refine zDr 16 [(1,.ep wy [0] v 0)] [] Tryz.func105 rfl rfl rfl rfl (.ep wy [0] v (.nil _)) ?_;intro σ kf sg s1 h l I hI F_ hT;replace h:zaX v kf sg=some s1:=h;refine zq (zxU (E':=⟨[(0,.lf (.val (.func (.yield l) #[] #[]))),(1,.ep wy [0] v 0)],[]⟩) (fun _ _ _ hs=>hs) ?_);unfold zaX at h;refine jr (ra 0 [.ep wy [0] v 0] rfl (zgf wx v rfl rfl rfl) rfl rf) (zB (jb h fun q uF h=>zDt (fun s:(Int×σ)=>zag kf v s.1 s.2) (fun s=>⟨⟨16,[]⟩,itX I hI F_ s.2,false,#[]⟩) (fun s=>⟨[(0,.lf (.val (.func (.yield l) #[] #[]))),(5,.sl wx [0] v),(6,kI (v.length:Int)),(7,kI s.1)],[]⟩) (fun o e a w=>match o with| (.inl v_)=>e= .exit 0/\Sx ⟨⟨16,[]⟩,itX I hI F_ v_,false,#[]⟩ ⟨[],[]⟩ a w| (.inr v_)=>e= .ret/\Sx ⟨⟨16,[]⟩,itX I hI F_ v_,false,#[]⟩ ⟨[],[]⟩ a w) ?_ uF rfl lzz ?_))
 ·clear h;intro s o h;obtain ⟨v2,sg2⟩:=s;refine zq ?_;replace h:zag kf v v2 sg2=some o:=h;unfold zag at h;refine jp (jI h (fun uA h=>?_) fun uA h=>?_)
  ·refine zB (jb h fun x uI h=>jr (ra 0 [.sl wx [0] v,kI v2] rfl (zbt rfl zkj.el (zV _ _ _) uI) rfl (ra 0 [.ep wx [0] x 0] rfl (zgf wu x rfl rfl rfl) rfl rf)) (jb h fun y vK h=>zDy (E':=⟨[(0,.lf (.val (.func (.yield l) #[] #[]))),(5,.sl wx [0] v),(6,kI (v.length:Int)),(7,kI v2),(14,kB (!y.1))],[]⟩) (x:=x) (b:=y.1) (s':=y.2) 2 (some 13) [.tmp 12] [.sl wu [0] x] [.sl wu [0] x] ⟨[(0,.lf (.val (.func (.yield l) #[] #[]))),(5,.sl wx [0] v),(6,kI (v.length:Int)),(7,kI v2),(11,.lf (.val (.func (.yield l) #[] #[]))),(12,.sl wu [0] x)],[]⟩ hT rfl rfl rfl rfl rfl rgg rfl ⟨rfl,trivial⟩ rfl ⟨wC _,trivial⟩ rfl rfl vK rgg (jI h (fun uB h=>?_) fun uB h=>?_)))
   ·cases h;exact zcA lzz
   refine zas (jp ?_);cases h;exact zal lzz
  cases h;exact zaF rfl lzz
 rcases q with u| u2
 ·refine zbj _ rfl ?_;cases h;exact zGw lzz
 cases h;exact zGy lzz
theorem zpJ (h:zfB t way=some r):FnOk Tryz.prog 72 [.mp zaS wu [0] t,.sl wu [0] way] [kB r]:=by
 refine zz (E:=⟨[(4,kB r)],[]⟩) 30 Tryz.func72 rfl rfl rfl ⟨rfl,trivial⟩ (fun Xt=>?_);refine zq ?_;unfold zfB at h;refine jp (jp (jp (zB (jb h fun q uF h=>zaH (fun s:(Int×Int)=>zaW t way s.1 s.2) (fun s=>⟨[(0,.mp zaS wu [0] t),(5,kI s.1),(10,.sl wu [0] way),(11,kI (way.length:Int)),(12,kI s.2)],[]⟩) (fun o e a w=>match o with| (.inl v_)=>e= .exit 0/\Sx ⟨⟨30,[]⟩,Xt,false,#[]⟩ ⟨[],[]⟩ a w| (.inr v_)=>e= .ret/\Sx ⟨⟨30,[]⟩,Xt,false,#[]⟩ ⟨[(4,kB v_)],[]⟩ a w) ?_ uF lzz ?_))))
 ·clear h;intro s o h;obtain ⟨place,v⟩:=s;refine zq ?_;replace h:zaW t way place v=some o:=h;unfold zaW at h;refine jp (jI h (fun uA h=>?_) fun uA h=>?_)
  ·refine zB (jb h fun x uI h=>jr (ra 0 [.sl wu [0] way,kI v] rfl (zbt rfl zlb.el (zV _ _ _) uI) rfl rf) (jr (ra 3 [kI place,kI x] rfl (zvv (r:=zaS) [kI place,kI x] [] (⟨place,x⟩:zao) rfl zCH rfl rfl) rfl (ra 0 [.mp zaS wu [0] t,.rc zaS [] (⟨place,x⟩:zao)] rfl (zDR (rk:=zaS) (rv:=wu) (m:=t) (k:=(⟨place,x⟩:zao)) (kI ((mget t (⟨place,x⟩:zao)).getD 0)) rfl zoK (zqp _ _ _ _) (zdd rfl) (zmI rfl rfl rfl)) rfl rf)) (jp (jI h (fun uB h=>?_) fun uB h=>?_))))
   ·refine jp ?_;cases h;exact zcA lzz
   refine jp (jI h (fun uE h=>?_) fun uE h=>?_)
   ·refine jp ?_;cases h;exact zcA lzz
   refine jp (zas (jp ?_));cases h;exact zal lzz
  cases h;exact zaF rfl lzz
 rcases q with u| u2
 ·refine zbj _ rfl (jp ?_);obtain rfl:=(sj h);exact zA lzz
 obtain rfl:=(sj h);exact zfb lzz
theorem zsk (h:ziI t way=some r):zny Tryz.prog 73 [.om zaS wu 2 [0] t,.sl wu [0] way] [] [.om zaS wu 2 [0] r,.any]:=by
 refine zri (E:=⟨[(0,.om zaS wu 2 [0] r)],[]⟩) 38 [0] Tryz.func73 rfl rfl rfl trivial ⟨.inr ⟨rfl,rfl⟩,.inl rfl,trivial⟩ rfl (fun Xt old=>?_);refine zq ?_;unfold ziI at h;refine jp (jq [11] (jp (zB (jb h fun q uF h=>zaH (fun s:((List (zao×Int))×Int×Int×Int×Int)=>zbR way s.1 s.2.1 s.2.2.1 s.2.2.2.1 s.2.2.2.2) (fun s=>⟨[(0,.om zaS wu 2 [0] s.1),(4,kI s.2.1),(5,.ptr 11 0),(10,.sl wu [0] way),(11,kI (way.length:Int)),(12,kI s.2.2.1)],[⟨11,156,[kI s.2.2.2.1,kI s.2.2.2.2]⟩]⟩) (fun o e a w=>e= .exit 0/\Sx ⟨⟨38,[0]⟩,Xt,false,old⟩ ⟨[(0,.om zaS wu 2 [0] o.1),(5,.ptr 11 0)],[⟨11,156,[kI o.2.1,kI o.2.2]⟩]⟩ a w) ?_ uF lzz ?_))))
 ·clear h;intro s o h;obtain ⟨t2,place,v,f,f2⟩:=s;refine zq ?_;replace h:zbR way t2 place v f f2=some o:=h;unfold zbR at h;refine jp (jI h (fun uA h=>?_) fun uA h=>?_)
  ·refine zB (jb h fun x uI h=>jr (ra 0 [.sl wu [0] way,kI v] rfl (zbt rfl zlb.el (zV _ _ _) uI) rfl rf) (jr (ra 2 [kI place,kI x] rfl (zvv (r:=zaS) [kI place,kI x] [] (⟨place,x⟩:zao) rfl zCH rfl rfl) rfl rf) (jr (lb 1 zaS [] (⟨place,x⟩:zao) (ra 0 [.om zaS wu 2 [0] t2,.rc zaS [] (⟨place,x⟩:zao)] rfl (zrp (rk:=zaS) (rv:=wu) (m:=t2) (k:=(⟨place,x⟩:zao)) (kI ((mget t2 (⟨place,x⟩:zao)).getD 0)) rfl zoK (zdd rfl) (zmI rfl rfl rfl)) rfl rf)) (jp (jI h (fun uB h=>?_) fun uB h=>?_)))))
   ·refine jr (lb 1 zaS [] (⟨place,x⟩:zao) (ra 1 [.om zaS wu 2 [0] t2] rfl (zAR (rk:=zaS) (rv:=wu) (m:=t2) rfl Tryz.underlying118 (zAD _ _ _ _ _)) rfl (rkl 1 [] ⟨[(0,.om zaS wu 2 [0] t2),(5,.ptr 11 0),(10,.sl wu [0] way),(11,kI (way.length:Int)),(12,kI v),(27,.om zaS wu 2 [0] t2),(28,.rc zaS [] (⟨place,x⟩:zao)),(31,kI (IntKind.i64.wrap ((t2.length:Int)+1)))],[⟨11,156,[kI place,kI x]⟩]⟩ (zko ⟨[(0,.om zaS wu 2 [0] (mput t2 (⟨place,x⟩:zao) (IntKind.i64.wrap ((t2.length:Int)+1)))),(5,.ptr 11 0),(10,.sl wu [0] way),(11,kI (way.length:Int)),(12,kI v),(27,.om zaS wu 2 [0] (mput t2 (⟨place,x⟩:zao) (IntKind.i64.wrap ((t2.length:Int)+1)))),(28,.rc zaS [] (⟨place,x⟩:zao)),(31,kI (IntKind.i64.wrap ((t2.length:Int)+1)))],[⟨11,156,[kI place,kI x]⟩]⟩ (zqJ (rk:=zaS) (rv:=wu) (m:=t2) (ℓ:=2) (C:=[0]) (C1:=[]) (D:=[]) (⟨place,x⟩:zao) (IntKind.i64.wrap ((t2.length:Int)+1)) [0] zoK (.inl rfl) (zdd rfl) (zdk rfl rfl) rfl) rfl (by kernel_rfl) (by kernel_rfl) ⟨⟨_,rfl,zgn 0 rfl⟩,⟨_,rfl,zab rfl⟩,⟨_,rfl,zab rfl⟩,⟨_,rfl,zab rfl⟩,⟨_,rfl,zab rfl⟩,⟨_,rfl,zgn 0 rfl⟩,⟨_,rfl,zab rfl⟩,⟨_,rfl,zab rfl⟩,trivial⟩ ⟨⟨_,rfl,rfl,rfl,⟨zab rfl,zab rfl,trivial⟩⟩,trivial⟩ rf)))) (jr (lb 1 zaS [] (⟨place,x⟩:zao) (ra 0 [.om zaS wu 2 [0] (mput t2 (⟨place,x⟩:zao) (IntKind.i64.wrap ((t2.length:Int)+1))),.rc zaS [] (⟨place,x⟩:zao)] rfl (znQ (rk:=zaS) (rv:=wu) (m:=(mput t2 (⟨place,x⟩:zao) (IntKind.i64.wrap ((t2.length:Int)+1)))) (k:=(⟨place,x⟩:zao)) (kI ((mget (mput t2 (⟨place,x⟩:zao) (IntKind.i64.wrap ((t2.length:Int)+1))) (⟨place,x⟩:zao)).getD 0)) rfl zoK (zdd rfl) (zmI rfl rfl rfl)) rfl rf)) (zas (jp ?_)));cases h;exact zal lzz
   refine jr (lb 1 zaS [] (⟨place,x⟩:zao) (ra 0 [.om zaS wu 2 [0] t2,.rc zaS [] (⟨place,x⟩:zao)] rfl (znQ (rk:=zaS) (rv:=wu) (m:=t2) (k:=(⟨place,x⟩:zao)) (kI ((mget t2 (⟨place,x⟩:zao)).getD 0)) rfl zoK (zdd rfl) (zmI rfl rfl rfl)) rfl rf)) (zas (jp ?_));cases h;exact zal lzz
  cases h;exact zaF rfl lzz
 refine zbj _ rfl (jr (lb 1 zaS [] (⟨q.2.1,q.2.2⟩:zao) (rkl 0 [] ⟨[(0,.om zaS wu 2 [0] q.1),(36,.om zaS wu 2 [0] q.1),(37,.rc zaS [] (⟨q.2.1,q.2.2⟩:zao))],[]⟩ (zko ⟨[(0,.om zaS wu 2 [0] (mput q.1 (⟨q.2.1,q.2.2⟩:zao) (-1))),(36,.om zaS wu 2 [0] (mput q.1 (⟨q.2.1,q.2.2⟩:zao) (-1))),(37,.rc zaS [] (⟨q.2.1,q.2.2⟩:zao))],[]⟩ (zqJ (rk:=zaS) (rv:=wu) (m:=q.1) (ℓ:=2) (C:=[0]) (C1:=[]) (D:=[]) (⟨q.2.1,q.2.2⟩:zao) (-1) [0] zoK (.inl rfl) (zdd rfl) (zdk rfl rfl) rfl) rfl (by kernel_rfl) (by kernel_rfl) ⟨⟨_,rfl,zgn 0 rfl⟩,⟨_,rfl,zgn 0 rfl⟩,⟨_,rfl,zab rfl⟩,trivial⟩ trivial rf))) ?_);cases h;exact zHk lzz
theorem zee (h:zaZ x=some r):zny Tryz.prog 104 [.own wx 53 2 [0] x,.lf (.val (.func (.func 71) #[] #[]))] [] [.own wx 53 2 [0] r,.any]:=zCm zHu (enters_of Tryz.func71 (by kernel_rfl) rfl) zHg 53 h
abbrev zDD:=(mput ([]:(List (Int×zu))) 1 (⟨[105,110,116,51,50],0⟩:zu))
abbrev zDE:=(mput zDD 2 (⟨[105,110,116,54,52],0⟩:zu))
abbrev zDF:=(mput zDE 3 (⟨[117,105,110,116,51,50],0⟩:zu))
abbrev zDG:=(mput zDF 4 (⟨[117,105,110,116,54,52],0⟩:zu))
abbrev zDH:=(mput zDG 5 (⟨[115,105,110,116,51,50],0⟩:zu))
abbrev zDI:=(mput zDH 6 (⟨[115,105,110,116,54,52],0⟩:zu))
abbrev zDJ:=(mput zDI 7 (⟨[98,111,111,108],0⟩:zu))
abbrev zDK:=(mput zDJ 8 (⟨[101,110,117,109],0⟩:zu))
abbrev zDL:=(mput zDK 9 (⟨[102,105,120,101,100,51,50],5⟩:zu))
abbrev zzy:=(mput zDL 10 (⟨[115,102,105,120,101,100,51,50],5⟩:zu))
abbrev zzz:=(mput zzy 11 (⟨[102,108,111,97,116],5⟩:zu))
abbrev zzA:=(mput zzz 12 (⟨[102,105,120,101,100,54,52],1⟩:zu))
abbrev zzB:=(mput zzA 13 (⟨[115,102,105,120,101,100,54,52],1⟩:zu))
abbrev zzC:=(mput zzB 14 (⟨[100,111,117,98,108,101],1⟩:zu))
abbrev zwv:=(mput zzC 15 (⟨[115,116,114,105,110,103],2⟩:zu))
theorem zpk (h:zkL=some r):FnOk Tryz.prog 171 [] [.om wu zD 2 [] r]:=by
 refine zz (E:=⟨[(0,.om wu zD 2 [] r)],[]⟩) 20 Tryz.func171 rfl rfl rfl ⟨rfl,trivial⟩ (fun Xt=>?_);refine zq ?_;unfold zkL at h;refine jp (jr (rc 0 rfl (zqx (rk:=wu) (rv:=zD) 12 rfl) (rc 0 rfl (zbA (r:=zD) [kS [105,110,116,51,50],kI 0] [] (⟨[105,110,116,51,50],0⟩:zu) rfl zhq rfl rfl) (rkl 0 [] ⟨[(1,.om wu zD 12 [] ([]:(List (Int×zu)))),(2,.rc zD [] (⟨[105,110,116,51,50],0⟩:zu))],[]⟩ (zeG (rk:=wu) (rv:=zD) (m:=([]:(List (Int×zu)))) (C:=[]) (C1:=[]) (D:=[]) [1] 1 (⟨[105,110,116,51,50],0⟩:zu) [] zfu rfl (.inr rfl) rfl rfl rfl rfl (zdk rfl rfl) (zdd rfl) (by kernel_rfl) rfl (rc 0 rfl (zbA (r:=zD) [kS [105,110,116,54,52],kI 0] [] (⟨[105,110,116,54,52],0⟩:zu) rfl zhq rfl rfl) (rkl 0 [] ⟨[(1,.om wu zD 12 [] zDD),(3,.rc zD [] (⟨[105,110,116,54,52],0⟩:zu))],[]⟩ (zeG (rk:=wu) (rv:=zD) (m:=zDD) (C:=[]) (C1:=[]) (D:=[]) [1] 2 (⟨[105,110,116,54,52],0⟩:zu) [] zfu rfl (.inr rfl) rfl rfl rfl rfl (zdk rfl rfl) (zdd rfl) (by kernel_rfl) rfl (rc 0 rfl (zbA (r:=zD) [kS [117,105,110,116,51,50],kI 0] [] (⟨[117,105,110,116,51,50],0⟩:zu) rfl zhq rfl rfl) (rkl 0 [] ⟨[(1,.om wu zD 12 [] zDE),(4,.rc zD [] (⟨[117,105,110,116,51,50],0⟩:zu))],[]⟩ (zeG (rk:=wu) (rv:=zD) (m:=zDE) (C:=[]) (C1:=[]) (D:=[]) [1] 3 (⟨[117,105,110,116,51,50],0⟩:zu) [] zfu rfl (.inr rfl) rfl rfl rfl rfl (zdk rfl rfl) (zdd rfl) (by kernel_rfl) rfl (rc 0 rfl (zbA (r:=zD) [kS [117,105,110,116,54,52],kI 0] [] (⟨[117,105,110,116,54,52],0⟩:zu) rfl zhq rfl rfl) (rkl 0 [] ⟨[(1,.om wu zD 12 [] zDF),(5,.rc zD [] (⟨[117,105,110,116,54,52],0⟩:zu))],[]⟩ (zeG (rk:=wu) (rv:=zD) (m:=zDF) (C:=[]) (C1:=[]) (D:=[]) [1] 4 (⟨[117,105,110,116,54,52],0⟩:zu) [] zfu rfl (.inr rfl) rfl rfl rfl rfl (zdk rfl rfl) (zdd rfl) (by kernel_rfl) rfl (rc 0 rfl (zbA (r:=zD) [kS [115,105,110,116,51,50],kI 0] [] (⟨[115,105,110,116,51,50],0⟩:zu) rfl zhq rfl rfl) (rkl 0 [] ⟨[(1,.om wu zD 12 [] zDG),(6,.rc zD [] (⟨[115,105,110,116,51,50],0⟩:zu))],[]⟩ (zeG (rk:=wu) (rv:=zD) (m:=zDG) (C:=[]) (C1:=[]) (D:=[]) [1] 5 (⟨[115,105,110,116,51,50],0⟩:zu) [] zfu rfl (.inr rfl) rfl rfl rfl rfl (zdk rfl rfl) (zdd rfl) (by kernel_rfl) rfl (rc 0 rfl (zbA (r:=zD) [kS [115,105,110,116,54,52],kI 0] [] (⟨[115,105,110,116,54,52],0⟩:zu) rfl zhq rfl rfl) (rkl 0 [] ⟨[(1,.om wu zD 12 [] zDH),(7,.rc zD [] (⟨[115,105,110,116,54,52],0⟩:zu))],[]⟩ (zeG (rk:=wu) (rv:=zD) (m:=zDH) (C:=[]) (C1:=[]) (D:=[]) [1] 6 (⟨[115,105,110,116,54,52],0⟩:zu) [] zfu rfl (.inr rfl) rfl rfl rfl rfl (zdk rfl rfl) (zdd rfl) (by kernel_rfl) rfl (rc 0 rfl (zbA (r:=zD) [kS [98,111,111,108],kI 0] [] (⟨[98,111,111,108],0⟩:zu) rfl zhq rfl rfl) (rkl 0 [] ⟨[(1,.om wu zD 12 [] zDI),(8,.rc zD [] (⟨[98,111,111,108],0⟩:zu))],[]⟩ (zeG (rk:=wu) (rv:=zD) (m:=zDI) (C:=[]) (C1:=[]) (D:=[]) [1] 7 (⟨[98,111,111,108],0⟩:zu) [] zfu rfl (.inr rfl) rfl rfl rfl rfl (zdk rfl rfl) (zdd rfl) (by kernel_rfl) rfl (rc 0 rfl (zbA (r:=zD) [kS [101,110,117,109],kI 0] [] (⟨[101,110,117,109],0⟩:zu) rfl zhq rfl rfl) (rkl 0 [] ⟨[(1,.om wu zD 12 [] zDJ),(9,.rc zD [] (⟨[101,110,117,109],0⟩:zu))],[]⟩ (zeG (rk:=wu) (rv:=zD) (m:=zDJ) (C:=[]) (C1:=[]) (D:=[]) [1] 8 (⟨[101,110,117,109],0⟩:zu) [] zfu rfl (.inr rfl) rfl rfl rfl rfl (zdk rfl rfl) (zdd rfl) (by kernel_rfl) rfl (rc 0 rfl (zbA (r:=zD) [kS [102,105,120,101,100,51,50],kI 5] [] (⟨[102,105,120,101,100,51,50],5⟩:zu) rfl zhq rfl rfl) (rkl 0 [] ⟨[(1,.om wu zD 12 [] zDK),(10,.rc zD [] (⟨[102,105,120,101,100,51,50],5⟩:zu))],[]⟩ (zeG (rk:=wu) (rv:=zD) (m:=zDK) (C:=[]) (C1:=[]) (D:=[]) [1] 9 (⟨[102,105,120,101,100,51,50],5⟩:zu) [] zfu rfl (.inr rfl) rfl rfl rfl rfl (zdk rfl rfl) (zdd rfl) (by kernel_rfl) rfl (rc 0 rfl (zbA (r:=zD) [kS [115,102,105,120,101,100,51,50],kI 5] [] (⟨[115,102,105,120,101,100,51,50],5⟩:zu) rfl zhq rfl rfl) (rkl 0 [] ⟨[(1,.om wu zD 12 [] zDL),(11,.rc zD [] (⟨[115,102,105,120,101,100,51,50],5⟩:zu))],[]⟩ (zeG (rk:=wu) (rv:=zD) (m:=zDL) (C:=[]) (C1:=[]) (D:=[]) [1] 10 (⟨[115,102,105,120,101,100,51,50],5⟩:zu) [] zfu rfl (.inr rfl) rfl rfl rfl rfl (zdk rfl rfl) (zdd rfl) (by kernel_rfl) rfl (rc 0 rfl (zbA (r:=zD) [kS [102,108,111,97,116],kI 5] [] (⟨[102,108,111,97,116],5⟩:zu) rfl zhq rfl rfl) (rkl 0 [] ⟨[(1,.om wu zD 12 [] zzy),(12,.rc zD [] (⟨[102,108,111,97,116],5⟩:zu))],[]⟩ (zeG (rk:=wu) (rv:=zD) (m:=zzy) (C:=[]) (C1:=[]) (D:=[]) [1] 11 (⟨[102,108,111,97,116],5⟩:zu) [] zfu rfl (.inr rfl) rfl rfl rfl rfl (zdk rfl rfl) (zdd rfl) (by kernel_rfl) rfl (rc 0 rfl (zbA (r:=zD) [kS [102,105,120,101,100,54,52],kI 1] [] (⟨[102,105,120,101,100,54,52],1⟩:zu) rfl zhq rfl rfl) (rkl 0 [] ⟨[(1,.om wu zD 12 [] zzz),(13,.rc zD [] (⟨[102,105,120,101,100,54,52],1⟩:zu))],[]⟩ (zeG (rk:=wu) (rv:=zD) (m:=zzz) (C:=[]) (C1:=[]) (D:=[]) [1] 12 (⟨[102,105,120,101,100,54,52],1⟩:zu) [] zfu rfl (.inr rfl) rfl rfl rfl rfl (zdk rfl rfl) (zdd rfl) (by kernel_rfl) rfl (rc 0 rfl (zbA (r:=zD) [kS [115,102,105,120,101,100,54,52],kI 1] [] (⟨[115,102,105,120,101,100,54,52],1⟩:zu) rfl zhq rfl rfl) (rkl 0 [] ⟨[(1,.om wu zD 12 [] zzA),(14,.rc zD [] (⟨[115,102,105,120,101,100,54,52],1⟩:zu))],[]⟩ (zeG (rk:=wu) (rv:=zD) (m:=zzA) (C:=[]) (C1:=[]) (D:=[]) [1] 13 (⟨[115,102,105,120,101,100,54,52],1⟩:zu) [] zfu rfl (.inr rfl) rfl rfl rfl rfl (zdk rfl rfl) (zdd rfl) (by kernel_rfl) rfl (rc 0 rfl (zbA (r:=zD) [kS [100,111,117,98,108,101],kI 1] [] (⟨[100,111,117,98,108,101],1⟩:zu) rfl zhq rfl rfl) (rkl 0 [] ⟨[(1,.om wu zD 12 [] zzB),(15,.rc zD [] (⟨[100,111,117,98,108,101],1⟩:zu))],[]⟩ (zeG (rk:=wu) (rv:=zD) (m:=zzB) (C:=[]) (C1:=[]) (D:=[]) [1] 14 (⟨[100,111,117,98,108,101],1⟩:zu) [] zfu rfl (.inr rfl) rfl rfl rfl rfl (zdk rfl rfl) (zdd rfl) (by kernel_rfl) rfl (rc 0 rfl (zbA (r:=zD) [kS [115,116,114,105,110,103],kI 2] [] (⟨[115,116,114,105,110,103],2⟩:zu) rfl zhq rfl rfl) (rkl 0 [] ⟨[(1,.om wu zD 12 [] zzC),(16,.rc zD [] (⟨[115,116,114,105,110,103],2⟩:zu))],[]⟩ (zeG (rk:=wu) (rv:=zD) (m:=zzC) (C:=[]) (C1:=[]) (D:=[]) [1] 15 (⟨[115,116,114,105,110,103],2⟩:zu) [] zfu rfl (.inr rfl) rfl rfl rfl rfl (zdk rfl rfl) (zdd rfl) (by kernel_rfl) rfl (rc 0 rfl (zbA (r:=zD) [kS [98,121,116,101,115],kI 2] [] (⟨[98,121,116,101,115],2⟩:zu) rfl zhq rfl rfl) (rkl 0 [] ⟨[(1,.om wu zD 12 [] zwv),(17,.rc zD [] (⟨[98,121,116,101,115],2⟩:zu))],[]⟩ (zeG (rk:=wu) (rv:=zD) (m:=zwv) (C:=[]) (C1:=[]) (D:=[]) [1] 16 (⟨[98,121,116,101,115],2⟩:zu) [] zfu rfl (.inr rfl) rfl rfl rfl rfl (zdk rfl rfl) (zdd rfl) (by kernel_rfl) rfl (rc 0 rfl (zbA (r:=zD) [kS [109,101,115,115,97,103,101],kI 2] [] (⟨[109,101,115,115,97,103,101],2⟩:zu) rfl zhq rfl rfl) (rkl 0 [] ⟨[(1,.om wu zD 12 [] (mput zwv 16 (⟨[98,121,116,101,115],2⟩:zu))),(18,.rc zD [] (⟨[109,101,115,115,97,103,101],2⟩:zu))],[]⟩ (zeG (rk:=wu) (rv:=zD) (m:=(mput zwv 16 (⟨[98,121,116,101,115],2⟩:zu))) (C:=[]) (C1:=[]) (D:=[]) [1] 17 (⟨[109,101,115,115,97,103,101],2⟩:zu) [] zfu rfl (.inr rfl) rfl rfl rfl rfl (zdk rfl rfl) (zdd rfl) (by kernel_rfl) rfl rf)))))))))))))))))))))))))))))))))))))))))))))))))))) ?_);cases h;exact zA (lk [0] [] 12 2 lzz)
theorem zlx (h:zgk c=some r):FnOk Tryz.prog 195 [k8 c] [kB r]:=by
 refine zz (E:=⟨[(2,kB r)],[]⟩) 9 Tryz.func195 rfl rfl rfl ⟨rfl,trivial⟩ (fun Xt=>?_);refine zq ?_;unfold zgk at h;refine jp (zaG ⟨[(2,kB ((decide (c>=48))&&(decide (c<=57))))],[]⟩ ?_ ?_)
 ·refine (rsl 3 [] 5 (decide (c>=48)) (fun uA=>?_) (fun uA=>?_))
  · exact (rbl [] 2 (decide (c<=57)) rfl (by rw [uA]<;>rfl))
  exact (rbl [] 2 false rfl (by rw [uA]<;>rfl))
 cases h;exact zA lzz
theorem zpS (h:zgK c=some r):FnOk Tryz.prog 196 [k8 c] [kB r]:=by
 refine zz (E:=⟨[(2,kB r)],[]⟩) 21 Tryz.func196 rfl rfl rfl ⟨rfl,trivial⟩ (fun Xt=>?_);refine zq ?_;unfold zgK at h;refine jp (zaG ⟨[(2,kB (if (decide (c>=97)) then ((decide (c<=122))|| (if (decide (c>=65)) then ((decide (c<=90))|| (c==95)) else (c==95))) else (if (decide (c>=65)) then ((decide (c<=90))|| (c==95)) else (c==95))))],[]⟩ ?_ ?_)
 ·refine (rsl 3 [] 5 (decide (c>=97)) (fun uA=>?_) (fun uA=>?_))
  ·refine (rsl 4 [] 9 (decide (c<=122)) (fun uB=>?_) (fun uB=>?_))
   · exact (rbl [] 2 true rfl (by rw [uA,uB]<;>rfl))
   refine (rsl 3 [] 12 (decide (c>=65)) (fun uE=>?_) (fun uE=>?_))
   ·refine (rsl 5 [] 17 (decide (c<=90)) (fun uK=>?_) (fun uK=>?_))
    · exact (rbl [] 2 true rfl (by rw [uA,uB,uE,uK]<;>rfl))
    exact (rbl [] 2 (c==95) rfl (by rw [uA,uB,uE,uK]<;>rfl))
   exact (rbl [] 2 (c==95) rfl (by rw [uA,uB,uE]<;>rfl))
  refine (rsl 7 [] 12 (decide (c>=65)) (fun uN=>?_) (fun uN=>?_))
  ·refine (rsl 5 [] 17 (decide (c<=90)) (fun uQ=>?_) (fun uQ=>?_))
   · exact (rbl [] 2 true rfl (by rw [uA,uN,uQ]<;>rfl))
   exact (rbl [] 2 (c==95) rfl (by rw [uA,uN,uQ]<;>rfl))
  exact (rbl [] 2 (c==95) rfl (by rw [uA,uN]<;>rfl))
 cases h;exact zA lzz
theorem zpT (h:zgL n=some r):FnOk Tryz.prog 173 [kI n] [kB r]:=by
 refine zz (E:=⟨[(2,kB r)],[]⟩) 17 Tryz.func173 rfl rfl rfl ⟨rfl,trivial⟩ (fun Xt=>?_);refine zq ?_;unfold zgL at h;refine jp (zaG ⟨[(2,kB ((decide (n>=1))&&((decide (n<=536870911))&&((decide (n<19000))|| (decide (n>19999))))))],[]⟩ ?_ ?_)
 ·refine (rsl 3 [] 5 (decide (n>=1)) (fun uA=>?_) (fun uA=>?_))
  ·refine (rsl 4 [] 9 (decide (n<=536870911)) (fun uB=>?_) (fun uB=>?_))
   ·refine (rsl 3 [] 12 (decide (n<19000)) (fun uE=>?_) (fun uE=>?_))
    · exact (rbl [] 2 true rfl (by rw [uA,uB,uE]<;>rfl))
    exact (rbl [] 2 (decide (n>19999)) rfl (by rw [uA,uB,uE]<;>rfl))
   exact (rbl [] 2 false rfl (by rw [uA,uB]<;>rfl))
  exact (rbl [] 2 false rfl (by rw [uA]<;>rfl))
 cases h;exact zA lzz
theorem zkW (h:zdw sv v=some r):FnOk Tryz.prog 197 [.sl wu [0] sv,kI v] [kI r]:=by
 refine zz (E:=⟨[(4,kI r)],[]⟩) 19 Tryz.func197 rfl rfl rfl ⟨rfl,trivial⟩ (fun Xt=>?_);refine zq ?_;unfold zdw at h;refine jp (jp (zB (jb h fun q uF h=>zaH (fun s:Int=>zay sv v s) (fun s=>⟨[(0,.sl wu [0] sv),(1,kI v),(7,kI (sv.length:Int)),(8,kI s)],[]⟩) (fun o e a w=>match o with| (.inl v_)=>e= .exit 0/\Sx ⟨⟨19,[]⟩,Xt,false,#[]⟩ ⟨[],[]⟩ a w| (.inr v_)=>e= .ret/\Sx ⟨⟨19,[]⟩,Xt,false,#[]⟩ ⟨[(4,kI v_)],[]⟩ a w) ?_ uF lzz ?_)))
 ·clear h;intro v2 o h;refine zq ?_;replace h:zay sv v v2=some o:=h;unfold zay at h;refine jp (jI h (fun uA h=>?_) fun uA h=>?_)
  ·refine zB (jp (jb h fun x uI h=>jr (ra 3 [.sl wu [0] sv,kI v2] rfl (zbt rfl zlb.el (zV _ _ _) uI) rfl rf) (jI h (fun uB h=>?_) fun uB h=>?_)))
   ·refine jp ?_;cases h;exact zcA lzz
   refine zas (jp ?_);cases h;exact zal lzz
  cases h;exact zaF rfl lzz
 rcases q with u| u2
 ·refine zbj _ rfl (jp ?_);cases h;exact zA lzz
 obtain rfl:=(sj h);exact zfb lzz
theorem znr (h:zfr c f=some r):FnOk Tryz.prog 176 [.ag [kI c.size,.sl wu [0] c.kinds,.mp zr Rp.bool [0] c.names,.mp zp Rp.bool [0] c.numbers],.rc zg [0] f] [kB r]:=by
 refine zz (E:=⟨[(4,kB r)],[]⟩) 21 Tryz.func176 rfl rfl rfl ⟨rfl,trivial⟩ (fun Xt=>?_);refine zq ?_;unfold zfr at h;refine jq [11,12] (jp (jI h (fun uA h=>?_) fun uA h=>?_))
 ·refine zaG ⟨[(4,kB ((decide (f.Of>=0))&&(decide (f.Of<c.size))))],[]⟩ ?_ ?_
  ·refine (rsl 4 [] 11 (decide (f.Of>=0)) (fun uB=>?_) (fun uB=>?_))
   · exact (rbl [] 4 (decide (f.Of<c.size)) rfl (by rw [uB]<;>rfl))
   exact (rbl [] 4 false rfl (by rw [uB]<;>rfl))
  cases h;exact zA lzz
 refine jp ?_;cases h;exact zA lzz
theorem zuu (vL:∀{x:zb} {most:Int} {r:Int},xa x most=some r->FnOk Tryz.prog 128 [.rc zd [0] x,kI most] [kI r]) (h:ziQ xa x most=some r):FnOk Tryz.prog 128 [.rc zd [0] x,kI most] [kI r]:=by
 refine zz (E:=⟨[(4,kI r)],[]⟩) 40 Tryz.func128 rfl rfl rfl ⟨rfl,trivial⟩ (fun Xt=>?_);refine zq ?_;unfold ziQ at h;refine jr (ra 0 [.rc zd [0] x] rfl (zbw 11 (zj [0] x) [0] rfl rfl rfl (by rw [zn]<;>rfl) rfl) rfl rf) (jp (jp (zB (jb h fun q2 uT h=>zaH (fun s:(Int×Int)=>zdA most xa x s.1 s.2) (fun s=>⟨[(1,kI most),(5,kI s.1),(11,.sl zc [0] x.Values),(12,kI (x.Values.length:Int)),(13,kI s.2)],[]⟩) (fun o e a w=>match o with| (.inl v_)=>e= .exit 0/\Sx ⟨⟨40,[]⟩,Xt,false,#[]⟩ ⟨[(5,kI v_)],[]⟩ a w| (.inr v_)=>e= .ret/\Sx ⟨⟨40,[]⟩,Xt,false,#[]⟩ ⟨[(4,kI v_)],[]⟩ a w) ?_ uT lzz ?_))))
 ·clear h;intro s o h;obtain ⟨deep,v⟩:=s;refine zq ?_;replace h:zdA most xa x deep v=some o:=h;unfold zdA at h;refine jp (jI h (fun uA h=>?_) fun uA h=>?_)
  ·refine zB (jb h fun x2 uL h=>jr (ra 0 [.sl zc [0] x.Values,kI v] rfl (zbt rfl zgO.el (zV _ _ _) uL) rfl (ra 0 [.ep zc [0] x2 0] rfl (zeT rfl ⟨Tryz.isAgg57,Tryz.sizeOf57⟩) rfl (ral 1 [13] [.ptr 13 0,.rc zc [0] x2] rfl (zfy (r:=zc) (b:=⟨13,57,[kI 0,kN,kN,kN]⟩) (off:=0) (zk [0] x2) rfl Tryz.sizeOf57 rfl rfl (by rw [zv]<;>rfl) rfl) rfl rf))) (jp (zB (jb h fun q uF h=>zaH (fun s:(Int×Int)=>zdB most xa x2 s.1 s.2) (fun s=>⟨[(1,kI most),(5,kI s.1),(11,.sl zc [0] x.Values),(12,kI (x.Values.length:Int)),(13,kI v),(18,.sl zd [0] x2.Subs),(19,kI (x2.Subs.length:Int)),(20,kI s.2)],[]⟩) (fun o e a w=>match o with| (.inl v_)=>e= .exit 2/\Sx ⟨⟨40,[]⟩,Xt,false,#[]⟩ ⟨[(1,kI most),(5,kI v_),(11,.sl zc [0] x.Values),(12,kI (x.Values.length:Int)),(13,kI v)],[]⟩ a w| (.inr v_)=>e= .ret/\Sx ⟨⟨40,[]⟩,Xt,false,#[]⟩ ⟨[(4,kI v_)],[]⟩ a w) ?_ uF lzz ?_))))
   ·clear h;intro s o h;obtain ⟨deep3,v3⟩:=s;refine zq ?_;replace h:zdB most xa x2 deep3 v3=some o:=h;unfold zdB at h;refine jp (jI h (fun uB h=>?_) fun uB h=>?_)
    ·refine zB (jb h fun x3 uU h=>jr (ra 0 [.sl zd [0] x2.Subs,kI v3] rfl (zbt rfl zgP.el (zV _ _ _) uU) rfl (ra 0 [.ep zd [0] x3 0] rfl (zeT rfl ⟨Tryz.isAgg27,Tryz.sizeOf27⟩) rfl (ral 1 [15] [.ptr 15 0,.rc zd [0] x3] rfl (zfy (r:=zd) (b:=⟨15,27,[kN,kN]⟩) (off:=0) (zj [0] x3) rfl Tryz.sizeOf27 rfl rfl (by rw [zn]<;>rfl) rfl) rfl rf))) (jp (jI h (fun uE h=>?_) fun uE h=>?_)))
     ·refine jp ?_;cases h;exact zcA lzz
     refine jb h fun rv uC h=>jr (rc 4 rfl (zy.le (ins':=[(.tmp 27,.ag (zj [0] x3)),(.tmp 29,kI (IntKind.i64.wrap (most - 1)))]) (zU (args:=[.tmp 27,.tmp 29]) [.rc zd [0] x3,kI (IntKind.i64.wrap (most - 1))] [0] 14 rfl Tryz.call128 (vL uC) rfl rfl rfl rfl rfl) ⟨⟨rfl,zx [0] x3⟩,⟨rfl,wC _⟩,trivial⟩) rf) (jp (jI h (fun uK h=>?_) fun uK h=>?_))
     ·refine jp ?_;cases h;exact zcA lzz
     refine zas (jp ?_);cases h;exact zal lzz
    cases h;exact zaF rfl lzz
   rcases q with u| u2
   ·refine zbj _ rfl (zas (jp ?_));cases h;exact zal lzz
   cases h;exact zAG lzz
  cases h;exact zaF rfl lzz
 rcases q2 with u3| u4
 ·refine zbj _ rfl (jp ?_);obtain rfl:=(sj h);exact zA lzz
 obtain rfl:=(sj h);exact zfb lzz
theorem zuK (h:zfV uH x most=some r):FnOk Tryz.prog 128 [.rc zd [0] x,kI most] [kI r]:=by
  induction uH generalizing x most r with
  | zero=>exact absurd h nofun
  | succ uH ih=>exact zuu (fun hh=>ih hh) h
theorem zom (h:zfI f v=some r):FnOk Tryz.prog 130 [.rc zg [0] f,.ep wu [0] v 0] [kB r]:=by
 refine zz (E:=⟨[(3,kB r)],[]⟩) 8 Tryz.func130 rfl rfl rfl ⟨rfl,trivial⟩ (fun Xt=>?_);refine zq ?_;unfold zfI at h;refine jq [11] (jp ?_);cases h;exact zA lzz
theorem zor (h:zfL v=some r):FnOk Tryz.prog 123 [.rc zc [0] v] [kI r]:=by
 refine zz (E:=⟨[(2,kI r)],[]⟩) 14 Tryz.func123 rfl rfl rfl ⟨rfl,trivial⟩ (fun Xt=>?_);refine zq ?_;unfold zfL at h;refine jr (ra 0 [.rc zc [0] v] rfl (zbw 11 (zk [0] v) [0] rfl rfl rfl (by rw [zv]<;>rfl) rfl) rfl rf) (jp ?_);cases h;exact zA lzz
theorem zyJ (h:zqS c=some r):FnOk Tryz.prog 232 [k8 c] [kI r.1,.lf (.int .u32 r.2)]:=by
 refine zz (E:=⟨[(2,kI r.1),(3,.lf (.int .u32 r.2))],[]⟩) 31 Tryz.func232 rfl rfl rfl ⟨rfl,rfl,trivial⟩ (fun Xt=>?_);refine zq ?_;unfold zqS at h;refine jp (zB (jr (ra 1 [k8 c,kU 7] rfl (zlG rfl rfl) rfl rf) (jI h (fun uA h=>?_) fun uA h=>?_)))
 ·refine jp ?_;cases h;exact zA lzz
 refine jr (ra 1 [k8 c,kU 5] rfl (zlG rfl rfl) rfl rf) (jI h (fun uB h=>?_) fun uB h=>?_)
 ·refine jp ?_;cases h;exact zA lzz
 refine jr (ra 1 [k8 c,kU 4] rfl (zlG rfl rfl) rfl rf) (jI h (fun uE h=>?_) fun uE h=>?_)
 ·refine jp ?_;cases h;exact zA lzz
 refine jr (ra 1 [k8 c,kU 3] rfl (zlG rfl rfl) rfl rf) (jI h (fun uK h=>?_) fun uK h=>?_)
 ·refine jp ?_;cases h;exact zA lzz
 refine zas (jp ?_);cases h;exact zA lzz
theorem zyI (h:zmy wv=some r):FnOk Tryz.prog 233 [.lf (.int .u32 wv)] [kI r]:=by
 refine zz (E:=⟨[(2,kI r)],[]⟩) 22 Tryz.func233 rfl rfl rfl ⟨rfl,trivial⟩ (fun Xt=>?_);refine zq ?_;unfold zmy at h;refine jp (zB (jr (ra 1 [.lf (.int .u32 wv),kU 7] rfl (zlG rfl rfl) rfl rf) (jI h (fun uA h=>?_) fun uA h=>?_)))
 ·refine jp ?_;cases h;exact zA lzz
 refine jr (ra 1 [.lf (.int .u32 wv),kU 11] rfl (zlG rfl rfl) rfl rf) (jI h (fun uB h=>?_) fun uB h=>?_)
 ·refine jp ?_;cases h;exact zA lzz
 refine jr (ra 1 [.lf (.int .u32 wv),kU 11] rfl (zlG rfl rfl) rfl rf) (jI h (fun uE h=>?_) fun uE h=>?_)
 ·refine jp ?_;cases h;exact zA lzz
 refine jr (ra 1 [.lf (.int .u32 wv),kU 16] rfl (zlG rfl rfl) rfl rf) (jI h (fun uK h=>?_) fun uK h=>?_)
 ·refine jp ?_;cases h;exact zA lzz
 refine jp (jI h (fun uN h=>?_) fun uN h=>?_)
 ·refine jp ?_;cases h;exact zA lzz
 refine zas (jp ?_);cases h;exact zA lzz
theorem zpj (h:zjc wv=some r):FnOk Tryz.prog 184 [kU wv] [.lf (.int .u32 r)]:=by
 refine zz (E:=⟨[(2,.lf (.int .u32 r))],[]⟩) 5 Tryz.func184 rfl rfl rfl ⟨rfl,trivial⟩ (fun Xt=>?_);refine zq ?_;unfold zjc at h;refine jp (jp ?_);cases h;exact zA lzz
theorem zsS (h:zjw n=some r):FnOk Tryz.prog 182 [.lf (.int .i32 n)] [kU r]:=by
 refine zz (E:=⟨[(2,kU r)],[]⟩) 6 Tryz.func182 rfl rfl rfl ⟨rfl,trivial⟩ (fun Xt=>?_);refine zq ?_;unfold zjw at h;refine jp (jp ?_);cases h;exact zA lzz
theorem zuH (h:zmL wv=some r):FnOk Tryz.prog 185 [kU wv] [kU r]:=by
 refine zz (E:=⟨[(2,kU r)],[]⟩) 5 Tryz.func185 rfl rfl rfl ⟨rfl,trivial⟩ (fun Xt=>?_);refine zq ?_;unfold zmL at h;refine jp (jp ?_);cases h;exact zA lzz
theorem zla (h:zhu b=some r):FnOk Tryz.prog 186 [.sl Rp.byte [0] b] [kU r.1,kI r.2.1,k8 r.2.2]:=by
 refine zz (E:=⟨[(2,kU r.1),(3,kI r.2.1),(4,k8 r.2.2)],[]⟩) 38 Tryz.func186 rfl rfl rfl ⟨rfl,rfl,rfl,trivial⟩ (fun Xt=>?_);refine zq ?_;unfold zhu at h;refine jp (jb h fun v uR h=>jr (ra 4 [.sl Rp.byte [0] b,kI (if (10:Int)<(b.length:Int) then 10 else (b.length:Int))] rfl (zpD none (some (kI (if (10:Int)<(b.length:Int) then 10 else (b.length:Int)))) rfl zoB.el (zV _ _ _) ⟨rfl,rfl⟩ ⟨rfl,rfl⟩ uR) rfl rf) (zB (jb h fun q uF h=>zaH (fun s:(Int×Int)=>zcN v s.1 s.2) (fun s=>⟨[(2,kU s.1),(11,.sl Rp.byte [0] v),(12,kI (v.length:Int)),(13,kI s.2)],[]⟩) (fun o e a w=>match o with| (.inl v_)=>e= .exit 0/\Sx ⟨⟨38,[]⟩,Xt,false,#[]⟩ ⟨[],[]⟩ a w| (.inr v_)=>e= .ret/\Sx ⟨⟨38,[]⟩,Xt,false,#[]⟩ ⟨[(2,kU v_.1),(3,kI v_.2.1),(4,k8 v_.2.2)],[]⟩ a w) ?_ uF lzz ?_)))
 ·clear h;intro s o h;obtain ⟨wv,v2⟩:=s;refine zq ?_;replace h:zcN v wv v2=some o:=h;unfold zcN at h;refine jp (jI h (fun uA h=>?_) fun uA h=>?_)
  ·refine zB (jb h fun x uI h=>jr (ra 1 [.sl Rp.byte [0] v,kI v2] rfl (zbt rfl zoB.el (zV _ _ _) uI) rfl rf) (zaG ⟨[(2,kU wv),(5,kI v2),(6,k8 (x.toNat:Int)),(11,.sl Rp.byte [0] v),(12,kI (v.length:Int)),(13,kI v2),(23,kB ((v2==9)&&(decide ((x.toNat:Int)>1))))],[]⟩ ?_ ?_))
   ·refine (rsl 3 [] 20 (v2==9) (fun uB=>?_) (fun uB=>?_))
    · exact (rbl [] 23 (decide ((x.toNat:Int)>1)) rfl (by rw [uB]<;>rfl))
    exact (rbl [] 23 false rfl (by rw [uB]<;>rfl))
   refine jI h (fun uE h=>?_) fun uE h=>?_
   ·refine jp ?_;cases h;exact zcA lzz
   refine jb h fun v4 vh h=>jr (ra 6 [kU (IntKind.u64.wrap (andI .u8 (x.toNat:Int) 127)),kI (IntKind.i64.wrap (7*v2))] rfl (zDS rfl vh) rfl rf) (jp (jI h (fun uK h=>?_) fun uK h=>?_))
   ·refine jp ?_;cases h;exact zcA lzz
   refine zas (jp ?_);cases h;exact zal lzz
  cases h;exact zaF rfl lzz
 rcases q with u| u2
 ·refine zbj _ rfl (jp ?_);cases h;exact zA lzz
 cases h;exact zfb lzz
theorem zrF (h:zia wire=some r):FnOk Tryz.prog 215 [kI wire] [kB r]:=by
 refine zz (E:=⟨[(2,kB r)],[]⟩) 9 Tryz.func215 rfl rfl rfl ⟨rfl,trivial⟩ (fun Xt=>?_);refine zq ?_;unfold zia at h;refine jp (jp (zB (jp (jI h (fun uA h=>?_) fun uA h=>?_))))
 ·refine jI h (fun uB h=>?_) fun uB h=>?_
  ·refine jp ?_;obtain rfl:=(sj h);exact zA lzz
  refine zas (jp ?_);obtain rfl:=(sj h);exact zA lzz
 refine jp (jI h (fun uE h=>?_) fun uE h=>?_)
 ·refine jI h (fun uK h=>?_) fun uK h=>?_
  ·refine jp ?_;obtain rfl:=(sj h);exact zA lzz
  refine zas (jp ?_);obtain rfl:=(sj h);exact zA lzz
 refine jp (jI h (fun uN h=>?_) fun uN h=>?_)
 ·refine jI h (fun uQ h=>?_) fun uQ h=>?_
  ·refine jp ?_;obtain rfl:=(sj h);exact zA lzz
  refine zas (jp ?_);obtain rfl:=(sj h);exact zA lzz
 refine jp (jI h (fun va h=>?_) fun va h=>?_)
 ·refine jp ?_;obtain rfl:=(sj h);exact zA lzz
 refine zas (jp ?_);obtain rfl:=(sj h);exact zA lzz
end Go.Proofs.YtekgmimingolbaaGreat

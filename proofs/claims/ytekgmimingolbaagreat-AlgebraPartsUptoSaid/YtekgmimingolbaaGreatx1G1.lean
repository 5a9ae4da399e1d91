/-
  The Go functions do what the plain functions say. No condition.
-/
import Derived.Test.YtekgmimingolbaaGreatx1T
import Derived.Test.YtekgmimingolbaaGreatx1Y
set_option autoImplicit true
set_option relaxedAutoImplicit true
namespace Go.Proofs.YtekgmimingolbaaGreat
open Go Go.RowKit
set_option linter.unusedVariables false
set_option maxRecDepth 100000
set_option maxHeartbeats 3200000
theorem zmY (h:ziA x=some r):FnOk Tryz.prog 138 [kI x] [kB r]:=by
 refine zu (E:=⟨[(2,kB r)],[]⟩) 6 Tryz.func138 rfl rfl rfl ⟨rfl,trivial⟩ (fun Xt=>?_);refine zj ?_;unfold ziA at h;refine jp (jp ?_);cases h;exact zt lzz
theorem zmB (h:zef s1 s2=some r):FnOk Tryz.prog 134 [.sl (Rp.int .i64) [0] s1,.sl (Rp.int .i64) [0] s2] [kB r]:=by
 refine zu (E:=⟨[(4,kB r)],[]⟩) 26 Tryz.func134 rfl rfl rfl ⟨rfl,trivial⟩ (fun Xt=>?_);refine zj ?_;unfold zef at h;refine jp (jp (jI h (fun uC h=>?_) fun uC h=>?_))
 ·refine jp ?_;obtain rfl:=(sj h);exact zt lzz
 refine jp (zq ?_);obtain ⟨q,uJ,h⟩:=bnd h;refine zW (fun s:Int=>zah s1 s2 s) (fun s=>⟨[(0,.sl (Rp.int .i64) [0] s1),(1,.sl (Rp.int .i64) [0] s2),(12,kI (s1.length:Int)),(13,kI s)],[]⟩) (fun o e a w=>match o with| (.inl v_)=>e= .exit 0/\Sx ⟨⟨26,[]⟩,Xt,false,#[]⟩ ⟨[],[]⟩ a w| (.inr v_)=>e= .ret/\Sx ⟨⟨26,[]⟩,Xt,false,#[]⟩ ⟨[(4,kB false)],[]⟩ a w) ?_ uJ lzz ?_
 ·clear h;intro v o h;refine zj ?_;replace h:zah s1 s2 v=some o:=h;unfold zah at h;refine jp (jI h (fun uD h=>?_) fun uD h=>?_)
  ·refine zq (jp ?_);obtain ⟨x,uM,h⟩:=bnd h;obtain ⟨x2,uP,h⟩:=bnd h;refine jd [0,1,12,13,24] [] zbq (by exact (lw_e (lw_e (ly [.sl (Rp.int .i64) [0] s1,kI v] (zP rfl zhz.el (zw _ _ _) uM) rfl (lw_e (lw_e (lw_e (ly [.sl (Rp.int .i64) [0] s2,kI v] (zP rfl zhz.el (zw _ _ _) uP) rfl l0)))))))) (jI h (fun uE h=>?_) fun uE h=>?_)
   ·refine jp ?_;cases h;exact zaK lzz
   refine zQ (jp ?_);cases h;exact zD lzz
  cases h;exact zX rfl lzz
 rcases q with u| u2
 ·refine zaj _ rfl (jp ?_);obtain rfl:=(sj h);exact zt lzz
 obtain rfl:=(sj h);exact zcN lzz
theorem zmA (h:zee sv=some r):FnOk Tryz.prog 102 [.sl (Rp.int .i64) [0] sv] [.own (Rp.int .i64) 3 2 [] r]:=by
 refine zu (E:=⟨[(2,.own (Rp.int .i64) 3 2 [] r)],[]⟩) 8 Tryz.func102 rfl rfl rfl ⟨rfl,trivial⟩ (fun Xt=>?_);refine zj ?_;unfold zee at h;refine jp ?_;have hn1:=zoo h;refine zqq 1 4 true ⟨[(0,.sl (Rp.int .i64) [0] sv),(3,.sl (Rp.int .i64) [0] sv)],[]⟩ ⟨[(0,.sl (Rp.int .i64) [0] sv),(4,kB true)],[]⟩ ⟨[(0,.sl (Rp.int .i64) [0] sv),(4,kB false)],[]⟩ (by kernel_rfl) rfl rfl rfl (by kernel_rfl) rfl Tryz.underlying53 rfl (zw _ _ _) (by kernel_rfl) (by kernel_rfl) (fun hx_=>?_) ?_
 ·replace h:=hn1.1 hx_;refine jT rfl (jp ?_);cases h;exact zt (zaJ ⟨[(2,kN)],[]⟩ (by kernel_rfl) (zdk 2 (.own (Rp.int .i64) 3 2 [] ([]:(List Int))) rfl (zbJ (Rp.int .i64) 3 2 [] rfl) lzz))
 replace h:=hn1.2;refine jF rfl ?_;obtain ⟨v,uZ,h⟩:=bnd h;refine jr (rc 0 rfl (zcr [] 12 [] ([]:(List Int)) rfl zhz rfl rfl rfl rfl) (ra 1 [.own (Rp.int .i64) 3 12 [] ([]:(List Int)),.sl (Rp.int .i64) [0] sv] rfl (zgx 12 [] rfl zhz.el rfl (zcI _ _ _ _ _) (zw _ _ _) uZ (.inl (zua _)) rfl) rfl rf)) ?_;obtain rfl:=(sj h);exact zt (lk [2] [] 12 2 lzz)
theorem zjG (v:(List (List Int))):ItOk Tryz.prog 105 [.ep (Rp.list (Rp.list (Rp.int .i64))) [0] v 0] (fun x:(List Int)=>[.sl (Rp.int .i64) [0] x]) (fun {σ:Type} (kf:Rnd σ (List Int)) (sg:σ)=>zaV v kf sg):=by
 refine zFG 16 [(1,.ep (Rp.list (Rp.list (Rp.int .i64))) [0] v 0)] [] Tryz.func105 rfl rfl rfl rfl (.ep (Rp.list (Rp.list (Rp.int .i64))) [0] v (.nil _)) ?_;intro σ kf sg s1 h l I hI F_ hT;replace h:zaV v kf sg=some s1:=h;refine zj (zAr (E':=⟨[(0,.lf (.val (.func (.yield l) #[] #[]))),(1,.ep (Rp.list (Rp.list (Rp.int .i64))) [0] v 0)],[]⟩) (fun _ _ _ hs=>hs) ?_);unfold zaV at h;refine jr (ra 0 [.ep (Rp.list (Rp.list (Rp.int .i64))) [0] v 0] rfl (zbv (Rp.list (Rp.int .i64)) v rfl rfl rfl) rfl rf) (zq ?_);obtain ⟨q,uJ,h⟩:=bnd h;refine zFI (fun s:(Int×σ)=>zaa kf v s.1 s.2) (fun s=>⟨⟨16,[]⟩,itX I hI F_ s.2,false,#[]⟩) (fun s=>⟨[(0,.lf (.val (.func (.yield l) #[] #[]))),(5,.sl (Rp.list (Rp.int .i64)) [0] v),(6,kI (v.length:Int)),(7,kI s.1)],[]⟩) (fun o e a w=>match o with| (.inl v_)=>e= .exit 0/\Sx ⟨⟨16,[]⟩,itX I hI F_ v_,false,#[]⟩ ⟨[],[]⟩ a w| (.inr v_)=>e= .ret/\Sx ⟨⟨16,[]⟩,itX I hI F_ v_,false,#[]⟩ ⟨[],[]⟩ a w) ?_ uJ rfl lzz ?_
 ·clear h;intro s o h;obtain ⟨v2,sg2⟩:=s;refine zj ?_;replace h:zaa kf v v2 sg2=some o:=h;unfold zaa at h;refine jp (jI h (fun uC h=>?_) fun uC h=>?_)
  ·refine zq ?_;obtain ⟨x,uM,h⟩:=bnd h;refine jr (ra 0 [.sl (Rp.list (Rp.int .i64)) [0] v,kI v2] rfl (zP rfl zcY.el (zw _ _ _) uM) rfl (ra 0 [.ep (Rp.list (Rp.int .i64)) [0] x 0] rfl (zbv (Rp.int .i64) x rfl rfl rfl) rfl rf)) ?_;obtain ⟨y,vC,h⟩:=bnd h;refine zFN (E':=⟨[(0,.lf (.val (.func (.yield l) #[] #[]))),(5,.sl (Rp.list (Rp.int .i64)) [0] v),(6,kI (v.length:Int)),(7,kI v2),(14,kB (!y.1))],[]⟩) (x:=x) (b:=y.1) (s':=y.2) 2 (some 13) [.tmp 12] [.sl (Rp.int .i64) [0] x] [.sl (Rp.int .i64) [0] x] ⟨[(0,.lf (.val (.func (.yield l) #[] #[]))),(5,.sl (Rp.list (Rp.int .i64)) [0] v),(6,kI (v.length:Int)),(7,kI v2),(11,.lf (.val (.func (.yield l) #[] #[]))),(12,.sl (Rp.int .i64) [0] x)],[]⟩ hT rfl rfl rfl rfl rfl rgg rfl ⟨rfl,trivial⟩ rfl ⟨AV.le_refl _,trivial⟩ rfl rfl vC rgg (jI h (fun uD h=>?_) fun uD h=>?_)
   ·cases h;exact zaK lzz
   refine zQ (jp ?_);cases h;exact zD lzz
  cases h;exact zX rfl lzz
 rcases q with u| u2
 ·refine zaj _ rfl ?_;cases h;exact zIF lzz
 cases h;exact zIH lzz
theorem zse (h:zgC t way=some r):FnOk Tryz.prog 72 [.mp zaL (Rp.int .i64) [0] t,.sl (Rp.int .i64) [0] way] [kB r]:=by
 refine zu (E:=⟨[(4,kB r)],[]⟩) 30 Tryz.func72 rfl rfl rfl ⟨rfl,trivial⟩ (fun Xt=>?_);refine zj ?_;unfold zgC at h;refine jp (jp (jp (zq ?_)));obtain ⟨q,uJ,h⟩:=bnd h;refine zW (fun s:(Int×Int)=>zaU t way s.1 s.2) (fun s=>⟨[(0,.mp zaL (Rp.int .i64) [0] t),(5,kI s.1),(10,.sl (Rp.int .i64) [0] way),(11,kI (way.length:Int)),(12,kI s.2)],[]⟩) (fun o e a w=>match o with| (.inl v_)=>e= .exit 0/\Sx ⟨⟨30,[]⟩,Xt,false,#[]⟩ ⟨[],[]⟩ a w| (.inr v_)=>e= .ret/\Sx ⟨⟨30,[]⟩,Xt,false,#[]⟩ ⟨[(4,kB v_)],[]⟩ a w) ?_ uJ lzz ?_
 ·clear h;intro s o h;obtain ⟨place,v⟩:=s;refine zj ?_;replace h:zaU t way place v=some o:=h;unfold zaU at h;refine jp (jI h (fun uC h=>?_) fun uC h=>?_)
  ·refine zq ?_;obtain ⟨x,uM,h⟩:=bnd h;refine jr (ra 0 [.sl (Rp.int .i64) [0] way,kI v] rfl (zP rfl zhz.el (zw _ _ _) uM) rfl rf) (jr (ra 3 [kI place,kI x] rfl (zxZ (r:=zaL) [kI place,kI x] [] (⟨place,x⟩:zae) rfl zEX rfl rfl) rfl (ra 0 [.mp zaL (Rp.int .i64) [0] t,.rc zaL [] (⟨place,x⟩:zae)] rfl (zGf (rk:=zaL) (rv:=(Rp.int .i64)) (m:=t) (k:=(⟨place,x⟩:zae)) (kI ((mget t (⟨place,x⟩:zae)).getD 0)) rfl zrk (zsN _ _ _ _) (zdD rfl) (zoV rfl rfl rfl)) rfl rf)) (jp (jI h (fun uD h=>?_) fun uD h=>?_)))
   ·refine jp ?_;cases h;exact zaK lzz
   refine jp (jI h (fun uE h=>?_) fun uE h=>?_)
   ·refine jp ?_;cases h;exact zaK lzz
   refine jp (zQ (jp ?_));cases h;exact zD lzz
  cases h;exact zX rfl lzz
 rcases q with u| u2
 ·refine zaj _ rfl (jp ?_);obtain rfl:=(sj h);exact zt lzz
 obtain rfl:=(sj h);exact zcN lzz
theorem zuO (h:zkb t way=some r):zpW Tryz.prog 73 [.om zaL (Rp.int .i64) 2 [0] t,.sl (Rp.int .i64) [0] way] [] [.om zaL (Rp.int .i64) 2 [0] r,.any]:=by
 refine ztL (E:=⟨[(0,.om zaL (Rp.int .i64) 2 [0] r)],[]⟩) 38 [0] Tryz.func73 rfl rfl rfl trivial ⟨.inr ⟨rfl,rfl⟩,.inl rfl,trivial⟩ rfl (fun Xt old=>?_);refine zj ?_;unfold zkb at h;refine jp (jq [11] (jp (zq ?_)));obtain ⟨q,uJ,h⟩:=bnd h;refine zW (fun s:((List (zae×Int))×Int×Int×Int×Int)=>zcb way s.1 s.2.1 s.2.2.1 s.2.2.2.1 s.2.2.2.2) (fun s=>⟨[(0,.om zaL (Rp.int .i64) 2 [0] s.1),(4,kI s.2.1),(5,.ptr 11 0),(10,.sl (Rp.int .i64) [0] way),(11,kI (way.length:Int)),(12,kI s.2.2.1)],[⟨11,156,[kI s.2.2.2.1,kI s.2.2.2.2]⟩]⟩) (fun o e a w=>e= .exit 0/\Sx ⟨⟨38,[0]⟩,Xt,false,old⟩ ⟨[(0,.om zaL (Rp.int .i64) 2 [0] o.1),(5,.ptr 11 0)],[⟨11,156,[kI o.2.1,kI o.2.2]⟩]⟩ a w) ?_ uJ lzz ?_
 ·clear h;intro s o h;obtain ⟨t2,place,v,f,f2⟩:=s;refine zj ?_;replace h:zcb way t2 place v f f2=some o:=h;unfold zcb at h;refine jp (jI h (fun uC h=>?_) fun uC h=>?_)
  ·refine zq ?_;obtain ⟨x,uM,h⟩:=bnd h;refine jr (ra 0 [.sl (Rp.int .i64) [0] way,kI v] rfl (zP rfl zhz.el (zw _ _ _) uM) rfl rf) (jr (ra 2 [kI place,kI x] rfl (zxZ (r:=zaL) [kI place,kI x] [] (⟨place,x⟩:zae) rfl zEX rfl rfl) rfl rf) (jr (lb 1 zaL [] (⟨place,x⟩:zae) (ra 0 [.om zaL (Rp.int .i64) 2 [0] t2,.rc zaL [] (⟨place,x⟩:zae)] rfl (ztR (rk:=zaL) (rv:=(Rp.int .i64)) (m:=t2) (k:=(⟨place,x⟩:zae)) (kI ((mget t2 (⟨place,x⟩:zae)).getD 0)) rfl zrk (zdD rfl) (zoV rfl rfl rfl)) rfl rf)) (jp (jI h (fun uD h=>?_) fun uD h=>?_))))
   ·refine jr (lb 1 zaL [] (⟨place,x⟩:zae) (ra 1 [.om zaL (Rp.int .i64) 2 [0] t2] rfl (zDr (rk:=zaL) (rv:=(Rp.int .i64)) (m:=t2) rfl Tryz.underlying118 (zDf _ _ _ _ _)) rfl (rkl 1 [] ⟨[(0,.om zaL (Rp.int .i64) 2 [0] t2),(5,.ptr 11 0),(10,.sl (Rp.int .i64) [0] way),(11,kI (way.length:Int)),(12,kI v),(27,.om zaL (Rp.int .i64) 2 [0] t2),(28,.rc zaL [] (⟨place,x⟩:zae)),(31,kI (IntKind.i64.wrap ((t2.length:Int)+1)))],[⟨11,156,[kI place,kI x]⟩]⟩ (zlP ⟨[(0,.om zaL (Rp.int .i64) 2 [0] (mput t2 (⟨place,x⟩:zae) (IntKind.i64.wrap ((t2.length:Int)+1)))),(5,.ptr 11 0),(10,.sl (Rp.int .i64) [0] way),(11,kI (way.length:Int)),(12,kI v),(27,.om zaL (Rp.int .i64) 2 [0] (mput t2 (⟨place,x⟩:zae) (IntKind.i64.wrap ((t2.length:Int)+1)))),(28,.rc zaL [] (⟨place,x⟩:zae)),(31,kI (IntKind.i64.wrap ((t2.length:Int)+1)))],[⟨11,156,[kI place,kI x]⟩]⟩ (ztm (rk:=zaL) (rv:=(Rp.int .i64)) (m:=t2) (ℓ:=2) (C:=[0]) (C1:=[]) (D:=[]) (⟨place,x⟩:zae) (IntKind.i64.wrap ((t2.length:Int)+1)) [0] zrk (.inl rfl) (zdD rfl) (zdK rfl rfl) rfl) rfl (by kernel_rfl) (by kernel_rfl) ⟨⟨_,rfl,zic 0 rfl⟩,⟨_,rfl,zV rfl⟩,⟨_,rfl,zV rfl⟩,⟨_,rfl,zV rfl⟩,⟨_,rfl,zV rfl⟩,⟨_,rfl,zic 0 rfl⟩,⟨_,rfl,zV rfl⟩,⟨_,rfl,zV rfl⟩,trivial⟩ ⟨⟨_,rfl,rfl,rfl,⟨zV rfl,zV rfl,trivial⟩⟩,trivial⟩ rf)))) (jr (lb 1 zaL [] (⟨place,x⟩:zae) (ra 0 [.om zaL (Rp.int .i64) 2 [0] (mput t2 (⟨place,x⟩:zae) (IntKind.i64.wrap ((t2.length:Int)+1))),.rc zaL [] (⟨place,x⟩:zae)] rfl (zqt (rk:=zaL) (rv:=(Rp.int .i64)) (m:=(mput t2 (⟨place,x⟩:zae) (IntKind.i64.wrap ((t2.length:Int)+1)))) (k:=(⟨place,x⟩:zae)) (kI ((mget (mput t2 (⟨place,x⟩:zae) (IntKind.i64.wrap ((t2.length:Int)+1))) (⟨place,x⟩:zae)).getD 0)) rfl zrk (zdD rfl) (zoV rfl rfl rfl)) rfl rf)) (zQ (jp ?_)));cases h;exact zD lzz
   refine jr (lb 1 zaL [] (⟨place,x⟩:zae) (ra 0 [.om zaL (Rp.int .i64) 2 [0] t2,.rc zaL [] (⟨place,x⟩:zae)] rfl (zqt (rk:=zaL) (rv:=(Rp.int .i64)) (m:=t2) (k:=(⟨place,x⟩:zae)) (kI ((mget t2 (⟨place,x⟩:zae)).getD 0)) rfl zrk (zdD rfl) (zoV rfl rfl rfl)) rfl rf)) (zQ (jp ?_));cases h;exact zD lzz
  cases h;exact zX rfl lzz
 refine zaj _ rfl (jr (lb 1 zaL [] (⟨q.2.1,q.2.2⟩:zae) (rkl 0 [] ⟨[(0,.om zaL (Rp.int .i64) 2 [0] q.1),(36,.om zaL (Rp.int .i64) 2 [0] q.1),(37,.rc zaL [] (⟨q.2.1,q.2.2⟩:zae))],[]⟩ (zlP ⟨[(0,.om zaL (Rp.int .i64) 2 [0] (mput q.1 (⟨q.2.1,q.2.2⟩:zae) (-1))),(36,.om zaL (Rp.int .i64) 2 [0] (mput q.1 (⟨q.2.1,q.2.2⟩:zae) (-1))),(37,.rc zaL [] (⟨q.2.1,q.2.2⟩:zae))],[]⟩ (ztm (rk:=zaL) (rv:=(Rp.int .i64)) (m:=q.1) (ℓ:=2) (C:=[0]) (C1:=[]) (D:=[]) (⟨q.2.1,q.2.2⟩:zae) (-1) [0] zrk (.inl rfl) (zdD rfl) (zdK rfl rfl) rfl) rfl (by kernel_rfl) (by kernel_rfl) ⟨⟨_,rfl,zic 0 rfl⟩,⟨_,rfl,zic 0 rfl⟩,⟨_,rfl,zV rfl⟩,trivial⟩ trivial rf))) ?_);cases h;exact zJs lzz
theorem zeQ (h:zaW x=some r):zpW Tryz.prog 104 [.own (Rp.list (Rp.int .i64)) 53 2 [0] x,.lf (.val (.func (.func 71) #[] #[]))] [] [.own (Rp.list (Rp.int .i64)) 53 2 [0] r,.any]:=zEF zJC (enters_of Tryz.func71 (by kernel_rfl) rfl) zJo 53 h
abbrev zFS:=(mput ([]:(List (Int×zv))) 1 (⟨[105,110,116,51,50],0⟩:zv))
abbrev zFT:=(mput zFS 2 (⟨[105,110,116,54,52],0⟩:zv))
abbrev zFU:=(mput zFT 3 (⟨[117,105,110,116,51,50],0⟩:zv))
abbrev zFV:=(mput zFU 4 (⟨[117,105,110,116,54,52],0⟩:zv))
abbrev zFW:=(mput zFV 5 (⟨[115,105,110,116,51,50],0⟩:zv))
abbrev zFX:=(mput zFW 6 (⟨[115,105,110,116,54,52],0⟩:zv))
abbrev zFY:=(mput zFX 7 (⟨[98,111,111,108],0⟩:zv))
abbrev zFZ:=(mput zFY 8 (⟨[101,110,117,109],0⟩:zv))
abbrev zGa:=(mput zFZ 9 (⟨[102,105,120,101,100,51,50],5⟩:zv))
abbrev zCc:=(mput zGa 10 (⟨[115,102,105,120,101,100,51,50],5⟩:zv))
abbrev zCd:=(mput zCc 11 (⟨[102,108,111,97,116],5⟩:zv))
abbrev zCe:=(mput zCd 12 (⟨[102,105,120,101,100,54,52],1⟩:zv))
abbrev zCf:=(mput zCe 13 (⟨[115,102,105,120,101,100,54,52],1⟩:zv))
abbrev zCg:=(mput zCf 14 (⟨[100,111,117,98,108,101],1⟩:zv))
abbrev zyV:=(mput zCg 15 (⟨[115,116,114,105,110,103],2⟩:zv))
theorem zrJ (h:zmo=some r):FnOk Tryz.prog 171 [] [.om (Rp.int .i64) zA 2 [] r]:=by
 refine zu (E:=⟨[(0,.om (Rp.int .i64) zA 2 [] r)],[]⟩) 20 Tryz.func171 rfl rfl rfl ⟨rfl,trivial⟩ (fun Xt=>?_);refine zj ?_;unfold zmo at h;refine jp (jr (rc 0 rfl (zsU (rk:=(Rp.int .i64)) (rv:=zA) 12 rfl) (rc 0 rfl (zaD (r:=zA) [kS [105,110,116,51,50],kI 0] [] (⟨[105,110,116,51,50],0⟩:zv) rfl ziH rfl rfl) (rkl 0 [] ⟨[(1,.om (Rp.int .i64) zA 12 [] ([]:(List (Int×zv)))),(2,.rc zA [] (⟨[105,110,116,51,50],0⟩:zv))],[]⟩ (zfw (rk:=(Rp.int .i64)) (rv:=zA) (m:=([]:(List (Int×zv)))) (C:=[]) (C1:=[]) (D:=[]) [1] 1 (⟨[105,110,116,51,50],0⟩:zv) [] zgu rfl (.inr rfl) rfl rfl rfl rfl (zdK rfl rfl) (zdD rfl) (by kernel_rfl) rfl (rc 0 rfl (zaD (r:=zA) [kS [105,110,116,54,52],kI 0] [] (⟨[105,110,116,54,52],0⟩:zv) rfl ziH rfl rfl) (rkl 0 [] ⟨[(1,.om (Rp.int .i64) zA 12 [] zFS),(3,.rc zA [] (⟨[105,110,116,54,52],0⟩:zv))],[]⟩ (zfw (rk:=(Rp.int .i64)) (rv:=zA) (m:=zFS) (C:=[]) (C1:=[]) (D:=[]) [1] 2 (⟨[105,110,116,54,52],0⟩:zv) [] zgu rfl (.inr rfl) rfl rfl rfl rfl (zdK rfl rfl) (zdD rfl) (by kernel_rfl) rfl (rc 0 rfl (zaD (r:=zA) [kS [117,105,110,116,51,50],kI 0] [] (⟨[117,105,110,116,51,50],0⟩:zv) rfl ziH rfl rfl) (rkl 0 [] ⟨[(1,.om (Rp.int .i64) zA 12 [] zFT),(4,.rc zA [] (⟨[117,105,110,116,51,50],0⟩:zv))],[]⟩ (zfw (rk:=(Rp.int .i64)) (rv:=zA) (m:=zFT) (C:=[]) (C1:=[]) (D:=[]) [1] 3 (⟨[117,105,110,116,51,50],0⟩:zv) [] zgu rfl (.inr rfl) rfl rfl rfl rfl (zdK rfl rfl) (zdD rfl) (by kernel_rfl) rfl (rc 0 rfl (zaD (r:=zA) [kS [117,105,110,116,54,52],kI 0] [] (⟨[117,105,110,116,54,52],0⟩:zv) rfl ziH rfl rfl) (rkl 0 [] ⟨[(1,.om (Rp.int .i64) zA 12 [] zFU),(5,.rc zA [] (⟨[117,105,110,116,54,52],0⟩:zv))],[]⟩ (zfw (rk:=(Rp.int .i64)) (rv:=zA) (m:=zFU) (C:=[]) (C1:=[]) (D:=[]) [1] 4 (⟨[117,105,110,116,54,52],0⟩:zv) [] zgu rfl (.inr rfl) rfl rfl rfl rfl (zdK rfl rfl) (zdD rfl) (by kernel_rfl) rfl (rc 0 rfl (zaD (r:=zA) [kS [115,105,110,116,51,50],kI 0] [] (⟨[115,105,110,116,51,50],0⟩:zv) rfl ziH rfl rfl) (rkl 0 [] ⟨[(1,.om (Rp.int .i64) zA 12 [] zFV),(6,.rc zA [] (⟨[115,105,110,116,51,50],0⟩:zv))],[]⟩ (zfw (rk:=(Rp.int .i64)) (rv:=zA) (m:=zFV) (C:=[]) (C1:=[]) (D:=[]) [1] 5 (⟨[115,105,110,116,51,50],0⟩:zv) [] zgu rfl (.inr rfl) rfl rfl rfl rfl (zdK rfl rfl) (zdD rfl) (by kernel_rfl) rfl (rc 0 rfl (zaD (r:=zA) [kS [115,105,110,116,54,52],kI 0] [] (⟨[115,105,110,116,54,52],0⟩:zv) rfl ziH rfl rfl) (rkl 0 [] ⟨[(1,.om (Rp.int .i64) zA 12 [] zFW),(7,.rc zA [] (⟨[115,105,110,116,54,52],0⟩:zv))],[]⟩ (zfw (rk:=(Rp.int .i64)) (rv:=zA) (m:=zFW) (C:=[]) (C1:=[]) (D:=[]) [1] 6 (⟨[115,105,110,116,54,52],0⟩:zv) [] zgu rfl (.inr rfl) rfl rfl rfl rfl (zdK rfl rfl) (zdD rfl) (by kernel_rfl) rfl (rc 0 rfl (zaD (r:=zA) [kS [98,111,111,108],kI 0] [] (⟨[98,111,111,108],0⟩:zv) rfl ziH rfl rfl) (rkl 0 [] ⟨[(1,.om (Rp.int .i64) zA 12 [] zFX),(8,.rc zA [] (⟨[98,111,111,108],0⟩:zv))],[]⟩ (zfw (rk:=(Rp.int .i64)) (rv:=zA) (m:=zFX) (C:=[]) (C1:=[]) (D:=[]) [1] 7 (⟨[98,111,111,108],0⟩:zv) [] zgu rfl (.inr rfl) rfl rfl rfl rfl (zdK rfl rfl) (zdD rfl) (by kernel_rfl) rfl (rc 0 rfl (zaD (r:=zA) [kS [101,110,117,109],kI 0] [] (⟨[101,110,117,109],0⟩:zv) rfl ziH rfl rfl) (rkl 0 [] ⟨[(1,.om (Rp.int .i64) zA 12 [] zFY),(9,.rc zA [] (⟨[101,110,117,109],0⟩:zv))],[]⟩ (zfw (rk:=(Rp.int .i64)) (rv:=zA) (m:=zFY) (C:=[]) (C1:=[]) (D:=[]) [1] 8 (⟨[101,110,117,109],0⟩:zv) [] zgu rfl (.inr rfl) rfl rfl rfl rfl (zdK rfl rfl) (zdD rfl) (by kernel_rfl) rfl (rc 0 rfl (zaD (r:=zA) [kS [102,105,120,101,100,51,50],kI 5] [] (⟨[102,105,120,101,100,51,50],5⟩:zv) rfl ziH rfl rfl) (rkl 0 [] ⟨[(1,.om (Rp.int .i64) zA 12 [] zFZ),(10,.rc zA [] (⟨[102,105,120,101,100,51,50],5⟩:zv))],[]⟩ (zfw (rk:=(Rp.int .i64)) (rv:=zA) (m:=zFZ) (C:=[]) (C1:=[]) (D:=[]) [1] 9 (⟨[102,105,120,101,100,51,50],5⟩:zv) [] zgu rfl (.inr rfl) rfl rfl rfl rfl (zdK rfl rfl) (zdD rfl) (by kernel_rfl) rfl (rc 0 rfl (zaD (r:=zA) [kS [115,102,105,120,101,100,51,50],kI 5] [] (⟨[115,102,105,120,101,100,51,50],5⟩:zv) rfl ziH rfl rfl) (rkl 0 [] ⟨[(1,.om (Rp.int .i64) zA 12 [] zGa),(11,.rc zA [] (⟨[115,102,105,120,101,100,51,50],5⟩:zv))],[]⟩ (zfw (rk:=(Rp.int .i64)) (rv:=zA) (m:=zGa) (C:=[]) (C1:=[]) (D:=[]) [1] 10 (⟨[115,102,105,120,101,100,51,50],5⟩:zv) [] zgu rfl (.inr rfl) rfl rfl rfl rfl (zdK rfl rfl) (zdD rfl) (by kernel_rfl) rfl (rc 0 rfl (zaD (r:=zA) [kS [102,108,111,97,116],kI 5] [] (⟨[102,108,111,97,116],5⟩:zv) rfl ziH rfl rfl) (rkl 0 [] ⟨[(1,.om (Rp.int .i64) zA 12 [] zCc),(12,.rc zA [] (⟨[102,108,111,97,116],5⟩:zv))],[]⟩ (zfw (rk:=(Rp.int .i64)) (rv:=zA) (m:=zCc) (C:=[]) (C1:=[]) (D:=[]) [1] 11 (⟨[102,108,111,97,116],5⟩:zv) [] zgu rfl (.inr rfl) rfl rfl rfl rfl (zdK rfl rfl) (zdD rfl) (by kernel_rfl) rfl (rc 0 rfl (zaD (r:=zA) [kS [102,105,120,101,100,54,52],kI 1] [] (⟨[102,105,120,101,100,54,52],1⟩:zv) rfl ziH rfl rfl) (rkl 0 [] ⟨[(1,.om (Rp.int .i64) zA 12 [] zCd),(13,.rc zA [] (⟨[102,105,120,101,100,54,52],1⟩:zv))],[]⟩ (zfw (rk:=(Rp.int .i64)) (rv:=zA) (m:=zCd) (C:=[]) (C1:=[]) (D:=[]) [1] 12 (⟨[102,105,120,101,100,54,52],1⟩:zv) [] zgu rfl (.inr rfl) rfl rfl rfl rfl (zdK rfl rfl) (zdD rfl) (by kernel_rfl) rfl (rc 0 rfl (zaD (r:=zA) [kS [115,102,105,120,101,100,54,52],kI 1] [] (⟨[115,102,105,120,101,100,54,52],1⟩:zv) rfl ziH rfl rfl) (rkl 0 [] ⟨[(1,.om (Rp.int .i64) zA 12 [] zCe),(14,.rc zA [] (⟨[115,102,105,120,101,100,54,52],1⟩:zv))],[]⟩ (zfw (rk:=(Rp.int .i64)) (rv:=zA) (m:=zCe) (C:=[]) (C1:=[]) (D:=[]) [1] 13 (⟨[115,102,105,120,101,100,54,52],1⟩:zv) [] zgu rfl (.inr rfl) rfl rfl rfl rfl (zdK rfl rfl) (zdD rfl) (by kernel_rfl) rfl (rc 0 rfl (zaD (r:=zA) [kS [100,111,117,98,108,101],kI 1] [] (⟨[100,111,117,98,108,101],1⟩:zv) rfl ziH rfl rfl) (rkl 0 [] ⟨[(1,.om (Rp.int .i64) zA 12 [] zCf),(15,.rc zA [] (⟨[100,111,117,98,108,101],1⟩:zv))],[]⟩ (zfw (rk:=(Rp.int .i64)) (rv:=zA) (m:=zCf) (C:=[]) (C1:=[]) (D:=[]) [1] 14 (⟨[100,111,117,98,108,101],1⟩:zv) [] zgu rfl (.inr rfl) rfl rfl rfl rfl (zdK rfl rfl) (zdD rfl) (by kernel_rfl) rfl (rc 0 rfl (zaD (r:=zA) [kS [115,116,114,105,110,103],kI 2] [] (⟨[115,116,114,105,110,103],2⟩:zv) rfl ziH rfl rfl) (rkl 0 [] ⟨[(1,.om (Rp.int .i64) zA 12 [] zCg),(16,.rc zA [] (⟨[115,116,114,105,110,103],2⟩:zv))],[]⟩ (zfw (rk:=(Rp.int .i64)) (rv:=zA) (m:=zCg) (C:=[]) (C1:=[]) (D:=[]) [1] 15 (⟨[115,116,114,105,110,103],2⟩:zv) [] zgu rfl (.inr rfl) rfl rfl rfl rfl (zdK rfl rfl) (zdD rfl) (by kernel_rfl) rfl (rc 0 rfl (zaD (r:=zA) [kS [98,121,116,101,115],kI 2] [] (⟨[98,121,116,101,115],2⟩:zv) rfl ziH rfl rfl) (rkl 0 [] ⟨[(1,.om (Rp.int .i64) zA 12 [] zyV),(17,.rc zA [] (⟨[98,121,116,101,115],2⟩:zv))],[]⟩ (zfw (rk:=(Rp.int .i64)) (rv:=zA) (m:=zyV) (C:=[]) (C1:=[]) (D:=[]) [1] 16 (⟨[98,121,116,101,115],2⟩:zv) [] zgu rfl (.inr rfl) rfl rfl rfl rfl (zdK rfl rfl) (zdD rfl) (by kernel_rfl) rfl (rc 0 rfl (zaD (r:=zA) [kS [109,101,115,115,97,103,101],kI 2] [] (⟨[109,101,115,115,97,103,101],2⟩:zv) rfl ziH rfl rfl) (rkl 0 [] ⟨[(1,.om (Rp.int .i64) zA 12 [] (mput zyV 16 (⟨[98,121,116,101,115],2⟩:zv))),(18,.rc zA [] (⟨[109,101,115,115,97,103,101],2⟩:zv))],[]⟩ (zfw (rk:=(Rp.int .i64)) (rv:=zA) (m:=(mput zyV 16 (⟨[98,121,116,101,115],2⟩:zv))) (C:=[]) (C1:=[]) (D:=[]) [1] 17 (⟨[109,101,115,115,97,103,101],2⟩:zv) [] zgu rfl (.inr rfl) rfl rfl rfl rfl (zdK rfl rfl) (zdD rfl) (by kernel_rfl) rfl rf)))))))))))))))))))))))))))))))))))))))))))))))))))) ?_);cases h;exact zt (lk [0] [] 12 2 lzz)
theorem znl (h:zhs c=some r):FnOk Tryz.prog 195 [k8 c] [kB r]:=by
 refine zu (E:=⟨[(2,kB r)],[]⟩) 9 Tryz.func195 rfl rfl rfl ⟨rfl,trivial⟩ (fun Xt=>?_);refine zj ?_;unfold zhs at h;refine jp (zO ⟨[(2,kB ((decide (c>=48))&&(decide (c<=57))))],[]⟩ ?_ ?_)
 ·refine (rsl 3 [] 5 (decide (c>=48)) (fun uC=>?_) (fun uC=>?_))
  · exact (rbl [] 2 (decide (c<=57)) rfl (by rw [uC]<;>rfl))
  exact (rbl [] 2 false rfl (by rw [uC]<;>rfl))
 cases h;exact zt lzz
theorem zsq (h:zhY c=some r):FnOk Tryz.prog 196 [k8 c] [kB r]:=by
 refine zu (E:=⟨[(2,kB r)],[]⟩) 21 Tryz.func196 rfl rfl rfl ⟨rfl,trivial⟩ (fun Xt=>?_);refine zj ?_;unfold zhY at h;refine jp (zO ⟨[(2,kB (if (decide (c>=97)) then ((decide (c<=122))|| (if (decide (c>=65)) then ((decide (c<=90))|| (c==95)) else (c==95))) else (if (decide (c>=65)) then ((decide (c<=90))|| (c==95)) else (c==95))))],[]⟩ ?_ ?_)
 ·refine (rsl 3 [] 5 (decide (c>=97)) (fun uC=>?_) (fun uC=>?_))
  ·refine (rsl 4 [] 9 (decide (c<=122)) (fun uD=>?_) (fun uD=>?_))
   · exact (rbl [] 2 true rfl (by rw [uC,uD]<;>rfl))
   refine (rsl 3 [] 12 (decide (c>=65)) (fun uE=>?_) (fun uE=>?_))
   ·refine (rsl 5 [] 17 (decide (c<=90)) (fun uI=>?_) (fun uI=>?_))
    · exact (rbl [] 2 true rfl (by rw [uC,uD,uE,uI]<;>rfl))
    exact (rbl [] 2 (c==95) rfl (by rw [uC,uD,uE,uI]<;>rfl))
   exact (rbl [] 2 (c==95) rfl (by rw [uC,uD,uE]<;>rfl))
  refine (rsl 7 [] 12 (decide (c>=65)) (fun uL=>?_) (fun uL=>?_))
  ·refine (rsl 5 [] 17 (decide (c<=90)) (fun uN=>?_) (fun uN=>?_))
   · exact (rbl [] 2 true rfl (by rw [uC,uL,uN]<;>rfl))
   exact (rbl [] 2 (c==95) rfl (by rw [uC,uL,uN]<;>rfl))
  exact (rbl [] 2 (c==95) rfl (by rw [uC,uL]<;>rfl))
 cases h;exact zt lzz
theorem zsr (h:zhZ n=some r):FnOk Tryz.prog 173 [kI n] [kB r]:=by
 refine zu (E:=⟨[(2,kB r)],[]⟩) 17 Tryz.func173 rfl rfl rfl ⟨rfl,trivial⟩ (fun Xt=>?_);refine zj ?_;unfold zhZ at h;refine jp (zO ⟨[(2,kB ((decide (n>=1))&&((decide (n<=536870911))&&((decide (n<19000))|| (decide (n>19999))))))],[]⟩ ?_ ?_)
 ·refine (rsl 3 [] 5 (decide (n>=1)) (fun uC=>?_) (fun uC=>?_))
  ·refine (rsl 4 [] 9 (decide (n<=536870911)) (fun uD=>?_) (fun uD=>?_))
   ·refine (rsl 3 [] 12 (decide (n<19000)) (fun uE=>?_) (fun uE=>?_))
    · exact (rbl [] 2 true rfl (by rw [uC,uD,uE]<;>rfl))
    exact (rbl [] 2 (decide (n>19999)) rfl (by rw [uC,uD,uE]<;>rfl))
   exact (rbl [] 2 false rfl (by rw [uC,uD]<;>rfl))
  exact (rbl [] 2 false rfl (by rw [uC]<;>rfl))
 cases h;exact zt lzz
theorem zmC (h:zeh sv v=some r):FnOk Tryz.prog 197 [.sl (Rp.int .i64) [0] sv,kI v] [kI r]:=by
 refine zu (E:=⟨[(4,kI r)],[]⟩) 19 Tryz.func197 rfl rfl rfl ⟨rfl,trivial⟩ (fun Xt=>?_);refine zj ?_;unfold zeh at h;refine jp (jp (zq ?_));obtain ⟨q,uJ,h⟩:=bnd h;refine zW (fun s:Int=>zan sv v s) (fun s=>⟨[(0,.sl (Rp.int .i64) [0] sv),(1,kI v),(7,kI (sv.length:Int)),(8,kI s)],[]⟩) (fun o e a w=>match o with| (.inl v_)=>e= .exit 0/\Sx ⟨⟨19,[]⟩,Xt,false,#[]⟩ ⟨[],[]⟩ a w| (.inr v_)=>e= .ret/\Sx ⟨⟨19,[]⟩,Xt,false,#[]⟩ ⟨[(4,kI v_)],[]⟩ a w) ?_ uJ lzz ?_
 ·clear h;intro v2 o h;refine zj ?_;replace h:zan sv v v2=some o:=h;unfold zan at h;refine jp (jI h (fun uC h=>?_) fun uC h=>?_)
  ·refine zq (jp ?_);obtain ⟨x,uM,h⟩:=bnd h;refine jr (ra 3 [.sl (Rp.int .i64) [0] sv,kI v2] rfl (zP rfl zhz.el (zw _ _ _) uM) rfl rf) (jI h (fun uD h=>?_) fun uD h=>?_)
   ·refine jp ?_;cases h;exact zaK lzz
   refine zQ (jp ?_);cases h;exact zD lzz
  cases h;exact zX rfl lzz
 rcases q with u| u2
 ·refine zaj _ rfl (jp ?_);cases h;exact zt lzz
 obtain rfl:=(sj h);exact zcN lzz
theorem zpR (h:zgq c f=some r):FnOk Tryz.prog 176 [.ag [kI c.size,.sl (Rp.int .i64) [0] c.kinds,.mp zp Rp.bool [0] c.names,.mp zo Rp.bool [0] c.numbers],.rc zf [0] f] [kB r]:=by
 refine zu (E:=⟨[(4,kB r)],[]⟩) 21 Tryz.func176 rfl rfl rfl ⟨rfl,trivial⟩ (fun Xt=>?_);refine zj ?_;unfold zgq at h;refine jq [11,12] (jp (jI h (fun uC h=>?_) fun uC h=>?_))
 ·refine zO ⟨[(4,kB ((decide (f.Of>=0))&&(decide (f.Of<c.size))))],[]⟩ ?_ ?_
  ·refine (rsl 4 [] 11 (decide (f.Of>=0)) (fun uD=>?_) (fun uD=>?_))
   · exact (rbl [] 4 (decide (f.Of<c.size)) rfl (by rw [uD]<;>rfl))
   exact (rbl [] 4 false rfl (by rw [uD]<;>rfl))
  cases h;exact zt lzz
 refine jp ?_;cases h;exact zt lzz
theorem zwW (wc:∀{x:zc} {most:Int} {r:Int},xa x most=some r->FnOk Tryz.prog 128 [.rc zd [0] x,kI most] [kI r]) (h:zki xa x most=some r):FnOk Tryz.prog 128 [.rc zd [0] x,kI most] [kI r]:=by
 refine zu (E:=⟨[(4,kI r)],[]⟩) 40 Tryz.func128 rfl rfl rfl ⟨rfl,trivial⟩ (fun Xt=>?_);refine zj ?_;unfold zki at h;refine jr (ra 0 [.rc zd [0] x] rfl (zbL 11 [.sl za [0] x.Values,.sl Rp.str [0] x.Unknown] [0] rfl rfl rfl (by rw [zi]<;>rfl) rfl) rfl rf) (jp (jp (zq ?_)));obtain ⟨q2,u0,h⟩:=bnd h;refine zW (fun s:(Int×Int)=>zen most xa x s.1 s.2) (fun s=>⟨[(1,kI most),(5,kI s.1),(11,.sl za [0] x.Values),(12,kI (x.Values.length:Int)),(13,kI s.2)],[]⟩) (fun o e a w=>match o with| (.inl v_)=>e= .exit 0/\Sx ⟨⟨40,[]⟩,Xt,false,#[]⟩ ⟨[(5,kI v_)],[]⟩ a w| (.inr v_)=>e= .ret/\Sx ⟨⟨40,[]⟩,Xt,false,#[]⟩ ⟨[(4,kI v_)],[]⟩ a w) ?_ u0 lzz ?_
 ·clear h;intro s o h;obtain ⟨deep,v⟩:=s;refine zj ?_;replace h:zen most xa x deep v=some o:=h;unfold zen at h;refine jp (jI h (fun uC h=>?_) fun uC h=>?_)
  ·refine zq ?_;obtain ⟨x2,uP,h⟩:=bnd h;refine jr (ra 0 [.sl za [0] x.Values,kI v] rfl (zP rfl zkj.el (zw _ _ _) uP) rfl (ra 0 [.ep za [0] x2 0] rfl (zcM rfl ⟨Tryz.isAgg57,Tryz.sizeOf57⟩) rfl (ral 1 [13] [.ptr 13 0,.rc za [0] x2] rfl (zio (r:=za) (b:=⟨13,57,[kI 0,kN,kN,kN]⟩) (off:=0) [kI x2.Number,.sl (Rp.int .u64) [0] x2.Words,.sl Rp.str [0] x2.Texts,.sl zd [0] x2.Subs] rfl Tryz.sizeOf57 rfl rfl (by rw [zk]<;>rfl) rfl) rfl rf))) (jp (zq ?_));obtain ⟨q,uJ,h⟩:=bnd h;refine zW (fun s:(Int×Int)=>zeo most xa x2 s.1 s.2) (fun s=>⟨[(1,kI most),(5,kI s.1),(11,.sl za [0] x.Values),(12,kI (x.Values.length:Int)),(13,kI v),(18,.sl zd [0] x2.Subs),(19,kI (x2.Subs.length:Int)),(20,kI s.2)],[]⟩) (fun o e a w=>match o with| (.inl v_)=>e= .exit 2/\Sx ⟨⟨40,[]⟩,Xt,false,#[]⟩ ⟨[(1,kI most),(5,kI v_),(11,.sl za [0] x.Values),(12,kI (x.Values.length:Int)),(13,kI v)],[]⟩ a w| (.inr v_)=>e= .ret/\Sx ⟨⟨40,[]⟩,Xt,false,#[]⟩ ⟨[(4,kI v_)],[]⟩ a w) ?_ uJ lzz ?_
   ·clear h;intro s o h;obtain ⟨deep3,v3⟩:=s;refine zj ?_;replace h:zeo most xa x2 deep3 v3=some o:=h;unfold zeo at h;refine jp (jI h (fun uD h=>?_) fun uD h=>?_)
    ·refine zq ?_;obtain ⟨x3,uW,h⟩:=bnd h;refine jr (ra 0 [.sl zd [0] x2.Subs,kI v3] rfl (zP rfl zkk.el (zw _ _ _) uW) rfl (ra 0 [.ep zd [0] x3 0] rfl (zcM rfl ⟨Tryz.isAgg27,Tryz.sizeOf27⟩) rfl (ral 1 [15] [.ptr 15 0,.rc zd [0] x3] rfl (zio (r:=zd) (b:=⟨15,27,[kN,kN]⟩) (off:=0) [.sl za [0] x3.Values,.sl Rp.str [0] x3.Unknown] rfl Tryz.sizeOf27 rfl rfl (by rw [zi]<;>rfl) rfl) rfl rf))) (jp (jI h (fun uE h=>?_) fun uE h=>?_))
     ·refine jp ?_;cases h;exact zaK lzz
     obtain ⟨rv,uF,h⟩:=bnd h;refine jr (rc 4 rfl (zx.le (ins':=[(.tmp 27,.ag [.sl za [0] x3.Values,.sl Rp.str [0] x3.Unknown]),(.tmp 29,kI (IntKind.i64.wrap (most - 1)))]) (zR (args:=[.tmp 27,.tmp 29]) [.rc zd [0] x3,kI (IntKind.i64.wrap (most - 1))] [0] 14 rfl Tryz.call128 (wc uF) rfl rfl rfl rfl rfl) ⟨⟨rfl,zT zd [0] x3 [.sl za [0] x3.Values,.sl Rp.str [0] x3.Unknown] (by rw [zi]<;>rfl) rfl⟩,⟨rfl,AV.le_refl _⟩,trivial⟩) rf) (jp (jI h (fun uI h=>?_) fun uI h=>?_))
     ·refine jp ?_;cases h;exact zaK lzz
     refine zQ (jp ?_);cases h;exact zD lzz
    cases h;exact zX rfl lzz
   rcases q with u| u2
   ·refine zaj _ rfl (zQ (jp ?_));cases h;exact zD lzz
   cases h;exact zyT lzz
  cases h;exact zX rfl lzz
 rcases q2 with u3| u4
 ·refine zaj _ rfl (jp ?_);obtain rfl:=(sj h);exact zt lzz
 obtain rfl:=(sj h);exact zcN lzz
theorem zxq (h:zhe uO x most=some r):FnOk Tryz.prog 128 [.rc zd [0] x,kI most] [kI r]:=by
  induction uO generalizing x most r with
  | zero=>exact absurd h nofun
  | succ uO ih=>exact zwW (fun hh=>ih hh) h
theorem zqM (h:zgT f v=some r):FnOk Tryz.prog 130 [.rc zf [0] f,.ep (Rp.int .i64) [0] v 0] [kB r]:=by
 refine zu (E:=⟨[(3,kB r)],[]⟩) 8 Tryz.func130 rfl rfl rfl ⟨rfl,trivial⟩ (fun Xt=>?_);refine zj ?_;unfold zgT at h;refine jq [11] (jp ?_);cases h;exact zt lzz
theorem zqR (h:zgV v=some r):FnOk Tryz.prog 123 [.rc za [0] v] [kI r]:=by
 refine zu (E:=⟨[(2,kI r)],[]⟩) 14 Tryz.func123 rfl rfl rfl ⟨rfl,trivial⟩ (fun Xt=>?_);refine zj ?_;unfold zgV at h;refine jr (ra 0 [.rc za [0] v] rfl (zbL 11 [kI v.Number,.sl (Rp.int .u64) [0] v.Words,.sl Rp.str [0] v.Texts,.sl zd [0] v.Subs] [0] rfl rfl rfl (by rw [zk]<;>rfl) rfl) rfl rf) (jp ?_);cases h;exact zt lzz
theorem zBo (h:ztv c=some r):FnOk Tryz.prog 232 [k8 c] [kI r.1,.lf (.int .u32 r.2)]:=by
 refine zu (E:=⟨[(2,kI r.1),(3,.lf (.int .u32 r.2))],[]⟩) 31 Tryz.func232 rfl rfl rfl ⟨rfl,rfl,trivial⟩ (fun Xt=>?_);refine zj ?_;unfold ztv at h;refine jp (zq (jr (ra 1 [k8 c,kU 7] rfl (znQ rfl rfl) rfl rf) (jI h (fun uC h=>?_) fun uC h=>?_)))
 ·refine jp ?_;cases h;exact zt lzz
 refine jr (ra 1 [k8 c,kU 5] rfl (znQ rfl rfl) rfl rf) (jI h (fun uD h=>?_) fun uD h=>?_)
 ·refine jp ?_;cases h;exact zt lzz
 refine jr (ra 1 [k8 c,kU 4] rfl (znQ rfl rfl) rfl rf) (jI h (fun uE h=>?_) fun uE h=>?_)
 ·refine jp ?_;cases h;exact zt lzz
 refine jr (ra 1 [k8 c,kU 3] rfl (znQ rfl rfl) rfl rf) (jI h (fun uI h=>?_) fun uI h=>?_)
 ·refine jp ?_;cases h;exact zt lzz
 refine zQ (jp ?_);cases h;exact zt lzz
theorem zBn (h:zoE wv=some r):FnOk Tryz.prog 233 [.lf (.int .u32 wv)] [kI r]:=by
 refine zu (E:=⟨[(2,kI r)],[]⟩) 22 Tryz.func233 rfl rfl rfl ⟨rfl,trivial⟩ (fun Xt=>?_);refine zj ?_;unfold zoE at h;refine jp (zq (jr (ra 1 [.lf (.int .u32 wv),kU 7] rfl (znQ rfl rfl) rfl rf) (jI h (fun uC h=>?_) fun uC h=>?_)))
 ·refine jp ?_;cases h;exact zt lzz
 refine jr (ra 1 [.lf (.int .u32 wv),kU 11] rfl (znQ rfl rfl) rfl rf) (jI h (fun uD h=>?_) fun uD h=>?_)
 ·refine jp ?_;cases h;exact zt lzz
 refine jr (ra 1 [.lf (.int .u32 wv),kU 11] rfl (znQ rfl rfl) rfl rf) (jI h (fun uE h=>?_) fun uE h=>?_)
 ·refine jp ?_;cases h;exact zt lzz
 refine jr (ra 1 [.lf (.int .u32 wv),kU 16] rfl (znQ rfl rfl) rfl rf) (jI h (fun uI h=>?_) fun uI h=>?_)
 ·refine jp ?_;cases h;exact zt lzz
 refine jp (jI h (fun uL h=>?_) fun uL h=>?_)
 ·refine jp ?_;cases h;exact zt lzz
 refine zQ (jp ?_);cases h;exact zt lzz
theorem zrH (h:zkx wv=some r):FnOk Tryz.prog 184 [kU wv] [.lf (.int .u32 r)]:=by
 refine zu (E:=⟨[(2,.lf (.int .u32 r))],[]⟩) 5 Tryz.func184 rfl rfl rfl ⟨rfl,trivial⟩ (fun Xt=>?_);refine zj ?_;unfold zkx at h;refine jp (jp ?_);cases h;exact zt lzz
theorem zvz (h:zkU n=some r):FnOk Tryz.prog 182 [.lf (.int .i32 n)] [kU r]:=by
 refine zu (E:=⟨[(2,kU r)],[]⟩) 6 Tryz.func182 rfl rfl rfl ⟨rfl,trivial⟩ (fun Xt=>?_);refine zj ?_;unfold zkU at h;refine jp (jp ?_);cases h;exact zt lzz
theorem zxj (h:zoZ wv=some r):FnOk Tryz.prog 185 [kU wv] [kU r]:=by
 refine zu (E:=⟨[(2,kU r)],[]⟩) 5 Tryz.func185 rfl rfl rfl ⟨rfl,trivial⟩ (fun Xt=>?_);refine zj ?_;unfold zoZ at h;refine jp (jp ?_);cases h;exact zt lzz
theorem zmH (h:zhJ b=some r):FnOk Tryz.prog 186 [.sl Rp.byte [0] b] [kU r.1,kI r.2.1,k8 r.2.2]:=by
 refine zu (E:=⟨[(2,kU r.1),(3,kI r.2.1),(4,k8 r.2.2)],[]⟩) 38 Tryz.func186 rfl rfl rfl ⟨rfl,rfl,rfl,trivial⟩ (fun Xt=>?_);refine zj ?_;unfold zhJ at h;refine jp ?_;obtain ⟨v,uZ,h⟩:=bnd h;refine jr (ra 4 [.sl Rp.byte [0] b,kI (if (10:Int)<(b.length:Int) then 10 else (b.length:Int))] rfl (zlw none (some (kI (if (10:Int)<(b.length:Int) then 10 else (b.length:Int)))) rfl zir.el (zw _ _ _) ⟨rfl,rfl⟩ ⟨rfl,rfl⟩ uZ) rfl rf) (zq ?_);obtain ⟨q,uJ,h⟩:=bnd h;refine zW (fun s:(Int×Int)=>zde v s.1 s.2) (fun s=>⟨[(2,kU s.1),(11,.sl Rp.byte [0] v),(12,kI (v.length:Int)),(13,kI s.2)],[]⟩) (fun o e a w=>match o with| (.inl v_)=>e= .exit 0/\Sx ⟨⟨38,[]⟩,Xt,false,#[]⟩ ⟨[],[]⟩ a w| (.inr v_)=>e= .ret/\Sx ⟨⟨38,[]⟩,Xt,false,#[]⟩ ⟨[(2,kU v_.1),(3,kI v_.2.1),(4,k8 v_.2.2)],[]⟩ a w) ?_ uJ lzz ?_
 ·clear h;intro s o h;obtain ⟨wv,v2⟩:=s;refine zj ?_;replace h:zde v wv v2=some o:=h;unfold zde at h;refine jp (jI h (fun uC h=>?_) fun uC h=>?_)
  ·refine zq ?_;obtain ⟨x,uM,h⟩:=bnd h;refine jr (ra 1 [.sl Rp.byte [0] v,kI v2] rfl (zP rfl zir.el (zw _ _ _) uM) rfl rf) (zO ⟨[(2,kU wv),(5,kI v2),(6,k8 (x.toNat:Int)),(11,.sl Rp.byte [0] v),(12,kI (v.length:Int)),(13,kI v2),(23,kB ((v2==9)&&(decide ((x.toNat:Int)>1))))],[]⟩ ?_ ?_)
   ·refine (rsl 3 [] 20 (v2==9) (fun uD=>?_) (fun uD=>?_))
    · exact (rbl [] 23 (decide ((x.toNat:Int)>1)) rfl (by rw [uD]<;>rfl))
    exact (rbl [] 23 false rfl (by rw [uD]<;>rfl))
   refine jI h (fun uE h=>?_) fun uE h=>?_
   ·refine jp ?_;cases h;exact zaK lzz
   obtain ⟨v4,vq,h⟩:=bnd h;refine jr (ra 6 [kU (IntKind.u64.wrap (andI .u8 (x.toNat:Int) 127)),kI (IntKind.i64.wrap (7*v2))] rfl (zGg rfl vq) rfl rf) (jp (jI h (fun uI h=>?_) fun uI h=>?_))
   ·refine jp ?_;cases h;exact zaK lzz
   refine zQ (jp ?_);cases h;exact zD lzz
  cases h;exact zX rfl lzz
 rcases q with u| u2
 ·refine zaj _ rfl (jp ?_);cases h;exact zt lzz
 cases h;exact zcN lzz
theorem zui (h:zjv wire=some r):FnOk Tryz.prog 215 [kI wire] [kB r]:=by
 refine zu (E:=⟨[(2,kB r)],[]⟩) 9 Tryz.func215 rfl rfl rfl ⟨rfl,trivial⟩ (fun Xt=>?_);refine zj ?_;unfold zjv at h;refine jp (jp (zq (jp (jI h (fun uC h=>?_) fun uC h=>?_))))
 ·refine jI h (fun uD h=>?_) fun uD h=>?_
  ·refine jp ?_;obtain rfl:=(sj h);exact zt lzz
  refine zQ (jp ?_);obtain rfl:=(sj h);exact zt lzz
 refine jp (jI h (fun uE h=>?_) fun uE h=>?_)
 ·refine jI h (fun uI h=>?_) fun uI h=>?_
  ·refine jp ?_;obtain rfl:=(sj h);exact zt lzz
  refine zQ (jp ?_);obtain rfl:=(sj h);exact zt lzz
 refine jp (jI h (fun uL h=>?_) fun uL h=>?_)
 ·refine jI h (fun uN h=>?_) fun uN h=>?_
  ·refine jp ?_;obtain rfl:=(sj h);exact zt lzz
  refine zQ (jp ?_);obtain rfl:=(sj h);exact zt lzz
 refine jp (jI h (fun uS h=>?_) fun uS h=>?_)
 ·refine jp ?_;obtain rfl:=(sj h);exact zt lzz
 refine zQ (jp ?_);obtain rfl:=(sj h);exact zt lzz
end Go.Proofs.YtekgmimingolbaaGreat

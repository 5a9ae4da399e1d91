/-
  The Go functions do what the plain functions say. No condition.
-/
import Derived.Test.YtekgmimingolbaaGreatx2T
import Derived.Test.YtekgmimingolbaaGreatx2Y
set_option autoImplicit true
set_option relaxedAutoImplicit true
namespace Go.Proofs.YtekgmimingolbaaGreat
open Go Go.RowKit
set_option linter.unusedVariables false
set_option maxRecDepth 100000
set_option maxHeartbeats 3200000
theorem zoy (h:zjG x=some r):FnOk Tryz.prog 138 [kI x] [kB r]:=by
 refine zu (E:=⟨[(2,kB r)],[]⟩) 6 Tryz.func138 rfl rfl rfl ⟨rfl,trivial⟩ (fun Xt=>?_);refine zk ?_;unfold zjG at h;refine jp (jp ?_);cases h;exact zo lzz
theorem zob (h:zeJ s1 s2=some r):FnOk Tryz.prog 134 [.sl (Rp.int .i64) [0] s1,.sl (Rp.int .i64) [0] s2] [kB r]:=by
 refine zu (E:=⟨[(4,kB r)],[]⟩) 26 Tryz.func134 rfl rfl rfl ⟨rfl,trivial⟩ (fun Xt=>?_);refine zk ?_;unfold zeJ at h;refine jp (jp (jI h (fun uQ h=>?_) fun uQ h=>?_))
 ·refine jp ?_;obtain rfl:=(sj h);exact zo lzz
 refine jp (zp ?_);obtain ⟨q,uU,h⟩:=bnd h;refine zab (fun s:Int=>zau s1 s2 s) (fun s=>⟨[(0,.sl (Rp.int .i64) [0] s1),(1,.sl (Rp.int .i64) [0] s2),(12,kI (s1.length:Int)),(13,kI s)],[]⟩) (fun o e a w=>match o with| (.inl v_)=>e= .exit 0/\Sx ⟨⟨26,[]⟩,Xt,false,#[]⟩ ⟨[],[]⟩ a w| (.inr v_)=>e= .ret/\Sx ⟨⟨26,[]⟩,Xt,false,#[]⟩ ⟨[(4,kB false)],[]⟩ a w) ?_ uU lzz ?_
 ·clear h;intro v o h;refine zk ?_;replace h:zau s1 s2 v=some o:=h;unfold zau at h;refine jp (jI h (fun uR h=>?_) fun uR h=>?_)
  ·refine zp (jp ?_);obtain ⟨x,u0,h⟩:=bnd h;obtain ⟨x2,va,h⟩:=bnd h;refine jd [0,1,12,13,24] [] zaU (by exact (lw_e (lw_e (ly [.sl (Rp.int .i64) [0] s1,kI v] (zW rfl zgJ.el (zy _ _ _) u0) rfl (lw_e (lw_e (lw_e (ly [.sl (Rp.int .i64) [0] s2,kI v] (zW rfl zgJ.el (zy _ _ _) va) rfl l0)))))))) (jI h (fun uT h=>?_) fun uT h=>?_)
   ·refine jp ?_;cases h;exact zaN lzz
   refine zV (jp ?_);cases h;exact zD lzz
  cases h;exact zaa rfl lzz
 rcases q with u| u2
 ·refine zan _ rfl (jp ?_);obtain rfl:=(sj h);exact zo lzz
 obtain rfl:=(sj h);exact zcJ lzz
theorem zoa (h:zeI sv=some r):FnOk Tryz.prog 102 [.sl (Rp.int .i64) [0] sv] [.own (Rp.int .i64) 3 2 [] r]:=by
 refine zu (E:=⟨[(2,.own (Rp.int .i64) 3 2 [] r)],[]⟩) 8 Tryz.func102 rfl rfl rfl ⟨rfl,trivial⟩ (fun Xt=>?_);refine zk ?_;unfold zeI at h;refine jp ?_;have hn1:=zpT h;refine zrW 1 4 true ⟨[(0,.sl (Rp.int .i64) [0] sv),(3,.sl (Rp.int .i64) [0] sv)],[]⟩ ⟨[(0,.sl (Rp.int .i64) [0] sv),(4,kB true)],[]⟩ ⟨[(0,.sl (Rp.int .i64) [0] sv),(4,kB false)],[]⟩ (by kernel_rfl) rfl rfl rfl (by kernel_rfl) rfl Tryz.underlying53 rfl (zy _ _ _) (by kernel_rfl) (by kernel_rfl) (fun hx_=>?_) ?_
 ·replace h:=hn1.1 hx_;refine jT rfl (jp ?_);cases h;exact zo (zaq ⟨[(2,kN)],[]⟩ (by kernel_rfl) (zdB 2 (.own (Rp.int .i64) 3 2 [] ([]:(List Int))) rfl (zaL (Rp.int .i64) 3 2 [] rfl) lzz))
 replace h:=hn1.2;refine jF rfl ?_;obtain ⟨v,vf,h⟩:=bnd h;refine jr (rc 0 rfl (zbZ [] 12 [] ([]:(List Int)) rfl zgJ rfl rfl rfl rfl) (ra 1 [.own (Rp.int .i64) 3 12 [] ([]:(List Int)),.sl (Rp.int .i64) [0] sv] rfl (zhp 12 [] rfl zgJ.el rfl (zcY _ _ _ _ _) (zy _ _ _) vf (.inl (zwd _)) rfl) rfl rf)) ?_;obtain rfl:=(sj h);exact zo (lk [2] [] 12 2 lzz)
theorem zkO (v:(List (List Int))):ItOk Tryz.prog 105 [.ep (Rp.list (Rp.list (Rp.int .i64))) [0] v 0] (fun x:(List Int)=>[.sl (Rp.int .i64) [0] x]) (fun {σ:Type} (kf:Rnd σ (List Int)) (sg:σ)=>zbl v kf sg):=by
 refine zDq 16 [(1,.ep (Rp.list (Rp.list (Rp.int .i64))) [0] v 0)] [] Tryz.func105 rfl rfl rfl rfl (.ep (Rp.list (Rp.list (Rp.int .i64))) [0] v (.nil _)) ?_;intro σ kf sg s1 h l I hI F_ hT;replace h:zbl v kf sg=some s1:=h;refine zk (ztB (E':=⟨[(0,.lf (.val (.func (.yield l) #[] #[]))),(1,.ep (Rp.list (Rp.list (Rp.int .i64))) [0] v 0)],[]⟩) (fun _ _ _ hs=>hs) ?_);unfold zbl at h;refine jr (ra 0 [.ep (Rp.list (Rp.list (Rp.int .i64))) [0] v 0] rfl (zeR (Rp.list (Rp.int .i64)) v rfl rfl rfl) rfl rf) (zp ?_);obtain ⟨q,uU,h⟩:=bnd h;refine zDs (fun s:(Int×σ)=>zah kf v s.1 s.2) (fun s=>⟨⟨16,[]⟩,itX I hI F_ s.2,false,#[]⟩) (fun s=>⟨[(0,.lf (.val (.func (.yield l) #[] #[]))),(5,.sl (Rp.list (Rp.int .i64)) [0] v),(6,kI (v.length:Int)),(7,kI s.1)],[]⟩) (fun o e a w=>match o with| (.inl v_)=>e= .exit 0/\Sx ⟨⟨16,[]⟩,itX I hI F_ v_,false,#[]⟩ ⟨[],[]⟩ a w| (.inr v_)=>e= .ret/\Sx ⟨⟨16,[]⟩,itX I hI F_ v_,false,#[]⟩ ⟨[],[]⟩ a w) ?_ uU rfl lzz ?_
 ·clear h;intro s o h;obtain ⟨v2,sg2⟩:=s;refine zk ?_;replace h:zah kf v v2 sg2=some o:=h;unfold zah at h;refine jp (jI h (fun uQ h=>?_) fun uQ h=>?_)
  ·refine zp ?_;obtain ⟨x,u0,h⟩:=bnd h;refine jr (ra 0 [.sl (Rp.list (Rp.int .i64)) [0] v,kI v2] rfl (zW rfl zmP.el (zy _ _ _) u0) rfl (ra 0 [.ep (Rp.list (Rp.int .i64)) [0] x 0] rfl (zeR (Rp.int .i64) x rfl rfl rfl) rfl rf)) ?_;obtain ⟨y,vP,h⟩:=bnd h;refine zDu (E':=⟨[(0,.lf (.val (.func (.yield l) #[] #[]))),(5,.sl (Rp.list (Rp.int .i64)) [0] v),(6,kI (v.length:Int)),(7,kI v2),(14,kB (!y.1))],[]⟩) (x:=x) (b:=y.1) (s':=y.2) 2 (some 13) [.tmp 12] [.sl (Rp.int .i64) [0] x] [.sl (Rp.int .i64) [0] x] ⟨[(0,.lf (.val (.func (.yield l) #[] #[]))),(5,.sl (Rp.list (Rp.int .i64)) [0] v),(6,kI (v.length:Int)),(7,kI v2),(11,.lf (.val (.func (.yield l) #[] #[]))),(12,.sl (Rp.int .i64) [0] x)],[]⟩ hT rfl rfl rfl rfl rfl rgg rfl ⟨rfl,trivial⟩ rfl ⟨AV.le_refl _,trivial⟩ rfl rfl vP rgg (jI h (fun uR h=>?_) fun uR h=>?_)
   ·cases h;exact zaN lzz
   refine zV (jp ?_);cases h;exact zD lzz
  cases h;exact zaa rfl lzz
 rcases q with u| u2
 ·refine zan _ rfl ?_;cases h;exact zJk lzz
 cases h;exact zJt lzz
theorem ztX (h:zhu t way=some r):FnOk Tryz.prog 72 [.mp zbe (Rp.int .i64) [0] t,.sl (Rp.int .i64) [0] way] [kB r]:=by
 refine zu (E:=⟨[(4,kB r)],[]⟩) 30 Tryz.func72 rfl rfl rfl ⟨rfl,trivial⟩ (fun Xt=>?_);refine zk ?_;unfold zhu at h;refine jp (jp (jp (zp ?_)));obtain ⟨q,uU,h⟩:=bnd h;refine zab (fun s:(Int×Int)=>zbk t way s.1 s.2) (fun s=>⟨[(0,.mp zbe (Rp.int .i64) [0] t),(5,kI s.1),(10,.sl (Rp.int .i64) [0] way),(11,kI (way.length:Int)),(12,kI s.2)],[]⟩) (fun o e a w=>match o with| (.inl v_)=>e= .exit 0/\Sx ⟨⟨30,[]⟩,Xt,false,#[]⟩ ⟨[],[]⟩ a w| (.inr v_)=>e= .ret/\Sx ⟨⟨30,[]⟩,Xt,false,#[]⟩ ⟨[(4,kB v_)],[]⟩ a w) ?_ uU lzz ?_
 ·clear h;intro s o h;obtain ⟨place,v⟩:=s;refine zk ?_;replace h:zbk t way place v=some o:=h;unfold zbk at h;refine jp (jI h (fun uQ h=>?_) fun uQ h=>?_)
  ·refine zp ?_;obtain ⟨x,u0,h⟩:=bnd h;refine jr (ra 0 [.sl (Rp.int .i64) [0] way,kI v] rfl (zW rfl zgJ.el (zy _ _ _) u0) rfl rf) (jr (ra 3 [kI place,kI x] rfl (zAE (r:=zbe) [kI place,kI x] [] (⟨place,x⟩:zak) rfl zIx rfl rfl) rfl (ra 0 [.mp zbe (Rp.int .i64) [0] t,.rc zbe [] (⟨place,x⟩:zak)] rfl (zJJ (rk:=zbe) (rv:=(Rp.int .i64)) (m:=t) (k:=(⟨place,x⟩:zak)) (kI ((mget t (⟨place,x⟩:zak)).getD 0)) rfl ztb (zuO _ _ _ _) (zdJ rfl) (zqA rfl rfl rfl)) rfl rf)) (jp (jI h (fun uR h=>?_) fun uR h=>?_)))
   ·refine jp ?_;cases h;exact zaN lzz
   refine jp (jI h (fun uT h=>?_) fun uT h=>?_)
   ·refine jp ?_;cases h;exact zaN lzz
   refine jp (zV (jp ?_));cases h;exact zD lzz
  cases h;exact zaa rfl lzz
 rcases q with u| u2
 ·refine zan _ rfl (jp ?_);obtain rfl:=(sj h);exact zo lzz
 obtain rfl:=(sj h);exact zcJ lzz
theorem zxc (h:zlt t way=some r):zpx Tryz.prog 73 [.om zbe (Rp.int .i64) 2 [0] t,.sl (Rp.int .i64) [0] way] [] [.om zbe (Rp.int .i64) 2 [0] r,.any]:=by
 refine zvP (E:=⟨[(0,.om zbe (Rp.int .i64) 2 [0] r)],[]⟩) 38 [0] Tryz.func73 rfl rfl rfl trivial ⟨.inr ⟨rfl,rfl⟩,.inl rfl,trivial⟩ rfl (fun Xt old=>?_);refine zk ?_;unfold zlt at h;refine jp (jq [11] (jp (zp ?_)));obtain ⟨q,uU,h⟩:=bnd h;refine zab (fun s:((List (zak×Int))×Int×Int×Int×Int)=>zcp way s.1 s.2.1 s.2.2.1 s.2.2.2.1 s.2.2.2.2) (fun s=>⟨[(0,.om zbe (Rp.int .i64) 2 [0] s.1),(4,kI s.2.1),(5,.ptr 11 0),(10,.sl (Rp.int .i64) [0] way),(11,kI (way.length:Int)),(12,kI s.2.2.1)],[⟨11,156,[kI s.2.2.2.1,kI s.2.2.2.2]⟩]⟩) (fun o e a w=>e= .exit 0/\Sx ⟨⟨38,[0]⟩,Xt,false,old⟩ ⟨[(0,.om zbe (Rp.int .i64) 2 [0] o.1),(5,.ptr 11 0)],[⟨11,156,[kI o.2.1,kI o.2.2]⟩]⟩ a w) ?_ uU lzz ?_
 ·clear h;intro s o h;obtain ⟨t2,place,v,f,f2⟩:=s;refine zk ?_;replace h:zcp way t2 place v f f2=some o:=h;unfold zcp at h;refine jp (jI h (fun uQ h=>?_) fun uQ h=>?_)
  ·refine zp ?_;obtain ⟨x,u0,h⟩:=bnd h;refine jr (ra 0 [.sl (Rp.int .i64) [0] way,kI v] rfl (zW rfl zgJ.el (zy _ _ _) u0) rfl rf) (jr (ra 2 [kI place,kI x] rfl (zAE (r:=zbe) [kI place,kI x] [] (⟨place,x⟩:zak) rfl zIx rfl rfl) rfl rf) (jr (lb 1 zbe [] (⟨place,x⟩:zak) (ra 0 [.om zbe (Rp.int .i64) 2 [0] t2,.rc zbe [] (⟨place,x⟩:zak)] rfl (zsZ (rk:=zbe) (rv:=(Rp.int .i64)) (m:=t2) (k:=(⟨place,x⟩:zak)) (kI ((mget t2 (⟨place,x⟩:zak)).getD 0)) rfl ztb (zdJ rfl) (zqA rfl rfl rfl)) rfl rf)) (jp (jI h (fun uR h=>?_) fun uR h=>?_))))
   ·refine jr (lb 1 zbe [] (⟨place,x⟩:zak) (ra 1 [.om zbe (Rp.int .i64) 2 [0] t2] rfl (zGG (rk:=zbe) (rv:=(Rp.int .i64)) (m:=t2) rfl Tryz.underlying118 (zGs _ _ _ _ _)) rfl (rkl 1 [] ⟨[(0,.om zbe (Rp.int .i64) 2 [0] t2),(5,.ptr 11 0),(10,.sl (Rp.int .i64) [0] way),(11,kI (way.length:Int)),(12,kI v),(27,.om zbe (Rp.int .i64) 2 [0] t2),(28,.rc zbe [] (⟨place,x⟩:zak)),(31,kI (IntKind.i64.wrap ((t2.length:Int)+1)))],[⟨11,156,[kI place,kI x]⟩]⟩ (zlx ⟨[(0,.om zbe (Rp.int .i64) 2 [0] (mput t2 (⟨place,x⟩:zak) (IntKind.i64.wrap ((t2.length:Int)+1)))),(5,.ptr 11 0),(10,.sl (Rp.int .i64) [0] way),(11,kI (way.length:Int)),(12,kI v),(27,.om zbe (Rp.int .i64) 2 [0] (mput t2 (⟨place,x⟩:zak) (IntKind.i64.wrap ((t2.length:Int)+1)))),(28,.rc zbe [] (⟨place,x⟩:zak)),(31,kI (IntKind.i64.wrap ((t2.length:Int)+1)))],[⟨11,156,[kI place,kI x]⟩]⟩ (ztk (rk:=zbe) (rv:=(Rp.int .i64)) (m:=t2) (ℓ:=2) (C:=[0]) (C1:=[]) (D:=[]) (⟨place,x⟩:zak) (IntKind.i64.wrap ((t2.length:Int)+1)) [0] ztb (.inl rfl) (zdJ rfl) (zdu rfl rfl) rfl) rfl (by kernel_rfl) (by kernel_rfl) ⟨⟨_,rfl,zhQ 0 rfl⟩,⟨_,rfl,zX rfl⟩,⟨_,rfl,zX rfl⟩,⟨_,rfl,zX rfl⟩,⟨_,rfl,zX rfl⟩,⟨_,rfl,zhQ 0 rfl⟩,⟨_,rfl,zX rfl⟩,⟨_,rfl,zX rfl⟩,trivial⟩ ⟨⟨_,rfl,rfl,rfl,⟨zX rfl,zX rfl,trivial⟩⟩,trivial⟩ rf)))) (jr (lb 1 zbe [] (⟨place,x⟩:zak) (ra 0 [.om zbe (Rp.int .i64) 2 [0] (mput t2 (⟨place,x⟩:zak) (IntKind.i64.wrap ((t2.length:Int)+1))),.rc zbe [] (⟨place,x⟩:zak)] rfl (zpO (rk:=zbe) (rv:=(Rp.int .i64)) (m:=(mput t2 (⟨place,x⟩:zak) (IntKind.i64.wrap ((t2.length:Int)+1)))) (k:=(⟨place,x⟩:zak)) (kI ((mget (mput t2 (⟨place,x⟩:zak) (IntKind.i64.wrap ((t2.length:Int)+1))) (⟨place,x⟩:zak)).getD 0)) rfl ztb (zdJ rfl) (zqA rfl rfl rfl)) rfl rf)) (zV (jp ?_)));cases h;exact zD lzz
   refine jr (lb 1 zbe [] (⟨place,x⟩:zak) (ra 0 [.om zbe (Rp.int .i64) 2 [0] t2,.rc zbe [] (⟨place,x⟩:zak)] rfl (zpO (rk:=zbe) (rv:=(Rp.int .i64)) (m:=t2) (k:=(⟨place,x⟩:zak)) (kI ((mget t2 (⟨place,x⟩:zak)).getD 0)) rfl ztb (zdJ rfl) (zqA rfl rfl rfl)) rfl rf)) (zV (jp ?_));cases h;exact zD lzz
  cases h;exact zaa rfl lzz
 refine zan _ rfl (jr (lb 1 zbe [] (⟨q.2.1,q.2.2⟩:zak) (rkl 0 [] ⟨[(0,.om zbe (Rp.int .i64) 2 [0] q.1),(36,.om zbe (Rp.int .i64) 2 [0] q.1),(37,.rc zbe [] (⟨q.2.1,q.2.2⟩:zak))],[]⟩ (zlx ⟨[(0,.om zbe (Rp.int .i64) 2 [0] (mput q.1 (⟨q.2.1,q.2.2⟩:zak) (-1))),(36,.om zbe (Rp.int .i64) 2 [0] (mput q.1 (⟨q.2.1,q.2.2⟩:zak) (-1))),(37,.rc zbe [] (⟨q.2.1,q.2.2⟩:zak))],[]⟩ (ztk (rk:=zbe) (rv:=(Rp.int .i64)) (m:=q.1) (ℓ:=2) (C:=[0]) (C1:=[]) (D:=[]) (⟨q.2.1,q.2.2⟩:zak) (-1) [0] ztb (.inl rfl) (zdJ rfl) (zdu rfl rfl) rfl) rfl (by kernel_rfl) (by kernel_rfl) ⟨⟨_,rfl,zhQ 0 rfl⟩,⟨_,rfl,zhQ 0 rfl⟩,⟨_,rfl,zX rfl⟩,trivial⟩ trivial rf))) ?_);cases h;exact zMV lzz
theorem zfA (h:zbm x=some r):zpx Tryz.prog 104 [.own (Rp.list (Rp.int .i64)) 53 2 [0] x,.lf (.val (.func (.func 71) #[] #[]))] [] [.own (Rp.list (Rp.int .i64)) 53 2 [0] r,.any]:=zIc zNh (enters_of Tryz.func71 (by kernel_rfl) rfl) zMR 53 h
abbrev zJv:=(mput ([]:(List (Int×zx))) 1 (⟨[105,110,116,51,50],0⟩:zx))
abbrev zJw:=(mput zJv 2 (⟨[105,110,116,54,52],0⟩:zx))
abbrev zJx:=(mput zJw 3 (⟨[117,105,110,116,51,50],0⟩:zx))
abbrev zJy:=(mput zJx 4 (⟨[117,105,110,116,54,52],0⟩:zx))
abbrev zJz:=(mput zJy 5 (⟨[115,105,110,116,51,50],0⟩:zx))
abbrev zJA:=(mput zJz 6 (⟨[115,105,110,116,54,52],0⟩:zx))
abbrev zJB:=(mput zJA 7 (⟨[98,111,111,108],0⟩:zx))
abbrev zJC:=(mput zJB 8 (⟨[101,110,117,109],0⟩:zx))
abbrev zJD:=(mput zJC 9 (⟨[102,105,120,101,100,51,50],5⟩:zx))
abbrev zFg:=(mput zJD 10 (⟨[115,102,105,120,101,100,51,50],5⟩:zx))
abbrev zFh:=(mput zFg 11 (⟨[102,108,111,97,116],5⟩:zx))
abbrev zFi:=(mput zFh 12 (⟨[102,105,120,101,100,54,52],1⟩:zx))
abbrev zFj:=(mput zFi 13 (⟨[115,102,105,120,101,100,54,52],1⟩:zx))
abbrev zFk:=(mput zFj 14 (⟨[100,111,117,98,108,101],1⟩:zx))
abbrev zBC:=(mput zFk 15 (⟨[115,116,114,105,110,103],2⟩:zx))
theorem ztC (h:znN=some r):FnOk Tryz.prog 171 [] [.om (Rp.int .i64) zC 2 [] r]:=by
 refine zu (E:=⟨[(0,.om (Rp.int .i64) zC 2 [] r)],[]⟩) 20 Tryz.func171 rfl rfl rfl ⟨rfl,trivial⟩ (fun Xt=>?_);refine zk ?_;unfold znN at h;refine jp (jr (rc 0 rfl (zuX (rk:=(Rp.int .i64)) (rv:=zC) 12 rfl) (rc 0 rfl (zaF (r:=zC) [kS [105,110,116,51,50],kI 0] [] (⟨[105,110,116,51,50],0⟩:zx) rfl zjL rfl rfl) (rkl 0 [] ⟨[(1,.om (Rp.int .i64) zC 12 [] ([]:(List (Int×zx)))),(2,.rc zC [] (⟨[105,110,116,51,50],0⟩:zx))],[]⟩ (zfX (rk:=(Rp.int .i64)) (rv:=zC) (m:=([]:(List (Int×zx)))) (C:=[]) (C1:=[]) (D:=[]) [1] 1 (⟨[105,110,116,51,50],0⟩:zx) [] zhj rfl (.inr rfl) rfl rfl rfl rfl (zdu rfl rfl) (zdJ rfl) (by kernel_rfl) rfl (rc 0 rfl (zaF (r:=zC) [kS [105,110,116,54,52],kI 0] [] (⟨[105,110,116,54,52],0⟩:zx) rfl zjL rfl rfl) (rkl 0 [] ⟨[(1,.om (Rp.int .i64) zC 12 [] zJv),(3,.rc zC [] (⟨[105,110,116,54,52],0⟩:zx))],[]⟩ (zfX (rk:=(Rp.int .i64)) (rv:=zC) (m:=zJv) (C:=[]) (C1:=[]) (D:=[]) [1] 2 (⟨[105,110,116,54,52],0⟩:zx) [] zhj rfl (.inr rfl) rfl rfl rfl rfl (zdu rfl rfl) (zdJ rfl) (by kernel_rfl) rfl (rc 0 rfl (zaF (r:=zC) [kS [117,105,110,116,51,50],kI 0] [] (⟨[117,105,110,116,51,50],0⟩:zx) rfl zjL rfl rfl) (rkl 0 [] ⟨[(1,.om (Rp.int .i64) zC 12 [] zJw),(4,.rc zC [] (⟨[117,105,110,116,51,50],0⟩:zx))],[]⟩ (zfX (rk:=(Rp.int .i64)) (rv:=zC) (m:=zJw) (C:=[]) (C1:=[]) (D:=[]) [1] 3 (⟨[117,105,110,116,51,50],0⟩:zx) [] zhj rfl (.inr rfl) rfl rfl rfl rfl (zdu rfl rfl) (zdJ rfl) (by kernel_rfl) rfl (rc 0 rfl (zaF (r:=zC) [kS [117,105,110,116,54,52],kI 0] [] (⟨[117,105,110,116,54,52],0⟩:zx) rfl zjL rfl rfl) (rkl 0 [] ⟨[(1,.om (Rp.int .i64) zC 12 [] zJx),(5,.rc zC [] (⟨[117,105,110,116,54,52],0⟩:zx))],[]⟩ (zfX (rk:=(Rp.int .i64)) (rv:=zC) (m:=zJx) (C:=[]) (C1:=[]) (D:=[]) [1] 4 (⟨[117,105,110,116,54,52],0⟩:zx) [] zhj rfl (.inr rfl) rfl rfl rfl rfl (zdu rfl rfl) (zdJ rfl) (by kernel_rfl) rfl (rc 0 rfl (zaF (r:=zC) [kS [115,105,110,116,51,50],kI 0] [] (⟨[115,105,110,116,51,50],0⟩:zx) rfl zjL rfl rfl) (rkl 0 [] ⟨[(1,.om (Rp.int .i64) zC 12 [] zJy),(6,.rc zC [] (⟨[115,105,110,116,51,50],0⟩:zx))],[]⟩ (zfX (rk:=(Rp.int .i64)) (rv:=zC) (m:=zJy) (C:=[]) (C1:=[]) (D:=[]) [1] 5 (⟨[115,105,110,116,51,50],0⟩:zx) [] zhj rfl (.inr rfl) rfl rfl rfl rfl (zdu rfl rfl) (zdJ rfl) (by kernel_rfl) rfl (rc 0 rfl (zaF (r:=zC) [kS [115,105,110,116,54,52],kI 0] [] (⟨[115,105,110,116,54,52],0⟩:zx) rfl zjL rfl rfl) (rkl 0 [] ⟨[(1,.om (Rp.int .i64) zC 12 [] zJz),(7,.rc zC [] (⟨[115,105,110,116,54,52],0⟩:zx))],[]⟩ (zfX (rk:=(Rp.int .i64)) (rv:=zC) (m:=zJz) (C:=[]) (C1:=[]) (D:=[]) [1] 6 (⟨[115,105,110,116,54,52],0⟩:zx) [] zhj rfl (.inr rfl) rfl rfl rfl rfl (zdu rfl rfl) (zdJ rfl) (by kernel_rfl) rfl (rc 0 rfl (zaF (r:=zC) [kS [98,111,111,108],kI 0] [] (⟨[98,111,111,108],0⟩:zx) rfl zjL rfl rfl) (rkl 0 [] ⟨[(1,.om (Rp.int .i64) zC 12 [] zJA),(8,.rc zC [] (⟨[98,111,111,108],0⟩:zx))],[]⟩ (zfX (rk:=(Rp.int .i64)) (rv:=zC) (m:=zJA) (C:=[]) (C1:=[]) (D:=[]) [1] 7 (⟨[98,111,111,108],0⟩:zx) [] zhj rfl (.inr rfl) rfl rfl rfl rfl (zdu rfl rfl) (zdJ rfl) (by kernel_rfl) rfl (rc 0 rfl (zaF (r:=zC) [kS [101,110,117,109],kI 0] [] (⟨[101,110,117,109],0⟩:zx) rfl zjL rfl rfl) (rkl 0 [] ⟨[(1,.om (Rp.int .i64) zC 12 [] zJB),(9,.rc zC [] (⟨[101,110,117,109],0⟩:zx))],[]⟩ (zfX (rk:=(Rp.int .i64)) (rv:=zC) (m:=zJB) (C:=[]) (C1:=[]) (D:=[]) [1] 8 (⟨[101,110,117,109],0⟩:zx) [] zhj rfl (.inr rfl) rfl rfl rfl rfl (zdu rfl rfl) (zdJ rfl) (by kernel_rfl) rfl (rc 0 rfl (zaF (r:=zC) [kS [102,105,120,101,100,51,50],kI 5] [] (⟨[102,105,120,101,100,51,50],5⟩:zx) rfl zjL rfl rfl) (rkl 0 [] ⟨[(1,.om (Rp.int .i64) zC 12 [] zJC),(10,.rc zC [] (⟨[102,105,120,101,100,51,50],5⟩:zx))],[]⟩ (zfX (rk:=(Rp.int .i64)) (rv:=zC) (m:=zJC) (C:=[]) (C1:=[]) (D:=[]) [1] 9 (⟨[102,105,120,101,100,51,50],5⟩:zx) [] zhj rfl (.inr rfl) rfl rfl rfl rfl (zdu rfl rfl) (zdJ rfl) (by kernel_rfl) rfl (rc 0 rfl (zaF (r:=zC) [kS [115,102,105,120,101,100,51,50],kI 5] [] (⟨[115,102,105,120,101,100,51,50],5⟩:zx) rfl zjL rfl rfl) (rkl 0 [] ⟨[(1,.om (Rp.int .i64) zC 12 [] zJD),(11,.rc zC [] (⟨[115,102,105,120,101,100,51,50],5⟩:zx))],[]⟩ (zfX (rk:=(Rp.int .i64)) (rv:=zC) (m:=zJD) (C:=[]) (C1:=[]) (D:=[]) [1] 10 (⟨[115,102,105,120,101,100,51,50],5⟩:zx) [] zhj rfl (.inr rfl) rfl rfl rfl rfl (zdu rfl rfl) (zdJ rfl) (by kernel_rfl) rfl (rc 0 rfl (zaF (r:=zC) [kS [102,108,111,97,116],kI 5] [] (⟨[102,108,111,97,116],5⟩:zx) rfl zjL rfl rfl) (rkl 0 [] ⟨[(1,.om (Rp.int .i64) zC 12 [] zFg),(12,.rc zC [] (⟨[102,108,111,97,116],5⟩:zx))],[]⟩ (zfX (rk:=(Rp.int .i64)) (rv:=zC) (m:=zFg) (C:=[]) (C1:=[]) (D:=[]) [1] 11 (⟨[102,108,111,97,116],5⟩:zx) [] zhj rfl (.inr rfl) rfl rfl rfl rfl (zdu rfl rfl) (zdJ rfl) (by kernel_rfl) rfl (rc 0 rfl (zaF (r:=zC) [kS [102,105,120,101,100,54,52],kI 1] [] (⟨[102,105,120,101,100,54,52],1⟩:zx) rfl zjL rfl rfl) (rkl 0 [] ⟨[(1,.om (Rp.int .i64) zC 12 [] zFh),(13,.rc zC [] (⟨[102,105,120,101,100,54,52],1⟩:zx))],[]⟩ (zfX (rk:=(Rp.int .i64)) (rv:=zC) (m:=zFh) (C:=[]) (C1:=[]) (D:=[]) [1] 12 (⟨[102,105,120,101,100,54,52],1⟩:zx) [] zhj rfl (.inr rfl) rfl rfl rfl rfl (zdu rfl rfl) (zdJ rfl) (by kernel_rfl) rfl (rc 0 rfl (zaF (r:=zC) [kS [115,102,105,120,101,100,54,52],kI 1] [] (⟨[115,102,105,120,101,100,54,52],1⟩:zx) rfl zjL rfl rfl) (rkl 0 [] ⟨[(1,.om (Rp.int .i64) zC 12 [] zFi),(14,.rc zC [] (⟨[115,102,105,120,101,100,54,52],1⟩:zx))],[]⟩ (zfX (rk:=(Rp.int .i64)) (rv:=zC) (m:=zFi) (C:=[]) (C1:=[]) (D:=[]) [1] 13 (⟨[115,102,105,120,101,100,54,52],1⟩:zx) [] zhj rfl (.inr rfl) rfl rfl rfl rfl (zdu rfl rfl) (zdJ rfl) (by kernel_rfl) rfl (rc 0 rfl (zaF (r:=zC) [kS [100,111,117,98,108,101],kI 1] [] (⟨[100,111,117,98,108,101],1⟩:zx) rfl zjL rfl rfl) (rkl 0 [] ⟨[(1,.om (Rp.int .i64) zC 12 [] zFj),(15,.rc zC [] (⟨[100,111,117,98,108,101],1⟩:zx))],[]⟩ (zfX (rk:=(Rp.int .i64)) (rv:=zC) (m:=zFj) (C:=[]) (C1:=[]) (D:=[]) [1] 14 (⟨[100,111,117,98,108,101],1⟩:zx) [] zhj rfl (.inr rfl) rfl rfl rfl rfl (zdu rfl rfl) (zdJ rfl) (by kernel_rfl) rfl (rc 0 rfl (zaF (r:=zC) [kS [115,116,114,105,110,103],kI 2] [] (⟨[115,116,114,105,110,103],2⟩:zx) rfl zjL rfl rfl) (rkl 0 [] ⟨[(1,.om (Rp.int .i64) zC 12 [] zFk),(16,.rc zC [] (⟨[115,116,114,105,110,103],2⟩:zx))],[]⟩ (zfX (rk:=(Rp.int .i64)) (rv:=zC) (m:=zFk) (C:=[]) (C1:=[]) (D:=[]) [1] 15 (⟨[115,116,114,105,110,103],2⟩:zx) [] zhj rfl (.inr rfl) rfl rfl rfl rfl (zdu rfl rfl) (zdJ rfl) (by kernel_rfl) rfl (rc 0 rfl (zaF (r:=zC) [kS [98,121,116,101,115],kI 2] [] (⟨[98,121,116,101,115],2⟩:zx) rfl zjL rfl rfl) (rkl 0 [] ⟨[(1,.om (Rp.int .i64) zC 12 [] zBC),(17,.rc zC [] (⟨[98,121,116,101,115],2⟩:zx))],[]⟩ (zfX (rk:=(Rp.int .i64)) (rv:=zC) (m:=zBC) (C:=[]) (C1:=[]) (D:=[]) [1] 16 (⟨[98,121,116,101,115],2⟩:zx) [] zhj rfl (.inr rfl) rfl rfl rfl rfl (zdu rfl rfl) (zdJ rfl) (by kernel_rfl) rfl (rc 0 rfl (zaF (r:=zC) [kS [109,101,115,115,97,103,101],kI 2] [] (⟨[109,101,115,115,97,103,101],2⟩:zx) rfl zjL rfl rfl) (rkl 0 [] ⟨[(1,.om (Rp.int .i64) zC 12 [] (mput zBC 16 (⟨[98,121,116,101,115],2⟩:zx))),(18,.rc zC [] (⟨[109,101,115,115,97,103,101],2⟩:zx))],[]⟩ (zfX (rk:=(Rp.int .i64)) (rv:=zC) (m:=(mput zBC 16 (⟨[98,121,116,101,115],2⟩:zx))) (C:=[]) (C1:=[]) (D:=[]) [1] 17 (⟨[109,101,115,115,97,103,101],2⟩:zx) [] zhj rfl (.inr rfl) rfl rfl rfl rfl (zdu rfl rfl) (zdJ rfl) (by kernel_rfl) rfl rf)))))))))))))))))))))))))))))))))))))))))))))))))))) ?_);cases h;exact zo (lk [0] [] 12 2 lzz)
theorem zoL (h:zit c=some r):FnOk Tryz.prog 195 [k8 c] [kB r]:=by
 refine zu (E:=⟨[(2,kB r)],[]⟩) 9 Tryz.func195 rfl rfl rfl ⟨rfl,trivial⟩ (fun Xt=>?_);refine zk ?_;unfold zit at h;refine jp (zU ⟨[(2,kB ((decide (c>=48))&&(decide (c<=57))))],[]⟩ ?_ ?_)
 ·refine (rsl 3 [] 5 (decide (c>=48)) (fun uQ=>?_) (fun uQ=>?_))
  · exact (rbl [] 2 (decide (c<=57)) rfl (by rw [uQ]<;>rfl))
  exact (rbl [] 2 false rfl (by rw [uQ]<;>rfl))
 cases h;exact zo lzz
theorem zuk (h:ziZ c=some r):FnOk Tryz.prog 196 [k8 c] [kB r]:=by
 refine zu (E:=⟨[(2,kB r)],[]⟩) 21 Tryz.func196 rfl rfl rfl ⟨rfl,trivial⟩ (fun Xt=>?_);refine zk ?_;unfold ziZ at h;refine jp (zU ⟨[(2,kB (if (decide (c>=97)) then ((decide (c<=122))|| (if (decide (c>=65)) then ((decide (c<=90))|| (c==95)) else (c==95))) else (if (decide (c>=65)) then ((decide (c<=90))|| (c==95)) else (c==95))))],[]⟩ ?_ ?_)
 ·refine (rsl 3 [] 5 (decide (c>=97)) (fun uQ=>?_) (fun uQ=>?_))
  ·refine (rsl 4 [] 9 (decide (c<=122)) (fun uR=>?_) (fun uR=>?_))
   · exact (rbl [] 2 true rfl (by rw [uQ,uR]<;>rfl))
   refine (rsl 3 [] 12 (decide (c>=65)) (fun uT=>?_) (fun uT=>?_))
   ·refine (rsl 5 [] 17 (decide (c<=90)) (fun uX=>?_) (fun uX=>?_))
    · exact (rbl [] 2 true rfl (by rw [uQ,uR,uT,uX]<;>rfl))
    exact (rbl [] 2 (c==95) rfl (by rw [uQ,uR,uT,uX]<;>rfl))
   exact (rbl [] 2 (c==95) rfl (by rw [uQ,uR,uT]<;>rfl))
  refine (rsl 7 [] 12 (decide (c>=65)) (fun vb=>?_) (fun vb=>?_))
  ·refine (rsl 5 [] 17 (decide (c<=90)) (fun vc=>?_) (fun vc=>?_))
   · exact (rbl [] 2 true rfl (by rw [uQ,vb,vc]<;>rfl))
   exact (rbl [] 2 (c==95) rfl (by rw [uQ,vb,vc]<;>rfl))
  exact (rbl [] 2 (c==95) rfl (by rw [uQ,vb]<;>rfl))
 cases h;exact zo lzz
theorem zul (h:zja n=some r):FnOk Tryz.prog 173 [kI n] [kB r]:=by
 refine zu (E:=⟨[(2,kB r)],[]⟩) 17 Tryz.func173 rfl rfl rfl ⟨rfl,trivial⟩ (fun Xt=>?_);refine zk ?_;unfold zja at h;refine jp (zU ⟨[(2,kB ((decide (n>=1))&&((decide (n<=536870911))&&((decide (n<19000))|| (decide (n>19999))))))],[]⟩ ?_ ?_)
 ·refine (rsl 3 [] 5 (decide (n>=1)) (fun uQ=>?_) (fun uQ=>?_))
  ·refine (rsl 4 [] 9 (decide (n<=536870911)) (fun uR=>?_) (fun uR=>?_))
   ·refine (rsl 3 [] 12 (decide (n<19000)) (fun uT=>?_) (fun uT=>?_))
    · exact (rbl [] 2 true rfl (by rw [uQ,uR,uT]<;>rfl))
    exact (rbl [] 2 (decide (n>19999)) rfl (by rw [uQ,uR,uT]<;>rfl))
   exact (rbl [] 2 false rfl (by rw [uQ,uR]<;>rfl))
  exact (rbl [] 2 false rfl (by rw [uQ]<;>rfl))
 cases h;exact zo lzz
theorem zoc (h:zeL sv v=some r):FnOk Tryz.prog 197 [.sl (Rp.int .i64) [0] sv,kI v] [kI r]:=by
 refine zu (E:=⟨[(4,kI r)],[]⟩) 19 Tryz.func197 rfl rfl rfl ⟨rfl,trivial⟩ (fun Xt=>?_);refine zk ?_;unfold zeL at h;refine jp (jp (zp ?_));obtain ⟨q,uU,h⟩:=bnd h;refine zab (fun s:Int=>zay sv v s) (fun s=>⟨[(0,.sl (Rp.int .i64) [0] sv),(1,kI v),(7,kI (sv.length:Int)),(8,kI s)],[]⟩) (fun o e a w=>match o with| (.inl v_)=>e= .exit 0/\Sx ⟨⟨19,[]⟩,Xt,false,#[]⟩ ⟨[],[]⟩ a w| (.inr v_)=>e= .ret/\Sx ⟨⟨19,[]⟩,Xt,false,#[]⟩ ⟨[(4,kI v_)],[]⟩ a w) ?_ uU lzz ?_
 ·clear h;intro v2 o h;refine zk ?_;replace h:zay sv v v2=some o:=h;unfold zay at h;refine jp (jI h (fun uQ h=>?_) fun uQ h=>?_)
  ·refine zp (jp ?_);obtain ⟨x,u0,h⟩:=bnd h;refine jr (ra 3 [.sl (Rp.int .i64) [0] sv,kI v2] rfl (zW rfl zgJ.el (zy _ _ _) u0) rfl rf) (jI h (fun uR h=>?_) fun uR h=>?_)
   ·refine jp ?_;cases h;exact zaN lzz
   refine zV (jp ?_);cases h;exact zD lzz
  cases h;exact zaa rfl lzz
 rcases q with u| u2
 ·refine zan _ rfl (jp ?_);cases h;exact zo lzz
 obtain rfl:=(sj h);exact zcJ lzz
theorem zrt (h:zhe c f=some r):FnOk Tryz.prog 176 [.ag [kI c.size,.sl (Rp.int .i64) [0] c.kinds,.mp zr Rp.bool [0] c.names,.mp zq Rp.bool [0] c.numbers],.rc zf [0] f] [kB r]:=by
 refine zu (E:=⟨[(4,kB r)],[]⟩) 21 Tryz.func176 rfl rfl rfl ⟨rfl,trivial⟩ (fun Xt=>?_);refine zk ?_;unfold zhe at h;refine jq [11,12] (jp (jI h (fun uQ h=>?_) fun uQ h=>?_))
 ·refine zU ⟨[(4,kB ((decide (f.Of>=0))&&(decide (f.Of<c.size))))],[]⟩ ?_ ?_
  ·refine (rsl 4 [] 11 (decide (f.Of>=0)) (fun uR=>?_) (fun uR=>?_))
   · exact (rbl [] 4 (decide (f.Of<c.size)) rfl (by rw [uR]<;>rfl))
   exact (rbl [] 4 false rfl (by rw [uR]<;>rfl))
  cases h;exact zo lzz
 refine jp ?_;cases h;exact zo lzz
theorem zzt (wo:∀{x:zd} {most:Int} {r:Int},xa x most=some r->FnOk Tryz.prog 128 [.rc zc [0] x,kI most] [kI r]) (h:zlD xa x most=some r):FnOk Tryz.prog 128 [.rc zc [0] x,kI most] [kI r]:=by
 refine zu (E:=⟨[(4,kI r)],[]⟩) 40 Tryz.func128 rfl rfl rfl ⟨rfl,trivial⟩ (fun Xt=>?_);refine zk ?_;unfold zlD at h;refine jr (ra 0 [.rc zc [0] x] rfl (zaR 11 [.sl za [0] x.Values,.sl Rp.str [0] x.Unknown] [0] rfl rfl rfl (by rw [zj]<;>rfl) rfl) rfl rf) (jp (jp (zp ?_)));obtain ⟨q2,vn,h⟩:=bnd h;refine zab (fun s:(Int×Int)=>zeX most xa x s.1 s.2) (fun s=>⟨[(1,kI most),(5,kI s.1),(11,.sl za [0] x.Values),(12,kI (x.Values.length:Int)),(13,kI s.2)],[]⟩) (fun o e a w=>match o with| (.inl v_)=>e= .exit 0/\Sx ⟨⟨40,[]⟩,Xt,false,#[]⟩ ⟨[(5,kI v_)],[]⟩ a w| (.inr v_)=>e= .ret/\Sx ⟨⟨40,[]⟩,Xt,false,#[]⟩ ⟨[(4,kI v_)],[]⟩ a w) ?_ vn lzz ?_
 ·clear h;intro s o h;obtain ⟨deep,v⟩:=s;refine zk ?_;replace h:zeX most xa x deep v=some o:=h;unfold zeX at h;refine jp (jI h (fun uQ h=>?_) fun uQ h=>?_)
  ·refine zp ?_;obtain ⟨x2,va,h⟩:=bnd h;refine jr (ra 0 [.sl za [0] x.Values,kI v] rfl (zW rfl zjx.el (zy _ _ _) va) rfl (ra 0 [.ep za [0] x2 0] rfl (zbM rfl ⟨Tryz.isAgg57,Tryz.sizeOf57⟩) rfl (ral 1 [13] [.ptr 13 0,.rc za [0] x2] rfl (zhb (r:=za) (b:=⟨13,57,[kI 0,kN,kN,kN]⟩) (off:=0) [kI x2.Number,.sl (Rp.int .u64) [0] x2.Words,.sl Rp.str [0] x2.Texts,.sl zc [0] x2.Subs] rfl Tryz.sizeOf57 rfl rfl (by rw [zi]<;>rfl) rfl) rfl rf))) (jp (zp ?_));obtain ⟨q,uU,h⟩:=bnd h;refine zab (fun s:(Int×Int)=>zeY most xa x2 s.1 s.2) (fun s=>⟨[(1,kI most),(5,kI s.1),(11,.sl za [0] x.Values),(12,kI (x.Values.length:Int)),(13,kI v),(18,.sl zc [0] x2.Subs),(19,kI (x2.Subs.length:Int)),(20,kI s.2)],[]⟩) (fun o e a w=>match o with| (.inl v_)=>e= .exit 2/\Sx ⟨⟨40,[]⟩,Xt,false,#[]⟩ ⟨[(1,kI most),(5,kI v_),(11,.sl za [0] x.Values),(12,kI (x.Values.length:Int)),(13,kI v)],[]⟩ a w| (.inr v_)=>e= .ret/\Sx ⟨⟨40,[]⟩,Xt,false,#[]⟩ ⟨[(4,kI v_)],[]⟩ a w) ?_ uU lzz ?_
   ·clear h;intro s o h;obtain ⟨deep3,v3⟩:=s;refine zk ?_;replace h:zeY most xa x2 deep3 v3=some o:=h;unfold zeY at h;refine jp (jI h (fun uR h=>?_) fun uR h=>?_)
    ·refine zp ?_;obtain ⟨x3,vg,h⟩:=bnd h;refine jr (ra 0 [.sl zc [0] x2.Subs,kI v3] rfl (zW rfl zli.el (zy _ _ _) vg) rfl (ra 0 [.ep zc [0] x3 0] rfl (zbM rfl ⟨Tryz.isAgg27,Tryz.sizeOf27⟩) rfl (ral 1 [15] [.ptr 15 0,.rc zc [0] x3] rfl (zhb (r:=zc) (b:=⟨15,27,[kN,kN]⟩) (off:=0) [.sl za [0] x3.Values,.sl Rp.str [0] x3.Unknown] rfl Tryz.sizeOf27 rfl rfl (by rw [zj]<;>rfl) rfl) rfl rf))) (jp (jI h (fun uT h=>?_) fun uT h=>?_))
     ·refine jp ?_;cases h;exact zaN lzz
     obtain ⟨rv,uS,h⟩:=bnd h;refine jr (rc 4 rfl (zw.le (ins':=[(.tmp 27,.ag [.sl za [0] x3.Values,.sl Rp.str [0] x3.Unknown]),(.tmp 29,kI (IntKind.i64.wrap (most - 1)))]) (zL (args:=[.tmp 27,.tmp 29]) [.rc zc [0] x3,kI (IntKind.i64.wrap (most - 1))] [0] 14 rfl Tryz.call128 (wo uS) rfl rfl rfl rfl rfl) ⟨⟨rfl,zK zc [0] x3 [.sl za [0] x3.Values,.sl Rp.str [0] x3.Unknown] (by rw [zj]<;>rfl) rfl⟩,⟨rfl,AV.le_refl _⟩,trivial⟩) rf) (jp (jI h (fun uX h=>?_) fun uX h=>?_))
     ·refine jp ?_;cases h;exact zaN lzz
     refine zV (jp ?_);cases h;exact zD lzz
    cases h;exact zaa rfl lzz
   rcases q with u| u2
   ·refine zan _ rfl (zV (jp ?_));cases h;exact zD lzz
   cases h;exact zBA lzz
  cases h;exact zaa rfl lzz
 rcases q2 with u3| u4
 ·refine zan _ rfl (jp ?_);obtain rfl:=(sj h);exact zo lzz
 obtain rfl:=(sj h);exact zcJ lzz
theorem zzQ (h:zid uY x most=some r):FnOk Tryz.prog 128 [.rc zc [0] x,kI most] [kI r]:=by
  induction uY generalizing x most r with
  | zero=>exact absurd h nofun
  | succ uY ih=>exact zzt (fun hh=>ih hh) h
theorem zsz (h:zhM f v=some r):FnOk Tryz.prog 130 [.rc zf [0] f,.ep (Rp.int .i64) [0] v 0] [kB r]:=by
 refine zu (E:=⟨[(3,kB r)],[]⟩) 8 Tryz.func130 rfl rfl rfl ⟨rfl,trivial⟩ (fun Xt=>?_);refine zk ?_;unfold zhM at h;refine jq [11] (jp ?_);cases h;exact zo lzz
theorem zsF (h:zhR v=some r):FnOk Tryz.prog 123 [.rc za [0] v] [kI r]:=by
 refine zu (E:=⟨[(2,kI r)],[]⟩) 14 Tryz.func123 rfl rfl rfl ⟨rfl,trivial⟩ (fun Xt=>?_);refine zk ?_;unfold zhR at h;refine jr (ra 0 [.rc za [0] v] rfl (zaR 11 [kI v.Number,.sl (Rp.int .u64) [0] v.Words,.sl Rp.str [0] v.Texts,.sl zc [0] v.Subs] [0] rfl rfl rfl (by rw [zi]<;>rfl) rfl) rfl rf) (jp ?_);cases h;exact zo lzz
theorem zEp (h:zvy c=some r):FnOk Tryz.prog 232 [k8 c] [kI r.1,.lf (.int .u32 r.2)]:=by
 refine zu (E:=⟨[(2,kI r.1),(3,.lf (.int .u32 r.2))],[]⟩) 31 Tryz.func232 rfl rfl rfl ⟨rfl,rfl,trivial⟩ (fun Xt=>?_);refine zk ?_;unfold zvy at h;refine jp (zp (jr (ra 1 [k8 c,kU 7] rfl (zpr rfl rfl) rfl rf) (jI h (fun uQ h=>?_) fun uQ h=>?_)))
 ·refine jp ?_;cases h;exact zo lzz
 refine jr (ra 1 [k8 c,kU 5] rfl (zpr rfl rfl) rfl rf) (jI h (fun uR h=>?_) fun uR h=>?_)
 ·refine jp ?_;cases h;exact zo lzz
 refine jr (ra 1 [k8 c,kU 4] rfl (zpr rfl rfl) rfl rf) (jI h (fun uT h=>?_) fun uT h=>?_)
 ·refine jp ?_;cases h;exact zo lzz
 refine jr (ra 1 [k8 c,kU 3] rfl (zpr rfl rfl) rfl rf) (jI h (fun uX h=>?_) fun uX h=>?_)
 ·refine jp ?_;cases h;exact zo lzz
 refine zV (jp ?_);cases h;exact zo lzz
theorem zEo (h:zqm wv=some r):FnOk Tryz.prog 233 [.lf (.int .u32 wv)] [kI r]:=by
 refine zu (E:=⟨[(2,kI r)],[]⟩) 22 Tryz.func233 rfl rfl rfl ⟨rfl,trivial⟩ (fun Xt=>?_);refine zk ?_;unfold zqm at h;refine jp (zp (jr (ra 1 [.lf (.int .u32 wv),kU 7] rfl (zpr rfl rfl) rfl rf) (jI h (fun uQ h=>?_) fun uQ h=>?_)))
 ·refine jp ?_;cases h;exact zo lzz
 refine jr (ra 1 [.lf (.int .u32 wv),kU 11] rfl (zpr rfl rfl) rfl rf) (jI h (fun uR h=>?_) fun uR h=>?_)
 ·refine jp ?_;cases h;exact zo lzz
 refine jr (ra 1 [.lf (.int .u32 wv),kU 11] rfl (zpr rfl rfl) rfl rf) (jI h (fun uT h=>?_) fun uT h=>?_)
 ·refine jp ?_;cases h;exact zo lzz
 refine jr (ra 1 [.lf (.int .u32 wv),kU 16] rfl (zpr rfl rfl) rfl rf) (jI h (fun uX h=>?_) fun uX h=>?_)
 ·refine jp ?_;cases h;exact zo lzz
 refine jp (jI h (fun vb h=>?_) fun vb h=>?_)
 ·refine jp ?_;cases h;exact zo lzz
 refine zV (jp ?_);cases h;exact zo lzz
theorem ztA (h:zlT wv=some r):FnOk Tryz.prog 184 [kU wv] [.lf (.int .u32 r)]:=by
 refine zu (E:=⟨[(2,.lf (.int .u32 r))],[]⟩) 5 Tryz.func184 rfl rfl rfl ⟨rfl,trivial⟩ (fun Xt=>?_);refine zk ?_;unfold zlT at h;refine jp (jp ?_);cases h;exact zo lzz
theorem zxV (h:zms n=some r):FnOk Tryz.prog 182 [.lf (.int .i32 n)] [kU r]:=by
 refine zu (E:=⟨[(2,kU r)],[]⟩) 6 Tryz.func182 rfl rfl rfl ⟨rfl,trivial⟩ (fun Xt=>?_);refine zk ?_;unfold zms at h;refine jp (jp ?_);cases h;exact zo lzz
theorem zzI (h:zqE wv=some r):FnOk Tryz.prog 185 [kU wv] [kU r]:=by
 refine zu (E:=⟨[(2,kU r)],[]⟩) 5 Tryz.func185 rfl rfl rfl ⟨rfl,trivial⟩ (fun Xt=>?_);refine zk ?_;unfold zqE at h;refine jp (jp ?_);cases h;exact zo lzz
theorem zoh (h:ziK b=some r):FnOk Tryz.prog 186 [.sl Rp.byte [0] b] [kU r.1,kI r.2.1,k8 r.2.2]:=by
 refine zu (E:=⟨[(2,kU r.1),(3,kI r.2.1),(4,k8 r.2.2)],[]⟩) 38 Tryz.func186 rfl rfl rfl ⟨rfl,rfl,rfl,trivial⟩ (fun Xt=>?_);refine zk ?_;unfold ziK at h;refine jp ?_;obtain ⟨v,vf,h⟩:=bnd h;refine jr (ra 4 [.sl Rp.byte [0] b,kI (if (10:Int)<(b.length:Int) then 10 else (b.length:Int))] rfl (zmS none (some (kI (if (10:Int)<(b.length:Int) then 10 else (b.length:Int)))) rfl zjr.el (zy _ _ _) ⟨rfl,rfl⟩ ⟨rfl,rfl⟩ vf) rfl rf) (zp ?_);obtain ⟨q,uU,h⟩:=bnd h;refine zab (fun s:(Int×Int)=>zdF v s.1 s.2) (fun s=>⟨[(2,kU s.1),(11,.sl Rp.byte [0] v),(12,kI (v.length:Int)),(13,kI s.2)],[]⟩) (fun o e a w=>match o with| (.inl v_)=>e= .exit 0/\Sx ⟨⟨38,[]⟩,Xt,false,#[]⟩ ⟨[],[]⟩ a w| (.inr v_)=>e= .ret/\Sx ⟨⟨38,[]⟩,Xt,false,#[]⟩ ⟨[(2,kU v_.1),(3,kI v_.2.1),(4,k8 v_.2.2)],[]⟩ a w) ?_ uU lzz ?_
 ·clear h;intro s o h;obtain ⟨wv,v2⟩:=s;refine zk ?_;replace h:zdF v wv v2=some o:=h;unfold zdF at h;refine jp (jI h (fun uQ h=>?_) fun uQ h=>?_)
  ·refine zp ?_;obtain ⟨x,u0,h⟩:=bnd h;refine jr (ra 1 [.sl Rp.byte [0] v,kI v2] rfl (zW rfl zjr.el (zy _ _ _) u0) rfl rf) (zU ⟨[(2,kU wv),(5,kI v2),(6,k8 (x.toNat:Int)),(11,.sl Rp.byte [0] v),(12,kI (v.length:Int)),(13,kI v2),(23,kB ((v2==9)&&(decide ((x.toNat:Int)>1))))],[]⟩ ?_ ?_)
   ·refine (rsl 3 [] 20 (v2==9) (fun uR=>?_) (fun uR=>?_))
    · exact (rbl [] 23 (decide ((x.toNat:Int)>1)) rfl (by rw [uR]<;>rfl))
    exact (rbl [] 23 false rfl (by rw [uR]<;>rfl))
   refine jI h (fun uT h=>?_) fun uT h=>?_
   ·refine jp ?_;cases h;exact zaN lzz
   obtain ⟨v4,vH,h⟩:=bnd h;refine jr (ra 6 [kU (IntKind.u64.wrap (andI .u8 (x.toNat:Int) 127)),kI (IntKind.i64.wrap (7*v2))] rfl (zJK rfl vH) rfl rf) (jp (jI h (fun uX h=>?_) fun uX h=>?_))
   ·refine jp ?_;cases h;exact zaN lzz
   refine zV (jp ?_);cases h;exact zD lzz
  cases h;exact zaa rfl lzz
 rcases q with u| u2
 ·refine zan _ rfl (jp ?_);cases h;exact zo lzz
 cases h;exact zcJ lzz
theorem zwp (h:zkE wire=some r):FnOk Tryz.prog 215 [kI wire] [kB r]:=by
 refine zu (E:=⟨[(2,kB r)],[]⟩) 9 Tryz.func215 rfl rfl rfl ⟨rfl,trivial⟩ (fun Xt=>?_);refine zk ?_;unfold zkE at h;refine jp (jp (zp (jp (jI h (fun uQ h=>?_) fun uQ h=>?_))))
 ·refine jI h (fun uR h=>?_) fun uR h=>?_
  ·refine jp ?_;obtain rfl:=(sj h);exact zo lzz
  refine zV (jp ?_);obtain rfl:=(sj h);exact zo lzz
 refine jp (jI h (fun uT h=>?_) fun uT h=>?_)
 ·refine jI h (fun uX h=>?_) fun uX h=>?_
  ·refine jp ?_;obtain rfl:=(sj h);exact zo lzz
  refine zV (jp ?_);obtain rfl:=(sj h);exact zo lzz
 refine jp (jI h (fun vb h=>?_) fun vb h=>?_)
 ·refine jI h (fun vc h=>?_) fun vc h=>?_
  ·refine jp ?_;obtain rfl:=(sj h);exact zo lzz
  refine zV (jp ?_);obtain rfl:=(sj h);exact zo lzz
 refine jp (jI h (fun vh h=>?_) fun vh h=>?_)
 ·refine jp ?_;obtain rfl:=(sj h);exact zo lzz
 refine zV (jp ?_);obtain rfl:=(sj h);exact zo lzz
end Go.Proofs.YtekgmimingolbaaGreat

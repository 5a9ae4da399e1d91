/-
  The Go functions do what the plain functions say. No condition.
-/
import Derived.Test.YtekgmimingolbaaGreatx2T
import Derived.Test.YtekgmimingolbaaGreatx2Y
set_option autoImplicit true
set_option relaxedAutoImplicit true
namespace Go.Proofs.YtekgmimingolbaaGreat
open Go Go.RowKit
set_option linter.unusedVariables false
set_option maxRecDepth 100000
set_option maxHeartbeats 3200000
theorem zjH (h:zfc b atv=some r):FnOk Tryz.prog 119 [.sl Rp.byte [0] b,kI atv] [kU r.1,kI r.2.1,kI r.2.2]:=by
 refine zu (E:=⟨[(4,kU r.1),(5,kI r.2.1),(6,kI r.2.2)],[]⟩) 69 Tryz.func119 rfl rfl rfl ⟨rfl,rfl,rfl,trivial⟩ (fun Xt=>?_);refine zk ?_;unfold zfc at h;refine jp (jp (zp ?_));obtain ⟨q,uU,h⟩:=bnd h;refine zab (fun s:Int=>zaX atv b s) (fun s=>⟨[(0,.sl Rp.byte [0] b),(1,kI atv),(7,kI s)],[]⟩) (fun o e a w=>e= .exit 0/\Sx ⟨⟨69,[]⟩,Xt,false,#[]⟩ ⟨[(0,.sl Rp.byte [0] b),(1,kI atv),(7,kI o)],[]⟩ a w) ?_ uU lzz ?_
 ·clear h;intro n o h;refine zk ?_;replace h:zaX atv b n=some o:=h;unfold zaX at h;obtain ⟨g,uP,h⟩:=bnd h;refine zU ⟨[(0,.sl Rp.byte [0] b),(1,kI atv),(7,kI n),(28,kB g)],[]⟩ ?_ ?_
  ·refine (rsl 7 [] 16 (decide ((IntKind.i64.wrap (atv+n))<(b.length:Int))) (fun uQ=>?_) (fun uQ=>?_))
   ·replace uP:=iteT uP uQ;refine (rsl 4 [] 20 (decide (n<10)) (fun uR=>?_) (fun uR=>?_))
    ·replace uP:=iteT uP uR;obtain ⟨x,u0,uP⟩:=bnd uP;cases uP;exact (ra 4 [.sl Rp.byte [0] b,kI (IntKind.i64.wrap (atv+n))] rfl (zW rfl zjr.el (zy _ _ _) u0) rfl rgg)
    replace uP:=iteF uP uR;cases uP;exact rgg
   replace uP:=iteF uP uQ;cases uP;exact rgg
  refine jI h (fun uT h=>?_) fun uT h=>?_
  ·refine zp (jp (zV ?_));cases h;exact zD lzz
  cases h;exact zaa rfl lzz
 refine zan _ rfl (jp (jI h (fun uX h=>?_) fun uX h=>?_))
 ·refine jp ?_;cases h;exact zo lzz
 refine jp (jI h (fun vb h=>?_) fun vb h=>?_)
 ·refine jp ?_;cases h;exact zo lzz
 obtain ⟨g2,uZ,h⟩:=bnd h;refine zU ⟨[(0,.sl Rp.byte [0] b),(1,kI atv),(7,kI q),(49,kB g2)],[]⟩ ?_ ?_
 ·refine (rsl 3 [] 41 (q==9) (fun vc=>?_) (fun vc=>?_))
  ·replace uZ:=iteT uZ vc;obtain ⟨x2,va,uZ⟩:=bnd uZ;cases uZ;exact (ra 4 [.sl Rp.byte [0] b,kI (IntKind.i64.wrap (atv+q))] rfl (zW rfl zjr.el (zy _ _ _) va) rfl rgg)
  replace uZ:=iteF uZ vc;cases uZ;exact rgg
 refine jI h (fun vh h=>?_) fun vh h=>?_
 ·refine jp ?_;cases h;exact zo lzz
 refine jp (jp (zp ?_));obtain ⟨q2,vn,h⟩:=bnd h;refine zab (fun s:(Int×Int)=>zbQ atv b s.1 s.2) (fun s=>⟨[(0,.sl Rp.byte [0] b),(1,kI atv),(7,kI q),(8,kU s.1),(9,kI s.2)],[]⟩) (fun o e a w=>e= .exit 2/\Sx ⟨⟨69,[]⟩,Xt,false,#[]⟩ ⟨[(7,kI q),(8,kU o)],[]⟩ a w) ?_ vn lzz ?_
 ·clear h;intro s o h;obtain ⟨wv,i⟩:=s;refine zk ?_;replace h:zbQ atv b wv i=some o:=h;unfold zbQ at h;refine jp (jI h (fun vk h=>?_) fun vk h=>?_)
  ·refine zp ?_;obtain ⟨x3,vg,h⟩:=bnd h;refine jr (ra 6 [.sl Rp.byte [0] b,kI (IntKind.i64.wrap (atv+i))] rfl (zW rfl zjr.el (zy _ _ _) vg) rfl rf) (zV (jp ?_));cases h;exact zD lzz
  cases h;exact zaa rfl lzz
 refine zan _ rfl (jp ?_);cases h;exact zo lzz
theorem zri (h:zgT vi wire=some r):FnOk Tryz.prog 151 [kI vi,kI wire] [kB r]:=by
 refine zu (E:=⟨[(4,kB r)],[]⟩) 27 Tryz.func151 rfl rfl rfl ⟨rfl,trivial⟩ (fun Xt=>?_);refine zk ?_;unfold zgT at h;refine jp (zU ⟨[(4,kB ((decide (vi>=1))&&((decide (vi<=536870911))&&((wire==0)|| ((wire==1)|| ((wire==2)|| (wire==5)))))))],[]⟩ ?_ ?_)
 ·refine (rsl 3 [] 7 (decide (vi>=1)) (fun uQ=>?_) (fun uQ=>?_))
  ·refine (rsl 4 [] 11 (decide (vi<=536870911)) (fun uR=>?_) (fun uR=>?_))
   ·refine (rsl 3 [] 14 (wire==0) (fun uT=>?_) (fun uT=>?_))
    · exact (rbl [] 4 true rfl (by rw [uQ,uR,uT]<;>rfl))
    refine (rsl 4 [] 18 (wire==1) (fun uX=>?_) (fun uX=>?_))
    · exact (rbl [] 4 true rfl (by rw [uQ,uR,uT,uX]<;>rfl))
    refine (rsl 4 [] 22 (wire==2) (fun vb=>?_) (fun vb=>?_))
    · exact (rbl [] 4 true rfl (by rw [uQ,uR,uT,uX,vb]<;>rfl))
    exact (rbl [] 4 (wire==5) rfl (by rw [uQ,uR,uT,uX,vb]<;>rfl))
   exact (rbl [] 4 false rfl (by rw [uQ,uR]<;>rfl))
  exact (rbl [] 4 false rfl (by rw [uQ]<;>rfl))
 cases h;exact zo lzz
theorem zmY (h:zgK x vi=some r):FnOk Tryz.prog 43 [.rc zc [0] x,kI vi] [kI r]:=by
 refine zu (E:=⟨[(4,kI r)],[]⟩) 22 Tryz.func43 rfl rfl rfl ⟨rfl,trivial⟩ (fun Xt=>?_);refine zk ?_;unfold zgK at h;refine jr (ra 0 [.rc zc [0] x] rfl (zaR 11 [.sl za [0] x.Values,.sl Rp.str [0] x.Unknown] [0] rfl rfl rfl (by rw [zj]<;>rfl) rfl) rfl rf) (jp (zp ?_));obtain ⟨q,uU,h⟩:=bnd h;refine zab (fun s:Int=>zbI vi x s) (fun s=>⟨[(1,kI vi),(2,.ptr 11 0),(5,kI s)],[⟨11,33,[.sl za [0] x.Values,.sl Rp.str [0] x.Unknown]⟩]⟩) (fun o e a w=>match o with| (.inl v_)=>e= .exit 0/\Sx ⟨⟨22,[]⟩,Xt,false,#[]⟩ ⟨[],[]⟩ a w| (.inr v_)=>e= .ret/\Sx ⟨⟨22,[]⟩,Xt,false,#[]⟩ ⟨[(4,kI v_)],[]⟩ a w) ?_ uU lzz ?_
 ·clear h;intro i o h;refine zk ?_;replace h:zbI vi x i=some o:=h;unfold zbI at h;refine jp (jI h (fun uQ h=>?_) fun uQ h=>?_)
  ·refine zp ?_;obtain ⟨x2,va,h⟩:=bnd h;refine jr (ra 3 [.sl za [0] x.Values,kI i] rfl (zW rfl zjy.el (zy _ _ _) va) rfl (ra 1 [.ep za [0] x2 0] rfl (zsc (.int .i64 x2.Number) rfl rfl (by rw [zi]<;>rfl) rfl) rfl rf)) (jI h (fun uR h=>?_) fun uR h=>?_)
   ·refine jp ?_;cases h;exact zaN lzz
   refine zV (jp ?_);cases h;exact zD lzz
  cases h;exact zaa rfl lzz
 rcases q with u| u2
 ·refine zan _ rfl (jp ?_);cases h;exact zo lzz
 obtain rfl:=(sj h);exact zcJ lzz
theorem zrr (wi:∀{av:zd} {b:zd} {r:Bool},xk av b=some r->FnOk Tryz.prog 16 [.rc zc [0] av,.rc zc [0] b] [kB r]) (wj:∀{av:zb} {b:zb} {r:Bool},xl av b=some r->FnOk Tryz.prog 29 [.rc za [0] av,.rc za [0] b] [kB r]) (h:zgy xk xl av b=some r):FnOk Tryz.prog 16 [.rc zc [0] av,.rc zc [0] b] [kB r]:=by
 refine zu (E:=⟨[(4,kB r)],[]⟩) 60 Tryz.func16 rfl rfl rfl ⟨rfl,trivial⟩ (fun Xt=>?_);refine zk ?_;unfold zgy at h;refine jr (ra 0 [.rc zc [0] av] rfl (zaR 11 [.sl za [0] av.Values,.sl Rp.str [0] av.Unknown] [0] rfl rfl rfl (by rw [zj]<;>rfl) rfl) rfl (ra 0 [.rc zc [0] b] rfl (zaR 12 [.sl za [0] b.Values,.sl Rp.str [0] b.Unknown] [0] rfl rfl rfl (by rw [zj]<;>rfl) rfl) rfl rf)) (zU ⟨[(2,.ptr 11 0),(3,.ptr 12 0),(22,kB (((av.Values.length:Int) !=(b.Values.length:Int))|| ((av.Unknown.length:Int) !=(b.Unknown.length:Int))))],[⟨11,33,[.sl za [0] av.Values,.sl Rp.str [0] av.Unknown]⟩,⟨12,33,[.sl za [0] b.Values,.sl Rp.str [0] b.Unknown]⟩]⟩ ?_ ?_)
 ·refine (rsl 8 [] 14 ((av.Values.length:Int) !=(b.Values.length:Int)) (fun uQ=>?_) (fun uQ=>?_))
  · exact (rbl [] 22 true rfl (by rw [uQ]<;>rfl))
  exact (rbl [] 22 ((av.Unknown.length:Int) !=(b.Unknown.length:Int)) rfl (by rw [uQ]<;>rfl))
 refine jI h (fun uR h=>?_) fun uR h=>?_
 ·refine jp ?_;obtain rfl:=(sj h);exact zo lzz
 refine jp (zp ?_);obtain ⟨q,uU,h⟩:=bnd h;refine zab (fun s:Int=>zbs av b xl s) (fun s=>⟨[(2,.ptr 11 0),(3,.ptr 12 0),(5,kI s)],[⟨11,33,[.sl za [0] av.Values,.sl Rp.str [0] av.Unknown]⟩,⟨12,33,[.sl za [0] b.Values,.sl Rp.str [0] b.Unknown]⟩]⟩) (fun o e a w=>match o with| (.inl v_)=>e= .exit 0/\Sx ⟨⟨60,[]⟩,Xt,false,#[]⟩ ⟨[(2,.ptr 11 0),(3,.ptr 12 0)],[⟨11,33,[.sl za [0] av.Values,.sl Rp.str [0] av.Unknown]⟩,⟨12,33,[.sl za [0] b.Values,.sl Rp.str [0] b.Unknown]⟩]⟩ a w| (.inr v_)=>e= .ret/\Sx ⟨⟨60,[]⟩,Xt,false,#[]⟩ ⟨[(4,kB false)],[]⟩ a w) ?_ uU lzz ?_
 ·clear h;intro i o h;refine zk ?_;replace h:zbs av b xl i=some o:=h;unfold zbs at h;refine jp (jI h (fun uT h=>?_) fun uT h=>?_)
  ·refine zp ?_;obtain ⟨x,u0,h⟩:=bnd h;obtain ⟨x2,va,h⟩:=bnd h;obtain ⟨rv,uS,h⟩:=bnd h;refine jd [2,3,5,41] [11,12] zaU (by exact (lw_e (lw_e (lw_e (ly [.sl za [0] av.Values,kI i] (zW rfl zjy.el (zy _ _ _) u0) rfl (ly [.ep za [0] x 0] (zbM rfl ⟨Tryz.isAgg59,Tryz.sizeOf59⟩) rfl (lw_e (lw_e (lw_e (ly [.sl za [0] b.Values,kI i] (zW rfl zjy.el (zy _ _ _) va) rfl (ly [.ep za [0] x2 0] (zbM rfl ⟨Tryz.isAgg59,Tryz.sizeOf59⟩) rfl (lx (lf1 29 (zL [.rc za [0] x,.rc za [0] x2] [0] 12 rfl Tryz.call29 (wj uS) rfl rfl rfl rfl rfl)) l0)))))))))))) (jI h (fun uX h=>?_) fun uX h=>?_)
   ·refine jp ?_;cases h;exact zaN lzz
   refine zV (jp ?_);cases h;exact zD lzz
  cases h;exact zaa rfl lzz
 rcases q with u| u4
 ·refine zan _ rfl (jp (zp ?_));obtain ⟨q2,vn,h⟩:=bnd h;refine zab (fun s:Int=>zbt av b s) (fun s=>⟨[(2,.ptr 11 0),(3,.ptr 12 0),(6,kI s)],[⟨11,33,[.sl za [0] av.Values,.sl Rp.str [0] av.Unknown]⟩,⟨12,33,[.sl za [0] b.Values,.sl Rp.str [0] b.Unknown]⟩]⟩) (fun o e a w=>match o with| (.inl v_)=>e= .exit 2/\Sx ⟨⟨60,[]⟩,Xt,false,#[]⟩ ⟨[],[]⟩ a w| (.inr v_)=>e= .ret/\Sx ⟨⟨60,[]⟩,Xt,false,#[]⟩ ⟨[(4,kB false)],[]⟩ a w) ?_ vn lzz ?_
  ·clear h;intro i2 o h;refine zk ?_;replace h:zbt av b i2=some o:=h;unfold zbt at h;refine jp (jI h (fun vb h=>?_) fun vb h=>?_)
   ·refine zp ?_;obtain ⟨x3,vg,h⟩:=bnd h;obtain ⟨x4,vo,h⟩:=bnd h;refine jd [2,3,6,59] [11,12] zaU (by exact (lw_e (lw_e (lw_e (ly [.sl Rp.str [0] av.Unknown,kI i2] (zW rfl zgI.el (zy _ _ _) vg) rfl (lw_e (lw_e (lw_e (lw_e (ly [.sl Rp.str [0] b.Unknown,kI i2] (zW rfl zgI.el (zy _ _ _) vo) rfl l0)))))))))) (jI h (fun vc h=>?_) fun vc h=>?_)
    ·refine jp ?_;cases h;exact zaN lzz
    refine zV (jp ?_);cases h;exact zD lzz
   cases h;exact zaa rfl lzz
  rcases q2 with u2| u3
  ·refine zan _ rfl (jp ?_);obtain rfl:=(sj h);exact zo lzz
  obtain rfl:=(sj h);exact zcJ lzz
 obtain rfl:=(sj h);exact zcJ lzz
theorem znG (wi:∀{av:zd} {b:zd} {r:Bool},xk av b=some r->FnOk Tryz.prog 16 [.rc zc [0] av,.rc zc [0] b] [kB r]) (wj:∀{av:zb} {b:zb} {r:Bool},xl av b=some r->FnOk Tryz.prog 29 [.rc za [0] av,.rc za [0] b] [kB r]) (h:zeh xk xl av b=some r):FnOk Tryz.prog 29 [.rc za [0] av,.rc za [0] b] [kB r]:=by
 refine zu (E:=⟨[(4,kB r)],[]⟩) 95 Tryz.func29 rfl rfl rfl ⟨rfl,trivial⟩ (fun Xt=>?_);refine zk ?_;unfold zeh at h;refine jr (ra 0 [.rc za [0] av] rfl (zaR 11 [kI av.Number,.sl (Rp.int .u64) [0] av.Words,.sl Rp.str [0] av.Texts,.sl zc [0] av.Subs] [0] rfl rfl rfl (by rw [zi]<;>rfl) rfl) rfl (ra 0 [.rc za [0] b] rfl (zaR 12 [kI b.Number,.sl (Rp.int .u64) [0] b.Words,.sl Rp.str [0] b.Texts,.sl zc [0] b.Subs] [0] rfl rfl rfl (by rw [zi]<;>rfl) rfl) rfl rf)) (zU ⟨[(2,.ptr 11 0),(3,.ptr 12 0),(39,kB ((av.Number !=b.Number)|| (((av.Words.length:Int) !=(b.Words.length:Int))|| (((av.Texts.length:Int) !=(b.Texts.length:Int))|| ((av.Subs.length:Int) !=(b.Subs.length:Int))))))],[⟨11,59,[kI av.Number,.sl (Rp.int .u64) [0] av.Words,.sl Rp.str [0] av.Texts,.sl zc [0] av.Subs]⟩,⟨12,59,[kI b.Number,.sl (Rp.int .u64) [0] b.Words,.sl Rp.str [0] b.Texts,.sl zc [0] b.Subs]⟩]⟩ ?_ ?_)
 ·refine (rsl 6 [] 13 (av.Number !=b.Number) (fun uQ=>?_) (fun uQ=>?_))
  · exact (rbl [] 39 true rfl (by rw [uQ]<;>rfl))
  refine (rsl 9 [] 22 ((av.Words.length:Int) !=(b.Words.length:Int)) (fun uR=>?_) (fun uR=>?_))
  · exact (rbl [] 39 true rfl (by rw [uQ,uR]<;>rfl))
  refine (rsl 9 [] 31 ((av.Texts.length:Int) !=(b.Texts.length:Int)) (fun uT=>?_) (fun uT=>?_))
  · exact (rbl [] 39 true rfl (by rw [uQ,uR,uT]<;>rfl))
  exact (rbl [] 39 ((av.Subs.length:Int) !=(b.Subs.length:Int)) rfl (by rw [uQ,uR,uT]<;>rfl))
 refine jI h (fun uX h=>?_) fun uX h=>?_
 ·refine jp ?_;obtain rfl:=(sj h);exact zo lzz
 refine jp (zp ?_);obtain ⟨q,uU,h⟩:=bnd h;refine zab (fun s:Int=>zaC av b s) (fun s=>⟨[(2,.ptr 11 0),(3,.ptr 12 0),(5,kI s)],[⟨11,59,[kI av.Number,.sl (Rp.int .u64) [0] av.Words,.sl Rp.str [0] av.Texts,.sl zc [0] av.Subs]⟩,⟨12,59,[kI b.Number,.sl (Rp.int .u64) [0] b.Words,.sl Rp.str [0] b.Texts,.sl zc [0] b.Subs]⟩]⟩) (fun o e a w=>match o with| (.inl v_)=>e= .exit 0/\Sx ⟨⟨95,[]⟩,Xt,false,#[]⟩ ⟨[(2,.ptr 11 0),(3,.ptr 12 0)],[⟨11,59,[kI av.Number,.sl (Rp.int .u64) [0] av.Words,.sl Rp.str [0] av.Texts,.sl zc [0] av.Subs]⟩,⟨12,59,[kI b.Number,.sl (Rp.int .u64) [0] b.Words,.sl Rp.str [0] b.Texts,.sl zc [0] b.Subs]⟩]⟩ a w| (.inr v_)=>e= .ret/\Sx ⟨⟨95,[]⟩,Xt,false,#[]⟩ ⟨[(4,kB false)],[]⟩ a w) ?_ uU lzz ?_
 ·clear h;intro i o h;refine zk ?_;replace h:zaC av b i=some o:=h;unfold zaC at h;refine jp (jI h (fun vb h=>?_) fun vb h=>?_)
  ·refine zp ?_;obtain ⟨x,u0,h⟩:=bnd h;obtain ⟨x2,va,h⟩:=bnd h;refine jd [2,3,5,57] [11,12] zaU (by exact (lw_e (lw_e (lw_e (ly [.sl (Rp.int .u64) [0] av.Words,kI i] (zW rfl zrf.el (zy _ _ _) u0) rfl (lw_e (lw_e (lw_e (lw_e (ly [.sl (Rp.int .u64) [0] b.Words,kI i] (zW rfl zrf.el (zy _ _ _) va) rfl l0)))))))))) (jI h (fun vc h=>?_) fun vc h=>?_)
   ·refine jp ?_;cases h;exact zaN lzz
   refine zV (jp ?_);cases h;exact zD lzz
  cases h;exact zaa rfl lzz
 rcases q with u| u6
 ·refine zan _ rfl (jp (zp ?_));obtain ⟨q2,vn,h⟩:=bnd h;refine zab (fun s:Int=>zaD av b s) (fun s=>⟨[(2,.ptr 11 0),(3,.ptr 12 0),(6,kI s)],[⟨11,59,[kI av.Number,.sl (Rp.int .u64) [0] av.Words,.sl Rp.str [0] av.Texts,.sl zc [0] av.Subs]⟩,⟨12,59,[kI b.Number,.sl (Rp.int .u64) [0] b.Words,.sl Rp.str [0] b.Texts,.sl zc [0] b.Subs]⟩]⟩) (fun o e a w=>match o with| (.inl v_)=>e= .exit 2/\Sx ⟨⟨95,[]⟩,Xt,false,#[]⟩ ⟨[(2,.ptr 11 0),(3,.ptr 12 0)],[⟨11,59,[kI av.Number,.sl (Rp.int .u64) [0] av.Words,.sl Rp.str [0] av.Texts,.sl zc [0] av.Subs]⟩,⟨12,59,[kI b.Number,.sl (Rp.int .u64) [0] b.Words,.sl Rp.str [0] b.Texts,.sl zc [0] b.Subs]⟩]⟩ a w| (.inr v_)=>e= .ret/\Sx ⟨⟨95,[]⟩,Xt,false,#[]⟩ ⟨[(4,kB false)],[]⟩ a w) ?_ vn lzz ?_
  ·clear h;intro i2 o h;refine zk ?_;replace h:zaD av b i2=some o:=h;unfold zaD at h;refine jp (jI h (fun vh h=>?_) fun vh h=>?_)
   ·refine zp ?_;obtain ⟨x3,vg,h⟩:=bnd h;obtain ⟨x4,vo,h⟩:=bnd h;refine jd [2,3,6,75] [11,12] zaU (by exact (lw_e (lw_e (lw_e (ly [.sl Rp.str [0] av.Texts,kI i2] (zW rfl zgI.el (zy _ _ _) vg) rfl (lw_e (lw_e (lw_e (lw_e (ly [.sl Rp.str [0] b.Texts,kI i2] (zW rfl zgI.el (zy _ _ _) vo) rfl l0)))))))))) (jI h (fun vk h=>?_) fun vk h=>?_)
    ·refine jp ?_;cases h;exact zaN lzz
    refine zV (jp ?_);cases h;exact zD lzz
   cases h;exact zaa rfl lzz
  rcases q2 with u2| u5
  ·refine zan _ rfl (jp (zp ?_));obtain ⟨q3,vQ,h⟩:=bnd h;refine zab (fun s:Int=>zaE av b xk s) (fun s=>⟨[(2,.ptr 11 0),(3,.ptr 12 0),(7,kI s)],[⟨11,59,[kI av.Number,.sl (Rp.int .u64) [0] av.Words,.sl Rp.str [0] av.Texts,.sl zc [0] av.Subs]⟩,⟨12,59,[kI b.Number,.sl (Rp.int .u64) [0] b.Words,.sl Rp.str [0] b.Texts,.sl zc [0] b.Subs]⟩]⟩) (fun o e a w=>match o with| (.inl v_)=>e= .exit 4/\Sx ⟨⟨95,[]⟩,Xt,false,#[]⟩ ⟨[],[]⟩ a w| (.inr v_)=>e= .ret/\Sx ⟨⟨95,[]⟩,Xt,false,#[]⟩ ⟨[(4,kB false)],[]⟩ a w) ?_ vQ lzz ?_
   ·clear h;intro i3 o h;refine zk ?_;replace h:zaE av b xk i3=some o:=h;unfold zaE at h;refine jp (jI h (fun vj h=>?_) fun vj h=>?_)
    ·refine zp ?_;obtain ⟨x5,vC,h⟩:=bnd h;obtain ⟨x6,vM,h⟩:=bnd h;obtain ⟨rv,uS,h⟩:=bnd h;refine jd [2,3,7,94] [11,12] zaU (by exact (lw_e (lw_e (lw_e (ly [.sl zc [0] av.Subs,kI i3] (zW rfl ztG.el (zy _ _ _) vC) rfl (ly [.ep zc [0] x5 0] (zbM rfl ⟨Tryz.isAgg33,Tryz.sizeOf33⟩) rfl (lw_e (lw_e (lw_e (ly [.sl zc [0] b.Subs,kI i3] (zW rfl ztG.el (zy _ _ _) vM) rfl (ly [.ep zc [0] x6 0] (zbM rfl ⟨Tryz.isAgg33,Tryz.sizeOf33⟩) rfl (lx (lf1 16 (zL [.rc zc [0] x5,.rc zc [0] x6] [0] 14 rfl Tryz.call16 (wi uS) rfl rfl rfl rfl rfl)) l0)))))))))))) (jI h (fun vq h=>?_) fun vq h=>?_)
     ·refine jp ?_;cases h;exact zaN lzz
     refine zV (jp ?_);cases h;exact zD lzz
    cases h;exact zaa rfl lzz
   rcases q3 with u3| u4
   ·refine zan _ rfl (jp ?_);obtain rfl:=(sj h);exact zo lzz
   obtain rfl:=(sj h);exact zcJ lzz
  obtain rfl:=(sj h);exact zcJ lzz
 obtain rfl:=(sj h);exact zcJ lzz
theorem zdT (uY:Nat):(∀{av:zd} {b:zd} {r:Bool},zbY uY av b=some r->FnOk Tryz.prog 16 [.rc zc [0] av,.rc zc [0] b] [kB r])/\(∀{av:zb} {b:zb} {r:Bool},zaT uY av b=some r->FnOk Tryz.prog 29 [.rc za [0] av,.rc za [0] b] [kB r]):=by
  induction uY with
  | zero=>exact ⟨fun h=>absurd h nofun,fun h=>absurd h nofun⟩
  | succ uY ih=>exact ⟨fun h=>zrr (fun hh=>ih.1 hh) (fun hh=>ih.2 hh) h,fun h=>znG (fun hh=>ih.1 hh) (fun hh=>ih.2 hh) h⟩
theorem zmA (h:zbY uY av b=some r):FnOk Tryz.prog 16 [.rc zc [0] av,.rc zc [0] b] [kB r]:=(zdT uY).1 h
theorem zou (h:zaT uY av b=some r):FnOk Tryz.prog 29 [.rc za [0] av,.rc za [0] b] [kB r]:=(zdT uY).2 h
theorem zko (v:(List Str)):ItOk Tryz.prog 223 [.ep (Rp.list Rp.str) [0] v 0] (fun x:Str=>[kS x]) (fun {σ:Type} (kf:Rnd σ Str) (sg:σ)=>zaV v kf sg):=by
 refine zDq 16 [(1,.ep (Rp.list Rp.str) [0] v 0)] [] Tryz.func223 rfl rfl rfl rfl (.ep (Rp.list Rp.str) [0] v (.nil _)) ?_;intro σ kf sg s1 h l I hI F_ hT;replace h:zaV v kf sg=some s1:=h;refine zk (ztB (E':=⟨[(0,.lf (.val (.func (.yield l) #[] #[]))),(1,.ep (Rp.list Rp.str) [0] v 0)],[]⟩) (fun _ _ _ hs=>hs) ?_);unfold zaV at h;refine jr (ra 0 [.ep (Rp.list Rp.str) [0] v 0] rfl (zeR Rp.str v rfl rfl rfl) rfl rf) (zp ?_);obtain ⟨q,uU,h⟩:=bnd h;refine zDs (fun s:(Int×σ)=>zac kf v s.1 s.2) (fun s=>⟨⟨16,[]⟩,itX I hI F_ s.2,false,#[]⟩) (fun s=>⟨[(0,.lf (.val (.func (.yield l) #[] #[]))),(5,.sl Rp.str [0] v),(6,kI (v.length:Int)),(7,kI s.1)],[]⟩) (fun o e a w=>match o with| (.inl v_)=>e= .exit 0/\Sx ⟨⟨16,[]⟩,itX I hI F_ v_,false,#[]⟩ ⟨[],[]⟩ a w| (.inr v_)=>e= .ret/\Sx ⟨⟨16,[]⟩,itX I hI F_ v_,false,#[]⟩ ⟨[],[]⟩ a w) ?_ uU rfl lzz ?_
 ·clear h;intro s o h;obtain ⟨v2,sg2⟩:=s;refine zk ?_;replace h:zac kf v v2 sg2=some o:=h;unfold zac at h;refine jp (jI h (fun uQ h=>?_) fun uQ h=>?_)
  ·refine zp ?_;obtain ⟨x,u0,h⟩:=bnd h;refine jr (ra 0 [.sl Rp.str [0] v,kI v2] rfl (zW rfl zgI.el (zy _ _ _) u0) rfl rf) ?_;obtain ⟨y,vP,h⟩:=bnd h;refine zDu (E':=⟨[(0,.lf (.val (.func (.yield l) #[] #[]))),(5,.sl Rp.str [0] v),(6,kI (v.length:Int)),(7,kI v2),(14,kB (!y.1))],[]⟩) (x:=x) (b:=y.1) (s':=y.2) 2 (some 13) [.tmp 12] [kS x] [kS x] ⟨[(0,.lf (.val (.func (.yield l) #[] #[]))),(5,.sl Rp.str [0] v),(6,kI (v.length:Int)),(7,kI v2),(11,.lf (.val (.func (.yield l) #[] #[]))),(12,kS x)],[]⟩ hT rfl rfl rfl rfl rfl rgg rfl ⟨rfl,trivial⟩ rfl ⟨AV.le_refl _,trivial⟩ rfl rfl vP rgg (jI h (fun uR h=>?_) fun uR h=>?_)
   ·cases h;exact zaN lzz
   refine zV (jp ?_);cases h;exact zD lzz
  cases h;exact zaa rfl lzz
 rcases q with u| u2
 ·refine zan _ rfl ?_;cases h;exact zJk lzz
 cases h;exact zJt lzz
theorem zlG (h:zgu x=some r):zpx Tryz.prog 222 [.own Rp.str 9 2 [0] x] [] [.own Rp.str 9 2 [] r]:=zKp zNg 9 h
theorem zxf (h:strings_Join elems sep=some r):FnOk Tryz.prog 180 [.sl Rp.str [0] elems,kS sep] [kS r]:=zJp zNd zNw h
theorem zhx (h:zdS v=some r):FnOk Tryz.prog 51 [.rc za [0] v] [kB r]:=by
 refine zu (E:=⟨[(2,kB r)],[]⟩) 15 Tryz.func51 rfl rfl rfl ⟨rfl,trivial⟩ (fun Xt=>?_);refine zk ?_;unfold zdS at h;refine jr (ra 0 [.rc za [0] v] rfl (zaR 11 [kI v.Number,.sl (Rp.int .u64) [0] v.Words,.sl Rp.str [0] v.Texts,.sl zc [0] v.Subs] [0] rfl rfl rfl (by rw [zi]<;>rfl) rfl) rfl rf) (jp ?_);cases h;exact zo lzz
theorem zzR (h:zus x=some r):FnOk Tryz.prog 90 [.rc zc [0] x] [.ag [kI r.1.Number,.sl (Rp.int .u64) [0] r.1.Words,.sl Rp.str [0] r.1.Texts,.sl zc [0] r.1.Subs],kB r.2]:=by
 refine zu (E:=⟨[(2,.ptr 2 0),(3,kB r.2)],[⟨2,57,[kI r.1.Number,.sl (Rp.int .u64) [0] r.1.Words,.sl Rp.str [0] r.1.Texts,.sl zc [0] r.1.Subs]⟩]⟩) 13 Tryz.func90 rfl rfl rfl ⟨⟨_,_,rfl,rfl,rfl,⟨Tryz.isAgg57,Tryz.sizeOf57⟩⟩,rfl,trivial⟩ (fun Xt=>?_);refine zk ?_;unfold zus at h;refine jr (ra 0 [.rc zc [0] x] rfl (zaR 13 [.sl za [0] x.Values,.sl Rp.str [0] x.Unknown] [0] rfl rfl rfl (by rw [zj]<;>rfl) rfl) rfl (rfl' [14])) (jp (jI h (fun uQ h=>?_) fun uQ h=>?_))
 ·refine jr (ra 0 [] rfl (zaM [] [kI 0,kN,kN,kN] rfl zwR rfl) rfl rf) ?_;cases h;exact zo (lk [2,3] [14] 14 2 (zaq ⟨[(2,.ptr 2 0),(3,kB false)],[⟨2,57,[kI 0,kN,kN,kN]⟩]⟩ (by kernel_rfl) (zat 2 1 (.sl (Rp.int .u64) [0] (((⟨0,[],[],[]⟩:zb),false):(zb×Bool)).1.Words) rfl rfl (zaz (Rp.int .u64) [0]) (zat 2 2 (.sl Rp.str [0] (((⟨0,[],[],[]⟩:zb),false):(zb×Bool)).1.Texts) rfl rfl (zaz Rp.str [0]) (zat 2 3 (.sl zc [0] (((⟨0,[],[],[]⟩:zb),false):(zb×Bool)).1.Subs) rfl rfl (zaz zc [0]) lzz)))))
 obtain ⟨x2,va,h⟩:=bnd h;refine jr (ra 2 [.sl za [0] x.Values,kI 0] rfl (zW rfl zjx.el (zy _ _ _) va) rfl (ra 0 [.ep za [0] x2 0] rfl (zbM rfl ⟨Tryz.isAgg57,Tryz.sizeOf57⟩) rfl (ra 0 [.ptr 14 0,.rc za [0] x2] rfl (zhb (r:=za) (b:=⟨14,57,[kI 0,kN,kN,kN]⟩) (off:=0) [kI x2.Number,.sl (Rp.int .u64) [0] x2.Words,.sl Rp.str [0] x2.Texts,.sl zc [0] x2.Subs] rfl Tryz.sizeOf57 rfl rfl (by rw [zi]<;>rfl) rfl) rfl rf))) ?_;cases h;exact zo (lk [2,3] [14] 14 2 lzz)
theorem zrM (h:zhE l=some r):FnOk Tryz.prog 91 [.sl Rp.str [0] l] [kS r]:=by
 refine zu (E:=⟨[(2,kS r)],[]⟩) 22 Tryz.func91 rfl rfl rfl ⟨rfl,trivial⟩ (fun Xt=>?_);refine zk ?_;unfold zhE at h;refine jp (jp (jp (zp ?_)));obtain ⟨q,uU,h⟩:=bnd h;refine zab (fun s:(Str×Int)=>zbT l s.1 s.2) (fun s=>⟨[(0,.sl Rp.str [0] l),(3,kS s.1),(4,kI s.2)],[]⟩) (fun o e a w=>e= .exit 0/\Sx ⟨⟨22,[]⟩,Xt,false,#[]⟩ ⟨[(3,kS o)],[]⟩ a w) ?_ uU lzz ?_
 ·clear h;intro s o h;obtain ⟨out,i⟩:=s;refine zk ?_;replace h:zbT l out i=some o:=h;unfold zbT at h;refine jp (jI h (fun uQ h=>?_) fun uQ h=>?_)
  ·refine zp (jp ?_);obtain ⟨p,vz,h⟩:=bnd h;refine zdb (R:=fun e a w=>e= .normal/\Sx ⟨⟨22,[]⟩,Xt,false,#[]⟩ ⟨[(0,.sl Rp.str [0] l),(3,kS p),(4,kI i)],[]⟩ a w) ?_ ?_
   ·replace h:=vz;refine zk (jI h (fun uR h=>?_) fun uR h=>?_)
    ·obtain ⟨v,vf,h⟩:=bnd h;refine jr (ra 1 [kS out,kS [46]] rfl (zJI rfl vf) rfl rf) ?_;cases h;exact zD lzz
    cases h;exact zD lzz
   refine zeQ ?_;obtain ⟨x,u0,h⟩:=bnd h;obtain ⟨v2,vp,h⟩:=bnd h;refine jr (ra 3 [.sl Rp.str [0] l,kI i] rfl (zW rfl zgI.el (zy _ _ _) u0) rfl (ra 1 [kS p,kS x] rfl (zJI rfl vp) rfl rf)) (zV (jp ?_));cases h;exact zD lzz
  cases h;exact zaa rfl lzz
 refine zan _ rfl (jp ?_);obtain rfl:=(sj h);exact zo lzz
end Go.Proofs.YtekgmimingolbaaGreat

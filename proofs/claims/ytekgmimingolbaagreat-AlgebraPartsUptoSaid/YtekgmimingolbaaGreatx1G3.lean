/-
  The Go functions do what the plain functions say. No condition.
-/
import Derived.Test.YtekgmimingolbaaGreatx1T
import Derived.Test.YtekgmimingolbaaGreatx1Y
set_option autoImplicit true
set_option relaxedAutoImplicit true
namespace Go.Proofs.YtekgmimingolbaaGreat
open Go Go.RowKit
set_option linter.unusedVariables false
set_option maxRecDepth 100000
set_option maxHeartbeats 3200000
theorem ziB (h:zer b atv=some r):FnOk Tryz.prog 119 [.sl Rp.byte [0] b,kI atv] [kU r.1,kI r.2.1,kI r.2.2]:=by
 refine zu (E:=⟨[(4,kU r.1),(5,kI r.2.1),(6,kI r.2.2)],[]⟩) 69 Tryz.func119 rfl rfl rfl ⟨rfl,rfl,rfl,trivial⟩ (fun Xt=>?_);refine zj ?_;unfold zer at h;refine jp (jp (zq ?_));obtain ⟨q,uJ,h⟩:=bnd h;refine zW (fun s:Int=>zaE atv b s) (fun s=>⟨[(0,.sl Rp.byte [0] b),(1,kI atv),(7,kI s)],[]⟩) (fun o e a w=>e= .exit 0/\Sx ⟨⟨69,[]⟩,Xt,false,#[]⟩ ⟨[(0,.sl Rp.byte [0] b),(1,kI atv),(7,kI o)],[]⟩ a w) ?_ uJ lzz ?_
 ·clear h;intro n o h;refine zj ?_;replace h:zaE atv b n=some o:=h;unfold zaE at h;obtain ⟨g,uB,h⟩:=bnd h;refine zO ⟨[(0,.sl Rp.byte [0] b),(1,kI atv),(7,kI n),(28,kB g)],[]⟩ ?_ ?_
  ·refine (rsl 7 [] 16 (decide ((IntKind.i64.wrap (atv+n))<(b.length:Int))) (fun uC=>?_) (fun uC=>?_))
   ·replace uB:=iteT uB uC;refine (rsl 4 [] 20 (decide (n<10)) (fun uD=>?_) (fun uD=>?_))
    ·replace uB:=iteT uB uD;obtain ⟨x,uM,uB⟩:=bnd uB;cases uB;exact (ra 4 [.sl Rp.byte [0] b,kI (IntKind.i64.wrap (atv+n))] rfl (zP rfl zir.el (zw _ _ _) uM) rfl rgg)
    replace uB:=iteF uB uD;cases uB;exact rgg
   replace uB:=iteF uB uC;cases uB;exact rgg
  refine jI h (fun uE h=>?_) fun uE h=>?_
  ·refine zq (jp (zQ ?_));cases h;exact zD lzz
  cases h;exact zX rfl lzz
 refine zaj _ rfl (jp (jI h (fun uI h=>?_) fun uI h=>?_))
 ·refine jp ?_;cases h;exact zt lzz
 refine jp (jI h (fun uL h=>?_) fun uL h=>?_)
 ·refine jp ?_;cases h;exact zt lzz
 obtain ⟨g2,uH,h⟩:=bnd h;refine zO ⟨[(0,.sl Rp.byte [0] b),(1,kI atv),(7,kI q),(49,kB g2)],[]⟩ ?_ ?_
 ·refine (rsl 3 [] 41 (q==9) (fun uN=>?_) (fun uN=>?_))
  ·replace uH:=iteT uH uN;obtain ⟨x2,uP,uH⟩:=bnd uH;cases uH;exact (ra 4 [.sl Rp.byte [0] b,kI (IntKind.i64.wrap (atv+q))] rfl (zP rfl zir.el (zw _ _ _) uP) rfl rgg)
  replace uH:=iteF uH uN;cases uH;exact rgg
 refine jI h (fun uS h=>?_) fun uS h=>?_
 ·refine jp ?_;cases h;exact zt lzz
 refine jp (jp (zq ?_));obtain ⟨q2,u0,h⟩:=bnd h;refine zW (fun s:(Int×Int)=>zbz atv b s.1 s.2) (fun s=>⟨[(0,.sl Rp.byte [0] b),(1,kI atv),(7,kI q),(8,kU s.1),(9,kI s.2)],[]⟩) (fun o e a w=>e= .exit 2/\Sx ⟨⟨69,[]⟩,Xt,false,#[]⟩ ⟨[(7,kI q),(8,kU o)],[]⟩ a w) ?_ u0 lzz ?_
 ·clear h;intro s o h;obtain ⟨wv,i⟩:=s;refine zj ?_;replace h:zbz atv b wv i=some o:=h;unfold zbz at h;refine jp (jI h (fun uX h=>?_) fun uX h=>?_)
  ·refine zq ?_;obtain ⟨x3,uW,h⟩:=bnd h;refine jr (ra 6 [.sl Rp.byte [0] b,kI (IntKind.i64.wrap (atv+i))] rfl (zP rfl zir.el (zw _ _ _) uW) rfl rf) (zQ (jp ?_));cases h;exact zD lzz
  cases h;exact zX rfl lzz
 refine zaj _ rfl (jp ?_);cases h;exact zt lzz
theorem zpD (h:zgd uV wire=some r):FnOk Tryz.prog 151 [kI uV,kI wire] [kB r]:=by
 refine zu (E:=⟨[(4,kB r)],[]⟩) 27 Tryz.func151 rfl rfl rfl ⟨rfl,trivial⟩ (fun Xt=>?_);refine zj ?_;unfold zgd at h;refine jp (zO ⟨[(4,kB ((decide (uV>=1))&&((decide (uV<=536870911))&&((wire==0)|| ((wire==1)|| ((wire==2)|| (wire==5)))))))],[]⟩ ?_ ?_)
 ·refine (rsl 3 [] 7 (decide (uV>=1)) (fun uC=>?_) (fun uC=>?_))
  ·refine (rsl 4 [] 11 (decide (uV<=536870911)) (fun uD=>?_) (fun uD=>?_))
   ·refine (rsl 3 [] 14 (wire==0) (fun uE=>?_) (fun uE=>?_))
    · exact (rbl [] 4 true rfl (by rw [uC,uD,uE]<;>rfl))
    refine (rsl 4 [] 18 (wire==1) (fun uI=>?_) (fun uI=>?_))
    · exact (rbl [] 4 true rfl (by rw [uC,uD,uE,uI]<;>rfl))
    refine (rsl 4 [] 22 (wire==2) (fun uL=>?_) (fun uL=>?_))
    · exact (rbl [] 4 true rfl (by rw [uC,uD,uE,uI,uL]<;>rfl))
    exact (rbl [] 4 (wire==5) rfl (by rw [uC,uD,uE,uI,uL]<;>rfl))
   exact (rbl [] 4 false rfl (by rw [uC,uD]<;>rfl))
  exact (rbl [] 4 false rfl (by rw [uC]<;>rfl))
 cases h;exact zt lzz
theorem zpO (vZ:∀{av:zc} {b:zc} {r:Bool},xk av b=some r->FnOk Tryz.prog 16 [.rc zd [0] av,.rc zd [0] b] [kB r]) (v8:∀{av:zb} {b:zb} {r:Bool},xl av b=some r->FnOk Tryz.prog 29 [.rc za [0] av,.rc za [0] b] [kB r]) (h:zfM xk xl av b=some r):FnOk Tryz.prog 16 [.rc zd [0] av,.rc zd [0] b] [kB r]:=by
 refine zu (E:=⟨[(4,kB r)],[]⟩) 60 Tryz.func16 rfl rfl rfl ⟨rfl,trivial⟩ (fun Xt=>?_);refine zj ?_;unfold zfM at h;refine jr (ra 0 [.rc zd [0] av] rfl (zbL 11 [.sl za [0] av.Values,.sl Rp.str [0] av.Unknown] [0] rfl rfl rfl (by rw [zi]<;>rfl) rfl) rfl (ra 0 [.rc zd [0] b] rfl (zbL 12 [.sl za [0] b.Values,.sl Rp.str [0] b.Unknown] [0] rfl rfl rfl (by rw [zi]<;>rfl) rfl) rfl rf)) (zO ⟨[(2,.ptr 11 0),(3,.ptr 12 0),(22,kB (((av.Values.length:Int) !=(b.Values.length:Int))|| ((av.Unknown.length:Int) !=(b.Unknown.length:Int))))],[⟨11,33,[.sl za [0] av.Values,.sl Rp.str [0] av.Unknown]⟩,⟨12,33,[.sl za [0] b.Values,.sl Rp.str [0] b.Unknown]⟩]⟩ ?_ ?_)
 ·refine (rsl 8 [] 14 ((av.Values.length:Int) !=(b.Values.length:Int)) (fun uC=>?_) (fun uC=>?_))
  · exact (rbl [] 22 true rfl (by rw [uC]<;>rfl))
  exact (rbl [] 22 ((av.Unknown.length:Int) !=(b.Unknown.length:Int)) rfl (by rw [uC]<;>rfl))
 refine jI h (fun uD h=>?_) fun uD h=>?_
 ·refine jp ?_;obtain rfl:=(sj h);exact zt lzz
 refine jp (zq ?_);obtain ⟨q,uJ,h⟩:=bnd h;refine zW (fun s:Int=>zbd av b xl s) (fun s=>⟨[(2,.ptr 11 0),(3,.ptr 12 0),(5,kI s)],[⟨11,33,[.sl za [0] av.Values,.sl Rp.str [0] av.Unknown]⟩,⟨12,33,[.sl za [0] b.Values,.sl Rp.str [0] b.Unknown]⟩]⟩) (fun o e a w=>match o with| (.inl v_)=>e= .exit 0/\Sx ⟨⟨60,[]⟩,Xt,false,#[]⟩ ⟨[(2,.ptr 11 0),(3,.ptr 12 0)],[⟨11,33,[.sl za [0] av.Values,.sl Rp.str [0] av.Unknown]⟩,⟨12,33,[.sl za [0] b.Values,.sl Rp.str [0] b.Unknown]⟩]⟩ a w| (.inr v_)=>e= .ret/\Sx ⟨⟨60,[]⟩,Xt,false,#[]⟩ ⟨[(4,kB false)],[]⟩ a w) ?_ uJ lzz ?_
 ·clear h;intro i o h;refine zj ?_;replace h:zbd av b xl i=some o:=h;unfold zbd at h;refine jp (jI h (fun uE h=>?_) fun uE h=>?_)
  ·refine zq ?_;obtain ⟨x,uM,h⟩:=bnd h;obtain ⟨x2,uP,h⟩:=bnd h;obtain ⟨rv,uF,h⟩:=bnd h;refine jd [2,3,5,41] [11,12] zbq (by exact (lw_e (lw_e (lw_e (ly [.sl za [0] av.Values,kI i] (zP rfl zlF.el (zw _ _ _) uM) rfl (ly [.ep za [0] x 0] (zcM rfl ⟨Tryz.isAgg59,Tryz.sizeOf59⟩) rfl (lw_e (lw_e (lw_e (ly [.sl za [0] b.Values,kI i] (zP rfl zlF.el (zw _ _ _) uP) rfl (ly [.ep za [0] x2 0] (zcM rfl ⟨Tryz.isAgg59,Tryz.sizeOf59⟩) rfl (lx (lf1 29 (zR [.rc za [0] x,.rc za [0] x2] [0] 12 rfl Tryz.call29 (v8 uF) rfl rfl rfl rfl rfl)) l0)))))))))))) (jI h (fun uI h=>?_) fun uI h=>?_)
   ·refine jp ?_;cases h;exact zaK lzz
   refine zQ (jp ?_);cases h;exact zD lzz
  cases h;exact zX rfl lzz
 rcases q with u| u4
 ·refine zaj _ rfl (jp (zq ?_));obtain ⟨q2,u0,h⟩:=bnd h;refine zW (fun s:Int=>zbe av b s) (fun s=>⟨[(2,.ptr 11 0),(3,.ptr 12 0),(6,kI s)],[⟨11,33,[.sl za [0] av.Values,.sl Rp.str [0] av.Unknown]⟩,⟨12,33,[.sl za [0] b.Values,.sl Rp.str [0] b.Unknown]⟩]⟩) (fun o e a w=>match o with| (.inl v_)=>e= .exit 2/\Sx ⟨⟨60,[]⟩,Xt,false,#[]⟩ ⟨[],[]⟩ a w| (.inr v_)=>e= .ret/\Sx ⟨⟨60,[]⟩,Xt,false,#[]⟩ ⟨[(4,kB false)],[]⟩ a w) ?_ u0 lzz ?_
  ·clear h;intro i2 o h;refine zj ?_;replace h:zbe av b i2=some o:=h;unfold zbe at h;refine jp (jI h (fun uL h=>?_) fun uL h=>?_)
   ·refine zq ?_;obtain ⟨x3,uW,h⟩:=bnd h;obtain ⟨x4,va,h⟩:=bnd h;refine jd [2,3,6,59] [11,12] zbq (by exact (lw_e (lw_e (lw_e (ly [.sl Rp.str [0] av.Unknown,kI i2] (zP rfl zjA.el (zw _ _ _) uW) rfl (lw_e (lw_e (lw_e (lw_e (ly [.sl Rp.str [0] b.Unknown,kI i2] (zP rfl zjA.el (zw _ _ _) va) rfl l0)))))))))) (jI h (fun uN h=>?_) fun uN h=>?_)
    ·refine jp ?_;cases h;exact zaK lzz
    refine zQ (jp ?_);cases h;exact zD lzz
   cases h;exact zX rfl lzz
  rcases q2 with u2| u3
  ·refine zaj _ rfl (jp ?_);obtain rfl:=(sj h);exact zt lzz
  obtain rfl:=(sj h);exact zcN lzz
 obtain rfl:=(sj h);exact zcN lzz
theorem zmg (vZ:∀{av:zc} {b:zc} {r:Bool},xk av b=some r->FnOk Tryz.prog 16 [.rc zd [0] av,.rc zd [0] b] [kB r]) (v8:∀{av:zb} {b:zb} {r:Bool},xl av b=some r->FnOk Tryz.prog 29 [.rc za [0] av,.rc za [0] b] [kB r]) (h:zdF xk xl av b=some r):FnOk Tryz.prog 29 [.rc za [0] av,.rc za [0] b] [kB r]:=by
 refine zu (E:=⟨[(4,kB r)],[]⟩) 95 Tryz.func29 rfl rfl rfl ⟨rfl,trivial⟩ (fun Xt=>?_);refine zj ?_;unfold zdF at h;refine jr (ra 0 [.rc za [0] av] rfl (zbL 11 [kI av.Number,.sl (Rp.int .u64) [0] av.Words,.sl Rp.str [0] av.Texts,.sl zd [0] av.Subs] [0] rfl rfl rfl (by rw [zk]<;>rfl) rfl) rfl (ra 0 [.rc za [0] b] rfl (zbL 12 [kI b.Number,.sl (Rp.int .u64) [0] b.Words,.sl Rp.str [0] b.Texts,.sl zd [0] b.Subs] [0] rfl rfl rfl (by rw [zk]<;>rfl) rfl) rfl rf)) (zO ⟨[(2,.ptr 11 0),(3,.ptr 12 0),(39,kB ((av.Number !=b.Number)|| (((av.Words.length:Int) !=(b.Words.length:Int))|| (((av.Texts.length:Int) !=(b.Texts.length:Int))|| ((av.Subs.length:Int) !=(b.Subs.length:Int))))))],[⟨11,59,[kI av.Number,.sl (Rp.int .u64) [0] av.Words,.sl Rp.str [0] av.Texts,.sl zd [0] av.Subs]⟩,⟨12,59,[kI b.Number,.sl (Rp.int .u64) [0] b.Words,.sl Rp.str [0] b.Texts,.sl zd [0] b.Subs]⟩]⟩ ?_ ?_)
 ·refine (rsl 6 [] 13 (av.Number !=b.Number) (fun uC=>?_) (fun uC=>?_))
  · exact (rbl [] 39 true rfl (by rw [uC]<;>rfl))
  refine (rsl 9 [] 22 ((av.Words.length:Int) !=(b.Words.length:Int)) (fun uD=>?_) (fun uD=>?_))
  · exact (rbl [] 39 true rfl (by rw [uC,uD]<;>rfl))
  refine (rsl 9 [] 31 ((av.Texts.length:Int) !=(b.Texts.length:Int)) (fun uE=>?_) (fun uE=>?_))
  · exact (rbl [] 39 true rfl (by rw [uC,uD,uE]<;>rfl))
  exact (rbl [] 39 ((av.Subs.length:Int) !=(b.Subs.length:Int)) rfl (by rw [uC,uD,uE]<;>rfl))
 refine jI h (fun uI h=>?_) fun uI h=>?_
 ·refine jp ?_;obtain rfl:=(sj h);exact zt lzz
 refine jp (zq ?_);obtain ⟨q,uJ,h⟩:=bnd h;refine zW (fun s:Int=>zaq av b s) (fun s=>⟨[(2,.ptr 11 0),(3,.ptr 12 0),(5,kI s)],[⟨11,59,[kI av.Number,.sl (Rp.int .u64) [0] av.Words,.sl Rp.str [0] av.Texts,.sl zd [0] av.Subs]⟩,⟨12,59,[kI b.Number,.sl (Rp.int .u64) [0] b.Words,.sl Rp.str [0] b.Texts,.sl zd [0] b.Subs]⟩]⟩) (fun o e a w=>match o with| (.inl v_)=>e= .exit 0/\Sx ⟨⟨95,[]⟩,Xt,false,#[]⟩ ⟨[(2,.ptr 11 0),(3,.ptr 12 0)],[⟨11,59,[kI av.Number,.sl (Rp.int .u64) [0] av.Words,.sl Rp.str [0] av.Texts,.sl zd [0] av.Subs]⟩,⟨12,59,[kI b.Number,.sl (Rp.int .u64) [0] b.Words,.sl Rp.str [0] b.Texts,.sl zd [0] b.Subs]⟩]⟩ a w| (.inr v_)=>e= .ret/\Sx ⟨⟨95,[]⟩,Xt,false,#[]⟩ ⟨[(4,kB false)],[]⟩ a w) ?_ uJ lzz ?_
 ·clear h;intro i o h;refine zj ?_;replace h:zaq av b i=some o:=h;unfold zaq at h;refine jp (jI h (fun uL h=>?_) fun uL h=>?_)
  ·refine zq ?_;obtain ⟨x,uM,h⟩:=bnd h;obtain ⟨x2,uP,h⟩:=bnd h;refine jd [2,3,5,57] [11,12] zbq (by exact (lw_e (lw_e (lw_e (ly [.sl (Rp.int .u64) [0] av.Words,kI i] (zP rfl zpz.el (zw _ _ _) uM) rfl (lw_e (lw_e (lw_e (lw_e (ly [.sl (Rp.int .u64) [0] b.Words,kI i] (zP rfl zpz.el (zw _ _ _) uP) rfl l0)))))))))) (jI h (fun uN h=>?_) fun uN h=>?_)
   ·refine jp ?_;cases h;exact zaK lzz
   refine zQ (jp ?_);cases h;exact zD lzz
  cases h;exact zX rfl lzz
 rcases q with u| u6
 ·refine zaj _ rfl (jp (zq ?_));obtain ⟨q2,u0,h⟩:=bnd h;refine zW (fun s:Int=>zar av b s) (fun s=>⟨[(2,.ptr 11 0),(3,.ptr 12 0),(6,kI s)],[⟨11,59,[kI av.Number,.sl (Rp.int .u64) [0] av.Words,.sl Rp.str [0] av.Texts,.sl zd [0] av.Subs]⟩,⟨12,59,[kI b.Number,.sl (Rp.int .u64) [0] b.Words,.sl Rp.str [0] b.Texts,.sl zd [0] b.Subs]⟩]⟩) (fun o e a w=>match o with| (.inl v_)=>e= .exit 2/\Sx ⟨⟨95,[]⟩,Xt,false,#[]⟩ ⟨[(2,.ptr 11 0),(3,.ptr 12 0)],[⟨11,59,[kI av.Number,.sl (Rp.int .u64) [0] av.Words,.sl Rp.str [0] av.Texts,.sl zd [0] av.Subs]⟩,⟨12,59,[kI b.Number,.sl (Rp.int .u64) [0] b.Words,.sl Rp.str [0] b.Texts,.sl zd [0] b.Subs]⟩]⟩ a w| (.inr v_)=>e= .ret/\Sx ⟨⟨95,[]⟩,Xt,false,#[]⟩ ⟨[(4,kB false)],[]⟩ a w) ?_ u0 lzz ?_
  ·clear h;intro i2 o h;refine zj ?_;replace h:zar av b i2=some o:=h;unfold zar at h;refine jp (jI h (fun uS h=>?_) fun uS h=>?_)
   ·refine zq ?_;obtain ⟨x3,uW,h⟩:=bnd h;obtain ⟨x4,va,h⟩:=bnd h;refine jd [2,3,6,75] [11,12] zbq (by exact (lw_e (lw_e (lw_e (ly [.sl Rp.str [0] av.Texts,kI i2] (zP rfl zjA.el (zw _ _ _) uW) rfl (lw_e (lw_e (lw_e (lw_e (ly [.sl Rp.str [0] b.Texts,kI i2] (zP rfl zjA.el (zw _ _ _) va) rfl l0)))))))))) (jI h (fun uX h=>?_) fun uX h=>?_)
    ·refine jp ?_;cases h;exact zaK lzz
    refine zQ (jp ?_);cases h;exact zD lzz
   cases h;exact zX rfl lzz
  rcases q2 with u2| u5
  ·refine zaj _ rfl (jp (zq ?_));obtain ⟨q3,vv,h⟩:=bnd h;refine zW (fun s:Int=>zas av b xk s) (fun s=>⟨[(2,.ptr 11 0),(3,.ptr 12 0),(7,kI s)],[⟨11,59,[kI av.Number,.sl (Rp.int .u64) [0] av.Words,.sl Rp.str [0] av.Texts,.sl zd [0] av.Subs]⟩,⟨12,59,[kI b.Number,.sl (Rp.int .u64) [0] b.Words,.sl Rp.str [0] b.Texts,.sl zd [0] b.Subs]⟩]⟩) (fun o e a w=>match o with| (.inl v_)=>e= .exit 4/\Sx ⟨⟨95,[]⟩,Xt,false,#[]⟩ ⟨[],[]⟩ a w| (.inr v_)=>e= .ret/\Sx ⟨⟨95,[]⟩,Xt,false,#[]⟩ ⟨[(4,kB false)],[]⟩ a w) ?_ vv lzz ?_
   ·clear h;intro i3 o h;refine zj ?_;replace h:zas av b xk i3=some o:=h;unfold zas at h;refine jp (jI h (fun uU h=>?_) fun uU h=>?_)
    ·refine zq ?_;obtain ⟨x5,vi,h⟩:=bnd h;obtain ⟨x6,vo,h⟩:=bnd h;obtain ⟨rv,uF,h⟩:=bnd h;refine jd [2,3,7,94] [11,12] zbq (by exact (lw_e (lw_e (lw_e (ly [.sl zd [0] av.Subs,kI i3] (zP rfl ztB.el (zw _ _ _) vi) rfl (ly [.ep zd [0] x5 0] (zcM rfl ⟨Tryz.isAgg33,Tryz.sizeOf33⟩) rfl (lw_e (lw_e (lw_e (ly [.sl zd [0] b.Subs,kI i3] (zP rfl ztB.el (zw _ _ _) vo) rfl (ly [.ep zd [0] x6 0] (zcM rfl ⟨Tryz.isAgg33,Tryz.sizeOf33⟩) rfl (lx (lf1 16 (zR [.rc zd [0] x5,.rc zd [0] x6] [0] 14 rfl Tryz.call16 (vZ uF) rfl rfl rfl rfl rfl)) l0)))))))))))) (jI h (fun u9 h=>?_) fun u9 h=>?_)
     ·refine jp ?_;cases h;exact zaK lzz
     refine zQ (jp ?_);cases h;exact zD lzz
    cases h;exact zX rfl lzz
   rcases q3 with u3| u4
   ·refine zaj _ rfl (jp ?_);obtain rfl:=(sj h);exact zt lzz
   obtain rfl:=(sj h);exact zcN lzz
  obtain rfl:=(sj h);exact zcN lzz
 obtain rfl:=(sj h);exact zcN lzz
theorem zgO (uO:Nat):(∀{av:zc} {b:zc} {r:Bool},zbf uO av b=some r->FnOk Tryz.prog 16 [.rc zd [0] av,.rc zd [0] b] [kB r])/\(∀{av:zb} {b:zb} {r:Bool},zcL uO av b=some r->FnOk Tryz.prog 29 [.rc za [0] av,.rc za [0] b] [kB r]):=by
  induction uO with
  | zero=>exact ⟨fun h=>absurd h nofun,fun h=>absurd h nofun⟩
  | succ uO ih=>exact ⟨fun h=>zpO (fun hh=>ih.1 hh) (fun hh=>ih.2 hh) h,fun h=>zmg (fun hh=>ih.1 hh) (fun hh=>ih.2 hh) h⟩
theorem zfo (h:zbf uO av b=some r):FnOk Tryz.prog 16 [.rc zd [0] av,.rc zd [0] b] [kB r]:=(zgO uO).1 h
theorem zqe (h:zgF l=some r):FnOk Tryz.prog 17 [.sl (Rp.list (Rp.int .i64)) [0] l] [kB r]:=by
 refine zu (E:=⟨[(2,kB r)],[]⟩) 21 Tryz.func17 rfl rfl rfl ⟨rfl,trivial⟩ (fun Xt=>?_);refine zj ?_;unfold zgF at h;refine jp (jp (jp (zq ?_)));obtain ⟨q,uJ,h⟩:=bnd h;refine zW (fun s:(Int×Int)=>zbx l s.1 s.2) (fun s=>⟨[(0,.sl (Rp.list (Rp.int .i64)) [0] l),(3,kI s.1),(4,kI s.2)],[]⟩) (fun o e a w=>e= .exit 0/\Sx ⟨⟨21,[]⟩,Xt,false,#[]⟩ ⟨[(3,kI o)],[]⟩ a w) ?_ uJ lzz ?_
 ·clear h;intro s o h;obtain ⟨n,i⟩:=s;refine zj ?_;replace h:zbx l n i=some o:=h;unfold zbx at h;refine jp (jI h (fun uC h=>?_) fun uC h=>?_)
  ·refine zq ?_;obtain ⟨x,uM,h⟩:=bnd h;refine jr (ra 4 [.sl (Rp.list (Rp.int .i64)) [0] l,kI i] rfl (zP rfl zcY.el (zw _ _ _) uM) rfl (ra 0 [.ep (Rp.list (Rp.int .i64)) [0] x 0] rfl (zbv (Rp.int .i64) x rfl rfl rfl) rfl rf)) (zQ (jp ?_));cases h;exact zD lzz
  cases h;exact zX rfl lzz
 refine zaj _ rfl (jp ?_);cases h;exact zt lzz
theorem znC (h:zeR av b=some r):FnOk Tryz.prog 86 [.sl (Rp.int .i64) [0] av,.sl (Rp.int .i64) [0] b] [kB r]:=by
 refine zu (E:=⟨[(4,kB r)],[]⟩) 26 Tryz.func86 rfl rfl rfl ⟨rfl,trivial⟩ (fun Xt=>?_);refine zj ?_;unfold zeR at h;refine jp (jp (jI h (fun uC h=>?_) fun uC h=>?_))
 ·refine jp ?_;obtain rfl:=(sj h);exact zt lzz
 refine jp (zq ?_);obtain ⟨q,uJ,h⟩:=bnd h;refine zW (fun s:Int=>zax av b s) (fun s=>⟨[(0,.sl (Rp.int .i64) [0] av),(1,.sl (Rp.int .i64) [0] b),(5,kI s)],[]⟩) (fun o e a w=>match o with| (.inl v_)=>e= .exit 0/\Sx ⟨⟨26,[]⟩,Xt,false,#[]⟩ ⟨[],[]⟩ a w| (.inr v_)=>e= .ret/\Sx ⟨⟨26,[]⟩,Xt,false,#[]⟩ ⟨[(4,kB false)],[]⟩ a w) ?_ uJ lzz ?_
 ·clear h;intro i o h;refine zj ?_;replace h:zax av b i=some o:=h;unfold zax at h;refine jp (jI h (fun uD h=>?_) fun uD h=>?_)
  ·refine zq ?_;obtain ⟨x,uM,h⟩:=bnd h;obtain ⟨x2,uP,h⟩:=bnd h;refine jd [0,1,5,25] [] zbq (by exact (lw_e (lw_e (ly [.sl (Rp.int .i64) [0] av,kI i] (zP rfl zhz.el (zw _ _ _) uM) rfl (lw_e (lw_e (lw_e (ly [.sl (Rp.int .i64) [0] b,kI i] (zP rfl zhz.el (zw _ _ _) uP) rfl l0)))))))) (jI h (fun uE h=>?_) fun uE h=>?_)
   ·refine jp ?_;cases h;exact zaK lzz
   refine zQ (jp ?_);cases h;exact zD lzz
  cases h;exact zX rfl lzz
 rcases q with u| u2
 ·refine zaj _ rfl (jp ?_);obtain rfl:=(sj h);exact zt lzz
 obtain rfl:=(sj h);exact zcN lzz
theorem zql (h:zgN av b=some r):FnOk Tryz.prog 47 [.sl (Rp.int .i64) [0] av,.sl (Rp.int .i64) [0] b] [kB r]:=by
 refine zu (E:=⟨[(4,kB r)],[]⟩) 41 Tryz.func47 rfl rfl rfl ⟨rfl,trivial⟩ (fun Xt=>?_);refine zj ?_;unfold zgN at h;refine jp (jp (zq ?_));obtain ⟨q,uJ,h⟩:=bnd h;refine zW (fun s:Int=>zaB av b s) (fun s=>⟨[(0,.sl (Rp.int .i64) [0] av),(1,.sl (Rp.int .i64) [0] b),(5,kI s)],[]⟩) (fun o e a w=>match o with| (.inl v_)=>e= .exit 0/\Sx ⟨⟨41,[]⟩,Xt,false,#[]⟩ ⟨[(0,.sl (Rp.int .i64) [0] av),(1,.sl (Rp.int .i64) [0] b)],[]⟩ a w| (.inr v_)=>e= .ret/\Sx ⟨⟨41,[]⟩,Xt,false,#[]⟩ ⟨[(4,kB v_)],[]⟩ a w) ?_ uJ lzz ?_
 ·clear h;intro i o h;refine zj ?_;replace h:zaB av b i=some o:=h;unfold zaB at h;refine zO ⟨[(0,.sl (Rp.int .i64) [0] av),(1,.sl (Rp.int .i64) [0] b),(5,kI i),(15,kB ((decide (i<(av.length:Int)))&&(decide (i<(b.length:Int)))))],[]⟩ ?_ ?_
  ·refine (rsl 5 [] 10 (decide (i<(av.length:Int))) (fun uC=>?_) (fun uC=>?_))
   · exact (rbl [] 15 (decide (i<(b.length:Int))) rfl (by rw [uC]<;>rfl))
   exact (rbl [] 15 false rfl (by rw [uC]<;>rfl))
  refine jI h (fun uD h=>?_) fun uD h=>?_
  ·refine zq ?_;obtain ⟨x,uM,h⟩:=bnd h;obtain ⟨x2,uP,h⟩:=bnd h;refine jd [0,1,5,26] [] zbq (by exact (lw_e (lw_e (ly [.sl (Rp.int .i64) [0] av,kI i] (zP rfl zhz.el (zw _ _ _) uM) rfl (lw_e (lw_e (lw_e (ly [.sl (Rp.int .i64) [0] b,kI i] (zP rfl zhz.el (zw _ _ _) uP) rfl l0)))))))) (jI h (fun uE h=>?_) fun uE h=>?_)
   ·obtain ⟨x3,uW,h⟩:=bnd h;obtain ⟨x4,va,h⟩:=bnd h;refine jd [4] [] zbq (by exact (lw_e (lw_e (ly [.sl (Rp.int .i64) [0] av,kI i] (zP rfl zhz.el (zw _ _ _) uW) rfl (lw_e (lw_e (lw_e (ly [.sl (Rp.int .i64) [0] b,kI i] (zP rfl zhz.el (zw _ _ _) va) rfl l0)))))))) ?_;cases h;exact zaK lzz
   refine zQ (jp ?_);cases h;exact zD lzz
  cases h;exact zX rfl lzz
 rcases q with u| u2
 ·refine zaj _ rfl (jp ?_);cases h;exact zt lzz
 obtain rfl:=(sj h);exact zcN lzz
theorem zpK (h:zgk m uV=some r):FnOk Tryz.prog 48 [.sl (Rp.list (Rp.int .i64)) [0] m,kI uV] [.own (Rp.list (Rp.int .i64)) 53 2 [3,0] r]:=by
 refine zu (E:=⟨[(4,.own (Rp.list (Rp.int .i64)) 53 2 [3,0] r)],[]⟩) 38 Tryz.func48 rfl rfl rfl ⟨rfl,trivial⟩ (fun Xt=>?_);refine zj ?_;unfold zgk at h;refine jp (jp (jp (zq ?_)));obtain ⟨q,uJ,h⟩:=bnd h;refine zW (fun s:((List (List Int))×Int)=>zaP m uV s.1 s.2) (fun s=>⟨[(0,.sl (Rp.list (Rp.int .i64)) [0] m),(1,kI uV),(5,.own (Rp.list (Rp.int .i64)) 53 16 [14,0] s.1),(6,kI s.2)],[]⟩) (fun o e a w=>e= .exit 0/\Sx ⟨⟨38,[]⟩,Xt,false,#[]⟩ ⟨[(5,.own (Rp.list (Rp.int .i64)) 53 16 [14,0] o)],[]⟩ a w) ?_ uJ ?_ ?_
 ·clear h;intro s o h;obtain ⟨out,i⟩:=s;refine zj ?_;replace h:zaP m uV out i=some o:=h;unfold zaP at h;refine jp (jI h (fun uC h=>?_) fun uC h=>?_)
  ·refine zq ?_;obtain ⟨g,uB,h⟩:=bnd h;refine zO ⟨[(0,.sl (Rp.list (Rp.int .i64)) [0] m),(1,kI uV),(5,.own (Rp.list (Rp.int .i64)) 53 16 [14,0] out),(6,kI i),(28,kB g)],[]⟩ ?_ ?_
   ·obtain ⟨x,uM,uB⟩:=bnd uB;refine (ra 2 [.sl (Rp.list (Rp.int .i64)) [0] m,kI i] rfl (zP rfl zcY.el (zw _ _ _) uM) rfl (ra 0 [.ep (Rp.list (Rp.int .i64)) [0] x 0] rfl (zbv (Rp.int .i64) x rfl rfl rfl) rfl (rsl 3 [] 19 (decide ((x.length:Int)>1)) (fun uD=>?_) (fun uD=>?_))))
    ·replace uB:=iteT uB uD;obtain ⟨x2,uP,uB⟩:=bnd uB;obtain ⟨x3,uW,uB⟩:=bnd uB;cases uB;exact (ra 2 [.sl (Rp.list (Rp.int .i64)) [0] m,kI i] rfl (zP rfl zcY.el (zw _ _ _) uP) rfl (ra 0 [.ep (Rp.list (Rp.int .i64)) [0] x2 0] rfl (zbv (Rp.int .i64) x2 rfl rfl rfl) rfl (ra 0 [.sl (Rp.int .i64) [0] x2,kI 0] rfl (zP rfl zhz.el (zw _ _ _) uW) rfl rgg)))
    replace uB:=iteF uB uD;cases uB;exact rgg
   refine jI h (fun uE h=>?_) fun uE h=>?_
   ·obtain ⟨x4,va,h⟩:=bnd h;obtain ⟨v2,vd,h⟩:=bnd h;obtain ⟨v3,vc,h⟩:=bnd h;refine jr (ra 3 [.sl (Rp.list (Rp.int .i64)) [0] m,kI i] rfl (zP rfl zcY.el (zw _ _ _) va) rfl (ra 0 [.ep (Rp.list (Rp.int .i64)) [0] x4 0] rfl (zbv (Rp.int .i64) x4 rfl rfl rfl) rfl (ra 0 [.sl (Rp.int .i64) [0] x4,kI 1] rfl (zlw (some (kI 1)) none rfl zhz.el (zw _ _ _) ⟨rfl,rfl⟩ ⟨rfl,rfl⟩ vd) rfl (rc 0 rfl (zcr [.sl (Rp.int .i64) [0] v2] 18 [0] ([v2]:(List (List Int))) rfl zcY rfl rfl rfl rfl) (ra 0 [.own (Rp.list (Rp.int .i64)) 53 16 [14,0] out,.own (Rp.list (Rp.int .i64)) 53 18 [0] ([v2]:(List (List Int)))] rfl (zgx 16 [14,0,18] rfl zcY.el rfl (zcI _ _ _ _ _) (zet _ _ _ _ _) vc (.inr rfl) rfl) rfl rf))))) (zQ (jp ?_));cases h;exact zD (lk [0,1,5,6] [] 18 14 (zaJ ⟨[(0,.sl (Rp.list (Rp.int .i64)) [0] m),(1,kI uV),(5,.own (Rp.list (Rp.int .i64)) 53 16 [14,0,14] v3),(6,kI (IntKind.i64.wrap (i+1)))],[]⟩ (by kernel_rfl) (zdk 5 (.own (Rp.list (Rp.int .i64)) 53 16 [14,0] v3) rfl (zdM _ _ _ _ _ _ rfl rfl) lzz)))
   refine zQ (jp ?_);cases h;exact zD lzz
  cases h;exact zX rfl lzz
 ·exact zaJ ⟨[(0,.sl (Rp.list (Rp.int .i64)) [0] m),(1,kI uV),(5,kN),(6,kI 0)],[]⟩ (by kernel_rfl) (zdk 5 (.own (Rp.list (Rp.int .i64)) 53 16 [14,0] []) rfl (zbJ (Rp.list (Rp.int .i64)) 53 16 [14,0] rfl) lzz)
 refine zaj _ rfl (jp ?_);obtain rfl:=(sj h);exact zt (lk [4] [] 16 2 (lk [4] [] 14 3 lzz))
theorem zpL (h:zgl m uV=some r):FnOk Tryz.prog 49 [.sl (Rp.list (Rp.int .i64)) [0] m,kI uV] [kB r]:=by
 refine zu (E:=⟨[(4,kB r)],[]⟩) 28 Tryz.func49 rfl rfl rfl ⟨rfl,trivial⟩ (fun Xt=>?_);refine zj ?_;unfold zgl at h;refine jp (jp (zq ?_));obtain ⟨q,uJ,h⟩:=bnd h;refine zW (fun s:Int=>zaQ m uV s) (fun s=>⟨[(0,.sl (Rp.list (Rp.int .i64)) [0] m),(1,kI uV),(5,kI s)],[]⟩) (fun o e a w=>match o with| (.inl v_)=>e= .exit 0/\Sx ⟨⟨28,[]⟩,Xt,false,#[]⟩ ⟨[],[]⟩ a w| (.inr v_)=>e= .ret/\Sx ⟨⟨28,[]⟩,Xt,false,#[]⟩ ⟨[(4,kB true)],[]⟩ a w) ?_ uJ lzz ?_
 ·clear h;intro i o h;refine zj ?_;replace h:zaQ m uV i=some o:=h;unfold zaQ at h;refine jp (jI h (fun uC h=>?_) fun uC h=>?_)
  ·refine zq ?_;obtain ⟨g,uB,h⟩:=bnd h;refine zO ⟨[(0,.sl (Rp.list (Rp.int .i64)) [0] m),(1,kI uV),(5,kI i),(27,kB g)],[]⟩ ?_ ?_
   ·obtain ⟨x,uM,uB⟩:=bnd uB;refine (ra 2 [.sl (Rp.list (Rp.int .i64)) [0] m,kI i] rfl (zP rfl zcY.el (zw _ _ _) uM) rfl (ra 0 [.ep (Rp.list (Rp.int .i64)) [0] x 0] rfl (zbv (Rp.int .i64) x rfl rfl rfl) rfl (rsl 3 [] 18 ((x.length:Int)==1) (fun uD=>?_) (fun uD=>?_))))
    ·replace uB:=iteT uB uD;obtain ⟨x2,uP,uB⟩:=bnd uB;obtain ⟨x3,uW,uB⟩:=bnd uB;cases uB;exact (ra 2 [.sl (Rp.list (Rp.int .i64)) [0] m,kI i] rfl (zP rfl zcY.el (zw _ _ _) uP) rfl (ra 0 [.ep (Rp.list (Rp.int .i64)) [0] x2 0] rfl (zbv (Rp.int .i64) x2 rfl rfl rfl) rfl (ra 0 [.sl (Rp.int .i64) [0] x2,kI 0] rfl (zP rfl zhz.el (zw _ _ _) uW) rfl rgg)))
    replace uB:=iteF uB uD;cases uB;exact rgg
   refine jI h (fun uE h=>?_) fun uE h=>?_
   ·refine jp ?_;cases h;exact zaK lzz
   refine zQ (jp ?_);cases h;exact zD lzz
  cases h;exact zX rfl lzz
 rcases q with u| u2
 ·refine zaj _ rfl (jp ?_);obtain rfl:=(sj h);exact zt lzz
 obtain rfl:=(sj h);exact zcN lzz
end Go.Proofs.YtekgmimingolbaaGreat

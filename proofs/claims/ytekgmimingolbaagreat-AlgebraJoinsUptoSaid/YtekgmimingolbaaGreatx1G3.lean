/-
  The Go functions do what the plain functions say. No condition.
-/
import Derived.Test.YtekgmimingolbaaGreatx1T
import Derived.Test.YtekgmimingolbaaGreatx1Y
set_option autoImplicit true
set_option relaxedAutoImplicit true
namespace Go.Proofs.YtekgmimingolbaaGreat
open Go Go.RowKit
set_option linter.unusedVariables false
set_option maxRecDepth 100000
set_option maxHeartbeats 3200000
theorem zqd (h:zgA vv wire=some r):FnOk Tryz.prog 151 [kI vv,kI wire] [kB r]:=by
 refine zy (E:=⟨[(4,kB r)],[]⟩) 27 Tryz.func151 rfl rfl rfl ⟨rfl,trivial⟩ (fun Xt=>?_);refine zm ?_;unfold zgA at h;refine jp (zab ⟨[(4,kB ((decide (vv>=1))&&((decide (vv<=536870911))&&((wire==0)|| ((wire==1)|| ((wire==2)|| (wire==5)))))))],[]⟩ ?_ ?_)
 ·refine (rsl 3 [] 7 (decide (vv>=1)) (fun uW=>?_) (fun uW=>?_))
  ·refine (rsl 4 [] 11 (decide (vv<=536870911)) (fun uY=>?_) (fun uY=>?_))
   ·refine (rsl 3 [] 14 (wire==0) (fun u9=>?_) (fun u9=>?_))
    · exact (rbl [] 4 true rfl (by rw [uW,uY,u9]<;>rfl))
    refine (rsl 4 [] 18 (wire==1) (fun vd=>?_) (fun vd=>?_))
    · exact (rbl [] 4 true rfl (by rw [uW,uY,u9,vd]<;>rfl))
    refine (rsl 4 [] 22 (wire==2) (fun vh=>?_) (fun vh=>?_))
    · exact (rbl [] 4 true rfl (by rw [uW,uY,u9,vd,vh]<;>rfl))
    exact (rbl [] 4 (wire==5) rfl (by rw [uW,uY,u9,vd,vh]<;>rfl))
   exact (rbl [] 4 false rfl (by rw [uW,uY]<;>rfl))
  exact (rbl [] 4 false rfl (by rw [uW]<;>rfl))
 cases h;exact zw lzz
theorem zsp (h:zhI x vv=some r):FnOk Tryz.prog 43 [.rc zd [0] x,kI vv] [kI r]:=by
 refine zy (E:=⟨[(4,kI r)],[]⟩) 22 Tryz.func43 rfl rfl rfl ⟨rfl,trivial⟩ (fun Xt=>?_);refine zm ?_;unfold zhI at h;refine jr (ra 0 [.rc zd [0] x] rfl (zbc 11 (zh [0] x) [0] rfl rfl rfl (by rw [zk]<;>rfl) rfl) rfl rf) (jp (zv (jb h fun q vc h=>zac (fun s:Int=>zbH vv x s) (fun s=>⟨[(1,kI vv),(2,.ptr 11 0),(5,kI s)],[⟨11,33,(zh [0] x)⟩]⟩) (fun o e a w=>match o with| (.inl v_)=>e= .exit 0/\Sx ⟨⟨22,[]⟩,Xt,false,#[]⟩ ⟨[],[]⟩ a w| (.inr v_)=>e= .ret/\Sx ⟨⟨22,[]⟩,Xt,false,#[]⟩ ⟨[(4,kI v_)],[]⟩ a w) ?_ vc lzz ?_)))
 ·clear h;intro i o h;refine zm ?_;replace h:zbH vv x i=some o:=h;unfold zbH at h;refine jp (jI h (fun uW h=>?_) fun uW h=>?_)
  ·refine zv (jb h fun x2 vk h=>jr (ra 3 [.sl zb [0] x.Values,kI i] rfl (zai rfl zih.el (zC _ _ _) vk) rfl (ra 1 [.ep zb [0] x2 0] rfl (zqW (.int .i64 x2.Number) rfl rfl (by rw [zn]<;>rfl) rfl) rfl rf)) (jI h (fun uY h=>?_) fun uY h=>?_))
   ·refine jp ?_;cases h;exact zbf lzz
   refine zX (jp ?_);cases h;exact zH lzz
  cases h;exact zad rfl lzz
 rcases q with u| u2
 ·refine zas _ rfl (jp ?_);cases h;exact zw lzz
 obtain rfl:=(sj h);exact zdj lzz
theorem zpu (kg:∀{x:zc} {r:zc},xb x=some r->FnOk Tryz.prog 15 [.rc zd [0] x] [.ag (zdk 3 [4,0] r)]) (h:zfK xb x=some r):FnOk Tryz.prog 15 [.rc zd [0] x] [.ag (zdk 3 [4,0] r)]:=by
 refine zy (E:=⟨[(2,.ptr 2 0)],[⟨2,33,(zdk 3 [4,0] r)⟩]⟩) 53 Tryz.func15 rfl rfl rfl ⟨⟨_,_,rfl,rfl,rfl,⟨Tryz.isAgg33,Tryz.sizeOf33⟩⟩,trivial⟩ (fun Xt=>?_);refine zm ?_;unfold zfK at h;refine jr (ra 0 [.rc zd [0] x] rfl (zbc 33 (zh [0] x) [0] rfl rfl rfl (by rw [zk]<;>rfl) rfl) rfl (rfl' [34])) (jr (ra 0 [] rfl (zbK [] [kN,kN] rfl zCa rfl) rfl (rfl' [35])) (jp (zv (jb h fun q2 vu h=>zac (fun s:(Int×(List za))=>zbC xb x s.1 s.2) (fun s=>⟨[(1,.ptr 33 0),(2,.ptr 34 0),(3,.ptr 35 0),(4,kI s.1)],[⟨33,33,(zh [0] x)⟩,⟨34,33,[kN,kN]⟩,⟨35,33,[.own zb 59 54 [36,0] s.2,kN]⟩]⟩) (fun o e a w=>e= .exit 0/\Sx ⟨⟨53,[]⟩,Xt,false,#[]⟩ ⟨[(2,.ptr 34 0),(3,.ptr 35 0)],[⟨34,33,[kN,kN]⟩,⟨35,33,[.own zb 59 54 [36,0] o,kN]⟩]⟩ a w) ?_ vu ?_ ?_))))
 ·clear h;intro s o h;obtain ⟨i,f⟩:=s;refine zm ?_;replace h:zbC xb x i f=some o:=h;unfold zbC at h;refine jp (jI h (fun uW h=>?_) fun uW h=>?_)
  ·refine zv (jb h fun x2 vk h=>jr (ra 3 [.sl zb [0] x.Values,kI i] rfl (zai rfl zih.el (zC _ _ _) vk) rfl (ra 0 [.ep zb [0] x2 0] rfl (zcr rfl ⟨Tryz.isAgg59,Tryz.sizeOf59⟩) rfl (ral 1 [72] [.ptr 72 0,.rc zb [0] x2] rfl (zgU (r:=zb) (b:=⟨72,59,[kI 0,kN,kN,kN]⟩) (off:=0) (zi [0] x2) rfl Tryz.sizeOf59 rfl rfl (by rw [zn]<;>rfl) rfl) rfl rf))) (jr (ra 6 [kI x2.Number,.sl ku [0] x2.Words,.sl Rp.str [0] x2.Texts] rfl (zbK [kI x2.Number,.sl ku [0] x2.Words,.sl Rp.str [0] x2.Texts] (zdw [0] [0] x2) rfl zEI rfl) rfl (rfl' [73])) (jp (zv (jb h fun q vc h=>zac (fun s:(Int×(List zc))=>zbD xb x2 s.1 s.2) (fun s=>⟨[(1,.ptr 33 0),(2,.ptr 34 0),(3,.ptr 35 0),(4,kI i),(5,.ptr 72 0),(6,.ptr 73 0),(7,kI s.1)],[⟨33,33,(zh [0] x)⟩,⟨34,33,[kN,kN]⟩,⟨35,33,[.own zb 59 54 [36,0] f,kN]⟩,⟨72,59,(zi [0] x2)⟩,⟨73,59,[kI x2.Number,.sl ku [0] x2.Words,.sl Rp.str [0] x2.Texts,.own zd 33 79 [74,0] s.2]⟩]⟩) (fun o e a w=>e= .exit 2/\Sx ⟨⟨53,[]⟩,Xt,false,#[]⟩ ⟨[(1,.ptr 33 0),(2,.ptr 34 0),(3,.ptr 35 0),(4,kI i),(6,.ptr 73 0)],[⟨33,33,(zh [0] x)⟩,⟨34,33,[kN,kN]⟩,⟨35,33,[.own zb 59 54 [36,0] f,kN]⟩,⟨73,59,[kI x2.Number,.sl ku [0] x2.Words,.sl Rp.str [0] x2.Texts,.own zd 33 79 [74,0] o]⟩]⟩ a w) ?_ vc ?_ ?_)))))
   ·clear h;intro s o h;obtain ⟨k,f3⟩:=s;refine zm ?_;replace h:zbD xb x2 k f3=some o:=h;unfold zbD at h;refine jp (jI h (fun uY h=>?_) fun uY h=>?_)
    ·refine zv (jb h fun x3 vo h=>jb h fun rv uZ h=>jb h fun v vr h=>jd [1,2,3,4,5,6,7] [33,34,35,72,73] zbh (by exact (lw_e (lw_e (lw_e (lw_e (lw_e (ly [.sl zd [0] x2.Subs,kI k] (zai rfl zlO.el (zC _ _ _) vo) rfl (ly [.ep zd [0] x3 0] (zcr rfl ⟨Tryz.isAgg33,Tryz.sizeOf33⟩) rfl (lx (lf1 15 (zQ [.rc zd [0] x3] [0] 82 rfl Tryz.call15 (kg uZ) rfl rfl rfl rfl rfl)) (lx (zA.le (ins':=[(.tmp 42,.ag (zdk 85 [86,0] rv))]) (zbX [.rc zd [85,86,0] (⟨rv.Values,[]⟩:zc)] 87 [85,86,0] ([(⟨rv.Values,[]⟩:zc)]:(List zc)) rfl zlO rfl rfl rfl (by simp only [ziL,zeJ,zfC,zk,xN,yo]<;>rfl)) ⟨⟨rfl,zmd (b:= .ag [.own zb 59 85 [86,0] rv.Values,.sl Rp.str [] []]) (zks ⟨ky _,zdX _ _,trivial⟩) (zaE zd [85,86,0] (⟨rv.Values,[]⟩:zc) [.own zb 59 85 [86,0] rv.Values,.sl Rp.str [] []] (by rw [zk]<;>rfl) rfl)⟩,trivial⟩) (ly [.own zd 33 79 [74,0] f3,.own zd 33 87 [85,86,0] ([(⟨rv.Values,[]⟩:zc)]:(List zc))] (zA.withBx (zeR 79 [74,0,87,85,86] rfl zlO.el rfl (zbu _ _ _ _ _) (zfL _ _ _ _ _) vr (.inr rfl) rfl) ⟨73,59,[kI x2.Number,.sl ku [0] x2.Words,.sl Rp.str [0] x2.Texts,.own zd 33 79 [74,0] f3]⟩ rfl rfl) rfl (lw_e (ly [.ptr 73 3,.own zd 33 79 [74,0,87,85,86] v] (zsO (b:=⟨73,59,[kI x2.Number,.sl ku [0] x2.Words,.sl Rp.str [0] x2.Texts,.any]⟩) (off:=3) rfl Tryz.sizeOf40 rfl rfl rfl) rfl l0))))))))))))) (zX (jp ?_)));cases h;exact zH (lk [1,2,3,4,5,6,7] [33,34,35,72,73] 87 74 (lk [1,2,3,4,5,6,7] [33,34,35,72,73] 85 74 (lk [1,2,3,4,5,6,7] [33,34,35,72,73] 86 74 (lq ⟨[(1,.ptr 33 0),(2,.ptr 34 0),(3,.ptr 35 0),(4,kI i),(5,.ptr 72 0),(6,.ptr 73 0),(7,kI (IntKind.i64.wrap (k+1)))],[⟨33,33,(zh [0] x)⟩,⟨34,33,[kN,kN]⟩,⟨35,33,[.own zb 59 54 [36,0] f,kN]⟩,⟨72,59,(zi [0] x2)⟩,⟨73,59,[kI x2.Number,.sl ku [0] x2.Words,.sl Rp.str [0] x2.Texts,.own zd 33 79 [74,0,74,74,74] v]⟩]⟩ (zaN 73 3 (.own zd 33 79 [74,0] v) rfl rfl (zdz _ _ _ _ _ _ rfl rfl) lzz)))))
    cases h;exact zad rfl lzz
   ·exact lq ⟨[(1,.ptr 33 0),(2,.ptr 34 0),(3,.ptr 35 0),(4,kI i),(5,.ptr 72 0),(6,.ptr 73 0),(7,kI 0)],[⟨33,33,(zh [0] x)⟩,⟨34,33,[kN,kN]⟩,⟨35,33,[.own zb 59 54 [36,0] f,kN]⟩,⟨72,59,(zi [0] x2)⟩,⟨73,59,(zdw [0] [0] x2)⟩]⟩ (zaN 73 3 (.own zd 33 79 [74,0] []) rfl rfl (zaT zd 33 79 [74,0] rfl) lzz)
   refine zas _ rfl (jb h fun v2 vz h=>jr (rc 3 rfl (zA.le (ins':=[(.tmp 48,.ag [kI x2.Number,.sl ku [0] x2.Words,.sl Rp.str [0] x2.Texts,.own zd 33 79 [74,0] q])]) (zbX [.rc zb [0,79,74] (⟨x2.Number,x2.Words,x2.Texts,q⟩:za)] 88 [0,79,74] ([(⟨x2.Number,x2.Words,x2.Texts,q⟩:za)]:(List za)) rfl zih rfl rfl rfl (by simp only [ziL,zeJ,zfC,zn,xN,yo]<;>rfl)) ⟨⟨rfl,zaE zb [0,79,74] (⟨x2.Number,x2.Words,x2.Texts,q⟩:za) [kI x2.Number,.sl ku [0] x2.Words,.sl Rp.str [0] x2.Texts,.own zd 33 79 [74,0] q] (by rw [zn]<;>rfl) rfl⟩,trivial⟩) (ra 0 [.own zb 59 54 [36,0] f,.own zb 59 88 [0,79,74] ([(⟨x2.Number,x2.Words,x2.Texts,q⟩:za)]:(List za))] rfl (zeR 54 [36,0,88,79,74] rfl zih.el rfl (zbu _ _ _ _ _) (zfL _ _ _ _ _) vz (.inr rfl) rfl) rfl rf)) (zX (jp ?_)));cases h;exact zH (lk [1,2,3,4] [33,34,35] 88 36 (lk [1,2,3,4] [33,34,35] 79 36 (lk [1,2,3,4] [33,34,35] 74 36 (lq ⟨[(1,.ptr 33 0),(2,.ptr 34 0),(3,.ptr 35 0),(4,kI (IntKind.i64.wrap (i+1)))],[⟨33,33,(zh [0] x)⟩,⟨34,33,[kN,kN]⟩,⟨35,33,[.own zb 59 54 [36,0,36,36,36] v2,kN]⟩]⟩ (zaN 35 0 (.own zb 59 54 [36,0] v2) rfl rfl (zdz _ _ _ _ _ _ rfl rfl) lzz)))))
  cases h;exact zad rfl lzz
 ·exact lq ⟨[(1,.ptr 33 0),(2,.ptr 34 0),(3,.ptr 35 0),(4,kI 0)],[⟨33,33,(zh [0] x)⟩,⟨34,33,[kN,kN]⟩,⟨35,33,[kN,kN]⟩]⟩ (zaN 35 0 (.own zb 59 54 [36,0] []) rfl rfl (zaT zb 59 54 [36,0] rfl) lzz)
 refine zas _ rfl (jp ?_);cases h;exact zw (lk [2] [34] 34 2 (lk [2] [2] 54 3 (lk [2] [2] 36 4 lzz)))
theorem zqo (h:zcz vf x=some r):FnOk Tryz.prog 15 [.rc zd [0] x] [.ag (zdk 3 [4,0] r)]:=by
  induction vf generalizing x r with
  | zero=>exact absurd h nofun
  | succ vf ih=>exact zpu (fun hh=>ih hh) h
theorem zqm (wJ:∀{av:zc} {b:zc} {r:Bool},xn av b=some r->FnOk Tryz.prog 16 [.rc zd [0] av,.rc zd [0] b] [kB r]) (wK:∀{av:za} {b:za} {r:Bool},xo av b=some r->FnOk Tryz.prog 29 [.rc zb [0] av,.rc zb [0] b] [kB r]) (h:zgk xn xo av b=some r):FnOk Tryz.prog 16 [.rc zd [0] av,.rc zd [0] b] [kB r]:=by
 refine zy (E:=⟨[(4,kB r)],[]⟩) 60 Tryz.func16 rfl rfl rfl ⟨rfl,trivial⟩ (fun Xt=>?_);refine zm ?_;unfold zgk at h;refine jr (ra 0 [.rc zd [0] av] rfl (zbc 11 (zh [0] av) [0] rfl rfl rfl (by rw [zk]<;>rfl) rfl) rfl (ra 0 [.rc zd [0] b] rfl (zbc 12 (zh [0] b) [0] rfl rfl rfl (by rw [zk]<;>rfl) rfl) rfl rf)) (zab ⟨[(2,.ptr 11 0),(3,.ptr 12 0),(22,kB (((av.Values.length:Int) !=(b.Values.length:Int))|| ((av.Unknown.length:Int) !=(b.Unknown.length:Int))))],[⟨11,33,(zh [0] av)⟩,⟨12,33,(zh [0] b)⟩]⟩ ?_ ?_)
 ·refine (rsl 8 [] 14 ((av.Values.length:Int) !=(b.Values.length:Int)) (fun uW=>?_) (fun uW=>?_))
  · exact (rbl [] 22 true rfl (by rw [uW]<;>rfl))
  exact (rbl [] 22 ((av.Unknown.length:Int) !=(b.Unknown.length:Int)) rfl (by rw [uW]<;>rfl))
 refine jI h (fun uY h=>?_) fun uY h=>?_
 ·refine jp ?_;obtain rfl:=(sj h);exact zw lzz
 refine jp (zv (jb h fun q vc h=>zac (fun s:Int=>zbr av b xo s) (fun s=>⟨[(2,.ptr 11 0),(3,.ptr 12 0),(5,kI s)],[⟨11,33,(zh [0] av)⟩,⟨12,33,(zh [0] b)⟩]⟩) (fun o e a w=>match o with| (.inl v_)=>e= .exit 0/\Sx ⟨⟨60,[]⟩,Xt,false,#[]⟩ ⟨[(2,.ptr 11 0),(3,.ptr 12 0)],[⟨11,33,(zh [0] av)⟩,⟨12,33,(zh [0] b)⟩]⟩ a w| (.inr v_)=>e= .ret/\Sx ⟨⟨60,[]⟩,Xt,false,#[]⟩ ⟨[(4,kB false)],[]⟩ a w) ?_ vc lzz ?_))
 ·clear h;intro i o h;refine zm ?_;replace h:zbr av b xo i=some o:=h;unfold zbr at h;refine jp (jI h (fun u9 h=>?_) fun u9 h=>?_)
  ·refine zv (jb h fun x vg h=>jb h fun x2 vk h=>jb h fun rv uZ h=>jd [2,3,5,41] [11,12] zbh (by exact (lw_e (lw_e (lw_e (ly [.sl zb [0] av.Values,kI i] (zai rfl zih.el (zC _ _ _) vg) rfl (ly [.ep zb [0] x 0] (zcr rfl ⟨Tryz.isAgg59,Tryz.sizeOf59⟩) rfl (lw_e (lw_e (lw_e (ly [.sl zb [0] b.Values,kI i] (zai rfl zih.el (zC _ _ _) vk) rfl (ly [.ep zb [0] x2 0] (zcr rfl ⟨Tryz.isAgg59,Tryz.sizeOf59⟩) rfl (lx (lf1 29 (zQ [.rc zb [0] x,.rc zb [0] x2] [0] 12 rfl Tryz.call29 (wK uZ) rfl rfl rfl rfl rfl)) l0)))))))))))) (jI h (fun vd h=>?_) fun vd h=>?_))
   ·refine jp ?_;cases h;exact zbf lzz
   refine zX (jp ?_);cases h;exact zH lzz
  cases h;exact zad rfl lzz
 rcases q with u| u4
 ·refine zas _ rfl (jp (zv (jb h fun q2 vu h=>zac (fun s:Int=>zbs av b s) (fun s=>⟨[(2,.ptr 11 0),(3,.ptr 12 0),(6,kI s)],[⟨11,33,(zh [0] av)⟩,⟨12,33,(zh [0] b)⟩]⟩) (fun o e a w=>match o with| (.inl v_)=>e= .exit 2/\Sx ⟨⟨60,[]⟩,Xt,false,#[]⟩ ⟨[],[]⟩ a w| (.inr v_)=>e= .ret/\Sx ⟨⟨60,[]⟩,Xt,false,#[]⟩ ⟨[(4,kB false)],[]⟩ a w) ?_ vu lzz ?_)))
  ·clear h;intro i2 o h;refine zm ?_;replace h:zbs av b i2=some o:=h;unfold zbs at h;refine jp (jI h (fun vh h=>?_) fun vh h=>?_)
   ·refine zv (jb h fun x3 vo h=>jb h fun x4 vC h=>jd [2,3,6,59] [11,12] zbh (by exact (lw_e (lw_e (lw_e (ly [.sl Rp.str [0] av.Unknown,kI i2] (zai rfl zhX.el (zC _ _ _) vo) rfl (lw_e (lw_e (lw_e (lw_e (ly [.sl Rp.str [0] b.Unknown,kI i2] (zai rfl zhX.el (zC _ _ _) vC) rfl l0)))))))))) (jI h (fun vi h=>?_) fun vi h=>?_))
    ·refine jp ?_;cases h;exact zbf lzz
    refine zX (jp ?_);cases h;exact zH lzz
   cases h;exact zad rfl lzz
  rcases q2 with u2| u3
  ·refine zas _ rfl (jp ?_);obtain rfl:=(sj h);exact zw lzz
  obtain rfl:=(sj h);exact zdj lzz
 obtain rfl:=(sj h);exact zdj lzz
theorem zmF (wJ:∀{av:zc} {b:zc} {r:Bool},xn av b=some r->FnOk Tryz.prog 16 [.rc zd [0] av,.rc zd [0] b] [kB r]) (wK:∀{av:za} {b:za} {r:Bool},xo av b=some r->FnOk Tryz.prog 29 [.rc zb [0] av,.rc zb [0] b] [kB r]) (h:zed xn xo av b=some r):FnOk Tryz.prog 29 [.rc zb [0] av,.rc zb [0] b] [kB r]:=by
 refine zy (E:=⟨[(4,kB r)],[]⟩) 95 Tryz.func29 rfl rfl rfl ⟨rfl,trivial⟩ (fun Xt=>?_);refine zm ?_;unfold zed at h;refine jr (ra 0 [.rc zb [0] av] rfl (zbc 11 (zi [0] av) [0] rfl rfl rfl (by rw [zn]<;>rfl) rfl) rfl (ra 0 [.rc zb [0] b] rfl (zbc 12 (zi [0] b) [0] rfl rfl rfl (by rw [zn]<;>rfl) rfl) rfl rf)) (zab ⟨[(2,.ptr 11 0),(3,.ptr 12 0),(39,kB ((av.Number !=b.Number)|| (((av.Words.length:Int) !=(b.Words.length:Int))|| (((av.Texts.length:Int) !=(b.Texts.length:Int))|| ((av.Subs.length:Int) !=(b.Subs.length:Int))))))],[⟨11,59,(zi [0] av)⟩,⟨12,59,(zi [0] b)⟩]⟩ ?_ ?_)
 ·refine (rsl 6 [] 13 (av.Number !=b.Number) (fun uW=>?_) (fun uW=>?_))
  · exact (rbl [] 39 true rfl (by rw [uW]<;>rfl))
  refine (rsl 9 [] 22 ((av.Words.length:Int) !=(b.Words.length:Int)) (fun uY=>?_) (fun uY=>?_))
  · exact (rbl [] 39 true rfl (by rw [uW,uY]<;>rfl))
  refine (rsl 9 [] 31 ((av.Texts.length:Int) !=(b.Texts.length:Int)) (fun u9=>?_) (fun u9=>?_))
  · exact (rbl [] 39 true rfl (by rw [uW,uY,u9]<;>rfl))
  exact (rbl [] 39 ((av.Subs.length:Int) !=(b.Subs.length:Int)) rfl (by rw [uW,uY,u9]<;>rfl))
 refine jI h (fun vd h=>?_) fun vd h=>?_
 ·refine jp ?_;obtain rfl:=(sj h);exact zw lzz
 refine jp (zv (jb h fun q vc h=>zac (fun s:Int=>zaB av b s) (fun s=>⟨[(2,.ptr 11 0),(3,.ptr 12 0),(5,kI s)],[⟨11,59,(zi [0] av)⟩,⟨12,59,(zi [0] b)⟩]⟩) (fun o e a w=>match o with| (.inl v_)=>e= .exit 0/\Sx ⟨⟨95,[]⟩,Xt,false,#[]⟩ ⟨[(2,.ptr 11 0),(3,.ptr 12 0)],[⟨11,59,(zi [0] av)⟩,⟨12,59,(zi [0] b)⟩]⟩ a w| (.inr v_)=>e= .ret/\Sx ⟨⟨95,[]⟩,Xt,false,#[]⟩ ⟨[(4,kB false)],[]⟩ a w) ?_ vc lzz ?_))
 ·clear h;intro i o h;refine zm ?_;replace h:zaB av b i=some o:=h;unfold zaB at h;refine jp (jI h (fun vh h=>?_) fun vh h=>?_)
  ·refine zv (jb h fun x vg h=>jb h fun x2 vk h=>jd [2,3,5,57] [11,12] zbh (by exact (lw_e (lw_e (lw_e (ly [.sl ku [0] av.Words,kI i] (zai rfl znf.el (zC _ _ _) vg) rfl (lw_e (lw_e (lw_e (lw_e (ly [.sl ku [0] b.Words,kI i] (zai rfl znf.el (zC _ _ _) vk) rfl l0)))))))))) (jI h (fun vi h=>?_) fun vi h=>?_))
   ·refine jp ?_;cases h;exact zbf lzz
   refine zX (jp ?_);cases h;exact zH lzz
  cases h;exact zad rfl lzz
 rcases q with u| u6
 ·refine zas _ rfl (jp (zv (jb h fun q2 vu h=>zac (fun s:Int=>zaC av b s) (fun s=>⟨[(2,.ptr 11 0),(3,.ptr 12 0),(6,kI s)],[⟨11,59,(zi [0] av)⟩,⟨12,59,(zi [0] b)⟩]⟩) (fun o e a w=>match o with| (.inl v_)=>e= .exit 2/\Sx ⟨⟨95,[]⟩,Xt,false,#[]⟩ ⟨[(2,.ptr 11 0),(3,.ptr 12 0)],[⟨11,59,(zi [0] av)⟩,⟨12,59,(zi [0] b)⟩]⟩ a w| (.inr v_)=>e= .ret/\Sx ⟨⟨95,[]⟩,Xt,false,#[]⟩ ⟨[(4,kB false)],[]⟩ a w) ?_ vu lzz ?_)))
  ·clear h;intro i2 o h;refine zm ?_;replace h:zaC av b i2=some o:=h;unfold zaC at h;refine jp (jI h (fun vm h=>?_) fun vm h=>?_)
   ·refine zv (jb h fun x3 vo h=>jb h fun x4 vC h=>jd [2,3,6,75] [11,12] zbh (by exact (lw_e (lw_e (lw_e (ly [.sl Rp.str [0] av.Texts,kI i2] (zai rfl zhX.el (zC _ _ _) vo) rfl (lw_e (lw_e (lw_e (lw_e (ly [.sl Rp.str [0] b.Texts,kI i2] (zai rfl zhX.el (zC _ _ _) vC) rfl l0)))))))))) (jI h (fun vp h=>?_) fun vp h=>?_))
    ·refine jp ?_;cases h;exact zbf lzz
    refine zX (jp ?_);cases h;exact zH lzz
   cases h;exact zad rfl lzz
  rcases q2 with u2| u5
  ·refine zas _ rfl (jp (zv (jb h fun q3 vY h=>zac (fun s:Int=>zaD av b xn s) (fun s=>⟨[(2,.ptr 11 0),(3,.ptr 12 0),(7,kI s)],[⟨11,59,(zi [0] av)⟩,⟨12,59,(zi [0] b)⟩]⟩) (fun o e a w=>match o with| (.inl v_)=>e= .exit 4/\Sx ⟨⟨95,[]⟩,Xt,false,#[]⟩ ⟨[],[]⟩ a w| (.inr v_)=>e= .ret/\Sx ⟨⟨95,[]⟩,Xt,false,#[]⟩ ⟨[(4,kB false)],[]⟩ a w) ?_ vY lzz ?_)))
   ·clear h;intro i3 o h;refine zm ?_;replace h:zaD av b xn i3=some o:=h;unfold zaD at h;refine jp (jI h (fun vq h=>?_) fun vq h=>?_)
    ·refine zv (jb h fun x5 vK h=>jb h fun x6 vU h=>jb h fun rv uZ h=>jd [2,3,7,94] [11,12] zbh (by exact (lw_e (lw_e (lw_e (ly [.sl zd [0] av.Subs,kI i3] (zai rfl zlO.el (zC _ _ _) vK) rfl (ly [.ep zd [0] x5 0] (zcr rfl ⟨Tryz.isAgg33,Tryz.sizeOf33⟩) rfl (lw_e (lw_e (lw_e (ly [.sl zd [0] b.Subs,kI i3] (zai rfl zlO.el (zC _ _ _) vU) rfl (ly [.ep zd [0] x6 0] (zcr rfl ⟨Tryz.isAgg33,Tryz.sizeOf33⟩) rfl (lx (lf1 16 (zQ [.rc zd [0] x5,.rc zd [0] x6] [0] 14 rfl Tryz.call16 (wJ uZ) rfl rfl rfl rfl rfl)) l0)))))))))))) (jI h (fun vA h=>?_) fun vA h=>?_))
     ·refine jp ?_;cases h;exact zbf lzz
     refine zX (jp ?_);cases h;exact zH lzz
    cases h;exact zad rfl lzz
   rcases q3 with u3| u4
   ·refine zas _ rfl (jp ?_);obtain rfl:=(sj h);exact zw lzz
   obtain rfl:=(sj h);exact zdj lzz
  obtain rfl:=(sj h);exact zdj lzz
 obtain rfl:=(sj h);exact zdj lzz
theorem zhi (vf:Nat):(∀{av:zc} {b:zc} {r:Bool},zbW vf av b=some r->FnOk Tryz.prog 16 [.rc zd [0] av,.rc zd [0] b] [kB r])/\(∀{av:za} {b:za} {r:Bool},zcX vf av b=some r->FnOk Tryz.prog 29 [.rc zb [0] av,.rc zb [0] b] [kB r]):=by
  induction vf with
  | zero=>exact ⟨fun h=>absurd h nofun,fun h=>absurd h nofun⟩
  | succ vf ih=>exact ⟨fun h=>zqm (fun hh=>ih.1 hh) (fun hh=>ih.2 hh) h,fun h=>zmF (fun hh=>ih.1 hh) (fun hh=>ih.2 hh) h⟩
theorem zdq (h:zbW vf av b=some r):FnOk Tryz.prog 16 [.rc zd [0] av,.rc zd [0] b] [kB r]:=(zhi vf).1 h
end Go.Proofs.YtekgmimingolbaaGreat

/-
  The Go functions do what the plain functions say. No condition.
-/
import Derived.Test.YtekgmimingolbaaGreatx1G3
import Derived.Test.YtekgmimingolbaaGreatx1G7
import Derived.Test.YtekgmimingolbaaGreatx1G8
set_option autoImplicit true
set_option relaxedAutoImplicit true
namespace Go.Proofs.YtekgmimingolbaaGreat
open Go Go.RowKit
set_option linter.unusedVariables false
set_option maxRecDepth 100000
set_option maxHeartbeats 3200000
theorem zwj {ways:(List (List Int))} (h:zli ways=some r):FnOk Tryz.prog 67 [.sl (Rp.list (Rp.int .i64)) [0] ways] [kB r]:=by
 refine zu (E:=⟨[(2,kB r)],[]⟩) 23 Tryz.func67 rfl rfl rfl ⟨rfl,trivial⟩ (fun Xt=>?_);refine zj ?_;unfold zli at h;refine jp (jp (jp (zq ?_)));obtain ⟨q,uJ,h⟩:=bnd h;refine zW (fun s:((List Int)×Int)=>zdb ways s.1 s.2) (fun s=>⟨[(3,.sl (Rp.int .i64) [0] s.1),(6,.sl (Rp.list (Rp.int .i64)) [0] ways),(7,kI (ways.length:Int)),(8,kI s.2)],[]⟩) (fun o e a w=>match o with| (.inl v_)=>e= .exit 0/\Sx ⟨⟨23,[]⟩,Xt,false,#[]⟩ ⟨[],[]⟩ a w| (.inr v_)=>e= .ret/\Sx ⟨⟨23,[]⟩,Xt,false,#[]⟩ ⟨[(2,kB false)],[]⟩ a w) ?_ uJ ?_ ?_
 ·clear h;intro s o h;obtain ⟨last,v⟩:=s;refine zj ?_;replace h:zdb ways last v=some o:=h;unfold zdb at h;refine jp (jI h (fun uC h=>?_) fun uC h=>?_)
  ·refine zq ?_;obtain ⟨x,uM,h⟩:=bnd h;refine jr (ra 0 [.sl (Rp.list (Rp.int .i64)) [0] ways,kI v] rfl (zP rfl zcY.el (zw _ _ _) uM) rfl (ra 0 [.ep (Rp.list (Rp.int .i64)) [0] x 0] rfl (zbv (Rp.int .i64) x rfl rfl rfl) rfl rf)) ?_;obtain ⟨g,uB,h⟩:=bnd h;refine zO ⟨[(5,.sl (Rp.int .i64) [0] x),(6,.sl (Rp.list (Rp.int .i64)) [0] ways),(7,kI (ways.length:Int)),(8,kI v),(20,kB g)],[]⟩ ?_ ?_
   ·obtain ⟨rv,uF,uB⟩:=bnd uB;refine (rl 2 [0] 10 Tryz.call71 (zly uF) (rsl 2 [] 16 (decide (rv>=0)) (fun uD=>?_) (fun uD=>?_)))
    ·replace uB:=iteT uB uD;cases uB;exact rgg
    replace uB:=iteF uB uD;obtain ⟨rv2,uQ,uB⟩:=bnd uB;cases uB;exact (rl 2 [0] 10 Tryz.call101 (zzf uQ) rgg)
   refine jI h (fun uE h=>?_) fun uE h=>?_
   ·refine jp ?_;cases h;exact zaK lzz
   refine jp (zQ (jp ?_));cases h;exact zD lzz
  cases h;exact zX rfl lzz
 ·exact zaJ ⟨[(3,kN),(6,.sl (Rp.list (Rp.int .i64)) [0] ways),(7,kI (ways.length:Int)),(8,kI 0)],[]⟩ (by kernel_rfl) (zdk 3 (.sl (Rp.int .i64) [0] []) rfl (zed (Rp.int .i64) [0]) lzz)
 rcases q with u| u2
 ·refine zaj _ rfl (jp ?_);obtain rfl:=(sj h);exact zt lzz
 obtain rfl:=(sj h);exact zcN lzz
theorem zcx (h:zK v=some r):FnOk Tryz.prog 69 [.fv 105 [.ep (Rp.list (Rp.list (Rp.int .i64))) [0] v 0],.lf (.val (.func (.func 71) #[] #[]))] [.own (Rp.list (Rp.int .i64)) 53 2 [3,0] r]:=by
 refine zu (E:=⟨[(4,.own (Rp.list (Rp.int .i64)) 53 2 [3,0] r)],[]⟩) 12 Tryz.func69 rfl rfl rfl ⟨rfl,trivial⟩ (fun Xt=>?_);refine zj ?_;unfold zK at h;refine jp ?_;obtain ⟨rv,uF,h⟩:=bnd h;refine jr (rl 1 [0] 11 Tryz.call103 (zfr uF) rf) ?_;obtain ⟨rv3,uT,h⟩:=bnd h;refine jr (rkl 2 [] ⟨[(5,.own (Rp.list (Rp.int .i64)) 53 13 [14,0] rv),(8,.own (Rp.list (Rp.int .i64)) 53 13 [14,0] rv),(9,.lf (.val (.func (.func 71) #[] #[])))],[]⟩ (zlP ⟨[(5,.own (Rp.list (Rp.int .i64)) 53 13 [14,0] rv3),(8,.own (Rp.list (Rp.int .i64)) 53 13 [14,0] rv3),(9,.lf (.val (.func (.func 71) #[] #[])))],[]⟩ (zvp [.own (Rp.list (Rp.int .i64)) 53 13 [14,0] rv,.lf (.val (.func (.func 71) #[] #[]))] [(13,2)] [14,0] 14 [] rfl Tryz.call104 (zeQ uT) rfl rfl (by kernel_rfl) rfl rfl rfl) rfl (by kernel_rfl) (by kernel_rfl) ⟨⟨_,rfl,zic 0 rfl⟩,⟨_,rfl,zic 0 rfl⟩,⟨_,rfl,zV rfl⟩,trivial⟩ trivial rf)) (jp ?_);obtain rfl:=(sj h);exact zt (lk [4] [] 13 2 (lk [4] [] 14 3 lzz))
theorem ztl (h:ziE f=some r):FnOk Tryz.prog 175 [.rc zf [0] f] [kB r]:=by
 refine zu (E:=⟨[(2,kB r)],[]⟩) 10 Tryz.func175 rfl rfl rfl ⟨rfl,trivial⟩ (fun Xt=>?_);refine zj ?_;unfold ziE at h;refine jq [11] ?_;obtain ⟨g,uB,h⟩:=bnd h;refine zO ⟨[(2,kB g)],[]⟩ ?_ ?_
 ·refine (rsl 3 [] 5 f.Repeated (fun uC=>?_) (fun uC=>?_))
  ·replace uB:=iteT uB uC;obtain ⟨rv,uF,uB⟩:=bnd uB;cases uB;exact (rl 2 [1] 10 Tryz.call198 (zvZ uF) rgg)
  replace uB:=iteF uB uC;cases uB;exact rgg
 obtain rfl:=(sj h);exact zt lzz
theorem zjE (h:zfH m uV=some r):FnOk Tryz.prog 96 [.rc zh [0] m,kI uV] [kI r.1,kB r.2]:=by
 refine zu (E:=⟨[(4,kI r.1),(5,kB r.2)],[]⟩) 11 Tryz.func96 rfl rfl rfl ⟨rfl,rfl,trivial⟩ (fun Xt=>?_);refine zj ?_;unfold zfH at h;refine jr (ra 0 [.rc zh [0] m] rfl (zbL 11 [kS m.Name,.sl zf [0] m.Fields] [0] rfl rfl rfl rfl rfl) rfl (rfl' [913000])) ?_;obtain ⟨rv,uF,h⟩:=bnd h;refine jr (ra 1 [.ptr 913000 0] rfl (zDq (g:=130) [.tmp 3] [⟨913000,3,[kI uV]⟩] [.ep (Rp.int .i64) [913000] uV 0] rfl ⟨⟨rfl,rfl,rfl⟩,trivial⟩ rfl) rfl (rl 0 [0,913000] 10 Tryz.call129 (zjF uF) rf)) ?_;cases h;exact zt lzz
theorem zzB (h:zoB b=some r):FnOk Tryz.prog 181 [.sl Rp.byte [0] b] [kI r]:=by
 refine zu (E:=⟨[(2,kI r)],[]⟩) 11 Tryz.func181 rfl rfl rfl ⟨rfl,trivial⟩ (fun Xt=>?_);refine zj ?_;unfold zoB at h;refine jp ?_;obtain ⟨rv,uF,h⟩:=bnd h;refine jr (rl 1 [0] 9 Tryz.call214 (zBp uF) rf) (jp ?_);cases h;exact zt lzz
theorem zqS (h:zgW k l=some r):FnOk Tryz.prog 126 [kI k,.sl (Rp.int .u64) [0] l] [kB r]:=by
 refine zu (E:=⟨[(4,kB r)],[]⟩) 29 Tryz.func126 rfl rfl rfl ⟨rfl,trivial⟩ (fun Xt=>?_);refine zj ?_;unfold zgW at h;refine jp (jp (zq ?_));obtain ⟨q,uJ,h⟩:=bnd h;refine zW (fun s:Int=>zaF k l s) (fun s=>⟨[(0,kI k),(9,.sl (Rp.int .u64) [0] l),(10,kI (l.length:Int)),(11,kI s)],[]⟩) (fun o e a w=>match o with| (.inl v_)=>e= .exit 0/\Sx ⟨⟨29,[]⟩,Xt,false,#[]⟩ ⟨[],[]⟩ a w| (.inr v_)=>e= .ret/\Sx ⟨⟨29,[]⟩,Xt,false,#[]⟩ ⟨[(4,kB false)],[]⟩ a w) ?_ uJ lzz ?_
 ·clear h;intro v o h;refine zj ?_;replace h:zaF k l v=some o:=h;unfold zaF at h;refine jp (jI h (fun uC h=>?_) fun uC h=>?_)
  ·refine zq ?_;obtain ⟨x,uM,h⟩:=bnd h;refine jr (ra 0 [.sl (Rp.int .u64) [0] l,kI v] rfl (zP rfl zpz.el (zw _ _ _) uM) rfl rf) ?_;obtain ⟨rv,uF,h⟩:=bnd h;refine jr (rl 2 [1] 10 Tryz.call155 (zxi uF) rf) (zO ⟨[(0,kI k),(9,.sl (Rp.int .u64) [0] l),(10,kI (l.length:Int)),(11,kI v),(27,kB ((rv.2 !=0)|| (rv.1 !=x)))],[]⟩ ?_ ?_)
   ·refine (rsl 3 [] 23 (rv.2 !=0) (fun uD=>?_) (fun uD=>?_))
    · exact (rbl [] 27 true rfl (by rw [uD]<;>rfl))
    exact (rbl [] 27 (rv.1 !=x) rfl (by rw [uD]<;>rfl))
   refine jI h (fun uE h=>?_) fun uE h=>?_
   ·refine jp ?_;cases h;exact zaK lzz
   refine zQ (jp ?_);cases h;exact zD lzz
  cases h;exact zX rfl lzz
 rcases q with u| u2
 ·refine zaj _ rfl (jp ?_);obtain rfl:=(sj h);exact zt lzz
 obtain rfl:=(sj h);exact zcN lzz
theorem zwB (h:zlj b uY=some r):FnOk Tryz.prog 131 [.sl Rp.byte [0] b,kI uY] [.rc zaf [] r.1,k8 r.2]:=by
 refine zu (E:=⟨[(4,.ptr 2 0),(5,k8 r.2)],[⟨2,191,[kI r.1.Number,kI r.1.Wire,kI r.1.From,kI r.1.At,kI r.1.To]⟩]⟩) 62 Tryz.func131 rfl rfl rfl ⟨⟨_,_,rfl,rfl,rfl,rfl,⟨Tryz.isAgg191,Tryz.sizeOf191⟩⟩,rfl,trivial⟩ (fun Xt=>?_);refine zj ?_;unfold zlj at h;refine jq [12] (zO ⟨[(0,.sl Rp.byte [0] b),(1,kI uY),(4,.ptr 12 0),(19,kB ((decide (uY<0))|| (decide (uY>=(b.length:Int)))))],[⟨12,191,[kI 0,kI 0,kI 0,kI 0,kI 0]⟩]⟩ ?_ ?_)
 ·refine (rsl 3 [] 14 (decide (uY<0)) (fun uC=>?_) (fun uC=>?_))
  · exact (rbl [] 19 true rfl (by rw [uC]<;>rfl))
  exact (rbl [] 19 (decide (uY>=(b.length:Int))) rfl (by rw [uC]<;>rfl))
 refine jI h (fun uD h=>?_) fun uD h=>?_
 ·refine jr (rc 0 rfl (zaD (r:=zaf) [] [] (⟨0,0,0,0,0⟩:zz) rfl zzv rfl rfl) rf) ?_;cases h;exact zt (lk [4,5] [12] 12 2 lzz)
 obtain ⟨v2,vd,h⟩:=bnd h;obtain ⟨rv,uF,h⟩:=bnd h;refine jr (ra 2 [.sl Rp.byte [0] b,kI uY] rfl (zlw (some (kI uY)) none rfl zir.el (zw _ _ _) ⟨rfl,rfl⟩ ⟨rfl,rfl⟩ vd) rfl (rl 0 [0] 11 Tryz.call158 (zBg uF) (rfl' [13]))) (jp (jI h (fun uE h=>?_) fun uE h=>?_))
 ·refine jr (rc 0 rfl (zaD (r:=zaf) [] [] (⟨0,0,0,0,0⟩:zz) rfl zzv rfl rfl) rf) ?_;cases h;exact zt (lk [4,5] [12] 12 2 lzz)
 refine jp ?_;obtain ⟨v3,vc,h⟩:=bnd h;obtain ⟨rv2,uQ,h⟩:=bnd h;refine jd [1,4,6,8,9,10,11] [12,13] zbq (by exact (lw_e (lw_e (lw_e (lw_e (ly [.sl Rp.byte [0] b,kI (IntKind.i64.wrap (uY+rv.2.1))] (zlw (some (kI (IntKind.i64.wrap (uY+rv.2.1)))) none rfl zir.el (zw _ _ _) ⟨rfl,rfl⟩ ⟨rfl,rfl⟩ vc) rfl (lx (lf1 159 (zR [kI rv.1.Wire,.sl Rp.byte [0] v3] [0] 12 rfl Tryz.call159 (zwC uQ) rfl rfl rfl rfl rfl)) l0))))))) (jp (jI h (fun uI h=>?_) fun uI h=>?_))
 ·refine jr (rc 0 rfl (zaD (r:=zaf) [] [] (⟨0,0,0,0,0⟩:zz) rfl zzv rfl rfl) rf) ?_;cases h;exact zt (lk [4,5] [12] 12 2 lzz)
 refine jr (rc 11 rfl (zaD (r:=zaf) [kI rv.1.Number,kI rv.1.Wire,kI uY,kI (IntKind.i64.wrap ((IntKind.i64.wrap (uY+rv.2.1))+rv2.1)),kI (IntKind.i64.wrap ((IntKind.i64.wrap (uY+rv.2.1))+rv2.2.1))] [] (⟨rv.1.Number,rv.1.Wire,uY,(IntKind.i64.wrap ((IntKind.i64.wrap (uY+rv.2.1))+rv2.1)),(IntKind.i64.wrap ((IntKind.i64.wrap (uY+rv.2.1))+rv2.2.1))⟩:zz) rfl zzv rfl rfl) rf) ?_;cases h;exact zt (lk [4,5] [12] 12 2 lzz)
theorem ztn (h:zlW uO x=some r):FnOk Tryz.prog 37 [.rc zd [0] x] [.ag [.own za 57 3 [0,4] r.Values,.own Rp.str 9 5 [] r.Unknown]]:=by
 refine zu (E:=⟨[(2,.ptr 2 0)],[⟨2,27,[.own za 57 3 [0,4] r.Values,.own Rp.str 9 5 [] r.Unknown]⟩]⟩) 9 Tryz.func37 rfl rfl rfl ⟨⟨_,_,rfl,rfl,rfl,⟨Tryz.isAgg27,Tryz.sizeOf27⟩⟩,trivial⟩ (fun Xt=>?_);refine zj ?_;unfold zlW at h;refine jr (ra 0 [.rc zd [0] x] rfl (zbL 17 [.sl za [0] x.Values,.sl Rp.str [0] x.Unknown] [0] rfl rfl rfl (by rw [zi]<;>rfl) rfl) rfl (rfl' [18])) ?_;obtain ⟨rv,uF,h⟩:=bnd h;refine jr (rc 1 rfl (zx.le (ins':=[(.tmp 3,.ag [.sl za [0] x.Values,.sl Rp.str [0] x.Unknown])]) (zR (args:=[.tmp 3]) [.rc zd [0] x] [0] 17 rfl Tryz.call64 (zts uF) rfl rfl rfl rfl rfl) ⟨⟨rfl,zT zd [0] x [.sl za [0] x.Values,.sl Rp.str [0] x.Unknown] (by rw [zi]<;>rfl) rfl⟩,trivial⟩) rf) (jI h (fun uC h=>?_) fun uC h=>?_)
 ·refine jr (ra 0 [] rfl (zcs [] [kN,kN] rfl zwQ rfl) rfl rf) ?_;cases h;exact zt (lk [2] [18] 18 2 (zaJ ⟨[(2,.ptr 2 0)],[⟨2,27,[kN,kN]⟩]⟩ (by kernel_rfl) (zcU 2 0 (.own za 57 3 [0,4] ((⟨[],[]⟩:zc):zc).Values) rfl rfl (zbJ za 57 3 [0,4] rfl) (zcU 2 1 (.own Rp.str 9 5 [] ((⟨[],[]⟩:zc):zc).Unknown) rfl rfl (zbJ Rp.str 9 5 [] rfl) lzz))))
 obtain ⟨rv2,uQ,h⟩:=bnd h;refine jr (rc 1 rfl (zx.le (ins':=[(.tmp 7,.ag [.sl za [0] x.Values,.sl Rp.str [0] x.Unknown])]) (zR (args:=[.tmp 7]) [.rc zd [0] x] [0] 17 rfl Tryz.call78 (zwV uQ) rfl rfl rfl rfl rfl) ⟨⟨rfl,zT zd [0] x [.sl za [0] x.Values,.sl Rp.str [0] x.Unknown] (by rw [zi]<;>rfl) rfl⟩,trivial⟩) rf) ?_;obtain rfl:=(sj h);exact zt (lk [2] [18] 18 2 (lk [2] [2] 20 3 (lk [2] [2] 22 5 (lk [2] [2] 21 4 lzz))))
theorem zpJ (h:zgj sv=some r):FnOk Tryz.prog 83 [.sl zh [0] sv] [kB r]:=by
 refine zu (E:=⟨[(2,kB r)],[]⟩) 14 Tryz.func83 rfl rfl rfl ⟨rfl,trivial⟩ (fun Xt=>?_);refine zj ?_;unfold zgj at h;refine jp ?_;obtain ⟨rv,uF,h⟩:=bnd h;refine jr (rl 1 [0] 9 Tryz.call117 (zpH uF) rf) (jp ?_);cases h;exact zt lzz
theorem zpF (h:zgf b=some r):FnOk Tryz.prog 62 [.sl Rp.byte [0] b] [kB r]:=by
 refine zu (E:=⟨[(2,kB r)],[]⟩) 16 Tryz.func62 rfl rfl rfl ⟨rfl,trivial⟩ (fun Xt=>?_);refine zj ?_;unfold zgf at h;refine jp ?_;obtain ⟨rv,uF,h⟩:=bnd h;refine jr (rl 3 [0] 9 Tryz.call94 (zpE uF) rf) (jp ?_);cases h;exact zt lzz
end Go.Proofs.YtekgmimingolbaaGreat

/-
  The Go functions do what the plain functions say. No condition.
-/
import Derived.Test.YtekgmimingolbaaGreatx2G6
import Derived.Test.YtekgmimingolbaaGreatx2G7
import Derived.Test.YtekgmimingolbaaGreatx2G8
set_option autoImplicit true
set_option relaxedAutoImplicit true
namespace Go.Proofs.YtekgmimingolbaaGreat
open Go Go.RowKit
set_option linter.unusedVariables false
set_option maxRecDepth 100000
set_option maxHeartbeats 3200000
theorem zsi {ways:(List (List Int))} (h:zlb ways=some r):FnOk Tryz.prog 67 [.sl (Rp.list (Rp.int .i64)) [0] ways] [kB r]:=by
 refine zu (E:=⟨[(2,kB r)],[]⟩) 23 Tryz.func67 rfl rfl rfl ⟨rfl,trivial⟩ (fun Xt=>?_);refine zk ?_;unfold zlb at h;refine jp (jp (jp (zp ?_)));obtain ⟨q,uU,h⟩:=bnd h;refine zab (fun s:((List Int)×Int)=>zdC ways s.1 s.2) (fun s=>⟨[(3,.sl (Rp.int .i64) [0] s.1),(6,.sl (Rp.list (Rp.int .i64)) [0] ways),(7,kI (ways.length:Int)),(8,kI s.2)],[]⟩) (fun o e a w=>match o with| (.inl v_)=>e= .exit 0/\Sx ⟨⟨23,[]⟩,Xt,false,#[]⟩ ⟨[],[]⟩ a w| (.inr v_)=>e= .ret/\Sx ⟨⟨23,[]⟩,Xt,false,#[]⟩ ⟨[(2,kB false)],[]⟩ a w) ?_ uU ?_ ?_
 ·clear h;intro s o h;obtain ⟨last,v⟩:=s;refine zk ?_;replace h:zdC ways last v=some o:=h;unfold zdC at h;refine jp (jI h (fun uQ h=>?_) fun uQ h=>?_)
  ·refine zp ?_;obtain ⟨x,u0,h⟩:=bnd h;refine jr (ra 0 [.sl (Rp.list (Rp.int .i64)) [0] ways,kI v] rfl (zW rfl zmP.el (zy _ _ _) u0) rfl (ra 0 [.ep (Rp.list (Rp.int .i64)) [0] x 0] rfl (zeR (Rp.int .i64) x rfl rfl rfl) rfl rf)) ?_;obtain ⟨g,uP,h⟩:=bnd h;refine zU ⟨[(5,.sl (Rp.int .i64) [0] x),(6,.sl (Rp.list (Rp.int .i64)) [0] ways),(7,kI (ways.length:Int)),(8,kI v),(20,kB g)],[]⟩ ?_ ?_
   ·obtain ⟨rv,uS,uP⟩:=bnd uP;refine (rl 2 [0] 10 Tryz.call71 (zmV uS) (rsl 2 [] 16 (decide (rv>=0)) (fun uR=>?_) (fun uR=>?_)))
    ·replace uP:=iteT uP uR;cases uP;exact rgg
    replace uP:=iteF uP uR;obtain ⟨rv2,u9,uP⟩:=bnd uP;cases uP;exact (rl 2 [0] 10 Tryz.call101 (zBM u9) rgg)
   refine jI h (fun uT h=>?_) fun uT h=>?_
   ·refine jp ?_;cases h;exact zaN lzz
   refine jp (zV (jp ?_));cases h;exact zD lzz
  cases h;exact zaa rfl lzz
 ·exact zaq ⟨[(3,kN),(6,.sl (Rp.list (Rp.int .i64)) [0] ways),(7,kI (ways.length:Int)),(8,kI 0)],[]⟩ (by kernel_rfl) (zdB 3 (.sl (Rp.int .i64) [0] []) rfl (zaz (Rp.int .i64) [0]) lzz)
 rcases q with u| u2
 ·refine zan _ rfl (jp ?_);obtain rfl:=(sj h);exact zo lzz
 obtain rfl:=(sj h);exact zcJ lzz
theorem zcO (h:zP v=some r):FnOk Tryz.prog 69 [.fv 105 [.ep (Rp.list (Rp.list (Rp.int .i64))) [0] v 0],.lf (.val (.func (.func 71) #[] #[]))] [.own (Rp.list (Rp.int .i64)) 53 2 [3,0] r]:=by
 refine zu (E:=⟨[(4,.own (Rp.list (Rp.int .i64)) 53 2 [3,0] r)],[]⟩) 12 Tryz.func69 rfl rfl rfl ⟨rfl,trivial⟩ (fun Xt=>?_);refine zk ?_;unfold zP at h;refine jp ?_;obtain ⟨rv,uS,h⟩:=bnd h;refine jr (rl 1 [0] 11 Tryz.call103 (zgf uS) rf) ?_;obtain ⟨rv3,ve,h⟩:=bnd h;refine jr (rkl 2 [] ⟨[(5,.own (Rp.list (Rp.int .i64)) 53 13 [14,0] rv),(8,.own (Rp.list (Rp.int .i64)) 53 13 [14,0] rv),(9,.lf (.val (.func (.func 71) #[] #[])))],[]⟩ (zlx ⟨[(5,.own (Rp.list (Rp.int .i64)) 53 13 [14,0] rv3),(8,.own (Rp.list (Rp.int .i64)) 53 13 [14,0] rv3),(9,.lf (.val (.func (.func 71) #[] #[])))],[]⟩ (zvq [.own (Rp.list (Rp.int .i64)) 53 13 [14,0] rv,.lf (.val (.func (.func 71) #[] #[]))] [(13,2)] [14,0] 14 [] rfl Tryz.call104 (zfA ve) rfl rfl (by kernel_rfl) rfl rfl rfl) rfl (by kernel_rfl) (by kernel_rfl) ⟨⟨_,rfl,zhQ 0 rfl⟩,⟨_,rfl,zhQ 0 rfl⟩,⟨_,rfl,zX rfl⟩,trivial⟩ trivial rf)) (jp ?_);obtain rfl:=(sj h);exact zo (lk [4] [] 13 2 (lk [4] [] 14 3 lzz))
theorem zvn (h:zjK f=some r):FnOk Tryz.prog 175 [.rc zf [0] f] [kB r]:=by
 refine zu (E:=⟨[(2,kB r)],[]⟩) 10 Tryz.func175 rfl rfl rfl ⟨rfl,trivial⟩ (fun Xt=>?_);refine zk ?_;unfold zjK at h;refine jq [11] ?_;obtain ⟨g,uP,h⟩:=bnd h;refine zU ⟨[(2,kB g)],[]⟩ ?_ ?_
 ·refine (rsl 3 [] 5 f.Repeated (fun uQ=>?_) (fun uQ=>?_))
  ·replace uP:=iteT uP uQ;obtain ⟨rv,uS,uP⟩:=bnd uP;cases uP;exact (rl 2 [1] 10 Tryz.call198 (zyv uS) rgg)
  replace uP:=iteF uP uQ;cases uP;exact rgg
 obtain rfl:=(sj h);exact zo lzz
theorem ziU (h:zfu m vi=some r):FnOk Tryz.prog 96 [.rc zh [0] m,kI vi] [kI r.1,kB r.2]:=by
 refine zu (E:=⟨[(4,kI r.1),(5,kB r.2)],[]⟩) 11 Tryz.func96 rfl rfl rfl ⟨rfl,rfl,trivial⟩ (fun Xt=>?_);refine zk ?_;unfold zfu at h;refine jr (ra 0 [.rc zh [0] m] rfl (zaR 11 [kS m.Name,.sl zf [0] m.Fields] [0] rfl rfl rfl rfl rfl) rfl (rfl' [913000])) ?_;obtain ⟨rv,uS,h⟩:=bnd h;refine jr (ra 1 [.ptr 913000 0] rfl (zGE (g:=130) [.tmp 3] [⟨913000,3,[kI vi]⟩] [.ep (Rp.int .i64) [913000] vi 0] rfl ⟨⟨rfl,rfl,rfl⟩,trivial⟩ rfl) rfl (rl 0 [0,913000] 10 Tryz.call129 (zkN uS) rf)) ?_;cases h;exact zo lzz
theorem zCu (h:zqj b=some r):FnOk Tryz.prog 181 [.sl Rp.byte [0] b] [kI r]:=by
 refine zu (E:=⟨[(2,kI r)],[]⟩) 11 Tryz.func181 rfl rfl rfl ⟨rfl,trivial⟩ (fun Xt=>?_);refine zk ?_;unfold zqj at h;refine jp ?_;obtain ⟨rv,uS,h⟩:=bnd h;refine jr (rl 1 [0] 9 Tryz.call214 (zEq uS) rf) (jp ?_);cases h;exact zo lzz
theorem zsG (h:zhS k l=some r):FnOk Tryz.prog 126 [kI k,.sl (Rp.int .u64) [0] l] [kB r]:=by
 refine zu (E:=⟨[(4,kB r)],[]⟩) 29 Tryz.func126 rfl rfl rfl ⟨rfl,trivial⟩ (fun Xt=>?_);refine zk ?_;unfold zhS at h;refine jp (jp (zp ?_));obtain ⟨q,uU,h⟩:=bnd h;refine zab (fun s:Int=>zaZ k l s) (fun s=>⟨[(0,kI k),(9,.sl (Rp.int .u64) [0] l),(10,kI (l.length:Int)),(11,kI s)],[]⟩) (fun o e a w=>match o with| (.inl v_)=>e= .exit 0/\Sx ⟨⟨29,[]⟩,Xt,false,#[]⟩ ⟨[],[]⟩ a w| (.inr v_)=>e= .ret/\Sx ⟨⟨29,[]⟩,Xt,false,#[]⟩ ⟨[(4,kB false)],[]⟩ a w) ?_ uU lzz ?_
 ·clear h;intro v o h;refine zk ?_;replace h:zaZ k l v=some o:=h;unfold zaZ at h;refine jp (jI h (fun uQ h=>?_) fun uQ h=>?_)
  ·refine zp ?_;obtain ⟨x,u0,h⟩:=bnd h;refine jr (ra 0 [.sl (Rp.int .u64) [0] l,kI v] rfl (zW rfl zrf.el (zy _ _ _) u0) rfl rf) ?_;obtain ⟨rv,uS,h⟩:=bnd h;refine jr (rl 2 [1] 10 Tryz.call155 (zzH uS) rf) (zU ⟨[(0,kI k),(9,.sl (Rp.int .u64) [0] l),(10,kI (l.length:Int)),(11,kI v),(27,kB ((rv.2 !=0)|| (rv.1 !=x)))],[]⟩ ?_ ?_)
   ·refine (rsl 3 [] 23 (rv.2 !=0) (fun uR=>?_) (fun uR=>?_))
    · exact (rbl [] 27 true rfl (by rw [uR]<;>rfl))
    exact (rbl [] 27 (rv.1 !=x) rfl (by rw [uR]<;>rfl))
   refine jI h (fun uT h=>?_) fun uT h=>?_
   ·refine jp ?_;cases h;exact zaN lzz
   refine zV (jp ?_);cases h;exact zD lzz
  cases h;exact zaa rfl lzz
 rcases q with u| u2
 ·refine zan _ rfl (jp ?_);obtain rfl:=(sj h);exact zo lzz
 obtain rfl:=(sj h);exact zcJ lzz
theorem zyV (h:zmH b vl=some r):FnOk Tryz.prog 131 [.sl Rp.byte [0] b,kI vl] [.rc zal [] r.1,k8 r.2]:=by
 refine zu (E:=⟨[(4,.ptr 2 0),(5,k8 r.2)],[⟨2,191,[kI r.1.Number,kI r.1.Wire,kI r.1.From,kI r.1.At,kI r.1.To]⟩]⟩) 62 Tryz.func131 rfl rfl rfl ⟨⟨_,_,rfl,rfl,rfl,rfl,⟨Tryz.isAgg191,Tryz.sizeOf191⟩⟩,rfl,trivial⟩ (fun Xt=>?_);refine zk ?_;unfold zmH at h;refine jq [12] (zU ⟨[(0,.sl Rp.byte [0] b),(1,kI vl),(4,.ptr 12 0),(19,kB ((decide (vl<0))|| (decide (vl>=(b.length:Int)))))],[⟨12,191,[kI 0,kI 0,kI 0,kI 0,kI 0]⟩]⟩ ?_ ?_)
 ·refine (rsl 3 [] 14 (decide (vl<0)) (fun uQ=>?_) (fun uQ=>?_))
  · exact (rbl [] 19 true rfl (by rw [uQ]<;>rfl))
  exact (rbl [] 19 (decide (vl>=(b.length:Int))) rfl (by rw [uQ]<;>rfl))
 refine jI h (fun uR h=>?_) fun uR h=>?_
 ·refine jr (rc 0 rfl (zaF (r:=zal) [] [] (⟨0,0,0,0,0⟩:zB) rfl zCl rfl rfl) rf) ?_;cases h;exact zo (lk [4,5] [12] 12 2 lzz)
 obtain ⟨v2,vp,h⟩:=bnd h;obtain ⟨rv,uS,h⟩:=bnd h;refine jr (ra 2 [.sl Rp.byte [0] b,kI vl] rfl (zmS (some (kI vl)) none rfl zjr.el (zy _ _ _) ⟨rfl,rfl⟩ ⟨rfl,rfl⟩ vp) rfl (rl 0 [0] 11 Tryz.call158 (zEj uS) (rfl' [13]))) (jp (jI h (fun uT h=>?_) fun uT h=>?_))
 ·refine jr (rc 0 rfl (zaF (r:=zal) [] [] (⟨0,0,0,0,0⟩:zB) rfl zCl rfl rfl) rf) ?_;cases h;exact zo (lk [4,5] [12] 12 2 lzz)
 refine jp ?_;obtain ⟨v3,vr,h⟩:=bnd h;obtain ⟨rv2,u9,h⟩:=bnd h;refine jd [1,4,6,8,9,10,11] [12,13] zaU (by exact (lw_e (lw_e (lw_e (lw_e (ly [.sl Rp.byte [0] b,kI (IntKind.i64.wrap (vl+rv.2.1))] (zmS (some (kI (IntKind.i64.wrap (vl+rv.2.1)))) none rfl zjr.el (zy _ _ _) ⟨rfl,rfl⟩ ⟨rfl,rfl⟩ vr) rfl (lx (lf1 159 (zL [kI rv.1.Wire,.sl Rp.byte [0] v3] [0] 12 rfl Tryz.call159 (zyW u9) rfl rfl rfl rfl rfl)) l0))))))) (jp (jI h (fun uX h=>?_) fun uX h=>?_))
 ·refine jr (rc 0 rfl (zaF (r:=zal) [] [] (⟨0,0,0,0,0⟩:zB) rfl zCl rfl rfl) rf) ?_;cases h;exact zo (lk [4,5] [12] 12 2 lzz)
 refine jr (rc 11 rfl (zaF (r:=zal) [kI rv.1.Number,kI rv.1.Wire,kI vl,kI (IntKind.i64.wrap ((IntKind.i64.wrap (vl+rv.2.1))+rv2.1)),kI (IntKind.i64.wrap ((IntKind.i64.wrap (vl+rv.2.1))+rv2.2.1))] [] (⟨rv.1.Number,rv.1.Wire,vl,(IntKind.i64.wrap ((IntKind.i64.wrap (vl+rv.2.1))+rv2.1)),(IntKind.i64.wrap ((IntKind.i64.wrap (vl+rv.2.1))+rv2.2.1))⟩:zB) rfl zCl rfl rfl) rf) ?_;cases h;exact zo (lk [4,5] [12] 12 2 lzz)
theorem znn (h:zjZ uY x=some r):FnOk Tryz.prog 37 [.rc zc [0] x] [.ag [.own za 57 3 [0,4] r.Values,.own Rp.str 9 5 [] r.Unknown]]:=by
 refine zu (E:=⟨[(2,.ptr 2 0)],[⟨2,27,[.own za 57 3 [0,4] r.Values,.own Rp.str 9 5 [] r.Unknown]⟩]⟩) 9 Tryz.func37 rfl rfl rfl ⟨⟨_,_,rfl,rfl,rfl,⟨Tryz.isAgg27,Tryz.sizeOf27⟩⟩,trivial⟩ (fun Xt=>?_);refine zk ?_;unfold zjZ at h;refine jr (ra 0 [.rc zc [0] x] rfl (zaR 17 [.sl za [0] x.Values,.sl Rp.str [0] x.Unknown] [0] rfl rfl rfl (by rw [zj]<;>rfl) rfl) rfl (rfl' [18])) ?_;obtain ⟨rv,uS,h⟩:=bnd h;refine jr (rc 1 rfl (zw.le (ins':=[(.tmp 3,.ag [.sl za [0] x.Values,.sl Rp.str [0] x.Unknown])]) (zL (args:=[.tmp 3]) [.rc zc [0] x] [0] 17 rfl Tryz.call64 (zqU uS) rfl rfl rfl rfl rfl) ⟨⟨rfl,zK zc [0] x [.sl za [0] x.Values,.sl Rp.str [0] x.Unknown] (by rw [zj]<;>rfl) rfl⟩,trivial⟩) rf) (jI h (fun uQ h=>?_) fun uQ h=>?_)
 ·refine jr (ra 0 [] rfl (zaM [] [kN,kN] rfl zod rfl) rfl rf) ?_;cases h;exact zo (lk [2] [18] 18 2 (zaq ⟨[(2,.ptr 2 0)],[⟨2,27,[kN,kN]⟩]⟩ (by kernel_rfl) (zat 2 0 (.own za 57 3 [0,4] ((⟨[],[]⟩:zd):zd).Values) rfl rfl (zaL za 57 3 [0,4] rfl) (zat 2 1 (.own Rp.str 9 5 [] ((⟨[],[]⟩:zd):zd).Unknown) rfl rfl (zaL Rp.str 9 5 [] rfl) lzz))))
 obtain ⟨rv2,u9,h⟩:=bnd h;refine jr (rc 1 rfl (zw.le (ins':=[(.tmp 7,.ag [.sl za [0] x.Values,.sl Rp.str [0] x.Unknown])]) (zL (args:=[.tmp 7]) [.rc zc [0] x] [0] 17 rfl Tryz.call78 (zzs u9) rfl rfl rfl rfl rfl) ⟨⟨rfl,zK zc [0] x [.sl za [0] x.Values,.sl Rp.str [0] x.Unknown] (by rw [zj]<;>rfl) rfl⟩,trivial⟩) rf) ?_;obtain rfl:=(sj h);exact zo (lk [2] [18] 18 2 (lk [2] [2] 20 3 (lk [2] [2] 22 5 (lk [2] [2] 21 4 lzz))))
theorem zro (h:zgZ sv=some r):FnOk Tryz.prog 83 [.sl zh [0] sv] [kB r]:=by
 refine zu (E:=⟨[(2,kB r)],[]⟩) 14 Tryz.func83 rfl rfl rfl ⟨rfl,trivial⟩ (fun Xt=>?_);refine zk ?_;unfold zgZ at h;refine jp ?_;obtain ⟨rv,uS,h⟩:=bnd h;refine jr (rl 1 [0] 9 Tryz.call117 (zrm uS) rf) (jp ?_);cases h;exact zo lzz
theorem zrk (h:zgV b=some r):FnOk Tryz.prog 62 [.sl Rp.byte [0] b] [kB r]:=by
 refine zu (E:=⟨[(2,kB r)],[]⟩) 16 Tryz.func62 rfl rfl rfl ⟨rfl,trivial⟩ (fun Xt=>?_);refine zk ?_;unfold zgV at h;refine jp ?_;obtain ⟨rv,uS,h⟩:=bnd h;refine jr (rl 3 [0] 9 Tryz.call94 (zrj uS) rf) (jp ?_);cases h;exact zo lzz
theorem zfQ (h:zar v=some r):FnOk Tryz.prog 209 [.fv 223 [.ep (Rp.list Rp.str) [0] v 0]] [.own Rp.str 9 2 [] r]:=by
 refine zu (E:=⟨[(2,.own Rp.str 9 2 [] r)],[]⟩) 9 Tryz.func209 rfl rfl rfl ⟨rfl,trivial⟩ (fun Xt=>?_);refine zk ?_;unfold zar at h;refine jp ?_;obtain ⟨rv,uS,h⟩:=bnd h;refine jr (rl 1 [0] 10 Tryz.call221 (zfC uS) rf) ?_;obtain ⟨rv3,ve,h⟩:=bnd h;refine jr (rkl 1 [] ⟨[(3,.own Rp.str 9 12 [] rv),(6,.own Rp.str 9 12 [] rv)],[]⟩ (zlx ⟨[(3,.own Rp.str 9 12 [] rv3),(6,.own Rp.str 9 12 [] rv3)],[]⟩ (zvq [.own Rp.str 9 12 [] rv] [(12,2)] [1] 12 [] rfl Tryz.call222 (zlG ve) rfl rfl (by kernel_rfl) rfl rfl rfl) rfl (by kernel_rfl) (by kernel_rfl) ⟨⟨_,rfl,zhQ 0 rfl⟩,⟨_,rfl,zhQ 0 rfl⟩,trivial⟩ trivial rf)) (jp ?_);obtain rfl:=(sj h);exact zo (lk [2] [] 12 2 lzz)
end Go.Proofs.YtekgmimingolbaaGreat

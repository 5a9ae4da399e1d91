/-
  The Go functions do what the plain functions say. No condition.
-/
import Derived.Test.YtkgohoggipdokaaGreatx1G6
import Derived.Test.YtkgohoggipdokaaGreatx1Y
set_option autoImplicit true
set_option relaxedAutoImplicit true
namespace Go.Proofs.YtkgohoggipdokaaGreat
open Tryz
open Go Go.RowKit
set_option linter.unusedVariables false
set_option maxRecDepth 100000
set_option maxHeartbeats 3200000
theorem zzz (h:zkz vb sv vc x=some r):w6 63 [.sl zg [0] sv,kI vc,.rc zm [0] x] [kB r]:=by
 refine fi 21 func63 fun Xt=>?_
 unfold zkz at h;refine jr (rc 0 rfl (lbx 11 [0] (zcv [0] x)) rf) (jb h fun g uV h=>jg [] [] [(6,kB g)] ?_ ?_)
 ·refine jb uV fun rv uU uV=>(rl 2 [0] 10 call105 (zsF uU) (rsI 2 11 uV ?_ ?_))<;>intro uS uV
  ·refine jb uV fun w8 uY uV=>(rc 1 rfl (lw0 10 call58 (zCs uY) (.l (zbH [0] x))) (rsI 2 15 uV ?_ ?_))<;>intro uT uV
   ·refine jb uV fun kg vd uV=>?_;cases uV;exact (rc 3 rfl (lw0 10 call106 (zun vd) (.k (.k (.l (zbH [0] x))))) rgg)
   cases uV;exact rgg
  cases uV;exact rgg
 obtain rfl:=(sj h);exact zx lzz
theorem zyV (h:zlm f isRun value=some r):w6 192 [.rc ze [0] f,kB isRun,.sl Rp.byte [0] value] [k8 r]:=by
 refine fi 32 func192 fun Xt=>?_
 unfold zlm at h;refine jq [11] (zq (jp (jI h ?_ ?_)))<;>intro uS h
 ·refine jb h fun rv uU h=>jr (rl 3 [0] 10 call215 (zCe uU) rf) ?_;cases h;exact jz
 refine jb h fun g uV h=>jg [3] [11] [(19,kB g)] ?_ ?_
 ·refine (rsI 4 23 uV ?_ ?_)<;>intro uT uV
  ·refine jb uV fun w8 uY uV=>?_;cases uV;exact (rl 1 [0] 10 call145 (zut uY) (rel [] lzz))
  cases uV;exact (rel [] lzz)
 refine jI h ?_ ?_<;>intro uW h
 ·cases h;exact jz
 refine jp (jI h ?_ ?_)<;>intro uZ h
 ·cases h;exact jz
 refine zS ?_;cases h;exact jz
theorem zzE (h:zmP k b l=some r):w6 129 [kI k,.sl Rp.byte [0] b,.sl zh [0] l] [.own wZ 72 2 [] r]:=by
 refine fi 36 func129 fun Xt=>?_
 unfold zmP at h;refine jp (jp (jp (zq (jb h fun q u0 h=>jL u0 [0,1,12,13] [] (fun s=>[(7,.own wZ 72 20 [] s.1),(14,kI s.2)]) (fun o=> .x 0 ⟨[(7,.own wZ 72 20 [] o)],[]⟩) ?_ lw ?_))))
 ·clear h;intro s o h;obtain ⟨all,v⟩:=s;replace h:zeH b k l all v=some o:=h;unfold zeH at h;refine jp (jI h ?_ ?_)<;>intro uS h
  ·refine zq (jb h fun x va h=>jr (rx 0 [0] zog.el va rfl rfl (rc 0 rfl (lde zh [0] x zqn) (rfl' [21]))) (jb h fun v2 vq h=>jb h fun rv uU h=>jr (ra 8 [.sl Rp.byte [0] b,kI x.Record.At,kI x.Record.To] rfl (zge (some (kI x.Record.At)) (some (kI x.Record.To)) rfl zbB.el (zce _ _ _) ⟨rfl,rfl⟩ ⟨rfl,rfl⟩ vq) rfl (rl 0 [0] 20 call169 (zCf uU) rf)) (jb h fun v3 vk h=>jr (rc 2 rfl (lao 20 [] 72 23 [] [] zoU.el vk (.inl (zio _))) rf) (zS ?_))));cases h;exact jy
  cases h;exact zag rfl lzz
 refine zaA _ rfl (jp ?_);obtain rfl:=(sj h);exact zx (lks [] [(20,2)] lzz)
theorem zzk (h:zme vb sv vc x=some r):w6 30 [.sl zg [0] sv,kI vc,.rc zm [0] x] [k8 r]:=by
 refine fi 25 func30 fun Xt=>?_
 unfold zme at h;refine jr (rc 0 rfl (lbx 11 [0] (zcv [0] x)) rf) (zq (jb h fun rv uU h=>jr (rc 3 rfl (lw0 10 call63 (zzz uU) (.k (.k (.l (zbH [0] x))))) rf) (jI h ?_ ?_)))<;>intro uS h
 ·cases h;exact jz
 refine jb h fun w8 uY h=>jr (rl 1 [0] 10 call38 (zpO uY) rf) (jI h ?_ ?_)<;>intro uT h
 ·cases h;exact jz
 refine jg [] [] [(16,kB ((decide (vc<0))|| (decide (vc>=(sv.length:Int)))))] ?_ ?_
 ·refine (rsl 3 [] 19 (decide (vc<0)) ?_ ?_)<;>intro uW
  · exact (rbl [] 16 true rfl (by grind))
  exact (rbl [] 16 (decide (vc>=(sv.length:Int))) rfl (by grind))
 refine jI h ?_ ?_<;>intro uZ h
 ·cases h;exact jz
 refine zS ?_;cases h;exact jz
theorem zpF (ww:∀{wv:zay} {uX:Int} {ve:Int} {tov:Int} {d:Int} {r:(zA×(List (zk×zf)))},xr wv uX ve tov d=some r->zjv prog 122 [.ag [.sl zg [0] wv.s,.sl Rp.byte [0] wv.b,.om zo zh 2 [0] wv.met],kI uX,kI ve,kI tov,kI d] [.rc zaG [] r.1] [.ag [.any,.any,.om zo zh 2 [0] r.2],.any,.any,.any,.any]) (wx:∀{wv:zay} {uX:Int} {v:zf} {d:Int} {r:(zA×(List (zk×zf)))},xk wv uX v d=some r->zjv prog 163 [.ag [.sl zg [0] wv.s,.sl Rp.byte [0] wv.b,.om zo zh 2 [0] wv.met],kI uX,.rc zh [0] v,kI d] [.rc zaG [] r.1] [.ag [.any,.any,.om zo zh 2 [0] r.2],.any,.any,.any]) (h:zeS xr xk wv uX ve tov d=some r):zjv prog 122 [.ag [.sl zg [0] wv.s,.sl Rp.byte [0] wv.b,.om zo zh 2 [0] wv.met],kI uX,kI ve,kI tov,kI d] [.rc zaG [] r.1] [.ag [.any,.any,.om zo zh 2 [0] r.2],.any,.any,.any,.any]:=by
 refine zlP (E:=⟨[(0,.ag [.any,.any,.om zo zh 2 [0] r.2]),(10,.ptr 3 0)],[⟨3,146,(zkh r.1)⟩]⟩) 49 [0] func122 rfl rfl rfl ⟨⟨_,_,rfl,rfl,rfl,rfl,zEH⟩,trivial⟩ ⟨.inr ⟨rfl,rfl⟩,.inl rfl,.inl rfl,.inl rfl,.inl rfl,trivial⟩ rfl (fun Xt old=>?_);refine zcw ?_;unfold zeS at h;refine jq [13,14] (jp (zq (jb h fun q u0 h=>jl u0 [1,3,4,5,10] [14] (fun s=>[(0,.ag [.sl zg [0] wv.s,.sl Rp.byte [0] wv.b,.om zo zh 2 [0] s.1]),(2,kI s.2.1),(11,kI s.2.2)]) (fun s=>[⟨13,193,[.sl zg [0] wv.s,.sl Rp.byte [0] wv.b,.om zo zh 2 [0] s.1]⟩]) (fun| (.inl v_)=> .X 0 [10] [14] [(0,.ag [.sl zg [0] wv.s,.sl Rp.byte [0] wv.b,.om zo zh 2 [0] v_.1]),(11,kI v_.2)] []| (.inr v_)=> .r ⟨[(0,.ag [.sl zg [0] wv.s,.sl Rp.byte [0] wv.b,.om zo zh 2 [0] v_.1]),(10,.ptr 14 0)],[⟨14,146,[kI v_.2.1,kI v_.2.2.1,k8 v_.2.2.2]⟩]⟩) ?_ lzz ?_)))
 ·clear h;intro s o h;obtain ⟨wv2,kG,vU⟩:=s;replace h:zaH d uX xk tov wv wv2 kG vU=some o:=h;unfold zaH at h;refine jp (jI h ?_ ?_)<;>intro uS h
  ·refine zq (jb h fun w8 uY h=>jr (rkl 4 [] ⟨[(0,.ag [.sl zg [0] wv.s,.sl Rp.byte [0] wv.b,.om zo zh 2 [0] wv2]),(1,kI uX),(2,kI kG),(3,kI tov),(4,kI d),(5,.ptr 13 0),(10,.ptr 14 0),(11,kI vU),(19,.ag [.sl zg [0] wv.s,.sl Rp.byte [0] wv.b,.om zo zh 2 [0] wv2]),(20,kI uX),(21,kI kG),(22,kI tov)],[⟨13,193,[.sl zg [0] wv.s,.sl Rp.byte [0] wv.b,.om zo zh 2 [0] wv2]⟩,⟨14,146,[kI 0,kI 0,k8 0]⟩]⟩ (znz ⟨[(0,.ag [.sl zg [0] wv.s,.sl Rp.byte [0] wv.b,.om zo zh 2 [0] w8.2.2]),(1,kI uX),(2,kI kG),(3,kI tov),(4,kI d),(5,.ptr 13 0),(10,.ptr 14 0),(11,kI vU),(19,.ag [.sl zg [0] wv.s,.sl Rp.byte [0] wv.b,.om zo zh 2 [0] w8.2.2]),(20,kI uX),(21,kI kG),(22,kI tov)],[⟨13,193,[.sl zg [0] wv.s,.sl Rp.byte [0] wv.b,.om zo zh 2 [0] w8.2.2]⟩,⟨14,146,[kI 0,kI 0,k8 0]⟩]⟩ (znB [.ag [.sl zg [0] wv.s,.sl Rp.byte [0] wv.b,.om zo zh 2 [0] wv2],kI uX,kI kG,kI tov] [(2,2)] [0] 15 [] rfl call162 (ztk uY) rfl rfl (by kernel_rfl) rfl rfl rfl) rfl (by kernel_rfl) (by kernel_rfl) ⟨⟨_,rfl,zsE ⟨zz rfl,zz rfl,ziA 0 rfl,trivial⟩⟩,⟨_,rfl,zz rfl⟩,⟨_,rfl,zz rfl⟩,⟨_,rfl,zz rfl⟩,⟨_,rfl,zz rfl⟩,⟨_,rfl,zz rfl⟩,⟨_,rfl,zz rfl⟩,⟨_,rfl,zz rfl⟩,⟨_,rfl,zsE ⟨zz rfl,zz rfl,ziA 0 rfl,trivial⟩⟩,⟨_,rfl,zz rfl⟩,⟨_,rfl,zz rfl⟩,⟨_,rfl,zz rfl⟩,trivial⟩ ⟨⟨_,rfl,rfl,rfl,⟨zz rfl,zz rfl,ziA 0 rfl,trivial⟩⟩,⟨_,rfl,rfl,rfl,⟨zz rfl,zz rfl,zz rfl,trivial⟩⟩,trivial⟩ (rfl' [18]))) (jp (jI h ?_ ?_)))<;>intro uT h
   ·refine jr (rc 2 rfl (zab (r:=zaG) [kI kG,k8 w8.2.1] [] (⟨0,kG,w8.2.1⟩:zA) rfl zvi rfl rfl) rf) ?_;cases h;exact zrK lzz
   refine jb h fun kq vm h=>jr (lb 2 zh [] w8.1 (rkl 1 [] ⟨[(0,.ag [.sl zg [0] wv.s,.sl Rp.byte [0] wv.b,.om zo zh 2 [0] w8.2.2]),(1,kI uX),(3,kI tov),(4,kI d),(5,.ptr 13 0),(10,.ptr 14 0),(11,kI vU),(12,.ptr 18 0),(31,.ag [.sl zg [0] wv.s,.sl Rp.byte [0] wv.b,.om zo zh 2 [0] w8.2.2]),(32,kI uX),(33,.rc zh [] w8.1),(34,kI d)],[⟨13,193,[.sl zg [0] wv.s,.sl Rp.byte [0] wv.b,.om zo zh 2 [0] w8.2.2]⟩,⟨14,146,[kI 0,kI 0,k8 0]⟩,⟨18,154,(zcY w8.1)⟩]⟩ (znz ⟨[(0,.ag [.sl zg [0] wv.s,.sl Rp.byte [0] wv.b,.om zo zh 2 [0] kq.2]),(1,kI uX),(3,kI tov),(4,kI d),(5,.ptr 13 0),(10,.ptr 14 0),(11,kI vU),(12,.ptr 18 0),(31,.ag [.sl zg [0] wv.s,.sl Rp.byte [0] wv.b,.om zo zh 2 [0] kq.2]),(32,kI uX),(33,.rc zh [] w8.1),(34,kI d)],[⟨13,193,[.sl zg [0] wv.s,.sl Rp.byte [0] wv.b,.om zo zh 2 [0] kq.2]⟩,⟨14,146,[kI 0,kI 0,k8 0]⟩,⟨18,154,(zcY w8.1)⟩]⟩ (znB [.ag [.sl zg [0] wv.s,.sl Rp.byte [0] wv.b,.om zo zh 2 [0] w8.2.2],kI uX,.rc zh [] w8.1,kI d] [(2,2)] [0] 18 [] rfl call163 (wx vm) rfl rfl (by kernel_rfl) rfl rfl rfl) rfl (by kernel_rfl) (by kernel_rfl) ⟨⟨_,rfl,zsE ⟨zz rfl,zz rfl,ziA 0 rfl,trivial⟩⟩,⟨_,rfl,zz rfl⟩,⟨_,rfl,zz rfl⟩,⟨_,rfl,zz rfl⟩,⟨_,rfl,zz rfl⟩,⟨_,rfl,zz rfl⟩,⟨_,rfl,zz rfl⟩,⟨_,rfl,zz rfl⟩,⟨_,rfl,zsE ⟨zz rfl,zz rfl,ziA 0 rfl,trivial⟩⟩,⟨_,rfl,zz rfl⟩,⟨_,rfl,zz rfl⟩,⟨_,rfl,zz rfl⟩,trivial⟩ ⟨⟨_,rfl,rfl,rfl,⟨zz rfl,zz rfl,ziA 0 rfl,trivial⟩⟩,⟨_,rfl,rfl,rfl,⟨zz rfl,zz rfl,zz rfl,trivial⟩⟩,⟨_,rfl,rfl,rfl,⟨zz rfl,zz rfl,zz rfl,zz rfl,zz rfl,zz rfl,zz rfl,trivial⟩⟩,trivial⟩ (rfl' [21])))) (jp (jI h ?_ ?_))<;>intro uW h
   ·refine jr (lb 0 zaG [] kq.1 rf) ?_;cases h;exact zrK lzz
   refine jp (jp (zS ?_));cases h;exact zae lzz
  cases h;exact zag rfl lzz
 rcases q with u| u2
 ·refine zaA _ rfl (jr (rc 1 rfl (zab (r:=zaG) [kI u.2] [] (⟨u.2,0,0⟩:zA) rfl zvi rfl rfl) rf) ?_);cases h;exact zhB (lks [14] [(14,3)] lw)
 cases h;exact zOs (lks [14] [(14,3)] lw)
theorem zrx (ww:∀{wv:zay} {uX:Int} {ve:Int} {tov:Int} {d:Int} {r:(zA×(List (zk×zf)))},xr wv uX ve tov d=some r->zjv prog 122 [.ag [.sl zg [0] wv.s,.sl Rp.byte [0] wv.b,.om zo zh 2 [0] wv.met],kI uX,kI ve,kI tov,kI d] [.rc zaG [] r.1] [.ag [.any,.any,.om zo zh 2 [0] r.2],.any,.any,.any,.any]) (wx:∀{wv:zay} {uX:Int} {v:zf} {d:Int} {r:(zA×(List (zk×zf)))},xk wv uX v d=some r->zjv prog 163 [.ag [.sl zg [0] wv.s,.sl Rp.byte [0] wv.b,.om zo zh 2 [0] wv.met],kI uX,.rc zh [0] v,kI d] [.rc zaG [] r.1] [.ag [.any,.any,.om zo zh 2 [0] r.2],.any,.any,.any]) (h:zeA xr xk wv uX v d=some r):zjv prog 163 [.ag [.sl zg [0] wv.s,.sl Rp.byte [0] wv.b,.om zo zh 2 [0] wv.met],kI uX,.rc zh [0] v,kI d] [.rc zaG [] r.1] [.ag [.any,.any,.om zo zh 2 [0] r.2],.any,.any,.any]:=by
 refine zlP (E:=⟨[(0,.ag [.any,.any,.om zo zh 2 [0] r.2]),(8,.ptr 3 0)],[⟨3,146,(zkh r.1)⟩]⟩) 71 [0] func163 rfl rfl rfl ⟨⟨_,_,rfl,rfl,rfl,rfl,zEH⟩,trivial⟩ ⟨.inr ⟨rfl,rfl⟩,.inl rfl,.inl rfl,.inl rfl,trivial⟩ rfl (fun Xt old=>?_);refine zcw ?_;unfold zeA at h;refine jq [14,15,16] (jp (jI h ?_ ?_))<;>intro uS h
 ·refine jr (rc 0 rfl (zab (r:=zaG) [] [] (⟨0,0,0⟩:zA) rfl zvi rfl rfl) rf) ?_;cases h;exact zhB (lks [16] [(16,3)] lw)
 refine jb h fun x va h=>jb h fun x2 vh h=>jd [0,3,4,6,8,9] [14,15,16,17] zdc (by exact (lwn 3 (di [0] zhl.el va (lw_e (lx (ldl zg [0] x 1 ze x.Fields) (lwn 2 (di [0] zjp.el vh (lx (lde ze [0] x2 znp) (lx (zou 17 [kS [],kI 0,kI 0,kB false,kB false,kI 0] rfl zeroValue47 rfl) (ly [.ptr 17 0,.rc ze [0] x2] (ziD (r:=ze) (b:=⟨17,47,[kS [],kI 0,kI 0,kB false,kB false,kI 0]⟩) (off:=0) (zaE x2) rfl sizeOf47 rfl rfl rfl rfl) rfl l0)))))))))) (jg [0,3,4,6,8,9] [14,15,16,17] [(32,kB ((x2.Kind==17)&&(decide (d>0))))] ?_ ?_)
 ·refine (rsl 4 [] 29 (x2.Kind==17) ?_ ?_)<;>intro uT
  · exact (rbl [] 32 (decide (d>0)) rfl (by grind))
  exact (rbl [] 32 false rfl (by grind))
 refine jI h ?_ ?_<;>intro uW h
 ·refine jb h fun w8 uY h=>jr (rkl 11 [] ⟨[(0,.ag [.sl zg [0] wv.s,.sl Rp.byte [0] wv.b,.om zo zh 2 [0] wv.met]),(8,.ptr 16 0),(33,.ag [.sl zg [0] wv.s,.sl Rp.byte [0] wv.b,.om zo zh 2 [0] wv.met]),(35,kI x2.Of),(38,kI v.Record.At),(41,kI v.Record.To),(43,kI (IntKind.i64.wrap (d - 1)))],[⟨16,146,[kI 0,kI 0,k8 0]⟩]⟩ (znz ⟨[(0,.ag [.sl zg [0] wv.s,.sl Rp.byte [0] wv.b,.om zo zh 2 [0] w8.2]),(8,.ptr 16 0),(33,.ag [.sl zg [0] wv.s,.sl Rp.byte [0] wv.b,.om zo zh 2 [0] w8.2]),(35,kI x2.Of),(38,kI v.Record.At),(41,kI v.Record.To),(43,kI (IntKind.i64.wrap (d - 1)))],[⟨16,146,[kI 0,kI 0,k8 0]⟩]⟩ (znB [.ag [.sl zg [0] wv.s,.sl Rp.byte [0] wv.b,.om zo zh 2 [0] wv.met],kI x2.Of,kI v.Record.At,kI v.Record.To,kI (IntKind.i64.wrap (d - 1))] [(2,2)] [0] 17 [] rfl call122 (ww uY) rfl rfl (by kernel_rfl) rfl rfl rfl) rfl (by kernel_rfl) (by kernel_rfl) ⟨⟨_,rfl,zsE ⟨zz rfl,zz rfl,ziA 0 rfl,trivial⟩⟩,⟨_,rfl,zz rfl⟩,⟨_,rfl,zsE ⟨zz rfl,zz rfl,ziA 0 rfl,trivial⟩⟩,⟨_,rfl,zz rfl⟩,⟨_,rfl,zz rfl⟩,⟨_,rfl,zz rfl⟩,⟨_,rfl,zz rfl⟩,trivial⟩ ⟨⟨_,rfl,rfl,rfl,⟨zz rfl,zz rfl,zz rfl,trivial⟩⟩,trivial⟩ (rfl' [20]))) (jp (jr (lb 0 zaG [] (⟨(IntKind.i64.wrap (w8.1.depth+1)),w8.1.place,w8.1.e⟩:zA) rf) ?_));cases h;exact zhB (lks [16] [(16,3)] lw)
 refine jb h fun v3 vk h=>jb h fun kg vd h=>jd [0,6,8,11] [15,16] zdc (by exact (ly [.ptr 17 0] (zFk (r:=ze) (b:=⟨17,47,(zaE x2)⟩) x2 [] rfl znp rfl rfl) rfl (lwn 10 (ly [.sl Rp.byte [0] wv.b,kI v.Record.At,kI v.Record.To] (zge (some (kI v.Record.At)) (some (kI v.Record.To)) rfl zbB.el (zce _ _ _) ⟨rfl,rfl⟩ ⟨rfl,rfl⟩ vk) rfl (lx (lf1 192 (lcd [.rc ze [] x2,kB v.Run,.sl Rp.byte [0] v3] 19 call192 (zyV vd))) l0))))) (jp (jI h ?_ ?_))<;>intro uZ h
 ·refine jr (rc 4 rfl (zab (r:=zaG) [kI v.Record.From,k8 kg] [] (⟨0,v.Record.From,kg⟩:zA) rfl zvi rfl rfl) rf) ?_;cases h;exact zhB (lks [16] [(16,3)] lw)
 refine jr (rc 0 rfl (zab (r:=zaG) [] [] (⟨0,0,0⟩:zA) rfl zvi rfl rfl) rf) ?_;cases h;exact zhB (lks [16] [(16,3)] lw)
theorem zhy (vb:Nat):(∀{wv:zay} {uX:Int} {ve:Int} {tov:Int} {d:Int} {r:(zA×(List (zk×zf)))},zbm vb wv uX ve tov d=some r->zjv prog 122 [.ag [.sl zg [0] wv.s,.sl Rp.byte [0] wv.b,.om zo zh 2 [0] wv.met],kI uX,kI ve,kI tov,kI d] [.rc zaG [] r.1] [.ag [.any,.any,.om zo zh 2 [0] r.2],.any,.any,.any,.any])/\(∀{wv:zay} {uX:Int} {v:zf} {d:Int} {r:(zA×(List (zk×zf)))},zez vb wv uX v d=some r->zjv prog 163 [.ag [.sl zg [0] wv.s,.sl Rp.byte [0] wv.b,.om zo zh 2 [0] wv.met],kI uX,.rc zh [0] v,kI d] [.rc zaG [] r.1] [.ag [.any,.any,.om zo zh 2 [0] r.2],.any,.any,.any]):=by
  induction vb with
  | zero=>exact ⟨fun h=>absurd h nofun,fun h=>absurd h nofun⟩
  | succ vb ih=>exact ⟨fun h=>zpF (fun hh=>ih.1 hh) (fun hh=>ih.2 hh) h,fun h=>zrx (fun hh=>ih.1 hh) (fun hh=>ih.2 hh) h⟩
theorem zqj (h:zbm vb wv uX ve tov d=some r):zjv prog 122 [.ag [.sl zg [0] wv.s,.sl Rp.byte [0] wv.b,.om zo zh 2 [0] wv.met],kI uX,kI ve,kI tov,kI d] [.rc zaG [] r.1] [.ag [.any,.any,.om zo zh 2 [0] r.2],.any,.any,.any,.any]:=(zhy vb).1 h
theorem zvq (wj:∀{sv:(List zc)} {uX:Int} {b:(List UInt8)} {r:zd},xf sv uX b=some r->w6 57 [.sl zg [0] sv,kI uX,.sl Rp.byte [0] b] [.ag (zam 3 [4] 5 [] r)]) (wk:∀{sv:(List zc)} {f:za} {b:(List UInt8)} {l:(List zf)} {r:(List zd)},xq sv f b l=some r->w6 127 [.sl zg [0] sv,.rc ze [0] f,.sl Rp.byte [0] b,.sl zh [0] l] [.own zm 27 2 [3] r]) (wo:∀{sv:(List zc)} {f:za} {b:(List UInt8)} {l:(List zf)} {r:zb},xg sv f b l=some r->w6 92 [.sl zg [0] sv,.rc ze [0] f,.sl Rp.byte [0] b,.sl zh [0] l] [.ag (zad 3 [] 4 [] 5 [6] r)]) (h:zii xf xq xg sv uX b=some r):w6 57 [.sl zg [0] sv,kI uX,.sl Rp.byte [0] b] [.ag (zam 3 [4] 5 [] r)]:=by
 refine fj ⟨[(6,.ptr 2 0)],[⟨2,27,(zam 3 [4] 5 [] r)⟩]⟩ 101 func57 ⟨⟨_,_,rfl,rfl,rfl,zCz⟩,trivial⟩ fun Xt=>?_
 unfold zii at h;refine jq [33] (jb h fun x va h=>jr (rx 2 [0] zhl.el va rfl rfl (rc 0 rfl (lde zg [0] x ztp) (ral 1 [34] [.ptr 34 0,.rc zg [0] x] rfl (ziD (r:=zg) (b:=⟨34,71,[kS [],kN]⟩) (off:=0) (zT [0] x) rfl sizeOf71 rfl rfl rfl rfl) rfl rf))) (jb h fun rv uU h=>jr (rl 2 [0] 33 call89 (zEt uU) rf) (jq [36] (jr (ra 0 [] rfl (zLK (rk:=wY) (r:=zh) (e:=154) 37 rfl) rfl rf) (jp (zq (jb h fun q u0 h=>jl u0 [0,2,6,7,11,31,32] [33,34] (fun s=>[(12,.mo wY zh 154 37 [] s.1),(33,kI s.2.1)]) (fun s=>[⟨36,27,[kN,.own Rp.str 9 41 [] s.2.2]⟩]) (fun o=> .X 0 [0,2,6,7,11] [33,34] [(12,.mo wY zh 154 37 [] o.1)] [⟨36,27,[kN,.own Rp.str 9 41 [] o.2]⟩]) ?_ lw ?_)))))))
 ·clear h;intro s o h;obtain ⟨known,v,f⟩:=s;replace h:zcJ b rv known v f=some o:=h;unfold zcJ at h;refine jp (jI h ?_ ?_)<;>intro uS h
  ·refine zq (jb h fun x2 vh h=>jr (ra 0 [.own zh 154 35 [] rv.1,kI v] rfl (zjG rfl zog.el (zcn _ _ _ _ _) vh) rfl (rc 0 rfl (lde zh [35] x2 zqn) (rfl' [42]))) (jp (jI h ?_ ?_)))<;>intro uT h
   ·refine jb h fun v2 vq h=>jb h fun v3 vk h=>jd [0,2,6,7,11,12,31,32,33] [33,34,36] zdc (by exact (lwn 9 (ly [.sl Rp.byte [0] b,kI x2.Record.From,kI x2.Record.To] (zge (some (kI x2.Record.From)) (some (kI x2.Record.To)) rfl zbB.el (zce _ _ _) ⟨rfl,rfl⟩ ⟨rfl,rfl⟩ vq) rfl (ly [.sl Rp.byte [0] v2] (znZ rfl underlying35 underlying5 underlying9 (zce _ _ _)) rfl (lx (zey [kS v2] 43 [] ([v2]:(List Str)) rfl znG rfl rfl rfl rfl) (ly [.own Rp.str 9 41 [] f,.own Rp.str 9 43 [] ([v2]:(List Str))] (zy.withBx (zxP 41 [] rfl znG.el rfl (zlQ _ _ _ _ _) (zcn _ _ _ _ _) vk (.inl zva) rfl) ⟨36,27,[kN,.own Rp.str 9 41 [] f]⟩ rfl rfl) rfl (lw_e (ly [.ptr 36 1,.own Rp.str 9 41 [] v3] (zxS (b:=⟨36,27,[kN,.any]⟩) (off:=1) rfl sizeOf25 rfl rfl rfl) rfl l0)))))))) (zGw _ rfl ?_);cases h;exact jy
   refine jb h fun v4 vH h=>jk [0,2,6,7,11,12,14,31,32,33,39] [33,34,36,42] (zBF ⟨[(0,.sl zg [0] sv),(2,.sl Rp.byte [0] b),(6,.ptr 33 0),(7,.ptr 34 0),(11,.ptr 36 0),(12,.mo wY zh 154 37 [] (mput known x2.Record.Number v4)),(31,.own zh 154 35 [] rv.1),(32,kI (rv.1.length:Int)),(33,kI v)],[⟨33,27,[kN,kN]⟩,⟨34,71,(zT [0] x)⟩,⟨36,27,[kN,.own Rp.str 9 41 [] f]⟩]⟩ [.raw [15] [] [] [.ms 54 37],.ev,.ev,.ev,.raw [19] [] [] [.ms 58 37],.ev,.ev,.ev,.raw [3,13,0] [] [] [.lk 62 wY zh 154 37 [] known x2.Record.Number],.ex [42] [] [] (.rc zh [] x2) [],.ex [] [] [44] (.own zh 154 44 [] ([x2]:(List zf))) [],.raw [2,0] [37] [] [.ap 65 wY zh 154 37 [] known x2.Record.Number v4],.raw [0,10,7,25] [37] [] [.sl 12 (.mo wY zh 154 37 [] (mput known x2.Record.Number v4))]] [⟨[],[],[.ms 12 37]⟩,⟨[],[],[.ms 12 37]⟩,⟨[],[],[.ms 58 37,.sl 12 (.mo wY zh 154 37 [] known),.sl 61 (kI x2.Record.Number)]⟩,⟨[(.tmp 14,.ptr 42 0)],[⟨42,154,(zcY x2)⟩],[]⟩,⟨[(.tmp 63,.rc zh [] x2)],[],[]⟩,⟨[],[],[.lk 62 wY zh 154 37 [] known x2.Record.Number,.sl 64 (.own zh 154 44 [] ([x2]:(List zf)))]⟩,⟨[],[],[.ap 65 wY zh 154 37 [] known x2.Record.Number v4,.ms 54 37,.sl 57 (kI x2.Record.Number),.ms 12 37]⟩] [0,2,6,7,11,12,31,32,33] [33,34,36] zdc (by kernel_rfl) (by exact (lw_r (zKd 12 54 37 (.inl rfl) rfl) (lwn 3 (lw_r (zKd 12 58 37 (.inl rfl) rfl) (lwn 3 (lw_r (zNK (z:= .tmp 61) 12 58 62 rfl rfl zBN (zfl rfl rfl) trivial) (lw_x (zGH (zFk (r:=zh) (b:=⟨42,154,(zcY x2)⟩) x2 [] rfl zqn rfl rfl) rfl) (lw_x (zGH (lbs1 44 [] x2 zog) rfl) (lw_r (zNJ (y:= .tmp 64) [] 62 65 rfl rfl zog.el rfl (zcn _ _ _ _ _) trivial vH (.inl zjJ) rfl) (lw_r (zLV (z:= .tmp 57) 65 54 [12] rfl rfl zBN (zfl rfl rfl) trivial rfl) lw_0)))))))))) (zS ?_));cases h;exact jy
  cases h;exact zag rfl lzz
 refine zaA _ rfl (jb h fun v5 vJ h=>jr (rkl 1 [] ⟨[(0,.sl zg [0] sv),(2,.sl Rp.byte [0] b),(6,.ptr 33 0),(7,.ptr 34 0),(11,.ptr 36 0),(12,.mo wY zh 154 37 [] q.1),(67,.mo wY zh 154 37 [] q.1)],[⟨33,27,[kN,kN]⟩,⟨34,71,(zT [0] x)⟩,⟨36,27,[kN,.own Rp.str 9 41 [] q.2]⟩]⟩ (zDY (rv:=(Rp.list zh)) (m:=q.1) 45 zMa rfl rfl rfl rfl rfl rfl call91 call90 rfl (zBE _ _ _ _ _ _) vJ rfl rf)) (zq (jb h fun q2 vn h=>jl vn [0,2,6,7,11,12,69,70] [33,34] (fun s=>[(71,kI s.1)]) (fun s=>[⟨36,27,[.own zj 51 54 [46] s.2,.own Rp.str 9 41 [] q.2]⟩]) (fun o=> .X 2 [6,11] [33] [] [⟨36,27,[.own zj 51 54 [46] o,.own Rp.str 9 41 [] q.2]⟩]) ?_ lw ?_)))
 ·clear h;intro s o h;obtain ⟨v6,f3⟩:=s;replace h:zcK b q xg sv v5 x v6 f3=some o:=h;unfold zcK at h;refine jp (jI h ?_ ?_)<;>intro uW h
  ·refine zq (jb h fun x3 vp h=>jr (ra 0 [.own wY 3 45 [] v5,kI v6] rfl (zjG rfl zkb.el (zcn _ _ _ _ _) vp) rfl rf) (jr (ra 2 [.mo wY zh 154 37 [] q.1,kI x3] rfl (zLI (rk:=wY) (rv:=(Rp.list zh)) (m:=q.1) (k:=x3) (.sl zh [37] ((mget q.1 x3).getD [])) rfl zBN (zBE _ _ _ _ _ _) (zfl rfl rfl) (zLo _ _ _)) rfl rf) (jb h fun x4 vz h=>jb h fun x5 vB h=>jb h fun w8 uY h=>jd [0,2,6,7,11,12,18,69,70,71] [33,34,36,67] zdc (by exact (lwn 4 (di [37] zog.el vz (lwn 2 (di [0] zjp.el vB (lx (lde ze [0] x5 znp) (lwn 2 (lx (lf1 92 (lcd [.sl zg [0] sv,.rc ze [0] x5,.sl Rp.byte [0] b,.sl zh [37] ((mget q.1 x3).getD [])] 60 call92 (wo uY))) (lx (zou 67 [kI 0,kN,kN,kN] rfl zeroValue51 rfl) (lx (stw ⟨67,51,[kI 0,kN,kN,kN]⟩ 0 (zad 63 [] 64 [] 65 [66] w8) sizeOf51) l0)))))))))) (jb h fun kg vd h=>jr (rc 1 rfl (lcz [.ag (zad 63 [] 64 [] 65 [66] w8)] 66 call93 (zlh vd) (.c (zaa _) .n)) rf) (jI h ?_ ?_)))))<;>intro uZ h
   ·refine jb h fun v7 wb h=>jr (rc 3 rfl (zy.lw (lbs1 68 [63,64,65,66] w8 zAY) (.l (ziP zj [63,64,65,66] w8 (zad 63 [] 64 [] 65 [66] w8) (by rw [zaa]<;>rfl) rfl))) (rc 0 rfl (lao 54 [46] 51 68 [63,64,65,66] [46,68,63,64,65,66] zAY.el wb (.inr rfl)) rf)) (zS (jp ?_));cases h;exact zae (lks [33,34,36] [(68,46),(63,46),(64,46),(65,46),(66,46)] lw)
   refine zS ?_;cases h;exact jy
  cases h;exact zag rfl lzz
 refine zaA _ rfl (jp ?_);cases h;exact zx (lks [33] [(33,2),(54,3),(41,5),(46,4)] lzz)
theorem zzC (wj:∀{sv:(List zc)} {uX:Int} {b:(List UInt8)} {r:zd},xf sv uX b=some r->w6 57 [.sl zg [0] sv,kI uX,.sl Rp.byte [0] b] [.ag (zam 3 [4] 5 [] r)]) (wk:∀{sv:(List zc)} {f:za} {b:(List UInt8)} {l:(List zf)} {r:(List zd)},xq sv f b l=some r->w6 127 [.sl zg [0] sv,.rc ze [0] f,.sl Rp.byte [0] b,.sl zh [0] l] [.own zm 27 2 [3] r]) (wo:∀{sv:(List zc)} {f:za} {b:(List UInt8)} {l:(List zf)} {r:zb},xg sv f b l=some r->w6 92 [.sl zg [0] sv,.rc ze [0] f,.sl Rp.byte [0] b,.sl zh [0] l] [.ag (zad 3 [] 4 [] 5 [6] r)]) (h:zjm xf xq xg sv f b l=some r):w6 127 [.sl zg [0] sv,.rc ze [0] f,.sl Rp.byte [0] b,.sl zh [0] l] [.own zm 27 2 [3] r]:=by
 refine fi 68 func127 fun Xt=>?_
 unfold zjm at h;refine jq [21] (jb h fun v vi h=>jr (ra 2 [kI (l.length:Int),kI (l.length:Int)] rfl (ztK 22 rfl zoV rfl vi) rfl rf) (jp (zq (jb h fun q u0 h=>jL u0 [0,2,5,18,19] [21] (fun s=>[(9,.own (Rp.list Rp.byte) 35 22 [0] s.1),(20,kI s.2)]) (fun o=> .X 0 [0,5] [21] [(9,.own (Rp.list Rp.byte) 35 22 [0] o)] []) ?_ lw ?_))))
 ·clear h;intro s o h;obtain ⟨pieces,v2⟩:=s;replace h:zft b l pieces v2=some o:=h;unfold zft at h;refine jp (jI h ?_ ?_)<;>intro uS h
  ·refine zq (jb h fun x va h=>jr (rx 1 [0] zog.el va rfl rfl (rc 0 rfl (lde zh [0] x zqn) (rfl' [24]))) (jb h fun v3 vk h=>jb h fun x2 vh h=>jr (ra 9 [.sl Rp.byte [0] b,kI x.Record.At,kI x.Record.To] rfl (zge (some (kI x.Record.At)) (some (kI x.Record.To)) rfl zbB.el (zce _ _ _) ⟨rfl,rfl⟩ ⟨rfl,rfl⟩ vk) rfl (ra 0 [.own (Rp.list Rp.byte) 35 22 [0] pieces,kI v2] rfl (zxQ rfl zoV.el vh) rfl (rkl 0 [] ⟨[(0,.sl zg [0] sv),(2,.sl Rp.byte [0] b),(5,.ptr 21 0),(9,.own (Rp.list Rp.byte) 35 22 [0] pieces),(18,.sl zh [0] l),(19,kI (l.length:Int)),(20,kI v2),(34,.sl Rp.byte [0] v3),(35,.ptr 22 (Int.toNat v2*(Rp.list Rp.byte).size))],[⟨21,47,(zaE f)⟩]⟩ (zCd (r:=(Rp.list Rp.byte)) (e:=35) (C:=[0]) (xs:=pieces) [9] (Int.toNat v2) 0 x2 v3 [0] rfl rfl rfl rfl rfl rfl sizeOf35 rfl (by kernel_rfl) rfl (ztC vh) rfl (zwS rfl _) rfl rf)))) (zS ?_)));cases h;exact jy
  cases h;exact zag rfl lzz
 refine zaA _ rfl (jg [0,5,9] [21] [(44,kB ((!f.Repeated)&&(decide ((q.length:Int)>1))))] ?_ ?_)
 ·refine (rsl 4 [] 40 (!f.Repeated) ?_ ?_)<;>intro uT
  · exact (rbl [] 44 (decide ((q.length:Int)>1)) rfl (by grind))
  exact (rbl [] 44 false rfl (by grind))
 refine jb h fun p vt h=>jn (.N [0,5] [21] [(9,.own (Rp.list Rp.byte) 35 26 [25,0] p)] []) ?_ ?_
 ·replace h:=vt;refine jI h ?_ ?_<;>intro uW h
  ·refine jb h fun rv uU h=>jr (rl 1 [22,0] 25 call66 (zck uU) (rc 0 rfl (zey [.own Rp.byte 5 27 [] rv] 28 [27] ([rv]:(List (List UInt8))) rfl zoV rfl rfl rfl rfl) rf)) ?_;cases h;exact zae (lks [21] [(28,26),(27,25)] lw)
  cases h;exact zae (lks [21] [(22,26)] lw)
 refine zek (jb h fun v5 vJ h=>jr (ra 2 [kI (p.length:Int),kI (p.length:Int)] rfl (ztK 29 rfl zEE rfl vJ) rfl rf) (jp (zq (jb h fun q2 vn h=>jL vn [0,5,51,52] [21] (fun s=>[(12,.own zm 27 29 [30] s.1),(53,kI s.2)]) (fun o=> .x 2 ⟨[(12,.own zm 27 29 [30] o)],[]⟩) ?_ lw ?_))))
 ·clear h;intro s o h;obtain ⟨all,v6⟩:=s;replace h:zfu f p xf sv all v6=some o:=h;unfold zfu at h;refine jp (jI h ?_ ?_)<;>intro uZ h
  ·refine zq (jb h fun x3 vp h=>jr (ra 1 [.own (Rp.list Rp.byte) 35 26 [25,0] p,kI v6] rfl (zjG rfl zoV.el (zcn _ _ _ _ _) vp) rfl (rc 0 rfl (ldl (Rp.list Rp.byte) [26,25,0] x3 0 Rp.byte x3) rf)) (jb h fun w8 uY h=>jb h fun x4 vz h=>jr (rl 6 [0,26,25] 37 call57 (wj uY) (ra 0 [.own zm 27 29 [30] all,kI v6] rfl (zxQ rfl zEE.el vz) rfl (rkl 0 [] ⟨[(0,.sl zg [0] sv),(5,.ptr 21 0),(12,.own zm 27 29 [30] all),(51,.own (Rp.list Rp.byte) 35 26 [25,0] p),(52,kI (p.length:Int)),(53,kI v6),(64,.ag (zam 40 [41] 42 [] w8)),(65,.ptr 29 (Int.toNat v6*zm.size))],[⟨21,47,(zaE f)⟩]⟩ (zCd (r:=zm) (e:=27) (C:=[30]) (xs:=all) [12] (Int.toNat v6) 0 x4 w8 [30,40,41,42] rfl rfl rfl rfl rfl rfl sizeOf27 rfl (by kernel_rfl) rfl (ztC vz) rfl (zwS (by rw [zbb]<;>rfl) _) rfl rf)))) (zS (jp ?_))));cases h;exact zae (lks [21] [(40,30),(41,30),(42,30)] lw)
  cases h;exact zag rfl lzz
 refine zaA _ rfl (jp ?_);obtain rfl:=(sj h);exact zx (lks [] [(29,2),(30,3)] lzz)
theorem zyR (wj:∀{sv:(List zc)} {uX:Int} {b:(List UInt8)} {r:zd},xf sv uX b=some r->w6 57 [.sl zg [0] sv,kI uX,.sl Rp.byte [0] b] [.ag (zam 3 [4] 5 [] r)]) (wk:∀{sv:(List zc)} {f:za} {b:(List UInt8)} {l:(List zf)} {r:(List zd)},xq sv f b l=some r->w6 127 [.sl zg [0] sv,.rc ze [0] f,.sl Rp.byte [0] b,.sl zh [0] l] [.own zm 27 2 [3] r]) (wo:∀{sv:(List zc)} {f:za} {b:(List UInt8)} {l:(List zf)} {r:zb},xg sv f b l=some r->w6 92 [.sl zg [0] sv,.rc ze [0] f,.sl Rp.byte [0] b,.sl zh [0] l] [.ag (zad 3 [] 4 [] 5 [6] r)]) (h:ziw xf xq xg sv f b l=some r):w6 92 [.sl zg [0] sv,.rc ze [0] f,.sl Rp.byte [0] b,.sl zh [0] l] [.ag (zad 3 [] 4 [] 5 [6] r)]:=by
 refine fj ⟨[(8,.ptr 2 0)],[⟨2,51,(zad 3 [] 4 [] 5 [6] r)⟩]⟩ 50 func92 ⟨⟨_,_,rfl,rfl,rfl,zzO⟩,trivial⟩ fun Xt=>?_
 unfold ziw at h;refine jq [18,19] (jg [0,2,3,5,8] [18,19] [(17,kB ((!f.Repeated)&&(f.Kind !=17)))] ?_ ?_)
 ·refine (rsl 4 [] 13 (!f.Repeated) ?_ ?_)<;>intro uS
  · exact (rbl [] 17 (f.Kind !=17) rfl (by grind))
  exact (rbl [] 17 false rfl (by grind))
 refine jb h fun p vt h=>jn (.N [0,2,5,8] [18,19] [(3,.sl zh [0] p)] []) ?_ ?_
 ·replace h:=vt;refine jI h ?_ ?_<;>intro uT h
  ·refine jb h fun v2 vq h=>jr (ra 4 [.sl zh [0] l,kI (IntKind.i64.wrap ((l.length:Int) - 1))] rfl (zge (some (kI (IntKind.i64.wrap ((l.length:Int) - 1)))) none rfl zog.el (zce _ _ _) ⟨rfl,rfl⟩ ⟨rfl,rfl⟩ vq) rfl rf) ?_;cases h;exact zae lzz
  cases h;exact zae lzz
 refine zek (jr (ra 2 [kI f.Number] rfl (zlV [kI f.Number] [kI f.Number,kN,kN,kN] rfl zMV rfl) rfl (rfl' [20])) (jp (zq (jp (jI h ?_ ?_)))))<;>intro uW h
 ·refine jb h fun rv uU h=>jr (lb 1 ze [] f (rl 2 [0] 19 call127 (wk uU) rf)) (zS (jp ?_));cases h;exact zx (lks [19] [(19,2),(21,5),(22,6)] lw)
 refine jp (jb h fun p2 vE h=>jn (.N [2,3,5,8,9] [18,19,20] [(42,kB p2)] []) ?_ ?_)
 ·replace h:=vE;refine jI h ?_ ?_<;>intro uZ h
  ·cases h;exact zae lzz
  cases h;exact jy
 refine zek (jI h ?_ ?_)<;>intro u9 h
 ·refine jb h fun w8 uY h=>jr (rl 2 [0] 21 call128 (zzD uY) rf) (zS (jp ?_));cases h;exact zx (lks [19] [(19,2),(23,4)] lw)
 refine jb h fun kg vd h=>jr (rl 4 [0] 22 call129 (zzE vd) rf) (zS (jp ?_));cases h;exact zx (lks [19] [(19,2),(24,3)] lw)
theorem zlk (vb:Nat):(∀{sv:(List zc)} {uX:Int} {b:(List UInt8)} {r:zd},zfs vb sv uX b=some r->w6 57 [.sl zg [0] sv,kI uX,.sl Rp.byte [0] b] [.ag (zam 3 [4] 5 [] r)])/\(∀{sv:(List zc)} {f:za} {b:(List UInt8)} {l:(List zf)} {r:(List zd)},zsd vb sv f b l=some r->w6 127 [.sl zg [0] sv,.rc ze [0] f,.sl Rp.byte [0] b,.sl zh [0] l] [.own zm 27 2 [3] r])/\(∀{sv:(List zc)} {f:za} {b:(List UInt8)} {l:(List zf)} {r:zb},zkB vb sv f b l=some r->w6 92 [.sl zg [0] sv,.rc ze [0] f,.sl Rp.byte [0] b,.sl zh [0] l] [.ag (zad 3 [] 4 [] 5 [6] r)]):=by
  induction vb with
  | zero=>exact ⟨fun h=>absurd h nofun,fun h=>absurd h nofun,fun h=>absurd h nofun⟩
  | succ vb ih=>exact ⟨fun h=>zvq (fun hh=>ih.1 hh) (fun hh=>ih.2.1 hh) (fun hh=>ih.2.2 hh) h,fun h=>zzC (fun hh=>ih.1 hh) (fun hh=>ih.2.1 hh) (fun hh=>ih.2.2 hh) h,fun h=>zyR (fun hh=>ih.1 hh) (fun hh=>ih.2.1 hh) (fun hh=>ih.2.2 hh) h⟩
theorem zwn (h:zfs vb sv uX b=some r):w6 57 [.sl zg [0] sv,kI uX,.sl Rp.byte [0] b] [.ag (zam 3 [4] 5 [] r)]:=(zlk vb).1 h
end Go.Proofs.YtkgohoggipdokaaGreat

/-
  The Go functions do what the plain functions say. No condition.
-/
import Derived.Test.YtkgohoggipdokaaGreatx2G6
import Derived.Test.YtkgohoggipdokaaGreatx2Y
set_option autoImplicit true
set_option relaxedAutoImplicit true
namespace Go.Proofs.YtkgohoggipdokaaGreat
open Tryz
open Go Go.RowKit
set_option linter.unusedVariables false
set_option maxRecDepth 100000
set_option maxHeartbeats 3200000
theorem zvR (h:zix uB sv uI x=some r):vW 63 [.sl zi [0] sv,kI uI,.rc zj [0] x] [kB r]:=by
 refine fi 21 func63 fun Xt=>?_
 unfold zix at h;refine jr (rc 0 rfl (lbx 11 [0] (zaH [0] x)) rf) (jb h fun g ut h=>jg [] [] [(6,kB g)] ?_ ?_)
 ·refine jb ut fun rv uu ut=>(rl 2 [0] 10 call105 (zpj uu) (rsI 2 11 ut ?_ ?_))<;>intro ur ut
  ·refine jb ut fun vY uz ut=>(rc 1 rfl (lw0 10 call58 (zqU uz) (.l (zaa [0] x))) (rsI 2 15 ut ?_ ?_))<;>intro uv ut
   ·refine jb ut fun wd uE ut=>?_;cases ut;exact (rc 3 rfl (lw0 10 call106 (zqV uE) (.k (.k (.l (zaa [0] x))))) rgg)
   cases ut;exact rgg
  cases ut;exact rgg
 obtain rfl:=(sj h);exact zH lzz
theorem zvs (h:zjh f isRun value=some r):vW 192 [.rc zf [0] f,kB isRun,.sl Rp.byte [0] value] [k8 r]:=by
 refine fi 32 func192 fun Xt=>?_
 unfold zjh at h;refine jq [11] (zw (jp (jI h ?_ ?_)))<;>intro ur h
 ·refine jb h fun rv uu h=>jr (rl 3 [0] 10 call215 (zyq uu) rf) ?_;cases h;exact jz
 refine jb h fun g ut h=>jg [3] [11] [(19,kB g)] ?_ ?_
 ·refine (rsI 4 23 ut ?_ ?_)<;>intro uv ut
  ·refine jb ut fun vY uz ut=>?_;cases ut;exact (rl 1 [0] 10 call145 (zrb uz) (rel [] lzz))
  cases ut;exact (rel [] lzz)
 refine jI h ?_ ?_<;>intro uy h
 ·cases h;exact jz
 refine jp (jI h ?_ ?_)<;>intro uC h
 ·cases h;exact jz
 refine zal ?_;cases h;exact jz
theorem zvX (h:zkF k b l=some r):vW 129 [kI k,.sl Rp.byte [0] b,.sl zg [0] l] [.own vV 72 2 [] r]:=by
 refine fi 36 func129 fun Xt=>?_
 unfold zkF at h;refine jp (jp (jp (zw (jb h fun q uA h=>jL uA [0,1,12,13] [] (fun s=>[(7,.own vV 72 20 [] s.1),(14,kI s.2)]) (fun o=> .x 0 ⟨[(7,.own vV 72 20 [] o)],[]⟩) ?_ lw ?_))))
 ·clear h;intro s o h;obtain ⟨all,v⟩:=s;replace h:zdt b k l all v=some o:=h;unfold zdt at h;refine jp (jI h ?_ ?_)<;>intro ur h
  ·refine zw (jb h fun x uD h=>jr (rx 0 [0] zlu.el uD rfl rfl (rc 0 rfl (lde zg [0] x zne) (rfl' [21]))) (jb h fun v2 uP h=>jb h fun rv uu h=>jr (ra 8 [.sl Rp.byte [0] b,kI x.Record.At,kI x.Record.To] rfl (zgQ (some (kI x.Record.At)) (some (kI x.Record.To)) rfl zdK.el (zcH _ _ _) ⟨rfl,rfl⟩ ⟨rfl,rfl⟩ uP) rfl (rl 0 [0] 20 call169 (zyr uu) rf)) (jb h fun v3 uM h=>jr (rc 2 rfl (lao 20 [] 72 23 [] [] zsK.el uM (.inl (zwY _))) rf) (zal ?_))));cases h;exact jy
  cases h;exact zaJ rfl lzz
 refine zbo _ rfl (jp ?_);obtain rfl:=(sj h);exact zH (lks [] [(20,2)] lzz)
theorem zvJ (h:zke uB sv uI x=some r):vW 30 [.sl zi [0] sv,kI uI,.rc zj [0] x] [k8 r]:=by
 refine fi 25 func30 fun Xt=>?_
 unfold zke at h;refine jr (rc 0 rfl (lbx 11 [0] (zaH [0] x)) rf) (zw (jb h fun rv uu h=>jr (rc 3 rfl (lw0 10 call63 (zvR uu) (.k (.k (.l (zaa [0] x))))) rf) (jI h ?_ ?_)))<;>intro ur h
 ·cases h;exact jz
 refine jb h fun vY uz h=>jr (rl 1 [0] 10 call38 (zmL uz) rf) (jI h ?_ ?_)<;>intro uv h
 ·cases h;exact jz
 refine jg [] [] [(16,kB ((decide (uI<0))|| (decide (uI>=(sv.length:Int)))))] ?_ ?_
 ·refine (rsl 3 [] 19 (decide (uI<0)) ?_ ?_)<;>intro uy
  · exact (rbl [] 16 true rfl (by grind))
  exact (rbl [] 16 (decide (uI>=(sv.length:Int))) rfl (by grind))
 refine jI h ?_ ?_<;>intro uC h
 ·cases h;exact jz
 refine zal ?_;cases h;exact jz
theorem zmD (vD:∀{wv:zaw} {uw:Int} {uF:Int} {tov:Int} {d:Int} {r:(zz×(List (zm×ze)))},xr wv uw uF tov d=some r->zhu prog 122 [.ag [.sl zi [0] wv.s,.sl Rp.byte [0] wv.b,.om zn zg 2 [0] wv.met],kI uw,kI uF,kI tov,kI d] [.rc zaF [] r.1] [.ag [.any,.any,.om zn zg 2 [0] r.2],.any,.any,.any,.any]) (vE:∀{wv:zaw} {uw:Int} {v:ze} {d:Int} {r:(zz×(List (zm×ze)))},xl wv uw v d=some r->zhu prog 163 [.ag [.sl zi [0] wv.s,.sl Rp.byte [0] wv.b,.om zn zg 2 [0] wv.met],kI uw,.rc zg [0] v,kI d] [.rc zaF [] r.1] [.ag [.any,.any,.om zn zg 2 [0] r.2],.any,.any,.any]) (h:zdC xr xl wv uw uF tov d=some r):zhu prog 122 [.ag [.sl zi [0] wv.s,.sl Rp.byte [0] wv.b,.om zn zg 2 [0] wv.met],kI uw,kI uF,kI tov,kI d] [.rc zaF [] r.1] [.ag [.any,.any,.om zn zg 2 [0] r.2],.any,.any,.any,.any]:=by
 refine zjP (E:=⟨[(0,.ag [.any,.any,.om zn zg 2 [0] r.2]),(10,.ptr 3 0)],[⟨3,146,(zie r.1)⟩]⟩) 49 [0] func122 rfl rfl rfl ⟨⟨_,_,rfl,rfl,rfl,rfl,zAR⟩,trivial⟩ ⟨.inr ⟨rfl,rfl⟩,.inl rfl,.inl rfl,.inl rfl,.inl rfl,trivial⟩ rfl (fun Xt old=>?_);refine zbR ?_;unfold zdC at h;refine jq [13,14] (jp (zw (jb h fun q uA h=>jl uA [1,3,4,5,10] [14] (fun s=>[(0,.ag [.sl zi [0] wv.s,.sl Rp.byte [0] wv.b,.om zn zg 2 [0] s.1]),(2,kI s.2.1),(11,kI s.2.2)]) (fun s=>[⟨13,193,[.sl zi [0] wv.s,.sl Rp.byte [0] wv.b,.om zn zg 2 [0] s.1]⟩]) (fun| (.inl v_)=> .X 0 [10] [14] [(0,.ag [.sl zi [0] wv.s,.sl Rp.byte [0] wv.b,.om zn zg 2 [0] v_.1]),(11,kI v_.2)] []| (.inr v_)=> .r ⟨[(0,.ag [.sl zi [0] wv.s,.sl Rp.byte [0] wv.b,.om zn zg 2 [0] v_.1]),(10,.ptr 14 0)],[⟨14,146,[kI v_.2.1,kI v_.2.2.1,k8 v_.2.2.2]⟩]⟩) ?_ lzz ?_)))
 ·clear h;intro s o h;obtain ⟨wv2,wD,vd⟩:=s;replace h:zaG d uw xl tov wv wv2 wD vd=some o:=h;unfold zaG at h;refine jp (jI h ?_ ?_)<;>intro ur h
  ·refine zw (jb h fun vY uz h=>jr (rkl 4 [] ⟨[(0,.ag [.sl zi [0] wv.s,.sl Rp.byte [0] wv.b,.om zn zg 2 [0] wv2]),(1,kI uw),(2,kI wD),(3,kI tov),(4,kI d),(5,.ptr 13 0),(10,.ptr 14 0),(11,kI vd),(19,.ag [.sl zi [0] wv.s,.sl Rp.byte [0] wv.b,.om zn zg 2 [0] wv2]),(20,kI uw),(21,kI wD),(22,kI tov)],[⟨13,193,[.sl zi [0] wv.s,.sl Rp.byte [0] wv.b,.om zn zg 2 [0] wv2]⟩,⟨14,146,[kI 0,kI 0,k8 0]⟩]⟩ (zkZ ⟨[(0,.ag [.sl zi [0] wv.s,.sl Rp.byte [0] wv.b,.om zn zg 2 [0] vY.2.2]),(1,kI uw),(2,kI wD),(3,kI tov),(4,kI d),(5,.ptr 13 0),(10,.ptr 14 0),(11,kI vd),(19,.ag [.sl zi [0] wv.s,.sl Rp.byte [0] wv.b,.om zn zg 2 [0] vY.2.2]),(20,kI uw),(21,kI wD),(22,kI tov)],[⟨13,193,[.sl zi [0] wv.s,.sl Rp.byte [0] wv.b,.om zn zg 2 [0] vY.2.2]⟩,⟨14,146,[kI 0,kI 0,k8 0]⟩]⟩ (zlc [.ag [.sl zi [0] wv.s,.sl Rp.byte [0] wv.b,.om zn zg 2 [0] wv2],kI uw,kI wD,kI tov] [(2,2)] [0] 15 [] rfl call162 (zpP uz) rfl rfl (by kernel_rfl) rfl rfl rfl) rfl (by kernel_rfl) (by kernel_rfl) ⟨⟨_,rfl,zpi ⟨zy rfl,zy rfl,zgw 0 rfl,trivial⟩⟩,⟨_,rfl,zy rfl⟩,⟨_,rfl,zy rfl⟩,⟨_,rfl,zy rfl⟩,⟨_,rfl,zy rfl⟩,⟨_,rfl,zy rfl⟩,⟨_,rfl,zy rfl⟩,⟨_,rfl,zy rfl⟩,⟨_,rfl,zpi ⟨zy rfl,zy rfl,zgw 0 rfl,trivial⟩⟩,⟨_,rfl,zy rfl⟩,⟨_,rfl,zy rfl⟩,⟨_,rfl,zy rfl⟩,trivial⟩ ⟨⟨_,rfl,rfl,rfl,⟨zy rfl,zy rfl,zgw 0 rfl,trivial⟩⟩,⟨_,rfl,rfl,rfl,⟨zy rfl,zy rfl,zy rfl,trivial⟩⟩,trivial⟩ (rfl' [18]))) (jp (jI h ?_ ?_)))<;>intro uv h
   ·refine jr (rc 2 rfl (zam (r:=zaF) [kI wD,k8 vY.2.1] [] (⟨0,wD,vY.2.1⟩:zz) rfl zrP rfl rfl) rf) ?_;cases h;exact zot lzz
   refine jb h fun rv4 uQ h=>jr (lb 2 zg [] vY.1 (rkl 1 [] ⟨[(0,.ag [.sl zi [0] wv.s,.sl Rp.byte [0] wv.b,.om zn zg 2 [0] vY.2.2]),(1,kI uw),(3,kI tov),(4,kI d),(5,.ptr 13 0),(10,.ptr 14 0),(11,kI vd),(12,.ptr 18 0),(31,.ag [.sl zi [0] wv.s,.sl Rp.byte [0] wv.b,.om zn zg 2 [0] vY.2.2]),(32,kI uw),(33,.rc zg [] vY.1),(34,kI d)],[⟨13,193,[.sl zi [0] wv.s,.sl Rp.byte [0] wv.b,.om zn zg 2 [0] vY.2.2]⟩,⟨14,146,[kI 0,kI 0,k8 0]⟩,⟨18,154,(zcj vY.1)⟩]⟩ (zkZ ⟨[(0,.ag [.sl zi [0] wv.s,.sl Rp.byte [0] wv.b,.om zn zg 2 [0] rv4.2]),(1,kI uw),(3,kI tov),(4,kI d),(5,.ptr 13 0),(10,.ptr 14 0),(11,kI vd),(12,.ptr 18 0),(31,.ag [.sl zi [0] wv.s,.sl Rp.byte [0] wv.b,.om zn zg 2 [0] rv4.2]),(32,kI uw),(33,.rc zg [] vY.1),(34,kI d)],[⟨13,193,[.sl zi [0] wv.s,.sl Rp.byte [0] wv.b,.om zn zg 2 [0] rv4.2]⟩,⟨14,146,[kI 0,kI 0,k8 0]⟩,⟨18,154,(zcj vY.1)⟩]⟩ (zlc [.ag [.sl zi [0] wv.s,.sl Rp.byte [0] wv.b,.om zn zg 2 [0] vY.2.2],kI uw,.rc zg [] vY.1,kI d] [(2,2)] [0] 18 [] rfl call163 (vE uQ) rfl rfl (by kernel_rfl) rfl rfl rfl) rfl (by kernel_rfl) (by kernel_rfl) ⟨⟨_,rfl,zpi ⟨zy rfl,zy rfl,zgw 0 rfl,trivial⟩⟩,⟨_,rfl,zy rfl⟩,⟨_,rfl,zy rfl⟩,⟨_,rfl,zy rfl⟩,⟨_,rfl,zy rfl⟩,⟨_,rfl,zy rfl⟩,⟨_,rfl,zy rfl⟩,⟨_,rfl,zy rfl⟩,⟨_,rfl,zpi ⟨zy rfl,zy rfl,zgw 0 rfl,trivial⟩⟩,⟨_,rfl,zy rfl⟩,⟨_,rfl,zy rfl⟩,⟨_,rfl,zy rfl⟩,trivial⟩ ⟨⟨_,rfl,rfl,rfl,⟨zy rfl,zy rfl,zgw 0 rfl,trivial⟩⟩,⟨_,rfl,rfl,rfl,⟨zy rfl,zy rfl,zy rfl,trivial⟩⟩,⟨_,rfl,rfl,rfl,⟨zy rfl,zy rfl,zy rfl,zy rfl,zy rfl,zy rfl,zy rfl,trivial⟩⟩,trivial⟩ (rfl' [21])))) (jp (jI h ?_ ?_))<;>intro uy h
   ·refine jr (lb 0 zaF [] rv4.1 rf) ?_;cases h;exact zot lzz
   refine jp (jp (zal ?_));cases h;exact zaT lzz
  cases h;exact zaJ rfl lzz
 rcases q with u| u2
 ·refine zbo _ rfl (jr (rc 1 rfl (zam (r:=zaF) [kI u.2] [] (⟨u.2,0,0⟩:zz) rfl zrP rfl rfl) rf) ?_);cases h;exact zfG (lks [14] [(14,3)] lw)
 cases h;exact zKo (lks [14] [(14,3)] lw)
theorem zod (vD:∀{wv:zaw} {uw:Int} {uF:Int} {tov:Int} {d:Int} {r:(zz×(List (zm×ze)))},xr wv uw uF tov d=some r->zhu prog 122 [.ag [.sl zi [0] wv.s,.sl Rp.byte [0] wv.b,.om zn zg 2 [0] wv.met],kI uw,kI uF,kI tov,kI d] [.rc zaF [] r.1] [.ag [.any,.any,.om zn zg 2 [0] r.2],.any,.any,.any,.any]) (vE:∀{wv:zaw} {uw:Int} {v:ze} {d:Int} {r:(zz×(List (zm×ze)))},xl wv uw v d=some r->zhu prog 163 [.ag [.sl zi [0] wv.s,.sl Rp.byte [0] wv.b,.om zn zg 2 [0] wv.met],kI uw,.rc zg [0] v,kI d] [.rc zaF [] r.1] [.ag [.any,.any,.om zn zg 2 [0] r.2],.any,.any,.any]) (h:zdn xr xl wv uw v d=some r):zhu prog 163 [.ag [.sl zi [0] wv.s,.sl Rp.byte [0] wv.b,.om zn zg 2 [0] wv.met],kI uw,.rc zg [0] v,kI d] [.rc zaF [] r.1] [.ag [.any,.any,.om zn zg 2 [0] r.2],.any,.any,.any]:=by
 refine zjP (E:=⟨[(0,.ag [.any,.any,.om zn zg 2 [0] r.2]),(8,.ptr 3 0)],[⟨3,146,(zie r.1)⟩]⟩) 71 [0] func163 rfl rfl rfl ⟨⟨_,_,rfl,rfl,rfl,rfl,zAR⟩,trivial⟩ ⟨.inr ⟨rfl,rfl⟩,.inl rfl,.inl rfl,.inl rfl,trivial⟩ rfl (fun Xt old=>?_);refine zbR ?_;unfold zdn at h;refine jq [14,15,16] (jp (jI h ?_ ?_))<;>intro ur h
 ·refine jr (rc 0 rfl (zam (r:=zaF) [] [] (⟨0,0,0⟩:zz) rfl zrP rfl rfl) rf) ?_;cases h;exact zfG (lks [16] [(16,3)] lw)
 refine jb h fun x uD h=>jb h fun x2 uH h=>jd [0,3,4,6,8,9] [14,15,16,17] zeY (by exact (lwn 3 (di [0] zoj.el uD (lw_e (lx (ldl zi [0] x 1 zf x.Fields) (lwn 2 (di [0] zpl.el uH (lx (lde zf [0] x2 zpU) (lx (zqs 17 [kS [],kI 0,kI 0,kB false,kB false,kI 0] rfl zeroValue47 rfl) (ly [.ptr 17 0,.rc zf [0] x2] (zfW (r:=zf) (b:=⟨17,47,[kS [],kI 0,kI 0,kB false,kB false,kI 0]⟩) (off:=0) (zbr x2) rfl sizeOf47 rfl rfl rfl rfl) rfl l0)))))))))) (jg [0,3,4,6,8,9] [14,15,16,17] [(32,kB ((x2.Kind==17)&&(decide (d>0))))] ?_ ?_)
 ·refine (rsl 4 [] 29 (x2.Kind==17) ?_ ?_)<;>intro uv
  · exact (rbl [] 32 (decide (d>0)) rfl (by grind))
  exact (rbl [] 32 false rfl (by grind))
 refine jI h ?_ ?_<;>intro uy h
 ·refine jb h fun vY uz h=>jr (rkl 11 [] ⟨[(0,.ag [.sl zi [0] wv.s,.sl Rp.byte [0] wv.b,.om zn zg 2 [0] wv.met]),(8,.ptr 16 0),(33,.ag [.sl zi [0] wv.s,.sl Rp.byte [0] wv.b,.om zn zg 2 [0] wv.met]),(35,kI x2.Of),(38,kI v.Record.At),(41,kI v.Record.To),(43,kI (IntKind.i64.wrap (d - 1)))],[⟨16,146,[kI 0,kI 0,k8 0]⟩]⟩ (zkZ ⟨[(0,.ag [.sl zi [0] wv.s,.sl Rp.byte [0] wv.b,.om zn zg 2 [0] vY.2]),(8,.ptr 16 0),(33,.ag [.sl zi [0] wv.s,.sl Rp.byte [0] wv.b,.om zn zg 2 [0] vY.2]),(35,kI x2.Of),(38,kI v.Record.At),(41,kI v.Record.To),(43,kI (IntKind.i64.wrap (d - 1)))],[⟨16,146,[kI 0,kI 0,k8 0]⟩]⟩ (zlc [.ag [.sl zi [0] wv.s,.sl Rp.byte [0] wv.b,.om zn zg 2 [0] wv.met],kI x2.Of,kI v.Record.At,kI v.Record.To,kI (IntKind.i64.wrap (d - 1))] [(2,2)] [0] 17 [] rfl call122 (vD uz) rfl rfl (by kernel_rfl) rfl rfl rfl) rfl (by kernel_rfl) (by kernel_rfl) ⟨⟨_,rfl,zpi ⟨zy rfl,zy rfl,zgw 0 rfl,trivial⟩⟩,⟨_,rfl,zy rfl⟩,⟨_,rfl,zpi ⟨zy rfl,zy rfl,zgw 0 rfl,trivial⟩⟩,⟨_,rfl,zy rfl⟩,⟨_,rfl,zy rfl⟩,⟨_,rfl,zy rfl⟩,⟨_,rfl,zy rfl⟩,trivial⟩ ⟨⟨_,rfl,rfl,rfl,⟨zy rfl,zy rfl,zy rfl,trivial⟩⟩,trivial⟩ (rfl' [20]))) (jp (jr (lb 0 zaF [] (⟨(IntKind.i64.wrap (vY.1.depth+1)),vY.1.place,vY.1.e⟩:zz) rf) ?_));cases h;exact zfG (lks [16] [(16,3)] lw)
 refine jb h fun v3 uM h=>jb h fun wd uE h=>jd [0,6,8,11] [15,16] zeY (by exact (ly [.ptr 17 0] (zBv (r:=zf) (b:=⟨17,47,(zbr x2)⟩) x2 [] rfl zpU rfl rfl) rfl (lwn 10 (ly [.sl Rp.byte [0] wv.b,kI v.Record.At,kI v.Record.To] (zgQ (some (kI v.Record.At)) (some (kI v.Record.To)) rfl zdK.el (zcH _ _ _) ⟨rfl,rfl⟩ ⟨rfl,rfl⟩ uM) rfl (lx (lf1 192 (lcd [.rc zf [] x2,kB v.Run,.sl Rp.byte [0] v3] 19 call192 (zvs uE))) l0))))) (jp (jI h ?_ ?_))<;>intro uC h
 ·refine jr (rc 4 rfl (zam (r:=zaF) [kI v.Record.From,k8 wd] [] (⟨0,v.Record.From,wd⟩:zz) rfl zrP rfl rfl) rf) ?_;cases h;exact zfG (lks [16] [(16,3)] lw)
 refine jr (rc 0 rfl (zam (r:=zaF) [] [] (⟨0,0,0⟩:zz) rfl zrP rfl rfl) rf) ?_;cases h;exact zfG (lks [16] [(16,3)] lw)
theorem zfE (uB:Nat):(∀{wv:zaw} {uw:Int} {uF:Int} {tov:Int} {d:Int} {r:(zz×(List (zm×ze)))},zbg uB wv uw uF tov d=some r->zhu prog 122 [.ag [.sl zi [0] wv.s,.sl Rp.byte [0] wv.b,.om zn zg 2 [0] wv.met],kI uw,kI uF,kI tov,kI d] [.rc zaF [] r.1] [.ag [.any,.any,.om zn zg 2 [0] r.2],.any,.any,.any,.any])/\(∀{wv:zaw} {uw:Int} {v:ze} {d:Int} {r:(zz×(List (zm×ze)))},zdm uB wv uw v d=some r->zhu prog 163 [.ag [.sl zi [0] wv.s,.sl Rp.byte [0] wv.b,.om zn zg 2 [0] wv.met],kI uw,.rc zg [0] v,kI d] [.rc zaF [] r.1] [.ag [.any,.any,.om zn zg 2 [0] r.2],.any,.any,.any]):=by
  induction uB with
  | zero=>exact ⟨fun h=>absurd h nofun,fun h=>absurd h nofun⟩
  | succ uB ih=>exact ⟨fun h=>zmD (fun hh=>ih.1 hh) (fun hh=>ih.2 hh) h,fun h=>zod (fun hh=>ih.1 hh) (fun hh=>ih.2 hh) h⟩
theorem zmZ (h:zbg uB wv uw uF tov d=some r):zhu prog 122 [.ag [.sl zi [0] wv.s,.sl Rp.byte [0] wv.b,.om zn zg 2 [0] wv.met],kI uw,kI uF,kI tov,kI d] [.rc zaF [] r.1] [.ag [.any,.any,.om zn zg 2 [0] r.2],.any,.any,.any,.any]:=(zfE uB).1 h
theorem zrW (vx:∀{sv:(List zd)} {uw:Int} {b:(List UInt8)} {r:zc},xg sv uw b=some r->vW 57 [.sl zi [0] sv,kI uw,.sl Rp.byte [0] b] [.ag (zP 3 [4] 5 [] r)]) (vy:∀{sv:(List zd)} {f:za} {b:(List UInt8)} {l:(List ze)} {r:(List zc)},xq sv f b l=some r->vW 127 [.sl zi [0] sv,.rc zf [0] f,.sl Rp.byte [0] b,.sl zg [0] l] [.own zj 27 2 [3] r]) (vz:∀{sv:(List zd)} {f:za} {b:(List UInt8)} {l:(List ze)} {r:zb},xh sv f b l=some r->vW 92 [.sl zi [0] sv,.rc zf [0] f,.sl Rp.byte [0] b,.sl zg [0] l] [.ag (zac 3 [] 4 [] 5 [6] r)]) (h:zgl xg xq xh sv uw b=some r):vW 57 [.sl zi [0] sv,kI uw,.sl Rp.byte [0] b] [.ag (zP 3 [4] 5 [] r)]:=by
 refine fj ⟨[(6,.ptr 2 0)],[⟨2,27,(zP 3 [4] 5 [] r)⟩]⟩ 101 func57 ⟨⟨_,_,rfl,rfl,rfl,zjs⟩,trivial⟩ fun Xt=>?_
 unfold zgl at h;refine jq [33] (jb h fun x uD h=>jr (rx 2 [0] zoj.el uD rfl rfl (rc 0 rfl (lde zi [0] x zyK) (ral 1 [34] [.ptr 34 0,.rc zi [0] x] rfl (zfW (r:=zi) (b:=⟨34,71,[kS [],kN]⟩) (off:=0) (zV [0] x) rfl sizeOf71 rfl rfl rfl rfl) rfl rf))) (jb h fun rv uu h=>jr (rl 2 [0] 33 call89 (zAC uu) rf) (jq [36] (jr (ra 0 [] rfl (zHI (rk:=vU) (r:=zg) (e:=154) 37 rfl) rfl rf) (jp (zw (jb h fun q uA h=>jl uA [0,2,6,7,11,31,32] [33,34] (fun s=>[(12,.mo vU zg 154 37 [] s.1),(33,kI s.2.1)]) (fun s=>[⟨36,27,[kN,.own Rp.str 9 41 [] s.2.2]⟩]) (fun o=> .X 0 [0,2,6,7,11] [33,34] [(12,.mo vU zg 154 37 [] o.1)] [⟨36,27,[kN,.own Rp.str 9 41 [] o.2]⟩]) ?_ lw ?_)))))))
 ·clear h;intro s o h;obtain ⟨wC,v,f⟩:=s;replace h:zcb b rv wC v f=some o:=h;unfold zcb at h;refine jp (jI h ?_ ?_)<;>intro ur h
  ·refine zw (jb h fun x2 uH h=>jr (ra 0 [.own zg 154 35 [] rv.1,kI v] rfl (zwM rfl zlu.el (zko _ _ _ _ _) uH) rfl (rc 0 rfl (lde zg [35] x2 zne) (rfl' [42]))) (jp (jI h ?_ ?_)))<;>intro uv h
   ·refine jb h fun v2 uP h=>jb h fun v3 uM h=>jd [0,2,6,7,11,12,31,32,33] [33,34,36] zeY (by exact (lwn 9 (ly [.sl Rp.byte [0] b,kI x2.Record.From,kI x2.Record.To] (zgQ (some (kI x2.Record.From)) (some (kI x2.Record.To)) rfl zdK.el (zcH _ _ _) ⟨rfl,rfl⟩ ⟨rfl,rfl⟩ uP) rfl (ly [.sl Rp.byte [0] v2] (zrC rfl underlying35 underlying5 underlying9 (zcH _ _ _)) rfl (lx (zjl [kS v2] 43 [] ([v2]:(List Str)) rfl zmQ rfl rfl rfl rfl) (ly [.own Rp.str 9 41 [] f,.own Rp.str 9 43 [] ([v2]:(List Str))] (zB.withBx (zBt 41 [] rfl zmQ.el rfl (zrz _ _ _ _ _) (zko _ _ _ _ _) uM (.inl zEg) rfl) ⟨36,27,[kN,.own Rp.str 9 41 [] f]⟩ rfl rfl) rfl (lw_e (ly [.ptr 36 1,.own Rp.str 9 41 [] v3] (zBw (b:=⟨36,27,[kN,.any]⟩) (off:=1) rfl sizeOf25 rfl rfl rfl) rfl l0)))))))) (zHv _ rfl ?_);cases h;exact jy
   refine jb h fun v4 u9 h=>jk [0,2,6,7,11,12,14,31,32,33,39] [33,34,36,42] (zyb ⟨[(0,.sl zi [0] sv),(2,.sl Rp.byte [0] b),(6,.ptr 33 0),(7,.ptr 34 0),(11,.ptr 36 0),(12,.mo vU zg 154 37 [] (mput wC x2.Record.Number v4)),(31,.own zg 154 35 [] rv.1),(32,kI (rv.1.length:Int)),(33,kI v)],[⟨33,27,[kN,kN]⟩,⟨34,71,(zV [0] x)⟩,⟨36,27,[kN,.own Rp.str 9 41 [] f]⟩]⟩ [.raw [15] [] [] [.ms 54 37],.ev,.ev,.ev,.raw [19] [] [] [.ms 58 37],.ev,.ev,.ev,.raw [3,13,0] [] [] [.lk 62 vU zg 154 37 [] wC x2.Record.Number],.ex [42] [] [] (.rc zg [] x2) [],.ex [] [] [44] (.own zg 154 44 [] ([x2]:(List ze))) [],.raw [2,0] [37] [] [.ap 65 vU zg 154 37 [] wC x2.Record.Number v4],.raw [0,10,7,25] [37] [] [.sl 12 (.mo vU zg 154 37 [] (mput wC x2.Record.Number v4))]] [⟨[],[],[.ms 12 37]⟩,⟨[],[],[.ms 12 37]⟩,⟨[],[],[.ms 58 37,.sl 12 (.mo vU zg 154 37 [] wC),.sl 61 (kI x2.Record.Number)]⟩,⟨[(.tmp 14,.ptr 42 0)],[⟨42,154,(zcj x2)⟩],[]⟩,⟨[(.tmp 63,.rc zg [] x2)],[],[]⟩,⟨[],[],[.lk 62 vU zg 154 37 [] wC x2.Record.Number,.sl 64 (.own zg 154 44 [] ([x2]:(List ze)))]⟩,⟨[],[],[.ap 65 vU zg 154 37 [] wC x2.Record.Number v4,.ms 54 37,.sl 57 (kI x2.Record.Number),.ms 12 37]⟩] [0,2,6,7,11,12,31,32,33] [33,34,36] zeY (by kernel_rfl) (by exact (lw_r (zGj 12 54 37 (.inl rfl) rfl) (lwn 3 (lw_r (zGj 12 58 37 (.inl rfl) rfl) (lwn 3 (lw_r (zJJ (z:= .tmp 61) 12 58 62 rfl rfl zyg (zdT rfl rfl) trivial) (lw_x (zCJ (zBv (r:=zg) (b:=⟨42,154,(zcj x2)⟩) x2 [] rfl zne rfl rfl) rfl) (lw_x (zCJ (lbs1 44 [] x2 zlu) rfl) (lw_r (zJI (y:= .tmp 64) [] 62 65 rfl rfl zlu.el rfl (zko _ _ _ _ _) trivial u9 (.inl zhG) rfl) (lw_r (zHV (z:= .tmp 57) 65 54 [12] rfl rfl zyg (zdT rfl rfl) trivial rfl) lw_0)))))))))) (zal ?_));cases h;exact jy
  cases h;exact zaJ rfl lzz
 refine zbo _ rfl (jb h fun v5 vc h=>jr (rkl 1 [] ⟨[(0,.sl zi [0] sv),(2,.sl Rp.byte [0] b),(6,.ptr 33 0),(7,.ptr 34 0),(11,.ptr 36 0),(12,.mo vU zg 154 37 [] q.1),(67,.mo vU zg 154 37 [] q.1)],[⟨33,27,[kN,kN]⟩,⟨34,71,(zV [0] x)⟩,⟨36,27,[kN,.own Rp.str 9 41 [] q.2]⟩]⟩ (zAe (rv:=(Rp.list zg)) (m:=q.1) 45 zIa rfl rfl rfl rfl rfl rfl call91 call90 rfl (zya _ _ _ _ _ _) vc rfl rf)) (zw (jb h fun q2 uN h=>jl uN [0,2,6,7,11,12,69,70] [33,34] (fun s=>[(71,kI s.1)]) (fun s=>[⟨36,27,[.own zh 51 54 [46] s.2,.own Rp.str 9 41 [] q.2]⟩]) (fun o=> .X 2 [6,11] [33] [] [⟨36,27,[.own zh 51 54 [46] o,.own Rp.str 9 41 [] q.2]⟩]) ?_ lw ?_)))
 ·clear h;intro s o h;obtain ⟨v6,f3⟩:=s;replace h:zcc b q xh sv v5 x v6 f3=some o:=h;unfold zcc at h;refine jp (jI h ?_ ?_)<;>intro uy h
  ·refine zw (jb h fun x3 uR h=>jr (ra 0 [.own vU 3 45 [] v5,kI v6] rfl (zwM rfl zIY.el (zko _ _ _ _ _) uR) rfl rf) (jr (ra 2 [.mo vU zg 154 37 [] q.1,kI x3] rfl (zHG (rk:=vU) (rv:=(Rp.list zg)) (m:=q.1) (k:=x3) (.sl zg [37] ((mget q.1 x3).getD [])) rfl zyg (zya _ _ _ _ _ _) (zdT rfl rfl) (zHl _ _ _)) rfl rf) (jb h fun x4 uW h=>jb h fun x5 uY h=>jb h fun vY uz h=>jd [0,2,6,7,11,12,18,69,70,71] [33,34,36,67] zeY (by exact (lwn 4 (di [37] zlu.el uW (lwn 2 (di [0] zpl.el uY (lx (lde zf [0] x5 zpU) (lwn 2 (lx (lf1 92 (lcd [.sl zi [0] sv,.rc zf [0] x5,.sl Rp.byte [0] b,.sl zg [37] ((mget q.1 x3).getD [])] 60 call92 (vz uz))) (lx (zqs 67 [kI 0,kN,kN,kN] rfl zeroValue51 rfl) (lx (stw ⟨67,51,[kI 0,kN,kN,kN]⟩ 0 (zac 63 [] 64 [] 65 [66] vY) sizeOf51) l0)))))))))) (jb h fun wd uE h=>jr (rc 1 rfl (lcz [.ag (zac 63 [] 64 [] 65 [66] vY)] 66 call93 (zjb uE) (.c (zad _) .n)) rf) (jI h ?_ ?_)))))<;>intro uC h
   ·refine jb h fun v7 vN h=>jr (rc 3 rfl (zB.lw (lbs1 68 [63,64,65,66] vY zrk) (.l (zjD zh [63,64,65,66] vY (zac 63 [] 64 [] 65 [66] vY) (by rw [zad]<;>rfl) rfl))) (rc 0 rfl (lao 54 [46] 51 68 [63,64,65,66] [46,68,63,64,65,66] zrk.el vN (.inr rfl)) rf)) (zal (jp ?_));cases h;exact zaT (lks [33,34,36] [(68,46),(63,46),(64,46),(65,46),(66,46)] lw)
   refine zal ?_;cases h;exact jy
  cases h;exact zaJ rfl lzz
 refine zbo _ rfl (jp ?_);cases h;exact zH (lks [33] [(33,2),(54,3),(41,5),(46,4)] lzz)
theorem zvV (vx:∀{sv:(List zd)} {uw:Int} {b:(List UInt8)} {r:zc},xg sv uw b=some r->vW 57 [.sl zi [0] sv,kI uw,.sl Rp.byte [0] b] [.ag (zP 3 [4] 5 [] r)]) (vy:∀{sv:(List zd)} {f:za} {b:(List UInt8)} {l:(List ze)} {r:(List zc)},xq sv f b l=some r->vW 127 [.sl zi [0] sv,.rc zf [0] f,.sl Rp.byte [0] b,.sl zg [0] l] [.own zj 27 2 [3] r]) (vz:∀{sv:(List zd)} {f:za} {b:(List UInt8)} {l:(List ze)} {r:zb},xh sv f b l=some r->vW 92 [.sl zi [0] sv,.rc zf [0] f,.sl Rp.byte [0] b,.sl zg [0] l] [.ag (zac 3 [] 4 [] 5 [6] r)]) (h:zhm xg xq xh sv f b l=some r):vW 127 [.sl zi [0] sv,.rc zf [0] f,.sl Rp.byte [0] b,.sl zg [0] l] [.own zj 27 2 [3] r]:=by
 refine fi 68 func127 fun Xt=>?_
 unfold zhm at h;refine jq [21] (jb h fun v uK h=>jr (ra 2 [kI (l.length:Int),kI (l.length:Int)] rfl (zqu 22 rfl zmg rfl uK) rfl rf) (jp (zw (jb h fun q uA h=>jL uA [0,2,5,18,19] [21] (fun s=>[(9,.own (Rp.list Rp.byte) 35 22 [0] s.1),(20,kI s.2)]) (fun o=> .X 0 [0,5] [21] [(9,.own (Rp.list Rp.byte) 35 22 [0] o)] []) ?_ lw ?_))))
 ·clear h;intro s o h;obtain ⟨pieces,v2⟩:=s;replace h:zdZ b l pieces v2=some o:=h;unfold zdZ at h;refine jp (jI h ?_ ?_)<;>intro ur h
  ·refine zw (jb h fun x uD h=>jr (rx 1 [0] zlu.el uD rfl rfl (rc 0 rfl (lde zg [0] x zne) (rfl' [24]))) (jb h fun v3 uM h=>jb h fun x2 uH h=>jr (ra 9 [.sl Rp.byte [0] b,kI x.Record.At,kI x.Record.To] rfl (zgQ (some (kI x.Record.At)) (some (kI x.Record.To)) rfl zdK.el (zcH _ _ _) ⟨rfl,rfl⟩ ⟨rfl,rfl⟩ uM) rfl (ra 0 [.own (Rp.list Rp.byte) 35 22 [0] pieces,kI v2] rfl (zus rfl zmg.el uH) rfl (rkl 0 [] ⟨[(0,.sl zi [0] sv),(2,.sl Rp.byte [0] b),(5,.ptr 21 0),(9,.own (Rp.list Rp.byte) 35 22 [0] pieces),(18,.sl zg [0] l),(19,kI (l.length:Int)),(20,kI v2),(34,.sl Rp.byte [0] v3),(35,.ptr 22 (Int.toNat v2*(Rp.list Rp.byte).size))],[⟨21,47,(zbr f)⟩]⟩ (zyp (r:=(Rp.list Rp.byte)) (e:=35) (C:=[0]) (xs:=pieces) [9] (Int.toNat v2) 0 x2 v3 [0] rfl rfl rfl rfl rfl rfl sizeOf35 rfl (by kernel_rfl) rfl (zqj uH) rfl (ztC rfl _) rfl rf)))) (zal ?_)));cases h;exact jy
  cases h;exact zaJ rfl lzz
 refine zbo _ rfl (jg [0,5,9] [21] [(44,kB ((!f.Repeated)&&(decide ((q.length:Int)>1))))] ?_ ?_)
 ·refine (rsl 4 [] 40 (!f.Repeated) ?_ ?_)<;>intro uv
  · exact (rbl [] 44 (decide ((q.length:Int)>1)) rfl (by grind))
  exact (rbl [] 44 false rfl (by grind))
 refine jb h fun p uS h=>jn (.N [0,5] [21] [(9,.own (Rp.list Rp.byte) 35 26 [25,0] p)] []) ?_ ?_
 ·replace h:=uS;refine jI h ?_ ?_<;>intro uy h
  ·refine jb h fun rv uu h=>jr (rl 1 [22,0] 25 call66 (zbG uu) (rc 0 rfl (zjl [.own Rp.byte 5 27 [] rv] 28 [27] ([rv]:(List (List UInt8))) rfl zmg rfl rfl rfl rfl) rf)) ?_;cases h;exact zaT (lks [21] [(28,26),(27,25)] lw)
  cases h;exact zaT (lks [21] [(22,26)] lw)
 refine zim (jb h fun v5 vc h=>jr (ra 2 [kI (p.length:Int),kI (p.length:Int)] rfl (zqu 29 rfl zsL rfl vc) rfl rf) (jp (zw (jb h fun q2 uN h=>jL uN [0,5,51,52] [21] (fun s=>[(12,.own zj 27 29 [30] s.1),(53,kI s.2)]) (fun o=> .x 2 ⟨[(12,.own zj 27 29 [30] o)],[]⟩) ?_ lw ?_))))
 ·clear h;intro s o h;obtain ⟨all,v6⟩:=s;replace h:zea f p xg sv all v6=some o:=h;unfold zea at h;refine jp (jI h ?_ ?_)<;>intro uC h
  ·refine zw (jb h fun x3 uR h=>jr (ra 1 [.own (Rp.list Rp.byte) 35 26 [25,0] p,kI v6] rfl (zwM rfl zmg.el (zko _ _ _ _ _) uR) rfl (rc 0 rfl (ldl (Rp.list Rp.byte) [26,25,0] x3 0 Rp.byte x3) rf)) (jb h fun vY uz h=>jb h fun x4 uW h=>jr (rl 6 [0,26,25] 37 call57 (vx uz) (ra 0 [.own zj 27 29 [30] all,kI v6] rfl (zus rfl zsL.el uW) rfl (rkl 0 [] ⟨[(0,.sl zi [0] sv),(5,.ptr 21 0),(12,.own zj 27 29 [30] all),(51,.own (Rp.list Rp.byte) 35 26 [25,0] p),(52,kI (p.length:Int)),(53,kI v6),(64,.ag (zP 40 [41] 42 [] vY)),(65,.ptr 29 (Int.toNat v6*zj.size))],[⟨21,47,(zbr f)⟩]⟩ (zyp (r:=zj) (e:=27) (C:=[30]) (xs:=all) [12] (Int.toNat v6) 0 x4 vY [30,40,41,42] rfl rfl rfl rfl rfl rfl sizeOf27 rfl (by kernel_rfl) rfl (zqj uW) rfl (ztC (by rw [zak]<;>rfl) _) rfl rf)))) (zal (jp ?_))));cases h;exact zaT (lks [21] [(40,30),(41,30),(42,30)] lw)
  cases h;exact zaJ rfl lzz
 refine zbo _ rfl (jp ?_);obtain rfl:=(sj h);exact zH (lks [] [(29,2),(30,3)] lzz)
theorem zvn (vx:∀{sv:(List zd)} {uw:Int} {b:(List UInt8)} {r:zc},xg sv uw b=some r->vW 57 [.sl zi [0] sv,kI uw,.sl Rp.byte [0] b] [.ag (zP 3 [4] 5 [] r)]) (vy:∀{sv:(List zd)} {f:za} {b:(List UInt8)} {l:(List ze)} {r:(List zc)},xq sv f b l=some r->vW 127 [.sl zi [0] sv,.rc zf [0] f,.sl Rp.byte [0] b,.sl zg [0] l] [.own zj 27 2 [3] r]) (vz:∀{sv:(List zd)} {f:za} {b:(List UInt8)} {l:(List ze)} {r:zb},xh sv f b l=some r->vW 92 [.sl zi [0] sv,.rc zf [0] f,.sl Rp.byte [0] b,.sl zg [0] l] [.ag (zac 3 [] 4 [] 5 [6] r)]) (h:zgu xg xq xh sv f b l=some r):vW 92 [.sl zi [0] sv,.rc zf [0] f,.sl Rp.byte [0] b,.sl zg [0] l] [.ag (zac 3 [] 4 [] 5 [6] r)]:=by
 refine fj ⟨[(8,.ptr 2 0)],[⟨2,51,(zac 3 [] 4 [] 5 [6] r)⟩]⟩ 50 func92 ⟨⟨_,_,rfl,rfl,rfl,zpV⟩,trivial⟩ fun Xt=>?_
 unfold zgu at h;refine jq [18,19] (jg [0,2,3,5,8] [18,19] [(17,kB ((!f.Repeated)&&(f.Kind !=17)))] ?_ ?_)
 ·refine (rsl 4 [] 13 (!f.Repeated) ?_ ?_)<;>intro ur
  · exact (rbl [] 17 (f.Kind !=17) rfl (by grind))
  exact (rbl [] 17 false rfl (by grind))
 refine jb h fun p uS h=>jn (.N [0,2,5,8] [18,19] [(3,.sl zg [0] p)] []) ?_ ?_
 ·replace h:=uS;refine jI h ?_ ?_<;>intro uv h
  ·refine jb h fun v2 uP h=>jr (ra 4 [.sl zg [0] l,kI (IntKind.i64.wrap ((l.length:Int) - 1))] rfl (zgQ (some (kI (IntKind.i64.wrap ((l.length:Int) - 1)))) none rfl zlu.el (zcH _ _ _) ⟨rfl,rfl⟩ ⟨rfl,rfl⟩ uP) rfl rf) ?_;cases h;exact zaT lzz
  cases h;exact zaT lzz
 refine zim (jr (ra 2 [kI f.Number] rfl (zlI [kI f.Number] [kI f.Number,kN,kN,kN] rfl zIU rfl) rfl (rfl' [20])) (jp (zw (jp (jI h ?_ ?_)))))<;>intro uy h
 ·refine jb h fun rv uu h=>jr (lb 1 zf [] f (rl 2 [0] 19 call127 (vy uu) rf)) (zal (jp ?_));cases h;exact zH (lks [19] [(19,2),(21,5),(22,6)] lw)
 refine jp (jb h fun p2 va h=>jn (.N [2,3,5,8,9] [18,19,20] [(42,kB p2)] []) ?_ ?_)
 ·replace h:=va;refine jI h ?_ ?_<;>intro uC h
  ·cases h;exact zaT lzz
  cases h;exact jy
 refine zim (jI h ?_ ?_)<;>intro uJ h
 ·refine jb h fun vY uz h=>jr (rl 2 [0] 21 call128 (zvW uz) rf) (zal (jp ?_));cases h;exact zH (lks [19] [(19,2),(23,4)] lw)
 refine jb h fun wd uE h=>jr (rl 4 [0] 22 call129 (zvX uE) rf) (zal (jp ?_));cases h;exact zH (lks [19] [(19,2),(24,3)] lw)
theorem zje (uB:Nat):(∀{sv:(List zd)} {uw:Int} {b:(List UInt8)} {r:zc},zdY uB sv uw b=some r->vW 57 [.sl zi [0] sv,kI uw,.sl Rp.byte [0] b] [.ag (zP 3 [4] 5 [] r)])/\(∀{sv:(List zd)} {f:za} {b:(List UInt8)} {l:(List ze)} {r:(List zc)},zoN uB sv f b l=some r->vW 127 [.sl zi [0] sv,.rc zf [0] f,.sl Rp.byte [0] b,.sl zg [0] l] [.own zj 27 2 [3] r])/\(∀{sv:(List zd)} {f:za} {b:(List UInt8)} {l:(List ze)} {r:zb},ziz uB sv f b l=some r->vW 92 [.sl zi [0] sv,.rc zf [0] f,.sl Rp.byte [0] b,.sl zg [0] l] [.ag (zac 3 [] 4 [] 5 [6] r)]):=by
  induction uB with
  | zero=>exact ⟨fun h=>absurd h nofun,fun h=>absurd h nofun,fun h=>absurd h nofun⟩
  | succ uB ih=>exact ⟨fun h=>zrW (fun hh=>ih.1 hh) (fun hh=>ih.2.1 hh) (fun hh=>ih.2.2 hh) h,fun h=>zvV (fun hh=>ih.1 hh) (fun hh=>ih.2.1 hh) (fun hh=>ih.2.2 hh) h,fun h=>zvn (fun hh=>ih.1 hh) (fun hh=>ih.2.1 hh) (fun hh=>ih.2.2 hh) h⟩
theorem zsV (h:zdY uB sv uw b=some r):vW 57 [.sl zi [0] sv,kI uw,.sl Rp.byte [0] b] [.ag (zP 3 [4] 5 [] r)]:=(zje uB).1 h
end Go.Proofs.YtkgohoggipdokaaGreat

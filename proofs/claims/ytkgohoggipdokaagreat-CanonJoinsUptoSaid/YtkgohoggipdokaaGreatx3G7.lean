/-
  The Go functions do what the plain functions say. No condition.
-/
import Derived.Test.YtkgohoggipdokaaGreatx3G6
import Derived.Test.YtkgohoggipdokaaGreatx3Y
set_option autoImplicit true
set_option relaxedAutoImplicit true
namespace Go.Proofs.YtkgohoggipdokaaGreat
open Tryz
open Go Go.RowKit
set_option linter.unusedVariables false
set_option maxRecDepth 100000
set_option maxHeartbeats 3200000
theorem zrQ (h:ziN uM sv uT x=some r):wo 63 [.sl zj [0] sv,kI uT,.rc zg [0] x] [kB r]:=by
 refine fi 21 func63 fun Xt=>?_
 unfold ziN at h;refine jr (rc 0 rfl (lbx 11 [0] (zah [0] x)) rf) (jb h fun g uG h=>jg [] [] [(6,kB g)] ?_ ?_)
 ·refine jb uG fun rv uF uG=>(rl 2 [0] 10 call105 (zrR uF) (rsI 2 11 uG ?_ ?_))<;>intro uE uG
  ·refine jb uG fun wu uK uG=>(rc 1 rfl (lw0 10 call58 (zpb uK) (.l (zL [0] x))) (rsI 2 15 uG ?_ ?_))<;>intro uH uG
   ·refine jb uG fun wy uP uG=>?_;cases uG;exact (rc 3 rfl (lw0 10 call106 (ztC uP) (.k (.k (.l (zL [0] x))))) rgg)
   cases uG;exact rgg
  cases uG;exact rgg
 obtain rfl:=(sj h);exact zB lzz
theorem zyr (h:zlh f isRun value=some r):wo 192 [.rc zf [0] f,kB isRun,.sl Rp.byte [0] value] [k8 r]:=by
 refine fi 32 func192 fun Xt=>?_
 unfold zlh at h;refine jq [11] (zp (jp (jI h ?_ ?_)))<;>intro uE h
 ·refine jb h fun rv uF h=>jr (rl 3 [0] 10 call215 (zBs uF) rf) ?_;cases h;exact jz
 refine jb h fun g uG h=>jg [3] [11] [(19,kB g)] ?_ ?_
 ·refine (rsI 4 23 uG ?_ ?_)<;>intro uH uG
  ·refine jb uG fun wu uK uG=>?_;cases uG;exact (rl 1 [0] 10 call145 (ztI uK) (rel [] lzz))
  cases uG;exact (rel [] lzz)
 refine jI h ?_ ?_<;>intro uJ h
 ·cases h;exact jz
 refine jp (jI h ?_ ?_)<;>intro uO h
 ·cases h;exact jz
 refine zan ?_;cases h;exact jz
theorem zyU (h:zmE k b l=some r):wo 129 [kI k,.sl Rp.byte [0] b,.sl zi [0] l] [.own wk 72 2 [] r]:=by
 refine fi 36 func129 fun Xt=>?_
 unfold zmE at h;refine jp (jp (jp (zp (jb h fun q uL h=>jL uL [0,1,12,13] [] (fun s=>[(7,.own wk 72 20 [] s.1),(14,kI s.2)]) (fun o=> .x 0 ⟨[(7,.own wk 72 20 [] o)],[]⟩) ?_ lw ?_))))
 ·clear h;intro s o h;obtain ⟨all,v⟩:=s;replace h:zez b k l all v=some o:=h;unfold zez at h;refine jp (jI h ?_ ?_)<;>intro uE h
  ·refine zp (jb h fun x uN h=>jr (rx 0 [0] znz.el uN rfl rfl (rc 0 rfl (lde zi [0] x zpD) (rfl' [21]))) (jb h fun v2 uY h=>jb h fun rv uF h=>jr (ra 8 [.sl Rp.byte [0] b,kI x.Record.At,kI x.Record.To] rfl (ziK (some (kI x.Record.At)) (some (kI x.Record.To)) rfl zej.el (zcZ _ _ _) ⟨rfl,rfl⟩ ⟨rfl,rfl⟩ uY) rfl (rl 0 [0] 20 call169 (zBt uF) rf)) (jb h fun v3 uU h=>jr (rc 2 rfl (lao 20 [] 72 23 [] [] zng.el uU (.inl (zrc _))) rf) (zan ?_))));cases h;exact jy
  cases h;exact zaC rfl lzz
 refine zaX _ rfl (jp ?_);obtain rfl:=(sj h);exact zB (lks [] [(20,2)] lzz)
theorem zrD (h:zkc uM sv uT x=some r):wo 30 [.sl zj [0] sv,kI uT,.rc zg [0] x] [k8 r]:=by
 refine fi 25 func30 fun Xt=>?_
 unfold zkc at h;refine jr (rc 0 rfl (lbx 11 [0] (zah [0] x)) rf) (zp (jb h fun rv uF h=>jr (rc 3 rfl (lw0 10 call63 (zrQ uF) (.k (.k (.l (zL [0] x))))) rf) (jI h ?_ ?_)))<;>intro uE h
 ·cases h;exact jz
 refine jb h fun wu uK h=>jr (rl 1 [0] 10 call38 (zlo uK) rf) (jI h ?_ ?_)<;>intro uH h
 ·cases h;exact jz
 refine jg [] [] [(16,kB ((decide (uT<0))|| (decide (uT>=(sv.length:Int)))))] ?_ ?_
 ·refine (rsl 3 [] 19 (decide (uT<0)) ?_ ?_)<;>intro uJ
  · exact (rbl [] 16 true rfl (by grind))
  exact (rbl [] 16 (decide (uT>=(sv.length:Int))) rfl (by grind))
 refine jI h ?_ ?_<;>intro uO h
 ·cases h;exact jz
 refine zan ?_;cases h;exact jz
theorem zpc (vU:∀{wv:zaJ} {uI:Int} {uR:Int} {tov:Int} {d:Int} {r:(zE×(List (zm×zh)))},xx wv uI uR tov d=some r->zjt prog 122 [.ag [.sl zj [0] wv.s,.sl Rp.byte [0] wv.b,.om zn zi 2 [0] wv.met],kI uI,kI uR,kI tov,kI d] [.rc zaT [] r.1] [.ag [.any,.any,.om zn zi 2 [0] r.2],.any,.any,.any,.any]) (vV:∀{wv:zaJ} {uI:Int} {v:zh} {d:Int} {r:(zE×(List (zm×zh)))},xo wv uI v d=some r->zjt prog 163 [.ag [.sl zj [0] wv.s,.sl Rp.byte [0] wv.b,.om zn zi 2 [0] wv.met],kI uI,.rc zi [0] v,kI d] [.rc zaT [] r.1] [.ag [.any,.any,.om zn zi 2 [0] r.2],.any,.any,.any]) (h:zeL xx xo wv uI uR tov d=some r):zjt prog 122 [.ag [.sl zj [0] wv.s,.sl Rp.byte [0] wv.b,.om zn zi 2 [0] wv.met],kI uI,kI uR,kI tov,kI d] [.rc zaT [] r.1] [.ag [.any,.any,.om zn zi 2 [0] r.2],.any,.any,.any,.any]:=by
 refine zlK (E:=⟨[(0,.ag [.any,.any,.om zn zi 2 [0] r.2]),(10,.ptr 3 0)],[⟨3,146,(zkd r.1)⟩]⟩) 49 [0] func122 rfl rfl rfl ⟨⟨_,_,rfl,rfl,rfl,rfl,zDY⟩,trivial⟩ ⟨.inr ⟨rfl,rfl⟩,.inl rfl,.inl rfl,.inl rfl,.inl rfl,trivial⟩ rfl (fun Xt old=>?_);refine zcm ?_;unfold zeL at h;refine jq [13,14] (jp (zp (jb h fun q uL h=>jl uL [1,3,4,5,10] [14] (fun s=>[(0,.ag [.sl zj [0] wv.s,.sl Rp.byte [0] wv.b,.om zn zi 2 [0] s.1]),(2,kI s.2.1),(11,kI s.2.2)]) (fun s=>[⟨13,193,[.sl zj [0] wv.s,.sl Rp.byte [0] wv.b,.om zn zi 2 [0] s.1]⟩]) (fun| (.inl v_)=> .X 0 [10] [14] [(0,.ag [.sl zj [0] wv.s,.sl Rp.byte [0] wv.b,.om zn zi 2 [0] v_.1]),(11,kI v_.2)] []| (.inr v_)=> .r ⟨[(0,.ag [.sl zj [0] wv.s,.sl Rp.byte [0] wv.b,.om zn zi 2 [0] v_.1]),(10,.ptr 14 0)],[⟨14,146,[kI v_.2.1,kI v_.2.2.1,k8 v_.2.2.2]⟩]⟩) ?_ lzz ?_)))
 ·clear h;intro s o h;obtain ⟨wv2,wX,vp⟩:=s;replace h:zaU d uI xo tov wv wv2 wX vp=some o:=h;unfold zaU at h;refine jp (jI h ?_ ?_)<;>intro uE h
  ·refine zp (jb h fun wu uK h=>jr (rkl 4 [] ⟨[(0,.ag [.sl zj [0] wv.s,.sl Rp.byte [0] wv.b,.om zn zi 2 [0] wv2]),(1,kI uI),(2,kI wX),(3,kI tov),(4,kI d),(5,.ptr 13 0),(10,.ptr 14 0),(11,kI vp),(19,.ag [.sl zj [0] wv.s,.sl Rp.byte [0] wv.b,.om zn zi 2 [0] wv2]),(20,kI uI),(21,kI wX),(22,kI tov)],[⟨13,193,[.sl zj [0] wv.s,.sl Rp.byte [0] wv.b,.om zn zi 2 [0] wv2]⟩,⟨14,146,[kI 0,kI 0,k8 0]⟩]⟩ (znb ⟨[(0,.ag [.sl zj [0] wv.s,.sl Rp.byte [0] wv.b,.om zn zi 2 [0] wu.2.2]),(1,kI uI),(2,kI wX),(3,kI tov),(4,kI d),(5,.ptr 13 0),(10,.ptr 14 0),(11,kI vp),(19,.ag [.sl zj [0] wv.s,.sl Rp.byte [0] wv.b,.om zn zi 2 [0] wu.2.2]),(20,kI uI),(21,kI wX),(22,kI tov)],[⟨13,193,[.sl zj [0] wv.s,.sl Rp.byte [0] wv.b,.om zn zi 2 [0] wu.2.2]⟩,⟨14,146,[kI 0,kI 0,k8 0]⟩]⟩ (zne [.ag [.sl zj [0] wv.s,.sl Rp.byte [0] wv.b,.om zn zi 2 [0] wv2],kI uI,kI wX,kI tov] [(2,2)] [0] 15 [] rfl call162 (zsu uK) rfl rfl (by kernel_rfl) rfl rfl rfl) rfl (by kernel_rfl) (by kernel_rfl) ⟨⟨_,rfl,zrP ⟨zD rfl,zD rfl,zhz 0 rfl,trivial⟩⟩,⟨_,rfl,zD rfl⟩,⟨_,rfl,zD rfl⟩,⟨_,rfl,zD rfl⟩,⟨_,rfl,zD rfl⟩,⟨_,rfl,zD rfl⟩,⟨_,rfl,zD rfl⟩,⟨_,rfl,zD rfl⟩,⟨_,rfl,zrP ⟨zD rfl,zD rfl,zhz 0 rfl,trivial⟩⟩,⟨_,rfl,zD rfl⟩,⟨_,rfl,zD rfl⟩,⟨_,rfl,zD rfl⟩,trivial⟩ ⟨⟨_,rfl,rfl,rfl,⟨zD rfl,zD rfl,zhz 0 rfl,trivial⟩⟩,⟨_,rfl,rfl,rfl,⟨zD rfl,zD rfl,zD rfl,trivial⟩⟩,trivial⟩ (rfl' [18]))) (jp (jI h ?_ ?_)))<;>intro uH h
   ·refine jr (rc 2 rfl (zaw (r:=zaT) [kI wX,k8 wu.2.1] [] (⟨0,wX,wu.2.1⟩:zE) rfl zuC rfl rfl) rf) ?_;cases h;exact zqQ lzz
   refine jb h fun wM u9 h=>jr (lb 2 zi [] wu.1 (rkl 1 [] ⟨[(0,.ag [.sl zj [0] wv.s,.sl Rp.byte [0] wv.b,.om zn zi 2 [0] wu.2.2]),(1,kI uI),(3,kI tov),(4,kI d),(5,.ptr 13 0),(10,.ptr 14 0),(11,kI vp),(12,.ptr 18 0),(31,.ag [.sl zj [0] wv.s,.sl Rp.byte [0] wv.b,.om zn zi 2 [0] wu.2.2]),(32,kI uI),(33,.rc zi [] wu.1),(34,kI d)],[⟨13,193,[.sl zj [0] wv.s,.sl Rp.byte [0] wv.b,.om zn zi 2 [0] wu.2.2]⟩,⟨14,146,[kI 0,kI 0,k8 0]⟩,⟨18,154,(zcV wu.1)⟩]⟩ (znb ⟨[(0,.ag [.sl zj [0] wv.s,.sl Rp.byte [0] wv.b,.om zn zi 2 [0] wM.2]),(1,kI uI),(3,kI tov),(4,kI d),(5,.ptr 13 0),(10,.ptr 14 0),(11,kI vp),(12,.ptr 18 0),(31,.ag [.sl zj [0] wv.s,.sl Rp.byte [0] wv.b,.om zn zi 2 [0] wM.2]),(32,kI uI),(33,.rc zi [] wu.1),(34,kI d)],[⟨13,193,[.sl zj [0] wv.s,.sl Rp.byte [0] wv.b,.om zn zi 2 [0] wM.2]⟩,⟨14,146,[kI 0,kI 0,k8 0]⟩,⟨18,154,(zcV wu.1)⟩]⟩ (zne [.ag [.sl zj [0] wv.s,.sl Rp.byte [0] wv.b,.om zn zi 2 [0] wu.2.2],kI uI,.rc zi [] wu.1,kI d] [(2,2)] [0] 18 [] rfl call163 (vV u9) rfl rfl (by kernel_rfl) rfl rfl rfl) rfl (by kernel_rfl) (by kernel_rfl) ⟨⟨_,rfl,zrP ⟨zD rfl,zD rfl,zhz 0 rfl,trivial⟩⟩,⟨_,rfl,zD rfl⟩,⟨_,rfl,zD rfl⟩,⟨_,rfl,zD rfl⟩,⟨_,rfl,zD rfl⟩,⟨_,rfl,zD rfl⟩,⟨_,rfl,zD rfl⟩,⟨_,rfl,zD rfl⟩,⟨_,rfl,zrP ⟨zD rfl,zD rfl,zhz 0 rfl,trivial⟩⟩,⟨_,rfl,zD rfl⟩,⟨_,rfl,zD rfl⟩,⟨_,rfl,zD rfl⟩,trivial⟩ ⟨⟨_,rfl,rfl,rfl,⟨zD rfl,zD rfl,zhz 0 rfl,trivial⟩⟩,⟨_,rfl,rfl,rfl,⟨zD rfl,zD rfl,zD rfl,trivial⟩⟩,⟨_,rfl,rfl,rfl,⟨zD rfl,zD rfl,zD rfl,zD rfl,zD rfl,zD rfl,zD rfl,trivial⟩⟩,trivial⟩ (rfl' [21])))) (jp (jI h ?_ ?_))<;>intro uJ h
   ·refine jr (lb 0 zaT [] wM.1 rf) ?_;cases h;exact zqQ lzz
   refine jp (jp (zan ?_));cases h;exact zbj lzz
  cases h;exact zaC rfl lzz
 rcases q with u| u2
 ·refine zaX _ rfl (jr (rc 1 rfl (zaw (r:=zaT) [kI u.2] [] (⟨u.2,0,0⟩:zE) rfl zuC rfl rfl) rf) ?_);cases h;exact zha (lks [14] [(14,3)] lw)
 cases h;exact zNG (lks [14] [(14,3)] lw)
theorem zqE (vU:∀{wv:zaJ} {uI:Int} {uR:Int} {tov:Int} {d:Int} {r:(zE×(List (zm×zh)))},xx wv uI uR tov d=some r->zjt prog 122 [.ag [.sl zj [0] wv.s,.sl Rp.byte [0] wv.b,.om zn zi 2 [0] wv.met],kI uI,kI uR,kI tov,kI d] [.rc zaT [] r.1] [.ag [.any,.any,.om zn zi 2 [0] r.2],.any,.any,.any,.any]) (vV:∀{wv:zaJ} {uI:Int} {v:zh} {d:Int} {r:(zE×(List (zm×zh)))},xo wv uI v d=some r->zjt prog 163 [.ag [.sl zj [0] wv.s,.sl Rp.byte [0] wv.b,.om zn zi 2 [0] wv.met],kI uI,.rc zi [0] v,kI d] [.rc zaT [] r.1] [.ag [.any,.any,.om zn zi 2 [0] r.2],.any,.any,.any]) (h:zes xx xo wv uI v d=some r):zjt prog 163 [.ag [.sl zj [0] wv.s,.sl Rp.byte [0] wv.b,.om zn zi 2 [0] wv.met],kI uI,.rc zi [0] v,kI d] [.rc zaT [] r.1] [.ag [.any,.any,.om zn zi 2 [0] r.2],.any,.any,.any]:=by
 refine zlK (E:=⟨[(0,.ag [.any,.any,.om zn zi 2 [0] r.2]),(8,.ptr 3 0)],[⟨3,146,(zkd r.1)⟩]⟩) 71 [0] func163 rfl rfl rfl ⟨⟨_,_,rfl,rfl,rfl,rfl,zDY⟩,trivial⟩ ⟨.inr ⟨rfl,rfl⟩,.inl rfl,.inl rfl,.inl rfl,trivial⟩ rfl (fun Xt old=>?_);refine zcm ?_;unfold zes at h;refine jq [14,15,16] (jp (jI h ?_ ?_))<;>intro uE h
 ·refine jr (rc 0 rfl (zaw (r:=zaT) [] [] (⟨0,0,0⟩:zE) rfl zuC rfl rfl) rf) ?_;cases h;exact zha (lks [16] [(16,3)] lw)
 refine jb h fun x uN h=>jb h fun x2 uQ h=>jd [0,3,4,6,8,9] [14,15,16,17] zeY (by exact (lwn 3 (di [0] zpp.el uN (lw_e (lx (ldl zj [0] x 1 zf x.Fields) (lwn 2 (di [0] zqJ.el uQ (lx (lde zf [0] x2 zpE) (lx (znS 17 [kS [],kI 0,kI 0,kB false,kB false,kI 0] rfl zeroValue47 rfl) (ly [.ptr 17 0,.rc zf [0] x2] (zfe (r:=zf) (b:=⟨17,47,[kS [],kI 0,kI 0,kB false,kB false,kI 0]⟩) (off:=0) (zbi x2) rfl sizeOf47 rfl rfl rfl rfl) rfl l0)))))))))) (jg [0,3,4,6,8,9] [14,15,16,17] [(32,kB ((x2.Kind==17)&&(decide (d>0))))] ?_ ?_)
 ·refine (rsl 4 [] 29 (x2.Kind==17) ?_ ?_)<;>intro uH
  · exact (rbl [] 32 (decide (d>0)) rfl (by grind))
  exact (rbl [] 32 false rfl (by grind))
 refine jI h ?_ ?_<;>intro uJ h
 ·refine jb h fun wu uK h=>jr (rkl 11 [] ⟨[(0,.ag [.sl zj [0] wv.s,.sl Rp.byte [0] wv.b,.om zn zi 2 [0] wv.met]),(8,.ptr 16 0),(33,.ag [.sl zj [0] wv.s,.sl Rp.byte [0] wv.b,.om zn zi 2 [0] wv.met]),(35,kI x2.Of),(38,kI v.Record.At),(41,kI v.Record.To),(43,kI (IntKind.i64.wrap (d - 1)))],[⟨16,146,[kI 0,kI 0,k8 0]⟩]⟩ (znb ⟨[(0,.ag [.sl zj [0] wv.s,.sl Rp.byte [0] wv.b,.om zn zi 2 [0] wu.2]),(8,.ptr 16 0),(33,.ag [.sl zj [0] wv.s,.sl Rp.byte [0] wv.b,.om zn zi 2 [0] wu.2]),(35,kI x2.Of),(38,kI v.Record.At),(41,kI v.Record.To),(43,kI (IntKind.i64.wrap (d - 1)))],[⟨16,146,[kI 0,kI 0,k8 0]⟩]⟩ (zne [.ag [.sl zj [0] wv.s,.sl Rp.byte [0] wv.b,.om zn zi 2 [0] wv.met],kI x2.Of,kI v.Record.At,kI v.Record.To,kI (IntKind.i64.wrap (d - 1))] [(2,2)] [0] 17 [] rfl call122 (vU uK) rfl rfl (by kernel_rfl) rfl rfl rfl) rfl (by kernel_rfl) (by kernel_rfl) ⟨⟨_,rfl,zrP ⟨zD rfl,zD rfl,zhz 0 rfl,trivial⟩⟩,⟨_,rfl,zD rfl⟩,⟨_,rfl,zrP ⟨zD rfl,zD rfl,zhz 0 rfl,trivial⟩⟩,⟨_,rfl,zD rfl⟩,⟨_,rfl,zD rfl⟩,⟨_,rfl,zD rfl⟩,⟨_,rfl,zD rfl⟩,trivial⟩ ⟨⟨_,rfl,rfl,rfl,⟨zD rfl,zD rfl,zD rfl,trivial⟩⟩,trivial⟩ (rfl' [20]))) (jp (jr (lb 0 zaT [] (⟨(IntKind.i64.wrap (wu.1.depth+1)),wu.1.place,wu.1.e⟩:zE) rf) ?_));cases h;exact zha (lks [16] [(16,3)] lw)
 refine jb h fun v3 uU h=>jb h fun wy uP h=>jd [0,6,8,11] [15,16] zeY (by exact (ly [.ptr 17 0] (zEG (r:=zf) (b:=⟨17,47,(zbi x2)⟩) x2 [] rfl zpE rfl rfl) rfl (lwn 10 (ly [.sl Rp.byte [0] wv.b,kI v.Record.At,kI v.Record.To] (ziK (some (kI v.Record.At)) (some (kI v.Record.To)) rfl zej.el (zcZ _ _ _) ⟨rfl,rfl⟩ ⟨rfl,rfl⟩ uU) rfl (lx (lf1 192 (lcd [.rc zf [] x2,kB v.Run,.sl Rp.byte [0] v3] 19 call192 (zyr uP))) l0))))) (jp (jI h ?_ ?_))<;>intro uO h
 ·refine jr (rc 4 rfl (zaw (r:=zaT) [kI v.Record.From,k8 wy] [] (⟨0,v.Record.From,wy⟩:zE) rfl zuC rfl rfl) rf) ?_;cases h;exact zha (lks [16] [(16,3)] lw)
 refine jr (rc 0 rfl (zaw (r:=zaT) [] [] (⟨0,0,0⟩:zE) rfl zuC rfl rfl) rf) ?_;cases h;exact zha (lks [16] [(16,3)] lw)
theorem zgW (uM:Nat):(∀{wv:zaJ} {uI:Int} {uR:Int} {tov:Int} {d:Int} {r:(zE×(List (zm×zh)))},zbD uM wv uI uR tov d=some r->zjt prog 122 [.ag [.sl zj [0] wv.s,.sl Rp.byte [0] wv.b,.om zn zi 2 [0] wv.met],kI uI,kI uR,kI tov,kI d] [.rc zaT [] r.1] [.ag [.any,.any,.om zn zi 2 [0] r.2],.any,.any,.any,.any])/\(∀{wv:zaJ} {uI:Int} {v:zh} {d:Int} {r:(zE×(List (zm×zh)))},zer uM wv uI v d=some r->zjt prog 163 [.ag [.sl zj [0] wv.s,.sl Rp.byte [0] wv.b,.om zn zi 2 [0] wv.met],kI uI,.rc zi [0] v,kI d] [.rc zaT [] r.1] [.ag [.any,.any,.om zn zi 2 [0] r.2],.any,.any,.any]):=by
  induction uM with
  | zero=>exact ⟨fun h=>absurd h nofun,fun h=>absurd h nofun⟩
  | succ uM ih=>exact ⟨fun h=>zpc (fun hh=>ih.1 hh) (fun hh=>ih.2 hh) h,fun h=>zqE (fun hh=>ih.1 hh) (fun hh=>ih.2 hh) h⟩
theorem zpz (h:zbD uM wv uI uR tov d=some r):zjt prog 122 [.ag [.sl zj [0] wv.s,.sl Rp.byte [0] wv.b,.om zn zi 2 [0] wv.met],kI uI,kI uR,kI tov,kI d] [.rc zaT [] r.1] [.ag [.any,.any,.om zn zi 2 [0] r.2],.any,.any,.any,.any]:=(zgW uM).1 h
theorem zuK (vL:∀{sv:(List ze)} {uI:Int} {b:(List UInt8)} {r:zb},xg sv uI b=some r->wo 57 [.sl zj [0] sv,kI uI,.sl Rp.byte [0] b] [.ag (zr 3 [4] 5 [] r)]) (vM:∀{sv:(List ze)} {f:zc} {b:(List UInt8)} {l:(List zh)} {r:(List zb)},xu sv f b l=some r->wo 127 [.sl zj [0] sv,.rc zf [0] f,.sl Rp.byte [0] b,.sl zi [0] l] [.own zg 27 2 [3] r]) (vN:∀{sv:(List ze)} {f:zc} {b:(List UInt8)} {l:(List zh)} {r:za},xh sv f b l=some r->wo 92 [.sl zj [0] sv,.rc zf [0] f,.sl Rp.byte [0] b,.sl zi [0] l] [.ag (zA 3 [] 4 [] 5 [6] r)]) (h:zhO xg xu xh sv uI b=some r):wo 57 [.sl zj [0] sv,kI uI,.sl Rp.byte [0] b] [.ag (zr 3 [4] 5 [] r)]:=by
 refine fj ⟨[(6,.ptr 2 0)],[⟨2,27,(zr 3 [4] 5 [] r)⟩]⟩ 101 func57 ⟨⟨_,_,rfl,rfl,rfl,zkH⟩,trivial⟩ fun Xt=>?_
 unfold zhO at h;refine jq [33] (jb h fun x uN h=>jr (rx 2 [0] zpp.el uN rfl rfl (rc 0 rfl (lde zj [0] x zzh) (ral 1 [34] [.ptr 34 0,.rc zj [0] x] rfl (zfe (r:=zj) (b:=⟨34,71,[kS [],kN]⟩) (off:=0) (zag [0] x) rfl sizeOf71 rfl rfl rfl rfl) rfl rf))) (jb h fun rv uF h=>jr (rl 2 [0] 33 call89 (zDJ uF) rf) (jq [36] (jr (ra 0 [] rfl (zLe (rk:=wj) (r:=zi) (e:=154) 37 rfl) rfl rf) (jp (zp (jb h fun q uL h=>jl uL [0,2,6,7,11,31,32] [33,34] (fun s=>[(12,.mo wj zi 154 37 [] s.1),(33,kI s.2.1)]) (fun s=>[⟨36,27,[kN,.own Rp.str 9 41 [] s.2.2]⟩]) (fun o=> .X 0 [0,2,6,7,11] [33,34] [(12,.mo wj zi 154 37 [] o.1)] [⟨36,27,[kN,.own Rp.str 9 41 [] o.2]⟩]) ?_ lw ?_)))))))
 ·clear h;intro s o h;obtain ⟨wW,v,f⟩:=s;replace h:zcP b rv wW v f=some o:=h;unfold zcP at h;refine jp (jI h ?_ ?_)<;>intro uE h
  ·refine zp (jb h fun x2 uQ h=>jr (ra 0 [.own zi 154 35 [] rv.1,kI v] rfl (zxo rfl znz.el (zkS _ _ _ _ _) uQ) rfl (rc 0 rfl (lde zi [35] x2 zpD) (rfl' [42]))) (jp (jI h ?_ ?_)))<;>intro uH h
   ·refine jb h fun v2 uY h=>jb h fun v3 uU h=>jd [0,2,6,7,11,12,31,32,33] [33,34,36] zeY (by exact (lwn 9 (ly [.sl Rp.byte [0] b,kI x2.Record.From,kI x2.Record.To] (ziK (some (kI x2.Record.From)) (some (kI x2.Record.To)) rfl zej.el (zcZ _ _ _) ⟨rfl,rfl⟩ ⟨rfl,rfl⟩ uY) rfl (ly [.sl Rp.byte [0] v2] (zBd rfl underlying35 underlying5 underlying9 (zcZ _ _ _)) rfl (lx (zfI [kS v2] 43 [] ([v2]:(List Str)) rfl zjY rfl rfl rfl rfl) (ly [.own Rp.str 9 41 [] f,.own Rp.str 9 43 [] ([v2]:(List Str))] (zF.withBx (zEE 41 [] rfl zjY.el rfl (zuj _ _ _ _ _) (zkS _ _ _ _ _) uU (.inl zuv) rfl) ⟨36,27,[kN,.own Rp.str 9 41 [] f]⟩ rfl rfl) rfl (lw_e (ly [.ptr 36 1,.own Rp.str 9 41 [] v3] (zEH (b:=⟨36,27,[kN,.any]⟩) (off:=1) rfl sizeOf25 rfl rfl rfl) rfl l0)))))))) (zKT _ rfl ?_);cases h;exact jy
   refine jb h fun v4 vf h=>jk [0,2,6,7,11,12,14,31,32,33,39] [33,34,36,42] (zsR ⟨[(0,.sl zj [0] sv),(2,.sl Rp.byte [0] b),(6,.ptr 33 0),(7,.ptr 34 0),(11,.ptr 36 0),(12,.mo wj zi 154 37 [] (mput wW x2.Record.Number v4)),(31,.own zi 154 35 [] rv.1),(32,kI (rv.1.length:Int)),(33,kI v)],[⟨33,27,[kN,kN]⟩,⟨34,71,(zag [0] x)⟩,⟨36,27,[kN,.own Rp.str 9 41 [] f]⟩]⟩ [.raw [15] [] [] [.ms 54 37],.ev,.ev,.ev,.raw [19] [] [] [.ms 58 37],.ev,.ev,.ev,.raw [3,13,0] [] [] [.lk 62 wj zi 154 37 [] wW x2.Record.Number],.ex [42] [] [] (.rc zi [] x2) [],.ex [] [] [44] (.own zi 154 44 [] ([x2]:(List zh))) [],.raw [2,0] [37] [] [.ap 65 wj zi 154 37 [] wW x2.Record.Number v4],.raw [0,10,7,25] [37] [] [.sl 12 (.mo wj zi 154 37 [] (mput wW x2.Record.Number v4))]] [⟨[],[],[.ms 12 37]⟩,⟨[],[],[.ms 12 37]⟩,⟨[],[],[.ms 58 37,.sl 12 (.mo wj zi 154 37 [] wW),.sl 61 (kI x2.Record.Number)]⟩,⟨[(.tmp 14,.ptr 42 0)],[⟨42,154,(zcV x2)⟩],[]⟩,⟨[(.tmp 63,.rc zi [] x2)],[],[]⟩,⟨[],[],[.lk 62 wj zi 154 37 [] wW x2.Record.Number,.sl 64 (.own zi 154 44 [] ([x2]:(List zh)))]⟩,⟨[],[],[.ap 65 wj zi 154 37 [] wW x2.Record.Number v4,.ms 54 37,.sl 57 (kI x2.Record.Number),.ms 12 37]⟩] [0,2,6,7,11,12,31,32,33] [33,34,36] zeY (by kernel_rfl) (by exact (lw_r (zJI 12 54 37 (.inl rfl) rfl) (lwn 3 (lw_r (zJI 12 58 37 (.inl rfl) rfl) (lwn 3 (lw_r (zNb (z:= .tmp 61) 12 58 62 rfl rfl zBg (zdE rfl rfl) trivial) (lw_x (zrI (zEG (r:=zi) (b:=⟨42,154,(zcV x2)⟩) x2 [] rfl zpD rfl rfl) rfl) (lw_x (zrI (lbs1 44 [] x2 znz) rfl) (lw_r (zNa (y:= .tmp 64) [] 62 65 rfl rfl znz.el rfl (zkS _ _ _ _ _) trivial vf (.inl zjC) rfl) (lw_r (zLr (z:= .tmp 57) 65 54 [12] rfl rfl zBg (zdE rfl rfl) trivial rfl) lw_0)))))))))) (zan ?_));cases h;exact jy
  cases h;exact zaC rfl lzz
 refine zaX _ rfl (jb h fun v5 vn h=>jr (rkl 1 [] ⟨[(0,.sl zj [0] sv),(2,.sl Rp.byte [0] b),(6,.ptr 33 0),(7,.ptr 34 0),(11,.ptr 36 0),(12,.mo wj zi 154 37 [] q.1),(67,.mo wj zi 154 37 [] q.1)],[⟨33,27,[kN,kN]⟩,⟨34,71,(zag [0] x)⟩,⟨36,27,[kN,.own Rp.str 9 41 [] q.2]⟩]⟩ (zxS (rv:=(Rp.list zi)) (m:=q.1) 45 zLw rfl rfl rfl rfl rfl rfl call91 call90 rfl (zAW _ _ _ _ _ _) vn rfl rf)) (zp (jb h fun q2 uX h=>jl uX [0,2,6,7,11,12,69,70] [33,34] (fun s=>[(71,kI s.1)]) (fun s=>[⟨36,27,[.own zd 51 54 [46] s.2,.own Rp.str 9 41 [] q.2]⟩]) (fun o=> .X 2 [6,11] [33] [] [⟨36,27,[.own zd 51 54 [46] o,.own Rp.str 9 41 [] q.2]⟩]) ?_ lw ?_)))
 ·clear h;intro s o h;obtain ⟨v6,f3⟩:=s;replace h:zcQ b q xh sv v5 x v6 f3=some o:=h;unfold zcQ at h;refine jp (jI h ?_ ?_)<;>intro uJ h
  ·refine zp (jb h fun x3 va h=>jr (ra 0 [.own wj 3 45 [] v5,kI v6] rfl (zxo rfl zKy.el (zkS _ _ _ _ _) va) rfl rf) (jr (ra 2 [.mo wj zi 154 37 [] q.1,kI x3] rfl (zGb (rk:=wj) (rv:=(Rp.list zi)) (m:=q.1) (k:=x3) (.sl zi [37] ((mget q.1 x3).getD [])) rfl zBg (zAW _ _ _ _ _ _) (zdE rfl rfl) (zKK _ _ _)) rfl rf) (jb h fun x4 ve h=>jb h fun x5 vi h=>jb h fun wu uK h=>jd [0,2,6,7,11,12,18,69,70,71] [33,34,36,67] zeY (by exact (lwn 4 (di [37] znz.el ve (lwn 2 (di [0] zqJ.el vi (lx (lde zf [0] x5 zpE) (lwn 2 (lx (lf1 92 (lcd [.sl zj [0] sv,.rc zf [0] x5,.sl Rp.byte [0] b,.sl zi [37] ((mget q.1 x3).getD [])] 60 call92 (vN uK))) (lx (znS 67 [kI 0,kN,kN,kN] rfl zeroValue51 rfl) (lx (stw ⟨67,51,[kI 0,kN,kN,kN]⟩ 0 (zA 63 [] 64 [] 65 [66] wu) sizeOf51) l0)))))))))) (jb h fun wy uP h=>jr (rc 1 rfl (lcz [.ag (zA 63 [] 64 [] 65 [66] wu)] 66 call93 (zlb uP) (.c (zG _) .n)) rf) (jI h ?_ ?_)))))<;>intro uO h
   ·refine jb h fun v7 wc h=>jr (rc 3 rfl (zF.lw (lbs1 68 [63,64,65,66] wu zjX) (.l (zlB zd [63,64,65,66] wu (zA 63 [] 64 [] 65 [66] wu) (by rw [zG]<;>rfl) rfl))) (rc 0 rfl (lao 54 [46] 51 68 [63,64,65,66] [46,68,63,64,65,66] zjX.el wc (.inr rfl)) rf)) (zan (jp ?_));cases h;exact zbj (lks [33,34,36] [(68,46),(63,46),(64,46),(65,46),(66,46)] lw)
   refine zan ?_;cases h;exact jy
  cases h;exact zaC rfl lzz
 refine zaX _ rfl (jp ?_);cases h;exact zB (lks [33] [(33,2),(54,3),(41,5),(46,4)] lzz)
theorem zyS (vL:∀{sv:(List ze)} {uI:Int} {b:(List UInt8)} {r:zb},xg sv uI b=some r->wo 57 [.sl zj [0] sv,kI uI,.sl Rp.byte [0] b] [.ag (zr 3 [4] 5 [] r)]) (vM:∀{sv:(List ze)} {f:zc} {b:(List UInt8)} {l:(List zh)} {r:(List zb)},xu sv f b l=some r->wo 127 [.sl zj [0] sv,.rc zf [0] f,.sl Rp.byte [0] b,.sl zi [0] l] [.own zg 27 2 [3] r]) (vN:∀{sv:(List ze)} {f:zc} {b:(List UInt8)} {l:(List zh)} {r:za},xh sv f b l=some r->wo 92 [.sl zj [0] sv,.rc zf [0] f,.sl Rp.byte [0] b,.sl zi [0] l] [.ag (zA 3 [] 4 [] 5 [6] r)]) (h:zjj xg xu xh sv f b l=some r):wo 127 [.sl zj [0] sv,.rc zf [0] f,.sl Rp.byte [0] b,.sl zi [0] l] [.own zg 27 2 [3] r]:=by
 refine fi 68 func127 fun Xt=>?_
 unfold zjj at h;refine jq [21] (jb h fun v uS h=>jr (ra 2 [kI (l.length:Int),kI (l.length:Int)] rfl (zqU 22 rfl zot rfl uS) rfl rf) (jp (zp (jb h fun q uL h=>jL uL [0,2,5,18,19] [21] (fun s=>[(9,.own (Rp.list Rp.byte) 35 22 [0] s.1),(20,kI s.2)]) (fun o=> .X 0 [0,5] [21] [(9,.own (Rp.list Rp.byte) 35 22 [0] o)] []) ?_ lw ?_))))
 ·clear h;intro s o h;obtain ⟨pieces,v2⟩:=s;replace h:zfi b l pieces v2=some o:=h;unfold zfi at h;refine jp (jI h ?_ ?_)<;>intro uE h
  ·refine zp (jb h fun x uN h=>jr (rx 1 [0] znz.el uN rfl rfl (rc 0 rfl (lde zi [0] x zpD) (rfl' [24]))) (jb h fun v3 uU h=>jb h fun x2 uQ h=>jr (ra 9 [.sl Rp.byte [0] b,kI x.Record.At,kI x.Record.To] rfl (ziK (some (kI x.Record.At)) (some (kI x.Record.To)) rfl zej.el (zcZ _ _ _) ⟨rfl,rfl⟩ ⟨rfl,rfl⟩ uU) rfl (ra 0 [.own (Rp.list Rp.byte) 35 22 [0] pieces,kI v2] rfl (zoM rfl zot.el uQ) rfl (rkl 0 [] ⟨[(0,.sl zj [0] sv),(2,.sl Rp.byte [0] b),(5,.ptr 21 0),(9,.own (Rp.list Rp.byte) 35 22 [0] pieces),(18,.sl zi [0] l),(19,kI (l.length:Int)),(20,kI v2),(34,.sl Rp.byte [0] v3),(35,.ptr 22 (Int.toNat v2*(Rp.list Rp.byte).size))],[⟨21,47,(zbi f)⟩]⟩ (zBr (r:=(Rp.list Rp.byte)) (e:=35) (C:=[0]) (xs:=pieces) [9] (Int.toNat v2) 0 x2 v3 [0] rfl rfl rfl rfl rfl rfl sizeOf35 rfl (by kernel_rfl) rfl (zoI uQ) rfl (zrl rfl _) rfl rf)))) (zan ?_)));cases h;exact jy
  cases h;exact zaC rfl lzz
 refine zaX _ rfl (jg [0,5,9] [21] [(44,kB ((!f.Repeated)&&(decide ((q.length:Int)>1))))] ?_ ?_)
 ·refine (rsl 4 [] 40 (!f.Repeated) ?_ ?_)<;>intro uH
  · exact (rbl [] 44 (decide ((q.length:Int)>1)) rfl (by grind))
  exact (rbl [] 44 false rfl (by grind))
 refine jb h fun p vc h=>jn (.N [0,5] [21] [(9,.own (Rp.list Rp.byte) 35 26 [25,0] p)] []) ?_ ?_
 ·replace h:=vc;refine jI h ?_ ?_<;>intro uJ h
  ·refine jb h fun rv uF h=>jr (rl 1 [22,0] 25 call66 (zcp uF) (rc 0 rfl (zfI [.own Rp.byte 5 27 [] rv] 28 [27] ([rv]:(List (List UInt8))) rfl zot rfl rfl rfl rfl) rf)) ?_;cases h;exact zbj (lks [21] [(28,26),(27,25)] lw)
  cases h;exact zbj (lks [21] [(22,26)] lw)
 refine zll (jb h fun v5 vn h=>jr (ra 2 [kI (p.length:Int),kI (p.length:Int)] rfl (zqU 29 rfl zjm rfl vn) rfl rf) (jp (zp (jb h fun q2 uX h=>jL uX [0,5,51,52] [21] (fun s=>[(12,.own zg 27 29 [30] s.1),(53,kI s.2)]) (fun o=> .x 2 ⟨[(12,.own zg 27 29 [30] o)],[]⟩) ?_ lw ?_))))
 ·clear h;intro s o h;obtain ⟨all,v6⟩:=s;replace h:zfj f p xg sv all v6=some o:=h;unfold zfj at h;refine jp (jI h ?_ ?_)<;>intro uO h
  ·refine zp (jb h fun x3 va h=>jr (ra 1 [.own (Rp.list Rp.byte) 35 26 [25,0] p,kI v6] rfl (zxo rfl zot.el (zkS _ _ _ _ _) va) rfl (rc 0 rfl (ldl (Rp.list Rp.byte) [26,25,0] x3 0 Rp.byte x3) rf)) (jb h fun wu uK h=>jb h fun x4 ve h=>jr (rl 6 [0,26,25] 37 call57 (vL uK) (ra 0 [.own zg 27 29 [30] all,kI v6] rfl (zoM rfl zjm.el ve) rfl (rkl 0 [] ⟨[(0,.sl zj [0] sv),(5,.ptr 21 0),(12,.own zg 27 29 [30] all),(51,.own (Rp.list Rp.byte) 35 26 [25,0] p),(52,kI (p.length:Int)),(53,kI v6),(64,.ag (zr 40 [41] 42 [] wu)),(65,.ptr 29 (Int.toNat v6*zg.size))],[⟨21,47,(zbi f)⟩]⟩ (zBr (r:=zg) (e:=27) (C:=[30]) (xs:=all) [12] (Int.toNat v6) 0 x4 wu [30,40,41,42] rfl rfl rfl rfl rfl rfl sizeOf27 rfl (by kernel_rfl) rfl (zoI ve) rfl (zrl (by rw [zaq]<;>rfl) _) rfl rf)))) (zan (jp ?_))));cases h;exact zbj (lks [21] [(40,30),(41,30),(42,30)] lw)
  cases h;exact zaC rfl lzz
 refine zaX _ rfl (jp ?_);obtain rfl:=(sj h);exact zB (lks [] [(29,2),(30,3)] lzz)
theorem zyn (vL:∀{sv:(List ze)} {uI:Int} {b:(List UInt8)} {r:zb},xg sv uI b=some r->wo 57 [.sl zj [0] sv,kI uI,.sl Rp.byte [0] b] [.ag (zr 3 [4] 5 [] r)]) (vM:∀{sv:(List ze)} {f:zc} {b:(List UInt8)} {l:(List zh)} {r:(List zb)},xu sv f b l=some r->wo 127 [.sl zj [0] sv,.rc zf [0] f,.sl Rp.byte [0] b,.sl zi [0] l] [.own zg 27 2 [3] r]) (vN:∀{sv:(List ze)} {f:zc} {b:(List UInt8)} {l:(List zh)} {r:za},xh sv f b l=some r->wo 92 [.sl zj [0] sv,.rc zf [0] f,.sl Rp.byte [0] b,.sl zi [0] l] [.ag (zA 3 [] 4 [] 5 [6] r)]) (h:zie xg xu xh sv f b l=some r):wo 92 [.sl zj [0] sv,.rc zf [0] f,.sl Rp.byte [0] b,.sl zi [0] l] [.ag (zA 3 [] 4 [] 5 [6] r)]:=by
 refine fj ⟨[(8,.ptr 2 0)],[⟨2,51,(zA 3 [] 4 [] 5 [6] r)⟩]⟩ 50 func92 ⟨⟨_,_,rfl,rfl,rfl,ziS⟩,trivial⟩ fun Xt=>?_
 unfold zie at h;refine jq [18,19] (jg [0,2,3,5,8] [18,19] [(17,kB ((!f.Repeated)&&(f.Kind !=17)))] ?_ ?_)
 ·refine (rsl 4 [] 13 (!f.Repeated) ?_ ?_)<;>intro uE
  · exact (rbl [] 17 (f.Kind !=17) rfl (by grind))
  exact (rbl [] 17 false rfl (by grind))
 refine jb h fun p vc h=>jn (.N [0,2,5,8] [18,19] [(3,.sl zi [0] p)] []) ?_ ?_
 ·replace h:=vc;refine jI h ?_ ?_<;>intro uH h
  ·refine jb h fun v2 uY h=>jr (ra 4 [.sl zi [0] l,kI (IntKind.i64.wrap ((l.length:Int) - 1))] rfl (ziK (some (kI (IntKind.i64.wrap ((l.length:Int) - 1)))) none rfl znz.el (zcZ _ _ _) ⟨rfl,rfl⟩ ⟨rfl,rfl⟩ uY) rfl rf) ?_;cases h;exact zbj lzz
  cases h;exact zbj lzz
 refine zll (jr (ra 2 [kI f.Number] rfl (zhW [kI f.Number] [kI f.Number,kN,kN,kN] rfl zDt rfl) rfl (rfl' [20])) (jp (zp (jp (jI h ?_ ?_)))))<;>intro uJ h
 ·refine jb h fun rv uF h=>jr (lb 1 zf [] f (rl 2 [0] 19 call127 (vM uF) rf)) (zan (jp ?_));cases h;exact zB (lks [19] [(19,2),(21,5),(22,6)] lw)
 refine jp (jb h fun p2 vk h=>jn (.N [2,3,5,8,9] [18,19,20] [(42,kB p2)] []) ?_ ?_)
 ·replace h:=vk;refine jI h ?_ ?_<;>intro uO h
  ·cases h;exact zbj lzz
  cases h;exact jy
 refine zll (jI h ?_ ?_)<;>intro uW h
 ·refine jb h fun wu uK h=>jr (rl 2 [0] 21 call128 (zyT uK) rf) (zan (jp ?_));cases h;exact zB (lks [19] [(19,2),(23,4)] lw)
 refine jb h fun wy uP h=>jr (rl 4 [0] 22 call129 (zyU uP) rf) (zan (jp ?_));cases h;exact zB (lks [19] [(19,2),(24,3)] lw)
theorem zle (uM:Nat):(∀{sv:(List ze)} {uI:Int} {b:(List UInt8)} {r:zb},zfh uM sv uI b=some r->wo 57 [.sl zj [0] sv,kI uI,.sl Rp.byte [0] b] [.ag (zr 3 [4] 5 [] r)])/\(∀{sv:(List ze)} {f:zc} {b:(List UInt8)} {l:(List zh)} {r:(List zb)},zro uM sv f b l=some r->wo 127 [.sl zj [0] sv,.rc zf [0] f,.sl Rp.byte [0] b,.sl zi [0] l] [.own zg 27 2 [3] r])/\(∀{sv:(List ze)} {f:zc} {b:(List UInt8)} {l:(List zh)} {r:za},zkw uM sv f b l=some r->wo 92 [.sl zj [0] sv,.rc zf [0] f,.sl Rp.byte [0] b,.sl zi [0] l] [.ag (zA 3 [] 4 [] 5 [6] r)]):=by
  induction uM with
  | zero=>exact ⟨fun h=>absurd h nofun,fun h=>absurd h nofun,fun h=>absurd h nofun⟩
  | succ uM ih=>exact ⟨fun h=>zuK (fun hh=>ih.1 hh) (fun hh=>ih.2.1 hh) (fun hh=>ih.2.2 hh) h,fun h=>zyS (fun hh=>ih.1 hh) (fun hh=>ih.2.1 hh) (fun hh=>ih.2.2 hh) h,fun h=>zyn (fun hh=>ih.1 hh) (fun hh=>ih.2.1 hh) (fun hh=>ih.2.2 hh) h⟩
theorem zvN (h:zfh uM sv uI b=some r):wo 57 [.sl zj [0] sv,kI uI,.sl Rp.byte [0] b] [.ag (zr 3 [4] 5 [] r)]:=(zle uM).1 h
theorem zsA (h:zhA uM x v v2=some r):wo 98 [.rc zg [0] x,.ep (Rp.list zj) [0] v 0,.ep wj [0] v2 0] [kB r]:=by
 refine fi 10 func98 fun Xt=>?_
 unfold zhA at h;refine jr (rc 0 rfl (lbx 11 [0] (zah [0] x)) rf) (jb h fun rv uF h=>jr (rc 0 rfl (ldl (Rp.list zj) [0] v 0 zj v) (rc 2 rfl (lw0 10 call63 (zrQ uF) (.k (.k (.l (zL [0] x))))) rf)) ?_);cases h;exact zB lzz
end Go.Proofs.YtkgohoggipdokaaGreat

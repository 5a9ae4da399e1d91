/-
  The Go functions do what the plain functions say. No condition.
-/
import Derived.Test.YtnckiilakdkklaaGreatx1G4
import Derived.Test.YtnckiilakdkklaaGreatx1Y
set_option autoImplicit true
set_option relaxedAutoImplicit true
namespace Go.Proofs.YtnckiilakdkklaaGreat
open Tryz
open Go Go.RowKit
set_option linter.unusedVariables false
set_option maxRecDepth 100000
set_option maxHeartbeats 3200000
theorem ztm (h:zia sv=some r):wj 61 [.sl zi [0] sv] [kB r]:=by
 refine fi 12 func61 fun Xt=>?_
 unfold zia at h;refine jp (jb h fun rv ui h=>jr (rl 1 [0] 9 call76 (ztl ui) (rfl' [11])) ?_);cases h;exact jz
theorem zyN (h:zmn m b uu=some r):wj 94 [.rc zi [0] m,.sl Rp.byte [0] b,kI uu] [.rc zg [] r.1,k8 r.2]:=by
 refine fj ⟨[(6,.ptr 2 0),(7,k8 r.2)],[⟨2,106,(zcb r.1)⟩]⟩ 15 func94 ⟨⟨_,_,rfl,rfl,rfl,rfl,zli⟩,rfl,trivial⟩ fun Xt=>?_
 unfold zmn at h;refine jr (ra 0 [.rc zi [0] m] rfl (zhT 13 (zK [0] m) [0] rfl rfl rfl rfl rfl) rfl (rfl' [14])) (jb h fun wo uo h=>jr (rc 3 rfl (zkh (rk:=zW) (rv:=zZ) 15 rfl) (rkl 0 [] ⟨[(6,.ptr 14 0),(8,.ag (zK [0] m)),(9,.sl Rp.byte [0] b),(10,kI uu),(11,.om zW zZ 15 [] ([]:(List (zM×zP))))],[⟨14,106,[kI 0,kI 0,kI 0,kI 0,kI 0,kI 0,kB false]⟩]⟩ (zla ⟨[(6,.ptr 14 0),(8,.ag (zK [0] m)),(9,.sl Rp.byte [0] b),(10,kI uu),(11,.om zW zZ 15 [0] wo.2.2)],[⟨14,106,[kI 0,kI 0,kI 0,kI 0,kI 0,kI 0,kB false]⟩]⟩ (znE.le (ins':=[(.tmp 8,.ag (zK [0] m)),(.tmp 9,.sl Rp.byte [0] b),(.tmp 10,kI uu),(.tmp 11,.om zW zZ 15 [] ([]:(List (zM×zP))))]) (zld (args:=[.tmp 8,.tmp 9,.tmp 10,.tmp 11]) [.rc zi [0] m,.sl Rp.byte [0] b,kI uu,.om zW zZ 15 [] ([]:(List (zM×zP)))] [(15,2)] [0] 15 [] rfl call67 (zry uo) rfl rfl (by kernel_rfl) rfl rfl rfl) ⟨⟨rfl,zgM zi [0] m (zK [0] m) rfl rfl⟩,⟨rfl,wk _⟩,⟨rfl,wk _⟩,⟨rfl,wk _⟩,trivial⟩) rfl (by kernel_rfl) (by kernel_rfl) ⟨⟨_,rfl,zv rfl⟩,⟨_,rfl,zv rfl⟩,⟨_,rfl,zv rfl⟩,⟨_,rfl,zv rfl⟩,⟨_,rfl,zhi 0 rfl⟩,trivial⟩ ⟨⟨_,rfl,rfl,rfl,⟨zv rfl,zv rfl,zv rfl,zv rfl,zv rfl,zv rfl,zv rfl,trivial⟩⟩,trivial⟩ rf))) ?_);cases h;exact zz (lks [14] [(14,2)] lzz)
theorem zpL (h:ziG k b=some r):wj 112 [kI k,.sl Rp.byte [0] b] [.fv 136 [.bp wh 3 913600 [] r.1,.bp (Rp.list Rp.byte) 24 913601 [0] r.2]]:=by
 refine fi 6 func112 fun Xt=>?_
 unfold ziG at h;refine jq [913600,913601] (jr (ra 0 [.ptr 913600 0,.ptr 913601 0] rfl (zHg (g:=136) [.tmp 2,.tmp 3] [⟨913600,3,[kI k]⟩,⟨913601,24,[.sl Rp.byte [0] b]⟩] [.bp wh 3 913600 [] k,.bp (Rp.list Rp.byte) 24 913601 [0] b] rfl ⟨⟨rfl,rfl,rfl,rfl⟩,⟨rfl,rfl,rfl,rfl⟩,trivial⟩ rfl) rfl rf) ?_);cases h;exact zz lzz
theorem ztb (h:zmm m b=some r):wj 51 [.rc zi [0] m,.sl Rp.byte [0] b] [.own zg 106 2 [] r.1,kI r.2.1,k8 r.2.2]:=by
 refine fi 36 func51 fun Xt=>?_
 unfold zmm at h;refine jr (ra 0 [.rc zi [0] m] rfl (zhT 19 (zK [0] m) [0] rfl rfl rfl rfl rfl) rfl rf) (jr (rc 0 rfl (zkh (rk:=zW) (rv:=zZ) 20 rfl) rf) (jp (zp (jb h fun q ul h=>jL ul [1,2] [19] (fun s=>[(4,.own zg 106 26 [] s.1),(7,.om zW zZ 20 [0] s.2.1),(8,kI s.2.2)]) (fun| (.inl v_)=> .x 0 ⟨[(4,.own zg 106 26 [] v_)],[]⟩| (.inr v_)=> .r ⟨[(4,kN),(5,kI v_.1),(6,k8 v_.2)],[]⟩) ?_ lw ?_))))
 ·clear h;intro s o h;obtain ⟨l,met,uu⟩:=s;replace h:zeh b m l met uu=some o:=h;unfold zeh at h;refine jp (jI h ?_ ?_)<;>intro uf h
  ·refine zp (jb h fun wo uo h=>jr (rkl 4 [] ⟨[(1,.sl Rp.byte [0] b),(2,.ptr 19 0),(4,.own zg 106 26 [] l),(7,.om zW zZ 20 [0] met),(8,kI uu),(17,.ag (zK [0] m)),(18,.sl Rp.byte [0] b),(19,kI uu),(20,.om zW zZ 20 [0] met)],[⟨19,65,(zK [0] m)⟩]⟩ (zla ⟨[(1,.sl Rp.byte [0] b),(2,.ptr 19 0),(4,.own zg 106 26 [] l),(7,.om zW zZ 20 [0] wo.2.2),(8,kI uu),(17,.ag (zK [0] m)),(18,.sl Rp.byte [0] b),(19,kI uu),(20,.om zW zZ 20 [0] wo.2.2)],[⟨19,65,(zK [0] m)⟩]⟩ (znE.le (ins':=[(.tmp 17,.ag (zK [0] m)),(.tmp 18,.sl Rp.byte [0] b),(.tmp 19,kI uu),(.tmp 20,.om zW zZ 20 [0] met)]) (zld (args:=[.tmp 17,.tmp 18,.tmp 19,.tmp 20]) [.rc zi [0] m,.sl Rp.byte [0] b,kI uu,.om zW zZ 20 [0] met] [(20,2)] [0] 26 [] rfl call67 (zry uo) rfl rfl (by kernel_rfl) rfl rfl rfl) ⟨⟨rfl,zgM zi [0] m (zK [0] m) rfl rfl⟩,⟨rfl,wk _⟩,⟨rfl,wk _⟩,⟨rfl,wk _⟩,trivial⟩) rfl (by kernel_rfl) (by kernel_rfl) ⟨⟨_,rfl,zv rfl⟩,⟨_,rfl,zv rfl⟩,⟨_,rfl,zv rfl⟩,⟨_,rfl,zhi 0 rfl⟩,⟨_,rfl,zv rfl⟩,⟨_,rfl,zv rfl⟩,⟨_,rfl,zv rfl⟩,⟨_,rfl,zv rfl⟩,⟨_,rfl,zhi 0 rfl⟩,trivial⟩ ⟨⟨_,rfl,rfl,rfl,⟨zv rfl,zv rfl,trivial⟩⟩,trivial⟩ (rfl' [29]))) (jp (jI h ?_ ?_)))<;>intro ug h
   ·cases h;exact jz'
   refine jb h fun v uG h=>jr (lb 1 zg [] wo.1 (rc 0 rfl (lbs1 30 [] wo.1 zjs) (rc 0 rfl (lao 26 [] 106 30 [] [] zjs.el uG (.inl zhV)) rf))) (jp (zJ ?_));cases h;exact zL lzz
  cases h;exact zad rfl lzz
 rcases q with u| u2
 ·refine zao _ rfl (jp ?_);cases h;exact zz (lks [] [(26,2)] lzz)
 cases h;exact zer lw
theorem zhl (h:zfR uz sv uv b d=some r):wj 13 [.sl zi [0] sv,kI uv,.sl Rp.byte [0] b,kI d] [kB r]:=by
 refine fi 21 func13 fun Xt=>?_
 unfold zfR at h;refine jp (jb h fun rv ui h=>jr (rl 4 [0] 9 call9 (zgl ui) rf) ?_);cases h;exact jz
theorem zwb (h:zkw sv uv d=some r):wj 41 [.sl zi [0] sv,kI uv,kI d] [k8 r]:=by
 refine fi 28 func41 fun Xt=>?_
 unfold zkw at h;refine jp (zp (jb h fun rv ui h=>jr (rl 1 [0] 9 call61 (ztm ui) rf) (jI h ?_ ?_)))<;>intro uf h
 ·cases h;exact jz
 refine jg [] [] [(11,kB ((decide (uv<0))|| ((decide (uv>=(sv.length:Int)))|| ((decide (d<0))|| (decide (d>64))))))] ?_ ?_
 ·refine (rsl 3 [] 14 (decide (uv<0)) ?_ ?_)<;>intro ug
  · exact (rbl [] 11 true rfl (by grind))
  refine (rsl 6 [] 20 (decide (uv>=(sv.length:Int))) ?_ ?_)<;>intro uj
  · exact (rbl [] 11 true rfl (by grind))
  refine (rsl 4 [] 24 (decide (d<0)) ?_ ?_)<;>intro uk
  · exact (rbl [] 11 true rfl (by grind))
  exact (rbl [] 11 (decide (d>64)) rfl (by grind))
 refine jI h ?_ ?_<;>intro uq h
 ·cases h;exact jz
 refine zJ ?_;cases h;exact jz
theorem zqq (h:zfY wv up uu tov=some r):zhO prog 81 [.ag [.sl zi [0] wv.s,.sl Rp.byte [0] wv.b,.om zm zg 2 [0] wv.met],kI up,kI uu,kI tov] [.rc zg [] r.1,k8 r.2.1] [.ag [.any,.any,.om zm zg 2 [0] r.2.2],.any,.any,.any]:=by
 refine zjJ (E:=⟨[(0,.ag [.any,.any,.om zm zg 2 [0] r.2.2]),(8,.ptr 3 0),(9,k8 r.2.1)],[⟨3,106,(zcb r.1)⟩]⟩) 67 [0] func81 rfl rfl rfl ⟨⟨_,_,rfl,rfl,rfl,rfl,zli⟩,rfl,trivial⟩ ⟨.inr ⟨rfl,rfl⟩,.inl rfl,.inl rfl,.inl rfl,trivial⟩ rfl (fun Xt old=>?_);refine zdt ?_;unfold zfY at h;refine jq [13,14] (jb h fun v uG h=>jr (ra 3 [.sl Rp.byte [0] wv.b,kI tov] rfl (zeD none (some (kI tov)) rfl zcr.el (zbq _ _ _) ⟨rfl,rfl⟩ ⟨rfl,rfl⟩ uG) rfl rf) (jb h fun rv ui h=>jr (rl 2 [0] 13 call83 (zow ui) (rfl' [15])) (jp (jI h ?_ ?_))))<;>intro uf h
 ·refine jr (rc 0 rfl (zQ (r:=zg) [] [] (⟨(⟨0,0,0,0,0⟩:zj),0,false⟩:zc) rfl zvo rfl rfl) rf) ?_;cases h;exact zgp (lks [14] [(14,3)] lw)
 refine jr (rc 5 rfl (zQ (r:=zm) [kI up,kI rv.1.Number,kI rv.1.Wire] [] (⟨up,rv.1.Number,rv.1.Wire⟩:zk) rfl zJg rfl rfl) (rfl' [16])) (jr (lb 2 zm [] (⟨up,rv.1.Number,rv.1.Wire⟩:zk) (ra 0 [.om zm zg 2 [0] wv.met,.rc zm [] (⟨up,rv.1.Number,rv.1.Wire⟩:zk)] rfl (zrT (rk:=zm) (rv:=zg) (m:=wv.met) (k:=(⟨up,rv.1.Number,rv.1.Wire⟩:zk)) (.rc zg [0] ((mget wv.met (⟨up,rv.1.Number,rv.1.Wire⟩:zk)).getD (⟨(⟨0,0,0,0,0⟩:zj),0,false⟩:zc))) rfl zCC (zcT rfl) (zxM rfl)) rfl (rfl' [17]))) (jp (jI h ?_ ?_)))<;>intro ug h
 ·refine jb h fun x ut h=>jb h fun wo uo h=>jr (rx 3 [0] zfZ.el ut rfl rfl (rc 0 rfl (lde zi [0] x zsC) (rl 2 [0] 16 call94 (zyN uo) rf))) (jp (jI h ?_ ?_))<;>intro uj h
  ·refine jr (rc 0 rfl (zQ (r:=zg) [] [] (⟨(⟨0,0,0,0,0⟩:zj),0,false⟩:zc) rfl zvo rfl rfl) rf) ?_;cases h;exact zgp (lks [14] [(14,3)] lw)
  refine jr (lb 2 zm [] (⟨up,rv.1.Number,rv.1.Wire⟩:zk) (lb 0 zg [] wo.1 (rms (C1:=[]) (D:=[]) 0 [] 2 [0] wv.met (⟨up,rv.1.Number,rv.1.Wire⟩:zk) wo.1 [0] zCC (zcT rfl) (zcT rfl) rf))) (jr (lb 0 zw [] rv.1 rf) (jr (lb 0 zg [] (⟨rv.1,wo.1.Field,wo.1.Run⟩:zc) rf) ?_));cases h;exact zgp (lks [14] [(14,3)] lw)
 refine jr (lb 0 zw [] rv.1 rf) (jr (lb 0 zg [] (⟨rv.1,((mget wv.met (⟨up,rv.1.Number,rv.1.Wire⟩:zk)).getD (⟨(⟨0,0,0,0,0⟩:zj),0,false⟩:zc)).Field,((mget wv.met (⟨up,rv.1.Number,rv.1.Wire⟩:zk)).getD (⟨(⟨0,0,0,0,0⟩:zj),0,false⟩:zc)).Run⟩:zc) rf) ?_);cases h;exact zgp (lks [14] [(14,3)] lw)
theorem zyp (h:zma k b=some r):wj 121 [kI k,.sl Rp.byte [0] b] [kI r.1,k8 r.2]:=by
 refine zwx (E:=⟨[(4,.ptr 2 0),(5,.ptr 3 0)],[⟨2,3,[kI r.1]⟩,⟨3,27,[k8 r.2]⟩]⟩) 20 func121 rfl rfl rfl ⟨⟨_,_,rfl,rfl,rfl,rfl⟩,⟨_,_,rfl,rfl,rfl,rfl⟩,trivial⟩ rfl rfl (fun Xt=>?_);refine zdt ?_;unfold zma at h;refine jq [13,14] (jq [15] (jb h fun rv ui h=>jr (rl 2 [0] 0 call112 (zpL ui) rf) (zp (jb h fun q ul h=>zoa (E':=⟨[(4,.ptr 13 0),(5,.ptr 14 0),(6,.ptr 15 0),(11,.fv 136 [.bp wh 3 913600 [] rv.1,.bp (Rp.list Rp.byte) 24 913601 [0] rv.2])],[⟨13,3,[kI 0]⟩,⟨14,27,[k8 0]⟩,⟨15,3,[kI 0]⟩]⟩) ?_ ?_))))
 · exact lzz
 refine zzu (it:=fun {σ:Type} (kf:Rnd σ ((List UInt8)×Int)) (sg:σ)=>zed rv.1 rv.2 kf sg) (zne rv.1 rv.2) [913600,913601] [4,5,6] [13,14,15] [(4,.ptr 13 0),(5,.ptr 14 0),(6,.ptr 15 0)] (fun s:Int=>[⟨13,3,[kI 0]⟩,⟨14,27,[k8 0]⟩,⟨15,3,[kI s]⟩]) (fun o:(Int×Int)=>[⟨13,3,[kI 0]⟩,⟨14,27,[k8 o.1]⟩,⟨15,3,[kI o.2]⟩]) (fun o:(Int×Int)=> .ret) (fun (s:Int) (x:((List UInt8)×Int))=>zeV s x.1 x.2) (fun (s:Int) (x:((List UInt8)×Int))=>⟨[(4,.ptr 13 0),(5,.ptr 14 0),(6,.ptr 15 0),(8,k8 x.2)],[⟨13,3,[kI 0]⟩,⟨14,27,[k8 0]⟩,⟨15,3,[kI s]⟩]⟩) rfl rfl call136 rfl rfl rfl rfl rfl rfl (fun _=>rfl) (fun o=>rfl) rfl rfl (fun _=>rfl) ?_ (fun _ _=>⟨rfl,rfl⟩) ?_ ul ?_
 ·clear h;intro Xr old f x;obtain ⟨x,x2⟩:=x;exact zdt (zoa (E':=⟨[(13,k8 x2),(12,.sl Rp.byte [0] x),(4,.ptr 13 0),(5,.ptr 14 0),(6,.ptr 15 0)],[⟨13,3,[kI 0]⟩,⟨14,27,[k8 0]⟩,⟨15,3,[kI f]⟩]⟩) (fun _ _ _ hs=>hs) jy)
 ·clear h;intro Xr old f x o h;obtain ⟨x,x2⟩:=x;refine zdt (zoa (E':=⟨[(4,.ptr 13 0),(5,.ptr 14 0),(6,.ptr 15 0),(8,k8 x2)],[⟨13,3,[kI 0]⟩,⟨14,27,[k8 0]⟩,⟨15,3,[kI f]⟩]⟩) (fun _ _ _ hs=>hs) ?_);replace h:zeV f x x2=some o:=h;unfold zeV at h;refine zp (jp (jI h ?_ ?_))<;>intro uf h
  ·refine jp ?_;cases h;exact zCm lzz
  refine jp (zJ ?_);cases h;exact zL lzz
 rcases q with u| j
 ·refine zoa (E':=⟨[(4,.ptr 13 0),(5,.ptr 14 0),(6,.ptr 15 0)],[⟨13,3,[kI 0]⟩,⟨14,27,[k8 0]⟩,⟨15,3,[kI u]⟩]⟩) (fun _ _ _ hs=>hs) (zJ (jp ?_));cases h;exact zz (lks [13,14] [(13,2),(14,3)] lzz)
 refine zoa (E':=⟨[(4,.ptr 13 0),(5,.ptr 14 0),(6,.ptr 15 0)],[⟨13,3,[kI 0]⟩,⟨14,27,[k8 j.1]⟩,⟨15,3,[kI j.2]⟩]⟩) (fun _ _ _ hs=>hs) ?_;cases h;exact zz (lks [13,14] [(13,2),(14,3)] lzz)
theorem zol (h:zhy m b=some r):wj 44 [.rc zi [0] m,.sl Rp.byte [0] b] [.own zg 106 2 [] r]:=by
 refine fi 16 func44 fun Xt=>?_
 unfold zhy at h;refine jr (ra 0 [.rc zi [0] m] rfl (zhT 13 (zK [0] m) [0] rfl rfl rfl rfl rfl) rfl rf) (jb h fun rv ui h=>jr (rl 2 [0] 12 call51 (ztb ui) rf) (jp ?_));cases h;exact zz (lks [] [(14,2)] lzz)
theorem zyq (h:zmb k b=some r):wj 88 [kI k,.sl Rp.byte [0] b] [.own wi 89 3 [] r.1,k8 r.2]:=by
 refine zwx (E:=⟨[(4,.ptr 2 0),(5,.ptr 4 0)],[⟨2,71,[.own wi 89 3 [] r.1]⟩,⟨4,27,[k8 r.2]⟩]⟩) 30 func88 rfl rfl rfl ⟨⟨_,_,rfl,rfl,rfl,rfl⟩,⟨_,_,rfl,rfl,rfl,rfl⟩,trivial⟩ rfl rfl (fun Xt=>?_);refine zdt ?_;unfold zmb at h;refine jq [18,19,20] (jq [21] (jb h fun rv ui h=>jr (rl 2 [0] 0 call112 (zpL ui) rf) (zp (jb h fun q ul h=>zoa (E':=⟨[(2,.ptr 18 0),(4,.ptr 19 0),(5,.ptr 20 0),(6,.ptr 21 0),(13,.fv 136 [.bp wh 3 913600 [] rv.1,.bp (Rp.list Rp.byte) 24 913601 [0] rv.2])],[⟨18,3,[kI k]⟩,⟨19,71,[kN]⟩,⟨20,27,[k8 0]⟩,⟨21,71,[.own wi 89 24 [] []]⟩]⟩) ?_ ?_))))
 · exact lw
 refine zzu (it:=fun {σ:Type} (kf:Rnd σ ((List UInt8)×Int)) (sg:σ)=>zed rv.1 rv.2 kf sg) (zne rv.1 rv.2) [913600,913601] [2,4,5,6] [18,19,20,21] [(2,.ptr 18 0),(4,.ptr 19 0),(5,.ptr 20 0),(6,.ptr 21 0)] (fun s:(List Int)=>[⟨18,3,[kI k]⟩,⟨19,71,[kN]⟩,⟨20,27,[k8 0]⟩,⟨21,71,[.own wi 89 24 [] s]⟩]) (fun o:(Int×(List Int))=>[⟨18,3,[kI k]⟩,⟨19,71,[kN]⟩,⟨20,27,[k8 o.1]⟩,⟨21,71,[.own wi 89 24 [] o.2]⟩]) (fun o:(Int×(List Int))=> .ret) (fun (s:(List Int)) (x:((List UInt8)×Int))=>zdH k s x.1 x.2) (fun (s:(List Int)) (x:((List UInt8)×Int))=>⟨[(2,.ptr 18 0),(4,.ptr 19 0),(5,.ptr 20 0),(6,.ptr 21 0),(7,.sl Rp.byte [0] x.1),(8,k8 x.2)],[⟨18,3,[kI k]⟩,⟨19,71,[kN]⟩,⟨20,27,[k8 0]⟩,⟨21,71,[.own wi 89 24 [] s]⟩]⟩) rfl rfl call136 rfl rfl rfl rfl rfl rfl (fun _=>rfl) (fun o=>rfl) rfl rfl (fun _=>rfl) ?_ (fun _ _=>⟨rfl,rfl⟩) ?_ ul ?_
 ·clear h;intro Xr old f x;obtain ⟨x,x2⟩:=x;exact zdt (zoa (E':=⟨[(15,k8 x2),(14,.sl Rp.byte [0] x),(2,.ptr 18 0),(4,.ptr 19 0),(5,.ptr 20 0),(6,.ptr 21 0)],[⟨18,3,[kI k]⟩,⟨19,71,[kN]⟩,⟨20,27,[k8 0]⟩,⟨21,71,[.own wi 89 24 [] f]⟩]⟩) (fun _ _ _ hs=>hs) (jp jy))
 ·clear h;intro Xr old f x o h;obtain ⟨x,x2⟩:=x;refine zdt (zoa (E':=⟨[(2,.ptr 18 0),(4,.ptr 19 0),(5,.ptr 20 0),(6,.ptr 21 0),(7,.sl Rp.byte [0] x),(8,k8 x2)],[⟨18,3,[kI k]⟩,⟨19,71,[kN]⟩,⟨20,27,[k8 0]⟩,⟨21,71,[.own wi 89 24 [] f]⟩]⟩) (fun _ _ _ hs=>hs) ?_);replace h:zdH k f x x2=some o:=h;unfold zdH at h;refine zp (jp (jI h ?_ ?_))<;>intro uf h
  ·refine jp ?_;cases h;exact zCm lzz
  refine jb h fun wo uo h=>jr (rl 2 [0] 23 call113 (zvh uo) rf) (jb h fun v uG h=>jr (rc 2 rfl (zdE [kU wo.1] 25 [] ([wo.1]:(List Int)) rfl zmq rfl rfl rfl rfl) (rc 0 rfl (lao 24 [] 89 25 [] [] zmq.el uG (.inl (zfu _))) rf)) (zJ ?_));cases h;exact zL lzz
 rcases q with u| j
 ·refine zoa (E':=⟨[(2,.ptr 18 0),(4,.ptr 19 0),(5,.ptr 20 0),(6,.ptr 21 0)],[⟨18,3,[kI k]⟩,⟨19,71,[kN]⟩,⟨20,27,[k8 0]⟩,⟨21,71,[.own wi 89 24 [] u]⟩]⟩) (fun _ _ _ hs=>hs) (zJ (jp ?_));cases h;exact zz (lks [19,20] [(19,2),(20,4),(24,3)] lzz)
 refine zoa (E':=⟨[(2,.ptr 18 0),(4,.ptr 19 0),(5,.ptr 20 0),(6,.ptr 21 0)],[⟨18,3,[kI k]⟩,⟨19,71,[kN]⟩,⟨20,27,[k8 j.1]⟩,⟨21,71,[.own wi 89 24 [] j.2]⟩]⟩) (fun _ _ _ hs=>hs) ?_;cases h;exact zz (lks [19,20] [(19,2),(20,4)] lw)
theorem zvz (h:zjl f isRun value=some r):wj 95 [.rc zf [0] f,kB isRun,.sl Rp.byte [0] value] [k8 r]:=by
 refine fi 32 func95 fun Xt=>?_
 unfold zjl at h;refine jq [11] (zp (jp (jI h ?_ ?_)))<;>intro uf h
 ·refine jb h fun rv ui h=>jr (rl 3 [0] 10 call121 (zyp ui) rf) ?_;cases h;exact jz
 refine jb h fun g uh h=>jg [3] [11] [(19,kB g)] ?_ ?_
 ·refine (rsI 4 23 uh ?_ ?_)<;>intro ug uh
  ·refine jb uh fun wo uo uh=>?_;cases uh;exact (rl 1 [0] 10 call122 (zyK uo) (rel [] lzz))
  cases uh;exact (rel [] lzz)
 refine jI h ?_ ?_<;>intro uj h
 ·cases h;exact jz
 refine jp (jI h ?_ ?_)<;>intro uk h
 ·cases h;exact jz
 refine zJ ?_;cases h;exact jz
theorem zqU (h:zgA m b=some r):wj 43 [.rc zi [0] m,.sl Rp.byte [0] b] [.om wh Rp.bool 2 [] r]:=by
 refine fi 45 func43 fun Xt=>?_
 unfold zgA at h;refine jr (ra 0 [.rc zi [0] m] rfl (zhT 13 (zK [0] m) [0] rfl rfl rfl rfl rfl) rfl rf) (jr (rc 0 rfl (zkh (rk:=wh) (rv:=Rp.bool) 14 rfl) rf) (jb h fun rv ui h=>jr (rl 2 [0] 13 call44 (zol ui) rf) (zp (jb h fun q ul h=>jL ul [2,11,12] [13] (fun s=>[(5,.om wh Rp.bool 14 [] s.1),(13,kI s.2)]) (fun o=> .x 0 ⟨[(5,.om wh Rp.bool 14 [] o)],[]⟩) ?_ lzz ?_))))
 ·clear h;intro s o h;obtain ⟨fields,v⟩:=s;replace h:zch m rv fields v=some o:=h;unfold zch at h;refine jp (jI h ?_ ?_)<;>intro uf h
  ·refine zp (jb h fun x ut h=>jr (ra 0 [.own zg 106 15 [] rv,kI v] rfl (zhw rfl zjs.el (zaS _ _ _ _ _) ut) rfl (rc 0 rfl (lde zg [15] x zli) (rfl' [17]))) (jb h fun g uh h=>jg [2,5,7,11,12,13] [13,17] [(39,kB g)] ?_ ?_))
   ·refine (rsI 4 20 uh ?_ ?_)<;>intro ug uh
    ·refine jb uh fun x2 uw uh=>(rx 4 [0] zif.el uw rfl rfl (rsI 5 30 uh ?_ ?_))<;>intro uj uh
     ·refine jb uh fun x3 uE uh=>?_;cases uh;exact (rx 4 [0] zif.el uE rfl rfl (rel [] lzz))
     cases uh;exact (rel [] lzz)
    cases uh;exact (rel [] lzz)
   refine jI h ?_ ?_<;>intro uk h
   ·refine jr (rms 3 [] 14 [] fields x.Field true [] zCB (zdw rfl rfl) (zdw rfl rfl) rf) (zJ ?_);cases h;exact jy
   refine zJ ?_;cases h;exact jy
  cases h;exact zad rfl lzz
 refine zao _ rfl (jp ?_);obtain rfl:=(sj h);exact zz (lks [] [(14,2)] lzz)
theorem zwa (h:zkv k b l=some r):wj 73 [kI k,.sl Rp.byte [0] b,.sl zg [0] l] [.own wi 89 2 [] r]:=by
 refine fi 36 func73 fun Xt=>?_
 unfold zkv at h;refine jp (jp (jp (zp (jb h fun q ul h=>jL ul [0,1,12,13] [] (fun s=>[(7,.own wi 89 20 [] s.1),(14,kI s.2)]) (fun o=> .x 0 ⟨[(7,.own wi 89 20 [] o)],[]⟩) ?_ lw ?_))))
 ·clear h;intro s o h;obtain ⟨all,v⟩:=s;replace h:zfh b k l all v=some o:=h;unfold zfh at h;refine jp (jI h ?_ ?_)<;>intro uf h
  ·refine zp (jb h fun x ut h=>jr (rx 0 [0] zjs.el ut rfl rfl (rc 0 rfl (lde zg [0] x zli) (rfl' [21]))) (jb h fun v2 uJ h=>jb h fun rv ui h=>jr (ra 8 [.sl Rp.byte [0] b,kI x.Record.At,kI x.Record.To] rfl (zeD (some (kI x.Record.At)) (some (kI x.Record.To)) rfl zcr.el (zbq _ _ _) ⟨rfl,rfl⟩ ⟨rfl,rfl⟩ uJ) rfl (rl 0 [0] 20 call88 (zyq ui) rf)) (jb h fun v3 uD h=>jr (rc 2 rfl (lao 20 [] 89 23 [] [] zmq.el uD (.inl (zfu _))) rf) (zJ ?_))));cases h;exact jy
  cases h;exact zad rfl lzz
 refine zao _ rfl (jp ?_);obtain rfl:=(sj h);exact zz (lks [] [(20,2)] lzz)
theorem zmV (vD:∀{wv:zae} {up:Int} {uu:Int} {tov:Int} {d:Int} {r:(zu×(List (zk×zc)))},xl wv up uu tov d=some r->zhO prog 66 [.ag [.sl zi [0] wv.s,.sl Rp.byte [0] wv.b,.om zm zg 2 [0] wv.met],kI up,kI uu,kI tov,kI d] [.rc zaj [] r.1] [.ag [.any,.any,.om zm zg 2 [0] r.2],.any,.any,.any,.any]) (vE:∀{wv:zae} {up:Int} {v:zc} {d:Int} {r:(zu×(List (zk×zc)))},xf wv up v d=some r->zhO prog 82 [.ag [.sl zi [0] wv.s,.sl Rp.byte [0] wv.b,.om zm zg 2 [0] wv.met],kI up,.rc zg [0] v,kI d] [.rc zaj [] r.1] [.ag [.any,.any,.om zm zg 2 [0] r.2],.any,.any,.any]) (h:zdM xl xf wv up uu tov d=some r):zhO prog 66 [.ag [.sl zi [0] wv.s,.sl Rp.byte [0] wv.b,.om zm zg 2 [0] wv.met],kI up,kI uu,kI tov,kI d] [.rc zaj [] r.1] [.ag [.any,.any,.om zm zg 2 [0] r.2],.any,.any,.any,.any]:=by
 refine zjJ (E:=⟨[(0,.ag [.any,.any,.om zm zg 2 [0] r.2]),(10,.ptr 3 0)],[⟨3,114,(ziu r.1)⟩]⟩) 49 [0] func66 rfl rfl rfl ⟨⟨_,_,rfl,rfl,rfl,rfl,zAD⟩,trivial⟩ ⟨.inr ⟨rfl,rfl⟩,.inl rfl,.inl rfl,.inl rfl,.inl rfl,trivial⟩ rfl (fun Xt old=>?_);refine zdt ?_;unfold zdM at h;refine jq [13,14] (jp (zp (jb h fun q ul h=>jl ul [1,3,4,5,10] [14] (fun s=>[(0,.ag [.sl zi [0] wv.s,.sl Rp.byte [0] wv.b,.om zm zg 2 [0] s.1]),(2,kI s.2.1),(11,kI s.2.2)]) (fun s=>[⟨13,138,[.sl zi [0] wv.s,.sl Rp.byte [0] wv.b,.om zm zg 2 [0] s.1]⟩]) (fun| (.inl v_)=> .X 0 [10] [14] [(0,.ag [.sl zi [0] wv.s,.sl Rp.byte [0] wv.b,.om zm zg 2 [0] v_.1]),(11,kI v_.2)] []| (.inr v_)=> .r ⟨[(0,.ag [.sl zi [0] wv.s,.sl Rp.byte [0] wv.b,.om zm zg 2 [0] v_.1]),(10,.ptr 14 0)],[⟨14,114,[kI v_.2.1,kI v_.2.2.1,k8 v_.2.2.2]⟩]⟩) ?_ lzz ?_)))
 ·clear h;intro s o h;obtain ⟨wv2,wM,vj⟩:=s;replace h:zaw d up xf tov wv wv2 wM vj=some o:=h;unfold zaw at h;refine jp (jI h ?_ ?_)<;>intro uf h
  ·refine zp (jb h fun wo uo h=>jr (rkl 4 [] ⟨[(0,.ag [.sl zi [0] wv.s,.sl Rp.byte [0] wv.b,.om zm zg 2 [0] wv2]),(1,kI up),(2,kI wM),(3,kI tov),(4,kI d),(5,.ptr 13 0),(10,.ptr 14 0),(11,kI vj),(19,.ag [.sl zi [0] wv.s,.sl Rp.byte [0] wv.b,.om zm zg 2 [0] wv2]),(20,kI up),(21,kI wM),(22,kI tov)],[⟨13,138,[.sl zi [0] wv.s,.sl Rp.byte [0] wv.b,.om zm zg 2 [0] wv2]⟩,⟨14,114,[kI 0,kI 0,k8 0]⟩]⟩ (zla ⟨[(0,.ag [.sl zi [0] wv.s,.sl Rp.byte [0] wv.b,.om zm zg 2 [0] wo.2.2]),(1,kI up),(2,kI wM),(3,kI tov),(4,kI d),(5,.ptr 13 0),(10,.ptr 14 0),(11,kI vj),(19,.ag [.sl zi [0] wv.s,.sl Rp.byte [0] wv.b,.om zm zg 2 [0] wo.2.2]),(20,kI up),(21,kI wM),(22,kI tov)],[⟨13,138,[.sl zi [0] wv.s,.sl Rp.byte [0] wv.b,.om zm zg 2 [0] wo.2.2]⟩,⟨14,114,[kI 0,kI 0,k8 0]⟩]⟩ (zld [.ag [.sl zi [0] wv.s,.sl Rp.byte [0] wv.b,.om zm zg 2 [0] wv2],kI up,kI wM,kI tov] [(2,2)] [0] 15 [] rfl call81 (zqq uo) rfl rfl (by kernel_rfl) rfl rfl rfl) rfl (by kernel_rfl) (by kernel_rfl) ⟨⟨_,rfl,zpN ⟨zv rfl,zv rfl,zhi 0 rfl,trivial⟩⟩,⟨_,rfl,zv rfl⟩,⟨_,rfl,zv rfl⟩,⟨_,rfl,zv rfl⟩,⟨_,rfl,zv rfl⟩,⟨_,rfl,zv rfl⟩,⟨_,rfl,zv rfl⟩,⟨_,rfl,zv rfl⟩,⟨_,rfl,zpN ⟨zv rfl,zv rfl,zhi 0 rfl,trivial⟩⟩,⟨_,rfl,zv rfl⟩,⟨_,rfl,zv rfl⟩,⟨_,rfl,zv rfl⟩,trivial⟩ ⟨⟨_,rfl,rfl,rfl,⟨zv rfl,zv rfl,zhi 0 rfl,trivial⟩⟩,⟨_,rfl,rfl,rfl,⟨zv rfl,zv rfl,zv rfl,trivial⟩⟩,trivial⟩ (rfl' [18]))) (jp (jI h ?_ ?_)))<;>intro ug h
   ·refine jr (rc 2 rfl (zQ (r:=zaj) [kI wM,k8 wo.2.1] [] (⟨0,wM,wo.2.1⟩:zu) rfl zsn rfl rfl) rf) ?_;cases h;exact zoS lzz
   refine jb h fun rv4 uM h=>jr (lb 2 zg [] wo.1 (rkl 1 [] ⟨[(0,.ag [.sl zi [0] wv.s,.sl Rp.byte [0] wv.b,.om zm zg 2 [0] wo.2.2]),(1,kI up),(3,kI tov),(4,kI d),(5,.ptr 13 0),(10,.ptr 14 0),(11,kI vj),(12,.ptr 18 0),(31,.ag [.sl zi [0] wv.s,.sl Rp.byte [0] wv.b,.om zm zg 2 [0] wo.2.2]),(32,kI up),(33,.rc zg [] wo.1),(34,kI d)],[⟨13,138,[.sl zi [0] wv.s,.sl Rp.byte [0] wv.b,.om zm zg 2 [0] wo.2.2]⟩,⟨14,114,[kI 0,kI 0,k8 0]⟩,⟨18,106,(zcb wo.1)⟩]⟩ (zla ⟨[(0,.ag [.sl zi [0] wv.s,.sl Rp.byte [0] wv.b,.om zm zg 2 [0] rv4.2]),(1,kI up),(3,kI tov),(4,kI d),(5,.ptr 13 0),(10,.ptr 14 0),(11,kI vj),(12,.ptr 18 0),(31,.ag [.sl zi [0] wv.s,.sl Rp.byte [0] wv.b,.om zm zg 2 [0] rv4.2]),(32,kI up),(33,.rc zg [] wo.1),(34,kI d)],[⟨13,138,[.sl zi [0] wv.s,.sl Rp.byte [0] wv.b,.om zm zg 2 [0] rv4.2]⟩,⟨14,114,[kI 0,kI 0,k8 0]⟩,⟨18,106,(zcb wo.1)⟩]⟩ (zld [.ag [.sl zi [0] wv.s,.sl Rp.byte [0] wv.b,.om zm zg 2 [0] wo.2.2],kI up,.rc zg [] wo.1,kI d] [(2,2)] [0] 18 [] rfl call82 (vE uM) rfl rfl (by kernel_rfl) rfl rfl rfl) rfl (by kernel_rfl) (by kernel_rfl) ⟨⟨_,rfl,zpN ⟨zv rfl,zv rfl,zhi 0 rfl,trivial⟩⟩,⟨_,rfl,zv rfl⟩,⟨_,rfl,zv rfl⟩,⟨_,rfl,zv rfl⟩,⟨_,rfl,zv rfl⟩,⟨_,rfl,zv rfl⟩,⟨_,rfl,zv rfl⟩,⟨_,rfl,zv rfl⟩,⟨_,rfl,zpN ⟨zv rfl,zv rfl,zhi 0 rfl,trivial⟩⟩,⟨_,rfl,zv rfl⟩,⟨_,rfl,zv rfl⟩,⟨_,rfl,zv rfl⟩,trivial⟩ ⟨⟨_,rfl,rfl,rfl,⟨zv rfl,zv rfl,zhi 0 rfl,trivial⟩⟩,⟨_,rfl,rfl,rfl,⟨zv rfl,zv rfl,zv rfl,trivial⟩⟩,⟨_,rfl,rfl,rfl,⟨zv rfl,zv rfl,zv rfl,zv rfl,zv rfl,zv rfl,zv rfl,trivial⟩⟩,trivial⟩ (rfl' [21])))) (jp (jI h ?_ ?_))<;>intro uj h
   ·refine jr (lb 0 zaj [] rv4.1 rf) ?_;cases h;exact zoS lzz
   refine jp (jp (zJ ?_));cases h;exact zL lzz
  cases h;exact zad rfl lzz
 rcases q with u| u2
 ·refine zao _ rfl (jr (rc 1 rfl (zQ (r:=zaj) [kI u.2] [] (⟨u.2,0,0⟩:zu) rfl zsn rfl rfl) rf) ?_);cases h;exact zgp (lks [14] [(14,3)] lw)
 cases h;exact zJD (lks [14] [(14,3)] lw)
theorem zoH (vD:∀{wv:zae} {up:Int} {uu:Int} {tov:Int} {d:Int} {r:(zu×(List (zk×zc)))},xl wv up uu tov d=some r->zhO prog 66 [.ag [.sl zi [0] wv.s,.sl Rp.byte [0] wv.b,.om zm zg 2 [0] wv.met],kI up,kI uu,kI tov,kI d] [.rc zaj [] r.1] [.ag [.any,.any,.om zm zg 2 [0] r.2],.any,.any,.any,.any]) (vE:∀{wv:zae} {up:Int} {v:zc} {d:Int} {r:(zu×(List (zk×zc)))},xf wv up v d=some r->zhO prog 82 [.ag [.sl zi [0] wv.s,.sl Rp.byte [0] wv.b,.om zm zg 2 [0] wv.met],kI up,.rc zg [0] v,kI d] [.rc zaj [] r.1] [.ag [.any,.any,.om zm zg 2 [0] r.2],.any,.any,.any]) (h:zew xl xf wv up v d=some r):zhO prog 82 [.ag [.sl zi [0] wv.s,.sl Rp.byte [0] wv.b,.om zm zg 2 [0] wv.met],kI up,.rc zg [0] v,kI d] [.rc zaj [] r.1] [.ag [.any,.any,.om zm zg 2 [0] r.2],.any,.any,.any]:=by
 refine zjJ (E:=⟨[(0,.ag [.any,.any,.om zm zg 2 [0] r.2]),(8,.ptr 3 0)],[⟨3,114,(ziu r.1)⟩]⟩) 71 [0] func82 rfl rfl rfl ⟨⟨_,_,rfl,rfl,rfl,rfl,zAD⟩,trivial⟩ ⟨.inr ⟨rfl,rfl⟩,.inl rfl,.inl rfl,.inl rfl,trivial⟩ rfl (fun Xt old=>?_);refine zdt ?_;unfold zew at h;refine jq [14,15,16] (jp (jI h ?_ ?_))<;>intro uf h
 ·refine jr (rc 0 rfl (zQ (r:=zaj) [] [] (⟨0,0,0⟩:zu) rfl zsn rfl rfl) rf) ?_;cases h;exact zgp (lks [16] [(16,3)] lw)
 refine jb h fun x ut h=>jb h fun x2 uw h=>jd [0,3,4,6,8,9] [14,15,16,17] zbo (by exact (lwn 3 (di [0] zfZ.el ut (lw_e (lx (ldl zi [0] x 1 zf x.Fields) (lwn 2 (di [0] zif.el uw (lx (lde zf [0] x2 znI) (lx (zkg 17 [kS [],kI 0,kI 0,kB false,kB false,kI 0] rfl zeroValue62 rfl) (ly [.ptr 17 0,.rc zf [0] x2] (zjp (r:=zf) (b:=⟨17,62,[kS [],kI 0,kI 0,kB false,kB false,kI 0]⟩) (off:=0) (zab x2) rfl sizeOf62 rfl rfl rfl rfl) rfl l0)))))))))) (jg [0,3,4,6,8,9] [14,15,16,17] [(32,kB ((x2.Kind==17)&&(decide (d>0))))] ?_ ?_)
 ·refine (rsl 4 [] 29 (x2.Kind==17) ?_ ?_)<;>intro ug
  · exact (rbl [] 32 (decide (d>0)) rfl (by grind))
  exact (rbl [] 32 false rfl (by grind))
 refine jI h ?_ ?_<;>intro uj h
 ·refine jb h fun wo uo h=>jr (rkl 11 [] ⟨[(0,.ag [.sl zi [0] wv.s,.sl Rp.byte [0] wv.b,.om zm zg 2 [0] wv.met]),(8,.ptr 16 0),(33,.ag [.sl zi [0] wv.s,.sl Rp.byte [0] wv.b,.om zm zg 2 [0] wv.met]),(35,kI x2.Of),(38,kI v.Record.At),(41,kI v.Record.To),(43,kI (IntKind.i64.wrap (d - 1)))],[⟨16,114,[kI 0,kI 0,k8 0]⟩]⟩ (zla ⟨[(0,.ag [.sl zi [0] wv.s,.sl Rp.byte [0] wv.b,.om zm zg 2 [0] wo.2]),(8,.ptr 16 0),(33,.ag [.sl zi [0] wv.s,.sl Rp.byte [0] wv.b,.om zm zg 2 [0] wo.2]),(35,kI x2.Of),(38,kI v.Record.At),(41,kI v.Record.To),(43,kI (IntKind.i64.wrap (d - 1)))],[⟨16,114,[kI 0,kI 0,k8 0]⟩]⟩ (zld [.ag [.sl zi [0] wv.s,.sl Rp.byte [0] wv.b,.om zm zg 2 [0] wv.met],kI x2.Of,kI v.Record.At,kI v.Record.To,kI (IntKind.i64.wrap (d - 1))] [(2,2)] [0] 17 [] rfl call66 (vD uo) rfl rfl (by kernel_rfl) rfl rfl rfl) rfl (by kernel_rfl) (by kernel_rfl) ⟨⟨_,rfl,zpN ⟨zv rfl,zv rfl,zhi 0 rfl,trivial⟩⟩,⟨_,rfl,zv rfl⟩,⟨_,rfl,zpN ⟨zv rfl,zv rfl,zhi 0 rfl,trivial⟩⟩,⟨_,rfl,zv rfl⟩,⟨_,rfl,zv rfl⟩,⟨_,rfl,zv rfl⟩,⟨_,rfl,zv rfl⟩,trivial⟩ ⟨⟨_,rfl,rfl,rfl,⟨zv rfl,zv rfl,zv rfl,trivial⟩⟩,trivial⟩ (rfl' [20]))) (jp (jr (lb 0 zaj [] (⟨(IntKind.i64.wrap (wo.1.depth+1)),wo.1.place,wo.1.e⟩:zu) rf) ?_));cases h;exact zgp (lks [16] [(16,3)] lw)
 refine jb h fun v3 uD h=>jb h fun wy uB h=>jd [0,6,8,11] [15,16] zbo (by exact (ly [.ptr 17 0] (zBi (r:=zf) (b:=⟨17,62,(zab x2)⟩) x2 [] rfl znI rfl rfl) rfl (lwn 10 (ly [.sl Rp.byte [0] wv.b,kI v.Record.At,kI v.Record.To] (zeD (some (kI v.Record.At)) (some (kI v.Record.To)) rfl zcr.el (zbq _ _ _) ⟨rfl,rfl⟩ ⟨rfl,rfl⟩ uD) rfl (lx (lf1 95 (lcd [.rc zf [] x2,kB v.Run,.sl Rp.byte [0] v3] 19 call95 (zvz uB))) l0))))) (jp (jI h ?_ ?_))<;>intro uk h
 ·refine jr (rc 4 rfl (zQ (r:=zaj) [kI v.Record.From,k8 wy] [] (⟨0,v.Record.From,wy⟩:zu) rfl zsn rfl rfl) rf) ?_;cases h;exact zgp (lks [16] [(16,3)] lw)
 refine jr (rc 0 rfl (zQ (r:=zaj) [] [] (⟨0,0,0⟩:zu) rfl zsn rfl rfl) rf) ?_;cases h;exact zgp (lks [16] [(16,3)] lw)
theorem zfQ (uz:Nat):(∀{wv:zae} {up:Int} {uu:Int} {tov:Int} {d:Int} {r:(zu×(List (zk×zc)))},zaB uz wv up uu tov d=some r->zhO prog 66 [.ag [.sl zi [0] wv.s,.sl Rp.byte [0] wv.b,.om zm zg 2 [0] wv.met],kI up,kI uu,kI tov,kI d] [.rc zaj [] r.1] [.ag [.any,.any,.om zm zg 2 [0] r.2],.any,.any,.any,.any])/\(∀{wv:zae} {up:Int} {v:zc} {d:Int} {r:(zu×(List (zk×zc)))},zdG uz wv up v d=some r->zhO prog 82 [.ag [.sl zi [0] wv.s,.sl Rp.byte [0] wv.b,.om zm zg 2 [0] wv.met],kI up,.rc zg [0] v,kI d] [.rc zaj [] r.1] [.ag [.any,.any,.om zm zg 2 [0] r.2],.any,.any,.any]):=by
  induction uz with
  | zero=>exact ⟨fun h=>absurd h nofun,fun h=>absurd h nofun⟩
  | succ uz ih=>exact ⟨fun h=>zmV (fun hh=>ih.1 hh) (fun hh=>ih.2 hh) h,fun h=>zoH (fun hh=>ih.1 hh) (fun hh=>ih.2 hh) h⟩
theorem znA (h:zaB uz wv up uu tov d=some r):zhO prog 66 [.ag [.sl zi [0] wv.s,.sl Rp.byte [0] wv.b,.om zm zg 2 [0] wv.met],kI up,kI uu,kI tov,kI d] [.rc zaj [] r.1] [.ag [.any,.any,.om zm zg 2 [0] r.2],.any,.any,.any,.any]:=(zfQ uz).1 h
theorem zsq (vt:∀{sv:(List ze)} {up:Int} {b:(List UInt8)} {r:zb},xb sv up b=some r->wj 29 [.sl zi [0] sv,kI up,.sl Rp.byte [0] b] [.ag (zY 3 [4] 5 [] r)]) (vu:∀{sv:(List ze)} {f:zd} {b:(List UInt8)} {l:(List zc)} {r:(List zb)},xk sv f b l=some r->wj 71 [.sl zi [0] sv,.rc zf [0] f,.sl Rp.byte [0] b,.sl zg [0] l] [.own zn 35 2 [3] r]) (vv:∀{sv:(List ze)} {f:zd} {b:(List UInt8)} {l:(List zc)} {r:za},xc sv f b l=some r->wj 54 [.sl zi [0] sv,.rc zf [0] f,.sl Rp.byte [0] b,.sl zg [0] l] [.ag (zR 3 [] 4 [] 5 [6] r)]) (h:zgE xb xk xc sv up b=some r):wj 29 [.sl zi [0] sv,kI up,.sl Rp.byte [0] b] [.ag (zY 3 [4] 5 [] r)]:=by
 refine fj ⟨[(6,.ptr 2 0)],[⟨2,35,(zY 3 [4] 5 [] r)⟩]⟩ 101 func29 ⟨⟨_,_,rfl,rfl,rfl,zBV⟩,trivial⟩ fun Xt=>?_
 unfold zgE at h;refine jq [33] (jb h fun x ut h=>jr (rx 2 [0] zfZ.el ut rfl rfl (rc 0 rfl (lde zi [0] x zsC) (ral 1 [34] [.ptr 34 0,.rc zi [0] x] rfl (zjp (r:=zi) (b:=⟨34,65,[kS [],kN]⟩) (off:=0) (zK [0] x) rfl sizeOf65 rfl rfl rfl rfl) rfl rf))) (jb h fun rv ui h=>jr (rl 2 [0] 33 call51 (ztb ui) rf) (jq [36] (jr (ra 0 [] rfl (zHh (rk:=wh) (r:=zg) (e:=106) 37 rfl) rfl rf) (jp (zp (jb h fun q ul h=>jl ul [0,2,6,7,11,31,32] [33,34] (fun s=>[(12,.mo wh zg 106 37 [] s.1),(33,kI s.2.1)]) (fun s=>[⟨36,35,[kN,.own Rp.str 9 41 [] s.2.2]⟩]) (fun o=> .X 0 [0,2,6,7,11] [33,34] [(12,.mo wh zg 106 37 [] o.1)] [⟨36,35,[kN,.own Rp.str 9 41 [] o.2]⟩]) ?_ lw ?_)))))))
 ·clear h;intro s o h;obtain ⟨known,v,f⟩:=s;replace h:zdn b rv known v f=some o:=h;unfold zdn at h;refine jp (jI h ?_ ?_)<;>intro uf h
  ·refine zp (jb h fun x2 uw h=>jr (ra 0 [.own zg 106 35 [] rv.1,kI v] rfl (zhw rfl zjs.el (zaS _ _ _ _ _) uw) rfl (rc 0 rfl (lde zg [35] x2 zli) (rfl' [42]))) (jp (jI h ?_ ?_)))<;>intro ug h
   ·refine jb h fun v2 uJ h=>jb h fun v3 uD h=>jd [0,2,6,7,11,12,31,32,33] [33,34,36] zbo (by exact (lwn 9 (ly [.sl Rp.byte [0] b,kI x2.Record.From,kI x2.Record.To] (zeD (some (kI x2.Record.From)) (some (kI x2.Record.To)) rfl zcr.el (zbq _ _ _) ⟨rfl,rfl⟩ ⟨rfl,rfl⟩ uJ) rfl (ly [.sl Rp.byte [0] v2] (zog rfl underlying24 underlying5 underlying9 (zbq _ _ _)) rfl (lx (zdE [kS v2] 43 [] ([v2]:(List Str)) rfl zhI rfl rfl rfl rfl) (ly [.own Rp.str 9 41 [] f,.own Rp.str 9 43 [] ([v2]:(List Str))] (zx.withBx (zof 41 [] rfl zhI.el rfl (zhs _ _ _ _ _) (zaS _ _ _ _ _) uD (.inl zhA) rfl) ⟨36,35,[kN,.own Rp.str 9 41 [] f]⟩ rfl rfl) rfl (lw_e (ly [.ptr 36 1,.own Rp.str 9 41 [] v3] (zoh (b:=⟨36,35,[kN,.any]⟩) (off:=1) rfl sizeOf33 rfl rfl rfl) rfl l0)))))))) (zCo _ rfl ?_);cases h;exact jy
   refine jb h fun v4 uX h=>jk [0,2,6,7,11,12,14,31,32,33,39] [33,34,36,42] (zCn ⟨[(0,.sl zi [0] sv),(2,.sl Rp.byte [0] b),(6,.ptr 33 0),(7,.ptr 34 0),(11,.ptr 36 0),(12,.mo wh zg 106 37 [] (mput known x2.Record.Number v4)),(31,.own zg 106 35 [] rv.1),(32,kI (rv.1.length:Int)),(33,kI v)],[⟨33,35,[kN,kN]⟩,⟨34,65,(zK [0] x)⟩,⟨36,35,[kN,.own Rp.str 9 41 [] f]⟩]⟩ [.raw [15] [] [] [.ms 54 37],.ev,.ev,.ev,.raw [19] [] [] [.ms 58 37],.ev,.ev,.ev,.raw [3,13,0] [] [] [.lk 62 wh zg 106 37 [] known x2.Record.Number],.ex [42] [] [] (.rc zg [] x2) [],.ex [] [] [44] (.own zg 106 44 [] ([x2]:(List zc))) [],.raw [2,0] [37] [] [.ap 65 wh zg 106 37 [] known x2.Record.Number v4],.raw [0,10,7,25] [37] [] [.sl 12 (.mo wh zg 106 37 [] (mput known x2.Record.Number v4))]] [⟨[],[],[.ms 12 37]⟩,⟨[],[],[.ms 12 37]⟩,⟨[],[],[.ms 58 37,.sl 12 (.mo wh zg 106 37 [] known),.sl 61 (kI x2.Record.Number)]⟩,⟨[(.tmp 14,.ptr 42 0)],[⟨42,106,(zcb x2)⟩],[]⟩,⟨[(.tmp 63,.rc zg [] x2)],[],[]⟩,⟨[],[],[.lk 62 wh zg 106 37 [] known x2.Record.Number,.sl 64 (.own zg 106 44 [] ([x2]:(List zc)))]⟩,⟨[],[],[.ap 65 wh zg 106 37 [] known x2.Record.Number v4,.ms 54 37,.sl 57 (kI x2.Record.Number),.ms 12 37]⟩] [0,2,6,7,11,12,31,32,33] [33,34,36] zbo (by kernel_rfl) (by exact (lw_r (zFD 12 54 37 (.inl rfl) rfl) (lwn 3 (lw_r (zFD 12 58 37 (.inl rfl) rfl) (lwn 3 (lw_r (zIV (z:= .tmp 61) 12 58 62 rfl rfl zyb (zdw rfl rfl) trivial) (lw_x (zIg (zBi (r:=zg) (b:=⟨42,106,(zcb x2)⟩) x2 [] rfl zli rfl rfl) rfl) (lw_x (zIg (lbs1 44 [] x2 zjs) rfl) (lw_r (zIU (y:= .tmp 64) [] 62 65 rfl rfl zjs.el rfl (zaS _ _ _ _ _) trivial uX (.inl zhV) rfl) (lw_r (zHq (z:= .tmp 57) 65 54 [12] rfl rfl zyb (zdw rfl rfl) trivial rfl) lw_0)))))))))) (zJ ?_));cases h;exact jy
  cases h;exact zad rfl lzz
 refine zao _ rfl (jb h fun v5 uV h=>jr (rkl 1 [] ⟨[(0,.sl zi [0] sv),(2,.sl Rp.byte [0] b),(6,.ptr 33 0),(7,.ptr 34 0),(11,.ptr 36 0),(12,.mo wh zg 106 37 [] q.1),(67,.mo wh zg 106 37 [] q.1)],[⟨33,35,[kN,kN]⟩,⟨34,65,(zK [0] x)⟩,⟨36,35,[kN,.own Rp.str 9 41 [] q.2]⟩]⟩ (zAc (rv:=(Rp.list zg)) (m:=q.1) 45 zHu rfl rfl rfl rfl rfl rfl call53 call52 rfl (zxT _ _ _ _ _ _) uV rfl rf)) (zp (jb h fun q2 uK h=>jl uK [0,2,6,7,11,12,69,70] [33,34] (fun s=>[(71,kI s.1)]) (fun s=>[⟨36,35,[.own zh 97 54 [46] s.2,.own Rp.str 9 41 [] q.2]⟩]) (fun o=> .X 2 [6,11] [33] [] [⟨36,35,[.own zh 97 54 [46] o,.own Rp.str 9 41 [] q.2]⟩]) ?_ lw ?_)))
 ·clear h;intro s o h;obtain ⟨v6,f3⟩:=s;replace h:zdo b q xc sv v5 x v6 f3=some o:=h;unfold zdo at h;refine jp (jI h ?_ ?_)<;>intro uj h
  ·refine zp (jb h fun x3 uE h=>jr (ra 0 [.own wh 3 45 [] v5,kI v6] rfl (zhw rfl zin.el (zaS _ _ _ _ _) uE) rfl rf) (jr (ra 2 [.mo wh zg 106 37 [] q.1,kI x3] rfl (zHe (rk:=wh) (rv:=(Rp.list zg)) (m:=q.1) (k:=x3) (.sl zg [37] ((mget q.1 x3).getD [])) rfl zyb (zxT _ _ _ _ _ _) (zdw rfl rfl) (zGM _ _ _)) rfl rf) (jb h fun x4 uL h=>jb h fun x5 uU h=>jb h fun wo uo h=>jd [0,2,6,7,11,12,18,69,70,71] [33,34,36,67] zbo (by exact (lwn 4 (di [37] zjs.el uL (lwn 2 (di [0] zif.el uU (lx (lde zf [0] x5 znI) (lwn 2 (lx (lf1 54 (lcd [.sl zi [0] sv,.rc zf [0] x5,.sl Rp.byte [0] b,.sl zg [37] ((mget q.1 x3).getD [])] 60 call54 (vv uo))) (lx (zkg 67 [kI 0,kN,kN,kN] rfl zeroValue97 rfl) (lx (stw ⟨67,97,[kI 0,kN,kN,kN]⟩ 0 (zR 63 [] 64 [] 65 [66] wo) sizeOf97) l0)))))))))) (jb h fun wy uB h=>jr (rc 1 rfl (lcz [.ag (zR 63 [] 64 [] 65 [66] wo)] 66 call55 (zoF uB) (.c (zI _) .n)) rf) (jI h ?_ ?_)))))<;>intro uk h
   ·refine jb h fun v7 vi h=>jr (rc 3 rfl (zx.lw (lbs1 68 [63,64,65,66] wo zGA) (.l (zgM zh [63,64,65,66] wo (zR 63 [] 64 [] 65 [66] wo) (by rw [zI]<;>rfl) rfl))) (rc 0 rfl (lao 54 [46] 97 68 [63,64,65,66] [46,68,63,64,65,66] zGA.el vi (.inr rfl)) rf)) (zJ (jp ?_));cases h;exact zL (lks [33,34,36] [(68,46),(63,46),(64,46),(65,46),(66,46)] lw)
   refine zJ ?_;cases h;exact jy
  cases h;exact zad rfl lzz
 refine zao _ rfl (jp ?_);cases h;exact zz (lks [33] [(33,2),(54,3),(41,5),(46,4)] lzz)
theorem zvY (vt:∀{sv:(List ze)} {up:Int} {b:(List UInt8)} {r:zb},xb sv up b=some r->wj 29 [.sl zi [0] sv,kI up,.sl Rp.byte [0] b] [.ag (zY 3 [4] 5 [] r)]) (vu:∀{sv:(List ze)} {f:zd} {b:(List UInt8)} {l:(List zc)} {r:(List zb)},xk sv f b l=some r->wj 71 [.sl zi [0] sv,.rc zf [0] f,.sl Rp.byte [0] b,.sl zg [0] l] [.own zn 35 2 [3] r]) (vv:∀{sv:(List ze)} {f:zd} {b:(List UInt8)} {l:(List zc)} {r:za},xc sv f b l=some r->wj 54 [.sl zi [0] sv,.rc zf [0] f,.sl Rp.byte [0] b,.sl zg [0] l] [.ag (zR 3 [] 4 [] 5 [6] r)]) (h:zhF xb xk xc sv f b l=some r):wj 71 [.sl zi [0] sv,.rc zf [0] f,.sl Rp.byte [0] b,.sl zg [0] l] [.own zn 35 2 [3] r]:=by
 refine fi 68 func71 fun Xt=>?_
 unfold zhF at h;refine jq [21] (jb h fun v uG h=>jr (ra 2 [kI (l.length:Int),kI (l.length:Int)] rfl (zya 22 rfl zvK rfl uG) rfl rf) (jp (zp (jb h fun q ul h=>jL ul [0,2,5,18,19] [21] (fun s=>[(9,.own (Rp.list Rp.byte) 24 22 [0] s.1),(20,kI s.2)]) (fun o=> .X 0 [0,5] [21] [(9,.own (Rp.list Rp.byte) 24 22 [0] o)] []) ?_ lw ?_))))
 ·clear h;intro s o h;obtain ⟨pieces,v2⟩:=s;replace h:zfO b l pieces v2=some o:=h;unfold zfO at h;refine jp (jI h ?_ ?_)<;>intro uf h
  ·refine zp (jb h fun x ut h=>jr (rx 1 [0] zjs.el ut rfl rfl (rc 0 rfl (lde zg [0] x zli) (rfl' [24]))) (jb h fun v3 uD h=>jb h fun x2 uw h=>jr (ra 9 [.sl Rp.byte [0] b,kI x.Record.At,kI x.Record.To] rfl (zeD (some (kI x.Record.At)) (some (kI x.Record.To)) rfl zcr.el (zbq _ _ _) ⟨rfl,rfl⟩ ⟨rfl,rfl⟩ uD) rfl (ra 0 [.own (Rp.list Rp.byte) 24 22 [0] pieces,kI v2] rfl (zBh rfl zvK.el uw) rfl (rkl 0 [] ⟨[(0,.sl zi [0] sv),(2,.sl Rp.byte [0] b),(5,.ptr 21 0),(9,.own (Rp.list Rp.byte) 24 22 [0] pieces),(18,.sl zg [0] l),(19,kI (l.length:Int)),(20,kI v2),(34,.sl Rp.byte [0] v3),(35,.ptr 22 (Int.toNat v2*(Rp.list Rp.byte).size))],[⟨21,62,(zab f)⟩]⟩ (zBD (r:=(Rp.list Rp.byte)) (e:=24) (C:=[0]) (xs:=pieces) [9] (Int.toNat v2) 0 x2 v3 [0] rfl rfl rfl rfl rfl rfl sizeOf24 rfl (by kernel_rfl) rfl (zxS uw) rfl (zyu rfl _) rfl rf)))) (zJ ?_)));cases h;exact jy
  cases h;exact zad rfl lzz
 refine zao _ rfl (jg [0,5,9] [21] [(44,kB ((!f.Repeated)&&(decide ((q.length:Int)>1))))] ?_ ?_)
 ·refine (rsl 4 [] 40 (!f.Repeated) ?_ ?_)<;>intro ug
  · exact (rbl [] 44 (decide ((q.length:Int)>1)) rfl (by grind))
  exact (rbl [] 44 false rfl (by grind))
 refine jb h fun p uH h=>jn (.N [0,5] [21] [(9,.own (Rp.list Rp.byte) 24 26 [25,0] p)] []) ?_ ?_
 ·replace h:=uH;refine jI h ?_ ?_<;>intro uj h
  ·refine jb h fun rv ui h=>jr (rl 1 [22,0] 25 call25 (zfD ui) (rc 0 rfl (zdE [.own Rp.byte 5 27 [] rv] 28 [27] ([rv]:(List (List UInt8))) rfl zvK rfl rfl rfl rfl) rf)) ?_;cases h;exact zL (lks [21] [(28,26),(27,25)] lw)
  cases h;exact zL (lks [21] [(22,26)] lw)
 refine zcQ (jb h fun v5 uV h=>jr (ra 2 [kI (p.length:Int),kI (p.length:Int)] rfl (zya 29 rfl zGB rfl uV) rfl rf) (jp (zp (jb h fun q2 uK h=>jL uK [0,5,51,52] [21] (fun s=>[(12,.own zn 35 29 [30] s.1),(53,kI s.2)]) (fun o=> .x 2 ⟨[(12,.own zn 35 29 [30] o)],[]⟩) ?_ lw ?_))))
 ·clear h;intro s o h;obtain ⟨all,v6⟩:=s;replace h:zfP f p xb sv all v6=some o:=h;unfold zfP at h;refine jp (jI h ?_ ?_)<;>intro uk h
  ·refine zp (jb h fun x3 uE h=>jr (ra 1 [.own (Rp.list Rp.byte) 24 26 [25,0] p,kI v6] rfl (zhw rfl zvK.el (zaS _ _ _ _ _) uE) rfl (rc 0 rfl (ldl (Rp.list Rp.byte) [26,25,0] x3 0 Rp.byte x3) rf)) (jb h fun wo uo h=>jb h fun x4 uL h=>jr (rl 6 [0,26,25] 37 call29 (vt uo) (ra 0 [.own zn 35 29 [30] all,kI v6] rfl (zBh rfl zGB.el uL) rfl (rkl 0 [] ⟨[(0,.sl zi [0] sv),(5,.ptr 21 0),(12,.own zn 35 29 [30] all),(51,.own (Rp.list Rp.byte) 24 26 [25,0] p),(52,kI (p.length:Int)),(53,kI v6),(64,.ag (zY 40 [41] 42 [] wo)),(65,.ptr 29 (Int.toNat v6*zn.size))],[⟨21,62,(zab f)⟩]⟩ (zBD (r:=zn) (e:=35) (C:=[30]) (xs:=all) [12] (Int.toNat v6) 0 x4 wo [30,40,41,42] rfl rfl rfl rfl rfl rfl sizeOf35 rfl (by kernel_rfl) rfl (zxS uL) rfl (zyu (by rw [zT]<;>rfl) _) rfl rf)))) (zJ (jp ?_))));cases h;exact zL (lks [21] [(40,30),(41,30),(42,30)] lw)
  cases h;exact zad rfl lzz
 refine zao _ rfl (jp ?_);obtain rfl:=(sj h);exact zz (lks [] [(29,2),(30,3)] lzz)
theorem zvv (vt:∀{sv:(List ze)} {up:Int} {b:(List UInt8)} {r:zb},xb sv up b=some r->wj 29 [.sl zi [0] sv,kI up,.sl Rp.byte [0] b] [.ag (zY 3 [4] 5 [] r)]) (vu:∀{sv:(List ze)} {f:zd} {b:(List UInt8)} {l:(List zc)} {r:(List zb)},xk sv f b l=some r->wj 71 [.sl zi [0] sv,.rc zf [0] f,.sl Rp.byte [0] b,.sl zg [0] l] [.own zn 35 2 [3] r]) (vv:∀{sv:(List ze)} {f:zd} {b:(List UInt8)} {l:(List zc)} {r:za},xc sv f b l=some r->wj 54 [.sl zi [0] sv,.rc zf [0] f,.sl Rp.byte [0] b,.sl zg [0] l] [.ag (zR 3 [] 4 [] 5 [6] r)]) (h:zgT xb xk xc sv f b l=some r):wj 54 [.sl zi [0] sv,.rc zf [0] f,.sl Rp.byte [0] b,.sl zg [0] l] [.ag (zR 3 [] 4 [] 5 [6] r)]:=by
 refine fj ⟨[(8,.ptr 2 0)],[⟨2,97,(zR 3 [] 4 [] 5 [6] r)⟩]⟩ 50 func54 ⟨⟨_,_,rfl,rfl,rfl,zHP⟩,trivial⟩ fun Xt=>?_
 unfold zgT at h;refine jq [18,19] (jg [0,2,3,5,8] [18,19] [(17,kB ((!f.Repeated)&&(f.Kind !=17)))] ?_ ?_)
 ·refine (rsl 4 [] 13 (!f.Repeated) ?_ ?_)<;>intro uf
  · exact (rbl [] 17 (f.Kind !=17) rfl (by grind))
  exact (rbl [] 17 false rfl (by grind))
 refine jb h fun p uH h=>jn (.N [0,2,5,8] [18,19] [(3,.sl zg [0] p)] []) ?_ ?_
 ·replace h:=uH;refine jI h ?_ ?_<;>intro ug h
  ·refine jb h fun v2 uJ h=>jr (ra 4 [.sl zg [0] l,kI (IntKind.i64.wrap ((l.length:Int) - 1))] rfl (zeD (some (kI (IntKind.i64.wrap ((l.length:Int) - 1)))) none rfl zjs.el (zbq _ _ _) ⟨rfl,rfl⟩ ⟨rfl,rfl⟩ uJ) rfl rf) ?_;cases h;exact zL lzz
  cases h;exact zL lzz
 refine zcQ (jr (ra 2 [kI f.Number] rfl (zhv [kI f.Number] [kI f.Number,kN,kN,kN] rfl zJV rfl) rfl (rfl' [20])) (jp (zp (jp (jI h ?_ ?_)))))<;>intro uj h
 ·refine jb h fun rv ui h=>jr (lb 1 zf [] f (rl 2 [0] 19 call71 (vu ui) rf)) (zJ (jp ?_));cases h;exact zz (lks [19] [(19,2),(21,5),(22,6)] lw)
 refine jp (jb h fun p2 uR h=>jn (.N [2,3,5,8,9] [18,19,20] [(42,kB p2)] []) ?_ ?_)
 ·replace h:=uR;refine jI h ?_ ?_<;>intro uk h
  ·cases h;exact zL lzz
  cases h;exact jy
 refine zcQ (jI h ?_ ?_)<;>intro uq h
 ·refine jb h fun wo uo h=>jr (rl 2 [0] 21 call72 (zvZ uo) rf) (zJ (jp ?_));cases h;exact zz (lks [19] [(19,2),(23,4)] lw)
 refine jb h fun wy uB h=>jr (rl 4 [0] 22 call73 (zwa uB) rf) (zJ (jp ?_));cases h;exact zz (lks [19] [(19,2),(24,3)] lw)
theorem zjk (uz:Nat):(∀{sv:(List ze)} {up:Int} {b:(List UInt8)} {r:zb},zee uz sv up b=some r->wj 29 [.sl zi [0] sv,kI up,.sl Rp.byte [0] b] [.ag (zY 3 [4] 5 [] r)])/\(∀{sv:(List ze)} {f:zd} {b:(List UInt8)} {l:(List zc)} {r:(List zb)},zpk uz sv f b l=some r->wj 71 [.sl zi [0] sv,.rc zf [0] f,.sl Rp.byte [0] b,.sl zg [0] l] [.own zn 35 2 [3] r])/\(∀{sv:(List ze)} {f:zd} {b:(List UInt8)} {l:(List zc)} {r:za},ziJ uz sv f b l=some r->wj 54 [.sl zi [0] sv,.rc zf [0] f,.sl Rp.byte [0] b,.sl zg [0] l] [.ag (zR 3 [] 4 [] 5 [6] r)]):=by
  induction uz with
  | zero=>exact ⟨fun h=>absurd h nofun,fun h=>absurd h nofun,fun h=>absurd h nofun⟩
  | succ uz ih=>exact ⟨fun h=>zsq (fun hh=>ih.1 hh) (fun hh=>ih.2.1 hh) (fun hh=>ih.2.2 hh) h,fun h=>zvY (fun hh=>ih.1 hh) (fun hh=>ih.2.1 hh) (fun hh=>ih.2.2 hh) h,fun h=>zvv (fun hh=>ih.1 hh) (fun hh=>ih.2.1 hh) (fun hh=>ih.2.2 hh) h⟩
theorem ztn (h:zee uz sv up b=some r):wj 29 [.sl zi [0] sv,kI up,.sl Rp.byte [0] b] [.ag (zY 3 [4] 5 [] r)]:=(zjk uz).1 h
end Go.Proofs.YtnckiilakdkklaaGreat

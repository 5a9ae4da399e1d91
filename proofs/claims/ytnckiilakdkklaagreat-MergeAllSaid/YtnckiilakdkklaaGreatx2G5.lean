/-
  The Go functions do what the plain functions say. No condition.
-/
import Derived.Test.YtnckiilakdkklaaGreatx2G4
import Derived.Test.YtnckiilakdkklaaGreatx2Y
set_option autoImplicit true
set_option relaxedAutoImplicit true
namespace Go.Proofs.YtnckiilakdkklaaGreat
open Tryz
open Go Go.RowKit
set_option linter.unusedVariables false
set_option maxRecDepth 100000
set_option maxHeartbeats 3200000
theorem znY (h:zfn sv=some r):va 61 [.sl zf [0] sv] [kB r]:=by
 refine fi 12 func61 fun Xt=>?_
 unfold zfn at h;refine jp (jb h fun rv pE h=>jr (rl 1 [0] 9 call76 (znX pE) (rfl' [11])) ?_);cases h;exact jz
theorem zsJ (h:ziM m b pK=some r):va 94 [.rc zf [0] m,.sl Rp.byte [0] b,kI pK] [.rc ze [] r.1,k8 r.2]:=by
 refine fj ⟨[(6,.ptr 2 0),(7,k8 r.2)],[⟨2,106,(zcm r.1)⟩]⟩ 15 func94 ⟨⟨_,_,rfl,rfl,rfl,rfl,zoB⟩,rfl,trivial⟩ fun Xt=>?_
 unfold ziM at h;refine jr (ra 0 [.rc zf [0] m] rfl (zfH 13 (zC [0] m) [0] rfl rfl rfl rfl rfl) rfl (rfl' [14])) (jb h fun vc pI h=>jr (rc 3 rfl (zgY (rk:=zG) (rv:=zK) 15 rfl) (rkl 0 [] ⟨[(6,.ptr 14 0),(8,.ag (zC [0] m)),(9,.sl Rp.byte [0] b),(10,kI pK),(11,.om zG zK 15 [] ([]:(List (zz×zB))))],[⟨14,106,[kI 0,kI 0,kI 0,kI 0,kI 0,kI 0,kB false]⟩]⟩ (zhF ⟨[(6,.ptr 14 0),(8,.ag (zC [0] m)),(9,.sl Rp.byte [0] b),(10,kI pK),(11,.om zG zK 15 [0] vc.2.2)],[⟨14,106,[kI 0,kI 0,kI 0,kI 0,kI 0,kI 0,kB false]⟩]⟩ (zjM.le (ins':=[(.tmp 8,.ag (zC [0] m)),(.tmp 9,.sl Rp.byte [0] b),(.tmp 10,kI pK),(.tmp 11,.om zG zK 15 [] ([]:(List (zz×zB))))]) (zhH (args:=[.tmp 8,.tmp 9,.tmp 10,.tmp 11]) [.rc zf [0] m,.sl Rp.byte [0] b,kI pK,.om zG zK 15 [] ([]:(List (zz×zB)))] [(15,2)] [0] 15 [] rfl call67 (zmO pI) rfl rfl (by kernel_rfl) rfl rfl rfl) ⟨⟨rfl,zkJ zf [0] m (zC [0] m) rfl rfl⟩,⟨rfl,vb _⟩,⟨rfl,vb _⟩,⟨rfl,vb _⟩,trivial⟩) rfl (by kernel_rfl) (by kernel_rfl) ⟨⟨_,rfl,zp rfl⟩,⟨_,rfl,zp rfl⟩,⟨_,rfl,zp rfl⟩,⟨_,rfl,zp rfl⟩,⟨_,rfl,zeH 0 rfl⟩,trivial⟩ ⟨⟨_,rfl,rfl,rfl,⟨zp rfl,zp rfl,zp rfl,zp rfl,zp rfl,zp rfl,zp rfl,trivial⟩⟩,trivial⟩ rf))) ?_);cases h;exact zy (lks [14] [(14,2)] lzz)
theorem zqA (h:zjf k b=some r):va 112 [kI k,.sl Rp.byte [0] b] [.fv 136 [.bp u9 3 913600 [] r.1,.bp (Rp.list Rp.byte) 24 913601 [0] r.2]]:=by
 refine fi 6 func112 fun Xt=>?_
 unfold zjf at h;refine jq [913600,913601] (jr (ra 0 [.ptr 913600 0,.ptr 913601 0] rfl (zzP (g:=136) [.tmp 2,.tmp 3] [⟨913600,3,[kI k]⟩,⟨913601,24,[.sl Rp.byte [0] b]⟩] [.bp u9 3 913600 [] k,.bp (Rp.list Rp.byte) 24 913601 [0] b] rfl ⟨⟨rfl,rfl,rfl,rfl⟩,⟨rfl,rfl,rfl,rfl⟩,trivial⟩ rfl) rfl rf) ?_);cases h;exact zy lzz
theorem znR (h:ziL m b=some r):va 51 [.rc zf [0] m,.sl Rp.byte [0] b] [.own ze 106 2 [] r.1,kI r.2.1,k8 r.2.2]:=by
 refine fi 36 func51 fun Xt=>?_
 unfold ziL at h;refine jr (ra 0 [.rc zf [0] m] rfl (zfH 19 (zC [0] m) [0] rfl rfl rfl rfl rfl) rfl rf) (jr (rc 0 rfl (zgY (rk:=zG) (rv:=zK) 20 rfl) rf) (jp (zr (jb h fun q pL h=>jL pL [1,2] [19] (fun s=>[(4,.own ze 106 26 [] s.1),(7,.om zG zK 20 [0] s.2.1),(8,kI s.2.2)]) (fun| (.inl v_)=> .x 0 ⟨[(4,.own ze 106 26 [] v_)],[]⟩| (.inr v_)=> .r ⟨[(4,kN),(5,kI v_.1),(6,k8 v_.2)],[]⟩) ?_ lw ?_))))
 ·clear h;intro s o h;obtain ⟨l,met,pK⟩:=s;replace h:zcu b m l met pK=some o:=h;unfold zcu at h;refine jp (jI h ?_ ?_)<;>intro pA h
  ·refine zr (jb h fun vc pI h=>jr (rkl 4 [] ⟨[(1,.sl Rp.byte [0] b),(2,.ptr 19 0),(4,.own ze 106 26 [] l),(7,.om zG zK 20 [0] met),(8,kI pK),(17,.ag (zC [0] m)),(18,.sl Rp.byte [0] b),(19,kI pK),(20,.om zG zK 20 [0] met)],[⟨19,65,(zC [0] m)⟩]⟩ (zhF ⟨[(1,.sl Rp.byte [0] b),(2,.ptr 19 0),(4,.own ze 106 26 [] l),(7,.om zG zK 20 [0] vc.2.2),(8,kI pK),(17,.ag (zC [0] m)),(18,.sl Rp.byte [0] b),(19,kI pK),(20,.om zG zK 20 [0] vc.2.2)],[⟨19,65,(zC [0] m)⟩]⟩ (zjM.le (ins':=[(.tmp 17,.ag (zC [0] m)),(.tmp 18,.sl Rp.byte [0] b),(.tmp 19,kI pK),(.tmp 20,.om zG zK 20 [0] met)]) (zhH (args:=[.tmp 17,.tmp 18,.tmp 19,.tmp 20]) [.rc zf [0] m,.sl Rp.byte [0] b,kI pK,.om zG zK 20 [0] met] [(20,2)] [0] 26 [] rfl call67 (zmO pI) rfl rfl (by kernel_rfl) rfl rfl rfl) ⟨⟨rfl,zkJ zf [0] m (zC [0] m) rfl rfl⟩,⟨rfl,vb _⟩,⟨rfl,vb _⟩,⟨rfl,vb _⟩,trivial⟩) rfl (by kernel_rfl) (by kernel_rfl) ⟨⟨_,rfl,zp rfl⟩,⟨_,rfl,zp rfl⟩,⟨_,rfl,zp rfl⟩,⟨_,rfl,zeH 0 rfl⟩,⟨_,rfl,zp rfl⟩,⟨_,rfl,zp rfl⟩,⟨_,rfl,zp rfl⟩,⟨_,rfl,zp rfl⟩,⟨_,rfl,zeH 0 rfl⟩,trivial⟩ ⟨⟨_,rfl,rfl,rfl,⟨zp rfl,zp rfl,trivial⟩⟩,trivial⟩ (rfl' [29]))) (jp (jI h ?_ ?_)))<;>intro pB h
   ·cases h;exact jz'
   refine jb h fun v ud h=>jr (lb 1 ze [] vc.1 (rc 0 rfl (lbs1 30 [] vc.1 zsM) (rc 0 rfl (lao 26 [] 106 30 [] [] zsM.el ud (.inl zjc)) rf))) (jp (zQ ?_));cases h;exact zS lzz
  cases h;exact zan rfl lzz
 rcases q with u| u2
 ·refine zaQ _ rfl (jp ?_);cases h;exact zy (lks [] [(26,2)] lzz)
 cases h;exact zdo lw
theorem zgz (h:zcw pU sv pO l d=some r):va 17 [.sl zf [0] sv,kI pO,.sl (Rp.list Rp.byte) [0] l,kI d] [.own Rp.byte 5 2 [] r.1,kI r.2.1,kI r.2.2]:=by
 refine fi 51 func17 fun Xt=>?_
 unfold zcw at h;refine jp (jb h fun rv pE h=>jr (rl 3 [0] 11 call26 (zgd pE) rf) (jp (jI h ?_ ?_)))<;>intro pA h
 ·refine jp ?_;cases h;exact zy lw
 refine jp (jp (zr (jb h fun q pL h=>jL pL [0,1,2,3] [] (fun s=>[(12,.own Rp.byte 5 14 [] s.1),(13,kI s.2)]) (fun| (.inl v_)=> .x 0 ⟨[(12,.own Rp.byte 5 14 [] v_)],[]⟩| (.inr v_)=> .r ⟨[(8,kN),(9,kI v_.1),(10,kI v_.2)],[]⟩) ?_ lw ?_)))
 ·clear h;intro s o h;obtain ⟨out,i⟩:=s;replace h:zaE pU d l pO sv out i=some o:=h;unfold zaE at h;refine jp (jI h ?_ ?_)<;>intro pB h
  ·refine zr (jb h fun x pN h=>jb h fun vc pI h=>jr (rx 4 [0] zmS.el pN rfl rfl (rc 0 rfl (ldl (Rp.list Rp.byte) [0] x 0 Rp.byte x) (rl 1 [0] 13 call9 (zjC pI) rf))) (jp (jI h ?_ ?_)))<;>intro pD h
   ·cases h;exact jz'
   refine jb h fun x2 pR h=>jb h fun v3 pW h=>jr (rx 3 [0] zmS.el pR rfl rfl (rc 0 rfl (ldl (Rp.list Rp.byte) [0] x2 0 Rp.byte x2) (rc 0 rfl (las 14 [] [0] [] zcq.el pW (.inl zpF)) rf))) (zQ ?_);cases h;exact jy
  cases h;exact zan rfl lzz
 rcases q with u| u2
 ·refine zaQ _ rfl (jp ?_);cases h;exact zy (lks [] [(14,2)] lzz)
 cases h;exact zdo lw
theorem zlk (h:zfP sv pO d=some r):va 41 [.sl zf [0] sv,kI pO,kI d] [k8 r]:=by
 refine fi 28 func41 fun Xt=>?_
 unfold zfP at h;refine jp (zr (jb h fun rv pE h=>jr (rl 1 [0] 9 call61 (znY pE) rf) (jI h ?_ ?_)))<;>intro pA h
 ·cases h;exact jz
 refine jg [] [] [(11,kB ((decide (pO<0))|| ((decide (pO>=(sv.length:Int)))|| ((decide (d<0))|| (decide (d>64))))))] ?_ ?_
 ·refine (rsl 3 [] 14 (decide (pO<0)) ?_ ?_)<;>intro pB
  · exact (rbl [] 11 true rfl (by grind))
  refine (rsl 6 [] 20 (decide (pO>=(sv.length:Int))) ?_ ?_)<;>intro pD
  · exact (rbl [] 11 true rfl (by grind))
  refine (rsl 4 [] 24 (decide (d<0)) ?_ ?_)<;>intro pF
  · exact (rbl [] 11 true rfl (by grind))
  exact (rbl [] 11 (decide (d>64)) rfl (by grind))
 refine jI h ?_ ?_<;>intro pJ h
 ·cases h;exact jz
 refine zQ ?_;cases h;exact jz
theorem zlN (h:zdR wv pH pK tov=some r):zff prog 81 [.ag [.sl zf [0] wv.s,.sl Rp.byte [0] wv.b,.om zi ze 2 [0] wv.met],kI pH,kI pK,kI tov] [.rc ze [] r.1,k8 r.2.1] [.ag [.any,.any,.om zi ze 2 [0] r.2.2],.any,.any,.any]:=by
 refine zgH (E:=⟨[(0,.ag [.any,.any,.om zi ze 2 [0] r.2.2]),(8,.ptr 3 0),(9,k8 r.2.1)],[⟨3,106,(zcm r.1)⟩]⟩) 67 [0] func81 rfl rfl rfl ⟨⟨_,_,rfl,rfl,rfl,rfl,zoB⟩,rfl,trivial⟩ ⟨.inr ⟨rfl,rfl⟩,.inl rfl,.inl rfl,.inl rfl,trivial⟩ rfl (fun Xt old=>?_);refine zcH ?_;unfold zdR at h;refine jq [13,14] (jb h fun v ud h=>jr (ra 3 [.sl Rp.byte [0] wv.b,kI tov] rfl (zgX none (some (kI tov)) rfl zcq.el (zdb _ _ _) ⟨rfl,rfl⟩ ⟨rfl,rfl⟩ ud) rfl rf) (jb h fun rv pE h=>jr (rl 2 [0] 13 call83 (zkq pE) (rfl' [15])) (jp (jI h ?_ ?_))))<;>intro pA h
 ·refine jr (rc 0 rfl (zD (r:=ze) [] [] (⟨(⟨0,0,0,0,0⟩:zg),0,false⟩:zb) rfl zpX rfl rfl) rf) ?_;cases h;exact zee (lks [14] [(14,3)] lw)
 refine jr (rc 5 rfl (zD (r:=zi) [kI pH,kI rv.1.Number,kI rv.1.Wire] [] (⟨pH,rv.1.Number,rv.1.Wire⟩:zh) rfl zBI rfl rfl) (rfl' [16])) (jr (lb 2 zi [] (⟨pH,rv.1.Number,rv.1.Wire⟩:zh) (ra 0 [.om zi ze 2 [0] wv.met,.rc zi [] (⟨pH,rv.1.Number,rv.1.Wire⟩:zh)] rfl (zne (rk:=zi) (rv:=ze) (m:=wv.met) (k:=(⟨pH,rv.1.Number,rv.1.Wire⟩:zh)) (.rc ze [0] ((mget wv.met (⟨pH,rv.1.Number,rv.1.Wire⟩:zh)).getD (⟨(⟨0,0,0,0,0⟩:zg),0,false⟩:zb))) rfl zvV (zbA rfl) (zrX rfl)) rfl (rfl' [17]))) (jp (jI h ?_ ?_)))<;>intro pB h
 ·refine jb h fun x pN h=>jb h fun vc pI h=>jr (rx 3 [0] zdS.el pN rfl rfl (rc 0 rfl (lde zf [0] x zoC) (rl 2 [0] 16 call94 (zsJ pI) rf))) (jp (jI h ?_ ?_))<;>intro pD h
  ·refine jr (rc 0 rfl (zD (r:=ze) [] [] (⟨(⟨0,0,0,0,0⟩:zg),0,false⟩:zb) rfl zpX rfl rfl) rf) ?_;cases h;exact zee (lks [14] [(14,3)] lw)
  refine jr (lb 2 zi [] (⟨pH,rv.1.Number,rv.1.Wire⟩:zh) (lb 0 ze [] vc.1 (rms (C1:=[]) (D:=[]) 0 [] 2 [0] wv.met (⟨pH,rv.1.Number,rv.1.Wire⟩:zh) vc.1 [0] zvV (zbA rfl) (zbA rfl) rf))) (jr (lb 0 zq [] rv.1 rf) (jr (lb 0 ze [] (⟨rv.1,vc.1.Field,vc.1.Run⟩:zb) rf) ?_));cases h;exact zee (lks [14] [(14,3)] lw)
 refine jr (lb 0 zq [] rv.1 rf) (jr (lb 0 ze [] (⟨rv.1,((mget wv.met (⟨pH,rv.1.Number,rv.1.Wire⟩:zh)).getD (⟨(⟨0,0,0,0,0⟩:zg),0,false⟩:zb)).Field,((mget wv.met (⟨pH,rv.1.Number,rv.1.Wire⟩:zh)).getD (⟨(⟨0,0,0,0,0⟩:zg),0,false⟩:zb)).Run⟩:zb) rf) ?_);cases h;exact zee (lks [14] [(14,3)] lw)
theorem zsu (h:ziA k b=some r):va 121 [kI k,.sl Rp.byte [0] b] [kI r.1,k8 r.2]:=by
 refine zwy (E:=⟨[(4,.ptr 2 0),(5,.ptr 3 0)],[⟨2,3,[kI r.1]⟩,⟨3,27,[k8 r.2]⟩]⟩) 20 func121 rfl rfl rfl ⟨⟨_,_,rfl,rfl,rfl,rfl⟩,⟨_,_,rfl,rfl,rfl,rfl⟩,trivial⟩ rfl rfl (fun Xt=>?_);refine zcH ?_;unfold ziA at h;refine jq [13,14] (jq [15] (jb h fun rv pE h=>jr (rl 2 [0] 0 call112 (zqA pE) rf) (zr (jb h fun q pL h=>zra (E':=⟨[(4,.ptr 13 0),(5,.ptr 14 0),(6,.ptr 15 0),(11,.fv 136 [.bp u9 3 913600 [] rv.1,.bp (Rp.list Rp.byte) 24 913601 [0] rv.2])],[⟨13,3,[kI 0]⟩,⟨14,27,[k8 0]⟩,⟨15,3,[kI 0]⟩]⟩) ?_ ?_))))
 · exact lzz
 refine zxY (it:=fun {σ:Type} (kf:Rnd σ ((List UInt8)×Int)) (sg:σ)=>zdF rv.1 rv.2 kf sg) (znV rv.1 rv.2) [913600,913601] [4,5,6] [13,14,15] [(4,.ptr 13 0),(5,.ptr 14 0),(6,.ptr 15 0)] (fun s:Int=>[⟨13,3,[kI 0]⟩,⟨14,27,[k8 0]⟩,⟨15,3,[kI s]⟩]) (fun o:(Int×Int)=>[⟨13,3,[kI 0]⟩,⟨14,27,[k8 o.1]⟩,⟨15,3,[kI o.2]⟩]) (fun o:(Int×Int)=> .ret) (fun (s:Int) (x:((List UInt8)×Int))=>zdd s x.1 x.2) (fun (s:Int) (x:((List UInt8)×Int))=>⟨[(4,.ptr 13 0),(5,.ptr 14 0),(6,.ptr 15 0),(8,k8 x.2)],[⟨13,3,[kI 0]⟩,⟨14,27,[k8 0]⟩,⟨15,3,[kI s]⟩]⟩) rfl rfl call136 rfl rfl rfl rfl rfl rfl (fun _=>rfl) (fun o=>rfl) rfl rfl (fun _=>rfl) ?_ (fun _ _=>⟨rfl,rfl⟩) ?_ pL ?_
 ·clear h;intro Xr old f x;obtain ⟨x,x2⟩:=x;exact zcH (zra (E':=⟨[(13,k8 x2),(12,.sl Rp.byte [0] x),(4,.ptr 13 0),(5,.ptr 14 0),(6,.ptr 15 0)],[⟨13,3,[kI 0]⟩,⟨14,27,[k8 0]⟩,⟨15,3,[kI f]⟩]⟩) (fun _ _ _ hs=>hs) jy)
 ·clear h;intro Xr old f x o h;obtain ⟨x,x2⟩:=x;refine zcH (zra (E':=⟨[(4,.ptr 13 0),(5,.ptr 14 0),(6,.ptr 15 0),(8,k8 x2)],[⟨13,3,[kI 0]⟩,⟨14,27,[k8 0]⟩,⟨15,3,[kI f]⟩]⟩) (fun _ _ _ hs=>hs) ?_);replace h:zdd f x x2=some o:=h;unfold zdd at h;refine zr (jp (jI h ?_ ?_))<;>intro pA h
  ·refine jp ?_;cases h;exact zzB lzz
  refine jp (zQ ?_);cases h;exact zS lzz
 rcases q with u| j
 ·refine zra (E':=⟨[(4,.ptr 13 0),(5,.ptr 14 0),(6,.ptr 15 0)],[⟨13,3,[kI 0]⟩,⟨14,27,[k8 0]⟩,⟨15,3,[kI u]⟩]⟩) (fun _ _ _ hs=>hs) (zQ (jp ?_));cases h;exact zy (lks [13,14] [(13,2),(14,3)] lzz)
 refine zra (E':=⟨[(4,.ptr 13 0),(5,.ptr 14 0),(6,.ptr 15 0)],[⟨13,3,[kI 0]⟩,⟨14,27,[k8 j.1]⟩,⟨15,3,[kI j.2]⟩]⟩) (fun _ _ _ hs=>hs) ?_;cases h;exact zy (lks [13,14] [(13,2),(14,3)] lzz)
theorem zkh (h:zeV m b=some r):va 44 [.rc zf [0] m,.sl Rp.byte [0] b] [.own ze 106 2 [] r]:=by
 refine fi 16 func44 fun Xt=>?_
 unfold zeV at h;refine jr (ra 0 [.rc zf [0] m] rfl (zfH 13 (zC [0] m) [0] rfl rfl rfl rfl rfl) rfl rf) (jb h fun rv pE h=>jr (rl 2 [0] 12 call51 (znR pE) rf) (jp ?_));cases h;exact zy (lks [] [(14,2)] lzz)
theorem zpp (h:zgj m l place=some r):va 42 [.rc zf [0] m,.sl (Rp.list Rp.byte) [0] l,kI place] [kI r]:=by
 refine fi 42 func42 fun Xt=>?_
 unfold zgj at h;refine jr (ra 0 [.rc zf [0] m] rfl (zfH 11 (zC [0] m) [0] rfl rfl rfl rfl rfl) rfl rf) (jp (jp (zr (jb h fun q pL h=>jL pL [1,2,3,13,14] [11] (fun s=>[(7,kI s.1),(15,kI s.2)]) (fun| (.inl v_)=> .X 0 [1] [] [] []| (.inr v_)=> .r ⟨[(6,kI v_)],[]⟩) ?_ lzz ?_))))
 ·clear h;intro s o h;obtain ⟨endv,v⟩:=s;replace h:zca l m place endv v=some o:=h;unfold zca at h;refine jp (jI h ?_ ?_)<;>intro pA h
  ·refine zr (jb h fun x pN h=>jr (rx 1 [0] zmS.el pN rfl rfl (rc 0 rfl (ldl (Rp.list Rp.byte) [0] x 0 Rp.byte x) rf)) (jp (jb h fun rv pE h=>jr (rl 2 [0] 11 call51 (znR pE) rf) (jg [1,2,3,7,8,13,14,15] [11] [(37,kB ((rv.2.2 !=0)|| (decide ((IntKind.i64.wrap (endv+(x.length:Int)))>place))))] ?_ ?_))))
   ·refine (rsl 3 [] 33 (rv.2.2 !=0) ?_ ?_)<;>intro pB
    · exact (rbl [] 37 true rfl (by grind))
    exact (rbl [] 37 (decide ((IntKind.i64.wrap (endv+(x.length:Int)))>place)) rfl (by grind))
   refine jI h ?_ ?_<;>intro pD h
   ·cases h;exact jz'
   refine zQ ?_;cases h;exact jy
  cases h;exact zan rfl lzz
 rcases q with u| u2
 ·refine zaQ _ rfl ?_;cases h;exact jz
 obtain rfl:=(sj h);exact zdo lzz
theorem zqd (h:zgo f isRun value=some r):va 95 [.rc za [0] f,kB isRun,.sl Rp.byte [0] value] [k8 r]:=by
 refine fi 32 func95 fun Xt=>?_
 unfold zgo at h;refine jq [11] (zr (jp (jI h ?_ ?_)))<;>intro pA h
 ·refine jb h fun rv pE h=>jr (rl 3 [0] 10 call121 (zsu pE) rf) ?_;cases h;exact jz
 refine jb h fun g pC h=>jg [3] [11] [(19,kB g)] ?_ ?_
 ·refine (rsI 4 23 pC ?_ ?_)<;>intro pB pC
  ·refine jb pC fun vc pI pC=>?_;cases pC;exact (rl 1 [0] 10 call122 (zsI pI) (rel [] lzz))
  cases pC;exact (rel [] lzz)
 refine jI h ?_ ?_<;>intro pD h
 ·cases h;exact jz
 refine jp (jI h ?_ ?_)<;>intro pF h
 ·cases h;exact jz
 refine zQ ?_;cases h;exact jz
theorem zmm (h:zej m b=some r):va 43 [.rc zf [0] m,.sl Rp.byte [0] b] [.om u9 Rp.bool 2 [] r]:=by
 refine fi 45 func43 fun Xt=>?_
 unfold zej at h;refine jr (ra 0 [.rc zf [0] m] rfl (zfH 13 (zC [0] m) [0] rfl rfl rfl rfl rfl) rfl rf) (jr (rc 0 rfl (zgY (rk:=u9) (rv:=Rp.bool) 14 rfl) rf) (jb h fun rv pE h=>jr (rl 2 [0] 13 call44 (zkh pE) rf) (zr (jb h fun q pL h=>jL pL [2,11,12] [13] (fun s=>[(5,.om u9 Rp.bool 14 [] s.1),(13,kI s.2)]) (fun o=> .x 0 ⟨[(5,.om u9 Rp.bool 14 [] o)],[]⟩) ?_ lzz ?_))))
 ·clear h;intro s o h;obtain ⟨fields,v⟩:=s;replace h:zbi m rv fields v=some o:=h;unfold zbi at h;refine jp (jI h ?_ ?_)<;>intro pA h
  ·refine zr (jb h fun x pN h=>jr (ra 0 [.own ze 106 15 [] rv,kI v] rfl (zhA rfl zsM.el (zda _ _ _ _ _) pN) rfl (rc 0 rfl (lde ze [15] x zoB) (rfl' [17]))) (jb h fun g pC h=>jg [2,5,7,11,12,13] [13,17] [(39,kB g)] ?_ ?_))
   ·refine (rsI 4 20 pC ?_ ?_)<;>intro pB pC
    ·refine jb pC fun x2 pR pC=>(rx 4 [0] zgq.el pR rfl rfl (rsI 5 30 pC ?_ ?_))<;>intro pD pC
     ·refine jb pC fun x3 p6 pC=>?_;cases pC;exact (rx 4 [0] zgq.el p6 rfl rfl (rel [] lzz))
     cases pC;exact (rel [] lzz)
    cases pC;exact (rel [] lzz)
   refine jI h ?_ ?_<;>intro pF h
   ·refine jr (rms 3 [] 14 [] fields x.Field true [] zvU (zcr rfl rfl) (zcr rfl rfl) rf) (zQ ?_);cases h;exact jy
   refine zQ ?_;cases h;exact jy
  cases h;exact zan rfl lzz
 refine zaQ _ rfl (jp ?_);obtain rfl:=(sj h);exact zy (lks [] [(14,2)] lzz)
theorem zjh (uG:∀{wv:zM} {pH:Int} {pK:Int} {tov:Int} {d:Int} {r:(zo×(List (zh×zb)))},xc wv pH pK tov d=some r->zff prog 66 [.ag [.sl zf [0] wv.s,.sl Rp.byte [0] wv.b,.om zi ze 2 [0] wv.met],kI pH,kI pK,kI tov,kI d] [.rc zR [] r.1] [.ag [.any,.any,.om zi ze 2 [0] r.2],.any,.any,.any,.any]) (uH:∀{wv:zM} {pH:Int} {v:zb} {d:Int} {r:(zo×(List (zh×zb)))},xa wv pH v d=some r->zff prog 82 [.ag [.sl zf [0] wv.s,.sl Rp.byte [0] wv.b,.om zi ze 2 [0] wv.met],kI pH,.rc ze [0] v,kI d] [.rc zR [] r.1] [.ag [.any,.any,.om zi ze 2 [0] r.2],.any,.any,.any]) (h:zcf xc xa wv pH pK tov d=some r):zff prog 66 [.ag [.sl zf [0] wv.s,.sl Rp.byte [0] wv.b,.om zi ze 2 [0] wv.met],kI pH,kI pK,kI tov,kI d] [.rc zR [] r.1] [.ag [.any,.any,.om zi ze 2 [0] r.2],.any,.any,.any,.any]:=by
 refine zgH (E:=⟨[(0,.ag [.any,.any,.om zi ze 2 [0] r.2]),(10,.ptr 3 0)],[⟨3,114,(zfB r.1)⟩]⟩) 49 [0] func66 rfl rfl rfl ⟨⟨_,_,rfl,rfl,rfl,rfl,zuv⟩,trivial⟩ ⟨.inr ⟨rfl,rfl⟩,.inl rfl,.inl rfl,.inl rfl,.inl rfl,trivial⟩ rfl (fun Xt old=>?_);refine zcH ?_;unfold zcf at h;refine jq [13,14] (jp (zr (jb h fun q pL h=>jl pL [1,3,4,5,10] [14] (fun s=>[(0,.ag [.sl zf [0] wv.s,.sl Rp.byte [0] wv.b,.om zi ze 2 [0] s.1]),(2,kI s.2.1),(11,kI s.2.2)]) (fun s=>[⟨13,138,[.sl zf [0] wv.s,.sl Rp.byte [0] wv.b,.om zi ze 2 [0] s.1]⟩]) (fun| (.inl v_)=> .X 0 [10] [14] [(0,.ag [.sl zf [0] wv.s,.sl Rp.byte [0] wv.b,.om zi ze 2 [0] v_.1]),(11,kI v_.2)] []| (.inr v_)=> .r ⟨[(0,.ag [.sl zf [0] wv.s,.sl Rp.byte [0] wv.b,.om zi ze 2 [0] v_.1]),(10,.ptr 14 0)],[⟨14,114,[kI v_.2.1,kI v_.2.2.1,k8 v_.2.2.2]⟩]⟩) ?_ lzz ?_)))
 ·clear h;intro s o h;obtain ⟨wv2,vr,uu⟩:=s;replace h:zae d pH xa tov wv wv2 vr uu=some o:=h;unfold zae at h;refine jp (jI h ?_ ?_)<;>intro pA h
  ·refine zr (jb h fun vc pI h=>jr (rkl 4 [] ⟨[(0,.ag [.sl zf [0] wv.s,.sl Rp.byte [0] wv.b,.om zi ze 2 [0] wv2]),(1,kI pH),(2,kI vr),(3,kI tov),(4,kI d),(5,.ptr 13 0),(10,.ptr 14 0),(11,kI uu),(19,.ag [.sl zf [0] wv.s,.sl Rp.byte [0] wv.b,.om zi ze 2 [0] wv2]),(20,kI pH),(21,kI vr),(22,kI tov)],[⟨13,138,[.sl zf [0] wv.s,.sl Rp.byte [0] wv.b,.om zi ze 2 [0] wv2]⟩,⟨14,114,[kI 0,kI 0,k8 0]⟩]⟩ (zhF ⟨[(0,.ag [.sl zf [0] wv.s,.sl Rp.byte [0] wv.b,.om zi ze 2 [0] vc.2.2]),(1,kI pH),(2,kI vr),(3,kI tov),(4,kI d),(5,.ptr 13 0),(10,.ptr 14 0),(11,kI uu),(19,.ag [.sl zf [0] wv.s,.sl Rp.byte [0] wv.b,.om zi ze 2 [0] vc.2.2]),(20,kI pH),(21,kI vr),(22,kI tov)],[⟨13,138,[.sl zf [0] wv.s,.sl Rp.byte [0] wv.b,.om zi ze 2 [0] vc.2.2]⟩,⟨14,114,[kI 0,kI 0,k8 0]⟩]⟩ (zhH [.ag [.sl zf [0] wv.s,.sl Rp.byte [0] wv.b,.om zi ze 2 [0] wv2],kI pH,kI vr,kI tov] [(2,2)] [0] 15 [] rfl call81 (zlN pI) rfl rfl (by kernel_rfl) rfl rfl rfl) rfl (by kernel_rfl) (by kernel_rfl) ⟨⟨_,rfl,zlj ⟨zp rfl,zp rfl,zeH 0 rfl,trivial⟩⟩,⟨_,rfl,zp rfl⟩,⟨_,rfl,zp rfl⟩,⟨_,rfl,zp rfl⟩,⟨_,rfl,zp rfl⟩,⟨_,rfl,zp rfl⟩,⟨_,rfl,zp rfl⟩,⟨_,rfl,zp rfl⟩,⟨_,rfl,zlj ⟨zp rfl,zp rfl,zeH 0 rfl,trivial⟩⟩,⟨_,rfl,zp rfl⟩,⟨_,rfl,zp rfl⟩,⟨_,rfl,zp rfl⟩,trivial⟩ ⟨⟨_,rfl,rfl,rfl,⟨zp rfl,zp rfl,zeH 0 rfl,trivial⟩⟩,⟨_,rfl,rfl,rfl,⟨zp rfl,zp rfl,zp rfl,trivial⟩⟩,trivial⟩ (rfl' [18]))) (jp (jI h ?_ ?_)))<;>intro pB h
   ·refine jr (rc 2 rfl (zD (r:=zR) [kI vr,k8 vc.2.1] [] (⟨0,vr,vc.2.1⟩:zo) rfl zns rfl rfl) rf) ?_;cases h;exact zkG lzz
   refine jb h fun rv4 pY h=>jr (lb 2 ze [] vc.1 (rkl 1 [] ⟨[(0,.ag [.sl zf [0] wv.s,.sl Rp.byte [0] wv.b,.om zi ze 2 [0] vc.2.2]),(1,kI pH),(3,kI tov),(4,kI d),(5,.ptr 13 0),(10,.ptr 14 0),(11,kI uu),(12,.ptr 18 0),(31,.ag [.sl zf [0] wv.s,.sl Rp.byte [0] wv.b,.om zi ze 2 [0] vc.2.2]),(32,kI pH),(33,.rc ze [] vc.1),(34,kI d)],[⟨13,138,[.sl zf [0] wv.s,.sl Rp.byte [0] wv.b,.om zi ze 2 [0] vc.2.2]⟩,⟨14,114,[kI 0,kI 0,k8 0]⟩,⟨18,106,(zcm vc.1)⟩]⟩ (zhF ⟨[(0,.ag [.sl zf [0] wv.s,.sl Rp.byte [0] wv.b,.om zi ze 2 [0] rv4.2]),(1,kI pH),(3,kI tov),(4,kI d),(5,.ptr 13 0),(10,.ptr 14 0),(11,kI uu),(12,.ptr 18 0),(31,.ag [.sl zf [0] wv.s,.sl Rp.byte [0] wv.b,.om zi ze 2 [0] rv4.2]),(32,kI pH),(33,.rc ze [] vc.1),(34,kI d)],[⟨13,138,[.sl zf [0] wv.s,.sl Rp.byte [0] wv.b,.om zi ze 2 [0] rv4.2]⟩,⟨14,114,[kI 0,kI 0,k8 0]⟩,⟨18,106,(zcm vc.1)⟩]⟩ (zhH [.ag [.sl zf [0] wv.s,.sl Rp.byte [0] wv.b,.om zi ze 2 [0] vc.2.2],kI pH,.rc ze [] vc.1,kI d] [(2,2)] [0] 18 [] rfl call82 (uH pY) rfl rfl (by kernel_rfl) rfl rfl rfl) rfl (by kernel_rfl) (by kernel_rfl) ⟨⟨_,rfl,zlj ⟨zp rfl,zp rfl,zeH 0 rfl,trivial⟩⟩,⟨_,rfl,zp rfl⟩,⟨_,rfl,zp rfl⟩,⟨_,rfl,zp rfl⟩,⟨_,rfl,zp rfl⟩,⟨_,rfl,zp rfl⟩,⟨_,rfl,zp rfl⟩,⟨_,rfl,zp rfl⟩,⟨_,rfl,zlj ⟨zp rfl,zp rfl,zeH 0 rfl,trivial⟩⟩,⟨_,rfl,zp rfl⟩,⟨_,rfl,zp rfl⟩,⟨_,rfl,zp rfl⟩,trivial⟩ ⟨⟨_,rfl,rfl,rfl,⟨zp rfl,zp rfl,zeH 0 rfl,trivial⟩⟩,⟨_,rfl,rfl,rfl,⟨zp rfl,zp rfl,zp rfl,trivial⟩⟩,⟨_,rfl,rfl,rfl,⟨zp rfl,zp rfl,zp rfl,zp rfl,zp rfl,zp rfl,zp rfl,trivial⟩⟩,trivial⟩ (rfl' [21])))) (jp (jI h ?_ ?_))<;>intro pD h
   ·refine jr (lb 0 zR [] rv4.1 rf) ?_;cases h;exact zkG lzz
   refine jp (jp (zQ ?_));cases h;exact zS lzz
  cases h;exact zan rfl lzz
 rcases q with u| u2
 ·refine zaQ _ rfl (jr (rc 1 rfl (zD (r:=zR) [kI u.2] [] (⟨u.2,0,0⟩:zo) rfl zns rfl rfl) rf) ?_);cases h;exact zee (lks [14] [(14,3)] lw)
 cases h;exact zCa (lks [14] [(14,3)] lw)
theorem zkx (uG:∀{wv:zM} {pH:Int} {pK:Int} {tov:Int} {d:Int} {r:(zo×(List (zh×zb)))},xc wv pH pK tov d=some r->zff prog 66 [.ag [.sl zf [0] wv.s,.sl Rp.byte [0] wv.b,.om zi ze 2 [0] wv.met],kI pH,kI pK,kI tov,kI d] [.rc zR [] r.1] [.ag [.any,.any,.om zi ze 2 [0] r.2],.any,.any,.any,.any]) (uH:∀{wv:zM} {pH:Int} {v:zb} {d:Int} {r:(zo×(List (zh×zb)))},xa wv pH v d=some r->zff prog 82 [.ag [.sl zf [0] wv.s,.sl Rp.byte [0] wv.b,.om zi ze 2 [0] wv.met],kI pH,.rc ze [0] v,kI d] [.rc zR [] r.1] [.ag [.any,.any,.om zi ze 2 [0] r.2],.any,.any,.any]) (h:zcL xc xa wv pH v d=some r):zff prog 82 [.ag [.sl zf [0] wv.s,.sl Rp.byte [0] wv.b,.om zi ze 2 [0] wv.met],kI pH,.rc ze [0] v,kI d] [.rc zR [] r.1] [.ag [.any,.any,.om zi ze 2 [0] r.2],.any,.any,.any]:=by
 refine zgH (E:=⟨[(0,.ag [.any,.any,.om zi ze 2 [0] r.2]),(8,.ptr 3 0)],[⟨3,114,(zfB r.1)⟩]⟩) 71 [0] func82 rfl rfl rfl ⟨⟨_,_,rfl,rfl,rfl,rfl,zuv⟩,trivial⟩ ⟨.inr ⟨rfl,rfl⟩,.inl rfl,.inl rfl,.inl rfl,trivial⟩ rfl (fun Xt old=>?_);refine zcH ?_;unfold zcL at h;refine jq [14,15,16] (jp (jI h ?_ ?_))<;>intro pA h
 ·refine jr (rc 0 rfl (zD (r:=zR) [] [] (⟨0,0,0⟩:zo) rfl zns rfl rfl) rf) ?_;cases h;exact zee (lks [16] [(16,3)] lw)
 refine jb h fun x pN h=>jb h fun x2 pR h=>jd [0,3,4,6,8,9] [14,15,16,17] zdw (by exact (lwn 3 (di [0] zdS.el pN (lw_e (lx (ldl zf [0] x 1 za x.Fields) (lwn 2 (di [0] zgq.el pR (lx (lde za [0] x2 znx) (lx (zmj 17 [kS [],kI 0,kI 0,kB false,kB false,kI 0] rfl zeroValue62 rfl) (ly [.ptr 17 0,.rc za [0] x2] (zlu (r:=za) (b:=⟨17,62,[kS [],kI 0,kI 0,kB false,kB false,kI 0]⟩) (off:=0) (zaR x2) rfl sizeOf62 rfl rfl rfl rfl) rfl l0)))))))))) (jg [0,3,4,6,8,9] [14,15,16,17] [(32,kB ((x2.Kind==17)&&(decide (d>0))))] ?_ ?_)
 ·refine (rsl 4 [] 29 (x2.Kind==17) ?_ ?_)<;>intro pB
  · exact (rbl [] 32 (decide (d>0)) rfl (by grind))
  exact (rbl [] 32 false rfl (by grind))
 refine jI h ?_ ?_<;>intro pD h
 ·refine jb h fun vc pI h=>jr (rkl 11 [] ⟨[(0,.ag [.sl zf [0] wv.s,.sl Rp.byte [0] wv.b,.om zi ze 2 [0] wv.met]),(8,.ptr 16 0),(33,.ag [.sl zf [0] wv.s,.sl Rp.byte [0] wv.b,.om zi ze 2 [0] wv.met]),(35,kI x2.Of),(38,kI v.Record.At),(41,kI v.Record.To),(43,kI (IntKind.i64.wrap (d - 1)))],[⟨16,114,[kI 0,kI 0,k8 0]⟩]⟩ (zhF ⟨[(0,.ag [.sl zf [0] wv.s,.sl Rp.byte [0] wv.b,.om zi ze 2 [0] vc.2]),(8,.ptr 16 0),(33,.ag [.sl zf [0] wv.s,.sl Rp.byte [0] wv.b,.om zi ze 2 [0] vc.2]),(35,kI x2.Of),(38,kI v.Record.At),(41,kI v.Record.To),(43,kI (IntKind.i64.wrap (d - 1)))],[⟨16,114,[kI 0,kI 0,k8 0]⟩]⟩ (zhH [.ag [.sl zf [0] wv.s,.sl Rp.byte [0] wv.b,.om zi ze 2 [0] wv.met],kI x2.Of,kI v.Record.At,kI v.Record.To,kI (IntKind.i64.wrap (d - 1))] [(2,2)] [0] 17 [] rfl call66 (uG pI) rfl rfl (by kernel_rfl) rfl rfl rfl) rfl (by kernel_rfl) (by kernel_rfl) ⟨⟨_,rfl,zlj ⟨zp rfl,zp rfl,zeH 0 rfl,trivial⟩⟩,⟨_,rfl,zp rfl⟩,⟨_,rfl,zlj ⟨zp rfl,zp rfl,zeH 0 rfl,trivial⟩⟩,⟨_,rfl,zp rfl⟩,⟨_,rfl,zp rfl⟩,⟨_,rfl,zp rfl⟩,⟨_,rfl,zp rfl⟩,trivial⟩ ⟨⟨_,rfl,rfl,rfl,⟨zp rfl,zp rfl,zp rfl,trivial⟩⟩,trivial⟩ (rfl' [20]))) (jp (jr (lb 0 zR [] (⟨(IntKind.i64.wrap (vc.1.depth+1)),vc.1.place,vc.1.e⟩:zo) rf) ?_));cases h;exact zee (lks [16] [(16,3)] lw)
 refine jb h fun v3 pW h=>jb h fun vh pQ h=>jd [0,6,8,11] [15,16] zdw (by exact (ly [.ptr 17 0] (zyo (r:=za) (b:=⟨17,62,(zaR x2)⟩) x2 [] rfl znx rfl rfl) rfl (lwn 10 (ly [.sl Rp.byte [0] wv.b,kI v.Record.At,kI v.Record.To] (zgX (some (kI v.Record.At)) (some (kI v.Record.To)) rfl zcq.el (zdb _ _ _) ⟨rfl,rfl⟩ ⟨rfl,rfl⟩ pW) rfl (lx (lf1 95 (lcd [.rc za [] x2,kB v.Run,.sl Rp.byte [0] v3] 19 call95 (zqd pQ))) l0))))) (jp (jI h ?_ ?_))<;>intro pF h
 ·refine jr (rc 4 rfl (zD (r:=zR) [kI v.Record.From,k8 vh] [] (⟨0,v.Record.From,vh⟩:zo) rfl zns rfl rfl) rf) ?_;cases h;exact zee (lks [16] [(16,3)] lw)
 refine jr (rc 0 rfl (zD (r:=zR) [] [] (⟨0,0,0⟩:zo) rfl zns rfl rfl) rf) ?_;cases h;exact zee (lks [16] [(16,3)] lw)
theorem zdH (pU:Nat):(∀{wv:zM} {pH:Int} {pK:Int} {tov:Int} {d:Int} {r:(zo×(List (zh×zb)))},zai pU wv pH pK tov d=some r->zff prog 66 [.ag [.sl zf [0] wv.s,.sl Rp.byte [0] wv.b,.om zi ze 2 [0] wv.met],kI pH,kI pK,kI tov,kI d] [.rc zR [] r.1] [.ag [.any,.any,.om zi ze 2 [0] r.2],.any,.any,.any,.any])/\(∀{wv:zM} {pH:Int} {v:zb} {d:Int} {r:(zo×(List (zh×zb)))},zbY pU wv pH v d=some r->zff prog 82 [.ag [.sl zf [0] wv.s,.sl Rp.byte [0] wv.b,.om zi ze 2 [0] wv.met],kI pH,.rc ze [0] v,kI d] [.rc zR [] r.1] [.ag [.any,.any,.om zi ze 2 [0] r.2],.any,.any,.any]):=by
  induction pU with
  | zero=>exact ⟨fun h=>absurd h nofun,fun h=>absurd h nofun⟩
  | succ pU ih=>exact ⟨fun h=>zjh (fun hh=>ih.1 hh) (fun hh=>ih.2 hh) h,fun h=>zkx (fun hh=>ih.1 hh) (fun hh=>ih.2 hh) h⟩
theorem zjH (h:zai pU wv pH pK tov d=some r):zff prog 66 [.ag [.sl zf [0] wv.s,.sl Rp.byte [0] wv.b,.om zi ze 2 [0] wv.met],kI pH,kI pK,kI tov,kI d] [.rc zR [] r.1] [.ag [.any,.any,.om zi ze 2 [0] r.2],.any,.any,.any,.any]:=(zdH pU).1 h
end Go.Proofs.YtnckiilakdkklaaGreat

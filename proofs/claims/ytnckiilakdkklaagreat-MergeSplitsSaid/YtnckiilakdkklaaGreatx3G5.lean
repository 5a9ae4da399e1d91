/-
  The Go functions do what the plain functions say. No condition.
-/
import Derived.Test.YtnckiilakdkklaaGreatx3G4
import Derived.Test.YtnckiilakdkklaaGreatx3Y
set_option autoImplicit true
set_option relaxedAutoImplicit true
namespace Go.Proofs.YtnckiilakdkklaaGreat
open Tryz
open Go Go.RowKit
set_option linter.unusedVariables false
set_option maxRecDepth 100000
set_option maxHeartbeats 3200000
theorem znO (h:zfe sv=some r):uV 61 [.sl zf [0] sv] [kB r]:=by
 refine fi 12 func61 fun Xt=>?_
 unfold zfe at h;refine jp (jb h fun rv pB h=>jr (rl 1 [0] 9 call76 (znN pB) (rfl' [11])) ?_);cases h;exact jz
theorem zsu (h:ziw m b pH=some r):uV 94 [.rc zf [0] m,.sl Rp.byte [0] b,kI pH] [.rc ze [] r.1,k8 r.2]:=by
 refine fj ⟨[(6,.ptr 2 0),(7,k8 r.2)],[⟨2,106,(zcm r.1)⟩]⟩ 15 func94 ⟨⟨_,_,rfl,rfl,rfl,rfl,zmJ⟩,rfl,trivial⟩ fun Xt=>?_
 unfold ziw at h;refine jr (ra 0 [.rc zf [0] m] rfl (zgR 13 (zD [0] m) [0] rfl rfl rfl rfl rfl) rfl (rfl' [14])) (jb h fun uX pF h=>jr (rc 3 rfl (zgS (rk:=zF) (rv:=zG) 15 rfl) (rkl 0 [] ⟨[(6,.ptr 14 0),(8,.ag (zD [0] m)),(9,.sl Rp.byte [0] b),(10,kI pH),(11,.om zF zG 15 [] ([]:(List (zx×zz))))],[⟨14,106,[kI 0,kI 0,kI 0,kI 0,kI 0,kI 0,kB false]⟩]⟩ (zhy ⟨[(6,.ptr 14 0),(8,.ag (zD [0] m)),(9,.sl Rp.byte [0] b),(10,kI pH),(11,.om zF zG 15 [0] uX.2.2)],[⟨14,106,[kI 0,kI 0,kI 0,kI 0,kI 0,kI 0,kB false]⟩]⟩ (zju.le (ins':=[(.tmp 8,.ag (zD [0] m)),(.tmp 9,.sl Rp.byte [0] b),(.tmp 10,kI pH),(.tmp 11,.om zF zG 15 [] ([]:(List (zx×zz))))]) (zhA (args:=[.tmp 8,.tmp 9,.tmp 10,.tmp 11]) [.rc zf [0] m,.sl Rp.byte [0] b,kI pH,.om zF zG 15 [] ([]:(List (zx×zz)))] [(15,2)] [0] 15 [] rfl call67 (zmD pF) rfl rfl (by kernel_rfl) rfl rfl rfl) ⟨⟨rfl,zky zf [0] m (zD [0] m) rfl rfl⟩,⟨rfl,uW _⟩,⟨rfl,uW _⟩,⟨rfl,uW _⟩,trivial⟩) rfl (by kernel_rfl) (by kernel_rfl) ⟨⟨_,rfl,zo rfl⟩,⟨_,rfl,zo rfl⟩,⟨_,rfl,zo rfl⟩,⟨_,rfl,zo rfl⟩,⟨_,rfl,zeA 0 rfl⟩,trivial⟩ ⟨⟨_,rfl,rfl,rfl,⟨zo rfl,zo rfl,zo rfl,zo rfl,zo rfl,zo rfl,zo rfl,trivial⟩⟩,trivial⟩ rf))) ?_);cases h;exact zw (lks [14] [(14,2)] lzz)
theorem zqi (h:ziP k b=some r):uV 112 [kI k,.sl Rp.byte [0] b] [.fv 136 [.bp uU 3 913600 [] r.1,.bp (Rp.list Rp.byte) 24 913601 [0] r.2]]:=by
 refine fi 6 func112 fun Xt=>?_
 unfold ziP at h;refine jq [913600,913601] (jr (ra 0 [.ptr 913600 0,.ptr 913601 0] rfl (zzF (g:=136) [.tmp 2,.tmp 3] [⟨913600,3,[kI k]⟩,⟨913601,24,[.sl Rp.byte [0] b]⟩] [.bp uU 3 913600 [] k,.bp (Rp.list Rp.byte) 24 913601 [0] b] rfl ⟨⟨rfl,rfl,rfl,rfl⟩,⟨rfl,rfl,rfl,rfl⟩,trivial⟩ rfl) rfl rf) ?_);cases h;exact zw lzz
theorem ztS (h:zko m b=some r):uV 51 [.rc zf [0] m,.sl Rp.byte [0] b] [.own ze 106 2 [] r.1,kI r.2.1,k8 r.2.2]:=by
 refine fi 36 func51 fun Xt=>?_
 unfold zko at h;refine jr (ra 0 [.rc zf [0] m] rfl (zgR 19 (zD [0] m) [0] rfl rfl rfl rfl rfl) rfl rf) (jr (rc 0 rfl (zgS (rk:=zF) (rv:=zG) 20 rfl) rf) (jp (zr (jb h fun q pI h=>jL pI [1,2] [19] (fun s=>[(4,.own ze 106 26 [] s.1),(7,.om zF zG 20 [0] s.2.1),(8,kI s.2.2)]) (fun| (.inl v_)=> .x 0 ⟨[(4,.own ze 106 26 [] v_)],[]⟩| (.inr v_)=> .r ⟨[(4,kN),(5,kI v_.1),(6,k8 v_.2)],[]⟩) ?_ lw ?_))))
 ·clear h;intro s o h;obtain ⟨l,met,pH⟩:=s;replace h:zcs b m l met pH=some o:=h;unfold zcs at h;refine jp (jI h ?_ ?_)<;>intro py h
  ·refine zr (jb h fun uX pF h=>jr (rkl 4 [] ⟨[(1,.sl Rp.byte [0] b),(2,.ptr 19 0),(4,.own ze 106 26 [] l),(7,.om zF zG 20 [0] met),(8,kI pH),(17,.ag (zD [0] m)),(18,.sl Rp.byte [0] b),(19,kI pH),(20,.om zF zG 20 [0] met)],[⟨19,65,(zD [0] m)⟩]⟩ (zhy ⟨[(1,.sl Rp.byte [0] b),(2,.ptr 19 0),(4,.own ze 106 26 [] l),(7,.om zF zG 20 [0] uX.2.2),(8,kI pH),(17,.ag (zD [0] m)),(18,.sl Rp.byte [0] b),(19,kI pH),(20,.om zF zG 20 [0] uX.2.2)],[⟨19,65,(zD [0] m)⟩]⟩ (zju.le (ins':=[(.tmp 17,.ag (zD [0] m)),(.tmp 18,.sl Rp.byte [0] b),(.tmp 19,kI pH),(.tmp 20,.om zF zG 20 [0] met)]) (zhA (args:=[.tmp 17,.tmp 18,.tmp 19,.tmp 20]) [.rc zf [0] m,.sl Rp.byte [0] b,kI pH,.om zF zG 20 [0] met] [(20,2)] [0] 26 [] rfl call67 (zmD pF) rfl rfl (by kernel_rfl) rfl rfl rfl) ⟨⟨rfl,zky zf [0] m (zD [0] m) rfl rfl⟩,⟨rfl,uW _⟩,⟨rfl,uW _⟩,⟨rfl,uW _⟩,trivial⟩) rfl (by kernel_rfl) (by kernel_rfl) ⟨⟨_,rfl,zo rfl⟩,⟨_,rfl,zo rfl⟩,⟨_,rfl,zo rfl⟩,⟨_,rfl,zeA 0 rfl⟩,⟨_,rfl,zo rfl⟩,⟨_,rfl,zo rfl⟩,⟨_,rfl,zo rfl⟩,⟨_,rfl,zo rfl⟩,⟨_,rfl,zeA 0 rfl⟩,trivial⟩ ⟨⟨_,rfl,rfl,rfl,⟨zo rfl,zo rfl,trivial⟩⟩,trivial⟩ (rfl' [29]))) (jp (jI h ?_ ?_)))<;>intro pz h
   ·cases h;exact jz'
   refine jb h fun v p7 h=>jr (lb 1 ze [] uX.1 (rc 0 rfl (lbs1 30 [] uX.1 zpU) (rc 0 rfl (lao 26 [] 106 30 [] [] zpU.el p7 (.inl ziM)) rf))) (jp (zP ?_));cases h;exact zU lzz
  cases h;exact zap rfl lzz
 rcases q with u| u2
 ·refine zaV _ rfl (jp ?_);cases h;exact zw (lks [] [(26,2)] lzz)
 cases h;exact zdO lw
theorem zlf (h:zdy pR sv pM b d=some r):uV 13 [.sl zf [0] sv,kI pM,.sl Rp.byte [0] b,kI d] [kB r]:=by
 refine fi 21 func13 fun Xt=>?_
 unfold zdy at h;refine jp (jb h fun rv pB h=>jr (rl 4 [0] 9 call9 (zfo pB) rf) ?_);cases h;exact jz
theorem zqk (h:zgZ sv pM d=some r):uV 41 [.sl zf [0] sv,kI pM,kI d] [k8 r]:=by
 refine fi 28 func41 fun Xt=>?_
 unfold zgZ at h;refine jp (zr (jb h fun rv pB h=>jr (rl 1 [0] 9 call61 (znO pB) rf) (jI h ?_ ?_)))<;>intro py h
 ·cases h;exact jz
 refine jg [] [] [(11,kB ((decide (pM<0))|| ((decide (pM>=(sv.length:Int)))|| ((decide (d<0))|| (decide (d>64))))))] ?_ ?_
 ·refine (rsl 3 [] 14 (decide (pM<0)) ?_ ?_)<;>intro pz
  · exact (rbl [] 11 true rfl (by grind))
  refine (rsl 6 [] 20 (decide (pM>=(sv.length:Int))) ?_ ?_)<;>intro pC
  · exact (rbl [] 11 true rfl (by grind))
  refine (rsl 4 [] 24 (decide (d<0)) ?_ ?_)<;>intro pD
  · exact (rbl [] 11 true rfl (by grind))
  exact (rbl [] 11 (decide (d>64)) rfl (by grind))
 refine jI h ?_ ?_<;>intro pG h
 ·cases h;exact jz
 refine zP ?_;cases h;exact jz
theorem zlC (h:zdF wv pE pH tov=some r):zeV prog 81 [.ag [.sl zf [0] wv.s,.sl Rp.byte [0] wv.b,.om zi ze 2 [0] wv.met],kI pE,kI pH,kI tov] [.rc ze [] r.1,k8 r.2.1] [.ag [.any,.any,.om zi ze 2 [0] r.2.2],.any,.any,.any]:=by
 refine zgy (E:=⟨[(0,.ag [.any,.any,.om zi ze 2 [0] r.2.2]),(8,.ptr 3 0),(9,k8 r.2.1)],[⟨3,106,(zcm r.1)⟩]⟩) 67 [0] func81 rfl rfl rfl ⟨⟨_,_,rfl,rfl,rfl,rfl,zmJ⟩,rfl,trivial⟩ ⟨.inr ⟨rfl,rfl⟩,.inl rfl,.inl rfl,.inl rfl,trivial⟩ rfl (fun Xt old=>?_);refine zcC ?_;unfold zdF at h;refine jq [13,14] (jb h fun v p7 h=>jr (ra 3 [.sl Rp.byte [0] wv.b,kI tov] rfl (zeZ none (some (kI tov)) rfl zcd.el (zci _ _ _) ⟨rfl,rfl⟩ ⟨rfl,rfl⟩ p7) rfl rf) (jb h fun rv pB h=>jr (rl 2 [0] 13 call83 (zke pB) (rfl' [15])) (jp (jI h ?_ ?_))))<;>intro py h
 ·refine jr (rc 0 rfl (zA (r:=ze) [] [] (⟨(⟨0,0,0,0,0⟩:zh),0,false⟩:za) rfl zpG rfl rfl) rf) ?_;cases h;exact zdS (lks [14] [(14,3)] lw)
 refine jr (rc 5 rfl (zA (r:=zi) [kI pE,kI rv.1.Number,kI rv.1.Wire] [] (⟨pE,rv.1.Number,rv.1.Wire⟩:zg) rfl zBu rfl rfl) (rfl' [16])) (jr (lb 2 zi [] (⟨pE,rv.1.Number,rv.1.Wire⟩:zg) (ra 0 [.om zi ze 2 [0] wv.met,.rc zi [] (⟨pE,rv.1.Number,rv.1.Wire⟩:zg)] rfl (zmU (rk:=zi) (rv:=ze) (m:=wv.met) (k:=(⟨pE,rv.1.Number,rv.1.Wire⟩:zg)) (.rc ze [0] ((mget wv.met (⟨pE,rv.1.Number,rv.1.Wire⟩:zg)).getD (⟨(⟨0,0,0,0,0⟩:zh),0,false⟩:za))) rfl zvL (zbx rfl) (zrI rfl)) rfl (rfl' [17]))) (jp (jI h ?_ ?_)))<;>intro pz h
 ·refine jb h fun x pL h=>jb h fun uX pF h=>jr (rx 3 [0] zeQ.el pL rfl rfl (rc 0 rfl (lde zf [0] x zsx) (rl 2 [0] 16 call94 (zsu pF) rf))) (jp (jI h ?_ ?_))<;>intro pC h
  ·refine jr (rc 0 rfl (zA (r:=ze) [] [] (⟨(⟨0,0,0,0,0⟩:zh),0,false⟩:za) rfl zpG rfl rfl) rf) ?_;cases h;exact zdS (lks [14] [(14,3)] lw)
  refine jr (lb 2 zi [] (⟨pE,rv.1.Number,rv.1.Wire⟩:zg) (lb 0 ze [] uX.1 (rms (C1:=[]) (D:=[]) 0 [] 2 [0] wv.met (⟨pE,rv.1.Number,rv.1.Wire⟩:zg) uX.1 [0] zvL (zbx rfl) (zbx rfl) rf))) (jr (lb 0 zq [] rv.1 rf) (jr (lb 0 ze [] (⟨rv.1,uX.1.Field,uX.1.Run⟩:za) rf) ?_));cases h;exact zdS (lks [14] [(14,3)] lw)
 refine jr (lb 0 zq [] rv.1 rf) (jr (lb 0 ze [] (⟨rv.1,((mget wv.met (⟨pE,rv.1.Number,rv.1.Wire⟩:zg)).getD (⟨(⟨0,0,0,0,0⟩:zh),0,false⟩:za)).Field,((mget wv.met (⟨pE,rv.1.Number,rv.1.Wire⟩:zg)).getD (⟨(⟨0,0,0,0,0⟩:zh),0,false⟩:za)).Run⟩:za) rf) ?_);cases h;exact zdS (lks [14] [(14,3)] lw)
theorem zsc (h:zik k b=some r):uV 121 [kI k,.sl Rp.byte [0] b] [kI r.1,k8 r.2]:=by
 refine zwp (E:=⟨[(4,.ptr 2 0),(5,.ptr 3 0)],[⟨2,3,[kI r.1]⟩,⟨3,27,[k8 r.2]⟩]⟩) 20 func121 rfl rfl rfl ⟨⟨_,_,rfl,rfl,rfl,rfl⟩,⟨_,_,rfl,rfl,rfl,rfl⟩,trivial⟩ rfl rfl (fun Xt=>?_);refine zcC ?_;unfold zik at h;refine jq [13,14] (jq [15] (jb h fun rv pB h=>jr (rl 2 [0] 0 call112 (zqi pB) rf) (zr (jb h fun q pI h=>zqJ (E':=⟨[(4,.ptr 13 0),(5,.ptr 14 0),(6,.ptr 15 0),(11,.fv 136 [.bp uU 3 913600 [] rv.1,.bp (Rp.list Rp.byte) 24 913601 [0] rv.2])],[⟨13,3,[kI 0]⟩,⟨14,27,[k8 0]⟩,⟨15,3,[kI 0]⟩]⟩) ?_ ?_))))
 · exact lzz
 refine zxN (it:=fun {σ:Type} (kf:Rnd σ ((List UInt8)×Int)) (sg:σ)=>zdu rv.1 rv.2 kf sg) (znL rv.1 rv.2) [913600,913601] [4,5,6] [13,14,15] [(4,.ptr 13 0),(5,.ptr 14 0),(6,.ptr 15 0)] (fun s:Int=>[⟨13,3,[kI 0]⟩,⟨14,27,[k8 0]⟩,⟨15,3,[kI s]⟩]) (fun o:(Int×Int)=>[⟨13,3,[kI 0]⟩,⟨14,27,[k8 o.1]⟩,⟨15,3,[kI o.2]⟩]) (fun o:(Int×Int)=> .ret) (fun (s:Int) (x:((List UInt8)×Int))=>zcZ s x.1 x.2) (fun (s:Int) (x:((List UInt8)×Int))=>⟨[(4,.ptr 13 0),(5,.ptr 14 0),(6,.ptr 15 0),(8,k8 x.2)],[⟨13,3,[kI 0]⟩,⟨14,27,[k8 0]⟩,⟨15,3,[kI s]⟩]⟩) rfl rfl call136 rfl rfl rfl rfl rfl rfl (fun _=>rfl) (fun o=>rfl) rfl rfl (fun _=>rfl) ?_ (fun _ _=>⟨rfl,rfl⟩) ?_ pI ?_
 ·clear h;intro Xr old f x;obtain ⟨x,x2⟩:=x;exact zcC (zqJ (E':=⟨[(13,k8 x2),(12,.sl Rp.byte [0] x),(4,.ptr 13 0),(5,.ptr 14 0),(6,.ptr 15 0)],[⟨13,3,[kI 0]⟩,⟨14,27,[k8 0]⟩,⟨15,3,[kI f]⟩]⟩) (fun _ _ _ hs=>hs) jy)
 ·clear h;intro Xr old f x o h;obtain ⟨x,x2⟩:=x;refine zcC (zqJ (E':=⟨[(4,.ptr 13 0),(5,.ptr 14 0),(6,.ptr 15 0),(8,k8 x2)],[⟨13,3,[kI 0]⟩,⟨14,27,[k8 0]⟩,⟨15,3,[kI f]⟩]⟩) (fun _ _ _ hs=>hs) ?_);replace h:zcZ f x x2=some o:=h;unfold zcZ at h;refine zr (jp (jI h ?_ ?_))<;>intro py h
  ·refine jp ?_;cases h;exact zzr lzz
  refine jp (zP ?_);cases h;exact zU lzz
 rcases q with u| j
 ·refine zqJ (E':=⟨[(4,.ptr 13 0),(5,.ptr 14 0),(6,.ptr 15 0)],[⟨13,3,[kI 0]⟩,⟨14,27,[k8 0]⟩,⟨15,3,[kI u]⟩]⟩) (fun _ _ _ hs=>hs) (zP (jp ?_));cases h;exact zw (lks [13,14] [(13,2),(14,3)] lzz)
 refine zqJ (E':=⟨[(4,.ptr 13 0),(5,.ptr 14 0),(6,.ptr 15 0)],[⟨13,3,[kI 0]⟩,⟨14,27,[k8 j.1]⟩,⟨15,3,[kI j.2]⟩]⟩) (fun _ _ _ hs=>hs) ?_;cases h;exact zw (lks [13,14] [(13,2),(14,3)] lzz)
theorem zgT (h:zdn m b=some r):uV 44 [.rc zf [0] m,.sl Rp.byte [0] b] [.own ze 106 2 [] r]:=by
 refine fi 16 func44 fun Xt=>?_
 unfold zdn at h;refine jr (ra 0 [.rc zf [0] m] rfl (zgR 13 (zD [0] m) [0] rfl rfl rfl rfl rfl) rfl rf) (jb h fun rv pB h=>jr (rl 2 [0] 12 call51 (ztS pB) rf) (jp ?_));cases h;exact zw (lks [] [(14,2)] lzz)
theorem zkH (h:zdg pR sv pM b d=some r):uV 22 [.sl zf [0] sv,kI pM,.sl Rp.byte [0] b,kI d] [kB r]:=by
 refine fi 14 func22 fun Xt=>?_
 unfold zdg at h;refine jp (jb h fun rv pB h=>jr (rl 4 [0] 9 call13 (zlf pB) rf) ?_);obtain rfl:=(sj h);exact zw lzz
theorem zpL (h:zgi f isRun value=some r):uV 95 [.rc zb [0] f,kB isRun,.sl Rp.byte [0] value] [k8 r]:=by
 refine fi 32 func95 fun Xt=>?_
 unfold zgi at h;refine jq [11] (zr (jp (jI h ?_ ?_)))<;>intro py h
 ·refine jb h fun rv pB h=>jr (rl 3 [0] 10 call121 (zsc pB) rf) ?_;cases h;exact jz
 refine jb h fun g pA h=>jg [3] [11] [(19,kB g)] ?_ ?_
 ·refine (rsI 4 23 pA ?_ ?_)<;>intro pz pA
  ·refine jb pA fun uX pF pA=>?_;cases pA;exact (rl 1 [0] 10 call122 (zsr pF) (rel [] lzz))
  cases pA;exact (rel [] lzz)
 refine jI h ?_ ?_<;>intro pC h
 ·cases h;exact jz
 refine jp (jI h ?_ ?_)<;>intro pD h
 ·cases h;exact jz
 refine zP ?_;cases h;exact jz
theorem zmc (h:zdY m b=some r):uV 43 [.rc zf [0] m,.sl Rp.byte [0] b] [.om uU Rp.bool 2 [] r]:=by
 refine fi 45 func43 fun Xt=>?_
 unfold zdY at h;refine jr (ra 0 [.rc zf [0] m] rfl (zgR 13 (zD [0] m) [0] rfl rfl rfl rfl rfl) rfl rf) (jr (rc 0 rfl (zgS (rk:=uU) (rv:=Rp.bool) 14 rfl) rf) (jb h fun rv pB h=>jr (rl 2 [0] 13 call44 (zgT pB) rf) (zr (jb h fun q pI h=>jL pI [2,11,12] [13] (fun s=>[(5,.om uU Rp.bool 14 [] s.1),(13,kI s.2)]) (fun o=> .x 0 ⟨[(5,.om uU Rp.bool 14 [] o)],[]⟩) ?_ lzz ?_))))
 ·clear h;intro s o h;obtain ⟨fields,v⟩:=s;replace h:zbe m rv fields v=some o:=h;unfold zbe at h;refine jp (jI h ?_ ?_)<;>intro py h
  ·refine zr (jb h fun x pL h=>jr (ra 0 [.own ze 106 15 [] rv,kI v] rfl (znx rfl zpU.el (zgb _ _ _ _ _) pL) rfl (rc 0 rfl (lde ze [15] x zmJ) (rfl' [17]))) (jb h fun g pA h=>jg [2,5,7,11,12,13] [13,17] [(39,kB g)] ?_ ?_))
   ·refine (rsI 4 20 pA ?_ ?_)<;>intro pz pA
    ·refine jb pA fun x2 pO pA=>(rx 4 [0] zhD.el pO rfl rfl (rsI 5 30 pA ?_ ?_))<;>intro pC pA
     ·refine jb pA fun x3 p4 pA=>?_;cases pA;exact (rx 4 [0] zhD.el p4 rfl rfl (rel [] lzz))
     cases pA;exact (rel [] lzz)
    cases pA;exact (rel [] lzz)
   refine jI h ?_ ?_<;>intro pD h
   ·refine jr (rms 3 [] 14 [] fields x.Field true [] zvK (zcp rfl rfl) (zcp rfl rfl) rf) (zP ?_);cases h;exact jy
   refine zP ?_;cases h;exact jy
  cases h;exact zap rfl lzz
 refine zaV _ rfl (jp ?_);obtain rfl:=(sj h);exact zw (lks [] [(14,2)] lzz)
theorem ziQ (uA:∀{wv:zL} {pE:Int} {pH:Int} {tov:Int} {d:Int} {r:(zn×(List (zg×za)))},xc wv pE pH tov d=some r->zeV prog 66 [.ag [.sl zf [0] wv.s,.sl Rp.byte [0] wv.b,.om zi ze 2 [0] wv.met],kI pE,kI pH,kI tov,kI d] [.rc zO [] r.1] [.ag [.any,.any,.om zi ze 2 [0] r.2],.any,.any,.any,.any]) (uB:∀{wv:zL} {pE:Int} {v:za} {d:Int} {r:(zn×(List (zg×za)))},xa wv pE v d=some r->zeV prog 82 [.ag [.sl zf [0] wv.s,.sl Rp.byte [0] wv.b,.om zi ze 2 [0] wv.met],kI pE,.rc ze [0] v,kI d] [.rc zO [] r.1] [.ag [.any,.any,.om zi ze 2 [0] r.2],.any,.any,.any]) (h:zcb xc xa wv pE pH tov d=some r):zeV prog 66 [.ag [.sl zf [0] wv.s,.sl Rp.byte [0] wv.b,.om zi ze 2 [0] wv.met],kI pE,kI pH,kI tov,kI d] [.rc zO [] r.1] [.ag [.any,.any,.om zi ze 2 [0] r.2],.any,.any,.any,.any]:=by
 refine zgy (E:=⟨[(0,.ag [.any,.any,.om zi ze 2 [0] r.2]),(10,.ptr 3 0)],[⟨3,114,(zfx r.1)⟩]⟩) 49 [0] func66 rfl rfl rfl ⟨⟨_,_,rfl,rfl,rfl,rfl,zue⟩,trivial⟩ ⟨.inr ⟨rfl,rfl⟩,.inl rfl,.inl rfl,.inl rfl,.inl rfl,trivial⟩ rfl (fun Xt old=>?_);refine zcC ?_;unfold zcb at h;refine jq [13,14] (jp (zr (jb h fun q pI h=>jl pI [1,3,4,5,10] [14] (fun s=>[(0,.ag [.sl zf [0] wv.s,.sl Rp.byte [0] wv.b,.om zi ze 2 [0] s.1]),(2,kI s.2.1),(11,kI s.2.2)]) (fun s=>[⟨13,138,[.sl zf [0] wv.s,.sl Rp.byte [0] wv.b,.om zi ze 2 [0] s.1]⟩]) (fun| (.inl v_)=> .X 0 [10] [14] [(0,.ag [.sl zf [0] wv.s,.sl Rp.byte [0] wv.b,.om zi ze 2 [0] v_.1]),(11,kI v_.2)] []| (.inr v_)=> .r ⟨[(0,.ag [.sl zf [0] wv.s,.sl Rp.byte [0] wv.b,.om zi ze 2 [0] v_.1]),(10,.ptr 14 0)],[⟨14,114,[kI v_.2.1,kI v_.2.2.1,k8 v_.2.2.2]⟩]⟩) ?_ lzz ?_)))
 ·clear h;intro s o h;obtain ⟨wv2,vk,uq⟩:=s;replace h:zZ d pE xa tov wv wv2 vk uq=some o:=h;unfold zZ at h;refine jp (jI h ?_ ?_)<;>intro py h
  ·refine zr (jb h fun uX pF h=>jr (rkl 4 [] ⟨[(0,.ag [.sl zf [0] wv.s,.sl Rp.byte [0] wv.b,.om zi ze 2 [0] wv2]),(1,kI pE),(2,kI vk),(3,kI tov),(4,kI d),(5,.ptr 13 0),(10,.ptr 14 0),(11,kI uq),(19,.ag [.sl zf [0] wv.s,.sl Rp.byte [0] wv.b,.om zi ze 2 [0] wv2]),(20,kI pE),(21,kI vk),(22,kI tov)],[⟨13,138,[.sl zf [0] wv.s,.sl Rp.byte [0] wv.b,.om zi ze 2 [0] wv2]⟩,⟨14,114,[kI 0,kI 0,k8 0]⟩]⟩ (zhy ⟨[(0,.ag [.sl zf [0] wv.s,.sl Rp.byte [0] wv.b,.om zi ze 2 [0] uX.2.2]),(1,kI pE),(2,kI vk),(3,kI tov),(4,kI d),(5,.ptr 13 0),(10,.ptr 14 0),(11,kI uq),(19,.ag [.sl zf [0] wv.s,.sl Rp.byte [0] wv.b,.om zi ze 2 [0] uX.2.2]),(20,kI pE),(21,kI vk),(22,kI tov)],[⟨13,138,[.sl zf [0] wv.s,.sl Rp.byte [0] wv.b,.om zi ze 2 [0] uX.2.2]⟩,⟨14,114,[kI 0,kI 0,k8 0]⟩]⟩ (zhA [.ag [.sl zf [0] wv.s,.sl Rp.byte [0] wv.b,.om zi ze 2 [0] wv2],kI pE,kI vk,kI tov] [(2,2)] [0] 15 [] rfl call81 (zlC pF) rfl rfl (by kernel_rfl) rfl rfl rfl) rfl (by kernel_rfl) (by kernel_rfl) ⟨⟨_,rfl,zla ⟨zo rfl,zo rfl,zeA 0 rfl,trivial⟩⟩,⟨_,rfl,zo rfl⟩,⟨_,rfl,zo rfl⟩,⟨_,rfl,zo rfl⟩,⟨_,rfl,zo rfl⟩,⟨_,rfl,zo rfl⟩,⟨_,rfl,zo rfl⟩,⟨_,rfl,zo rfl⟩,⟨_,rfl,zla ⟨zo rfl,zo rfl,zeA 0 rfl,trivial⟩⟩,⟨_,rfl,zo rfl⟩,⟨_,rfl,zo rfl⟩,⟨_,rfl,zo rfl⟩,trivial⟩ ⟨⟨_,rfl,rfl,rfl,⟨zo rfl,zo rfl,zeA 0 rfl,trivial⟩⟩,⟨_,rfl,rfl,rfl,⟨zo rfl,zo rfl,zo rfl,trivial⟩⟩,trivial⟩ (rfl' [18]))) (jp (jI h ?_ ?_)))<;>intro pz h
   ·refine jr (rc 2 rfl (zA (r:=zO) [kI vk,k8 uX.2.1] [] (⟨0,vk,uX.2.1⟩:zn) rfl znk rfl rfl) rf) ?_;cases h;exact zkv lzz
   refine jb h fun rv4 pX h=>jr (lb 2 ze [] uX.1 (rkl 1 [] ⟨[(0,.ag [.sl zf [0] wv.s,.sl Rp.byte [0] wv.b,.om zi ze 2 [0] uX.2.2]),(1,kI pE),(3,kI tov),(4,kI d),(5,.ptr 13 0),(10,.ptr 14 0),(11,kI uq),(12,.ptr 18 0),(31,.ag [.sl zf [0] wv.s,.sl Rp.byte [0] wv.b,.om zi ze 2 [0] uX.2.2]),(32,kI pE),(33,.rc ze [] uX.1),(34,kI d)],[⟨13,138,[.sl zf [0] wv.s,.sl Rp.byte [0] wv.b,.om zi ze 2 [0] uX.2.2]⟩,⟨14,114,[kI 0,kI 0,k8 0]⟩,⟨18,106,(zcm uX.1)⟩]⟩ (zhy ⟨[(0,.ag [.sl zf [0] wv.s,.sl Rp.byte [0] wv.b,.om zi ze 2 [0] rv4.2]),(1,kI pE),(3,kI tov),(4,kI d),(5,.ptr 13 0),(10,.ptr 14 0),(11,kI uq),(12,.ptr 18 0),(31,.ag [.sl zf [0] wv.s,.sl Rp.byte [0] wv.b,.om zi ze 2 [0] rv4.2]),(32,kI pE),(33,.rc ze [] uX.1),(34,kI d)],[⟨13,138,[.sl zf [0] wv.s,.sl Rp.byte [0] wv.b,.om zi ze 2 [0] rv4.2]⟩,⟨14,114,[kI 0,kI 0,k8 0]⟩,⟨18,106,(zcm uX.1)⟩]⟩ (zhA [.ag [.sl zf [0] wv.s,.sl Rp.byte [0] wv.b,.om zi ze 2 [0] uX.2.2],kI pE,.rc ze [] uX.1,kI d] [(2,2)] [0] 18 [] rfl call82 (uB pX) rfl rfl (by kernel_rfl) rfl rfl rfl) rfl (by kernel_rfl) (by kernel_rfl) ⟨⟨_,rfl,zla ⟨zo rfl,zo rfl,zeA 0 rfl,trivial⟩⟩,⟨_,rfl,zo rfl⟩,⟨_,rfl,zo rfl⟩,⟨_,rfl,zo rfl⟩,⟨_,rfl,zo rfl⟩,⟨_,rfl,zo rfl⟩,⟨_,rfl,zo rfl⟩,⟨_,rfl,zo rfl⟩,⟨_,rfl,zla ⟨zo rfl,zo rfl,zeA 0 rfl,trivial⟩⟩,⟨_,rfl,zo rfl⟩,⟨_,rfl,zo rfl⟩,⟨_,rfl,zo rfl⟩,trivial⟩ ⟨⟨_,rfl,rfl,rfl,⟨zo rfl,zo rfl,zeA 0 rfl,trivial⟩⟩,⟨_,rfl,rfl,rfl,⟨zo rfl,zo rfl,zo rfl,trivial⟩⟩,⟨_,rfl,rfl,rfl,⟨zo rfl,zo rfl,zo rfl,zo rfl,zo rfl,zo rfl,zo rfl,trivial⟩⟩,trivial⟩ (rfl' [21])))) (jp (jI h ?_ ?_))<;>intro pC h
   ·refine jr (lb 0 zO [] rv4.1 rf) ?_;cases h;exact zkv lzz
   refine jp (jp (zP ?_));cases h;exact zU lzz
  cases h;exact zap rfl lzz
 rcases q with u| u2
 ·refine zaV _ rfl (jr (rc 1 rfl (zA (r:=zO) [kI u.2] [] (⟨u.2,0,0⟩:zn) rfl znk rfl rfl) rf) ?_);cases h;exact zdS (lks [14] [(14,3)] lw)
 cases h;exact zBK (lks [14] [(14,3)] lw)
theorem zkl (uA:∀{wv:zL} {pE:Int} {pH:Int} {tov:Int} {d:Int} {r:(zn×(List (zg×za)))},xc wv pE pH tov d=some r->zeV prog 66 [.ag [.sl zf [0] wv.s,.sl Rp.byte [0] wv.b,.om zi ze 2 [0] wv.met],kI pE,kI pH,kI tov,kI d] [.rc zO [] r.1] [.ag [.any,.any,.om zi ze 2 [0] r.2],.any,.any,.any,.any]) (uB:∀{wv:zL} {pE:Int} {v:za} {d:Int} {r:(zn×(List (zg×za)))},xa wv pE v d=some r->zeV prog 82 [.ag [.sl zf [0] wv.s,.sl Rp.byte [0] wv.b,.om zi ze 2 [0] wv.met],kI pE,.rc ze [0] v,kI d] [.rc zO [] r.1] [.ag [.any,.any,.om zi ze 2 [0] r.2],.any,.any,.any]) (h:zcG xc xa wv pE v d=some r):zeV prog 82 [.ag [.sl zf [0] wv.s,.sl Rp.byte [0] wv.b,.om zi ze 2 [0] wv.met],kI pE,.rc ze [0] v,kI d] [.rc zO [] r.1] [.ag [.any,.any,.om zi ze 2 [0] r.2],.any,.any,.any]:=by
 refine zgy (E:=⟨[(0,.ag [.any,.any,.om zi ze 2 [0] r.2]),(8,.ptr 3 0)],[⟨3,114,(zfx r.1)⟩]⟩) 71 [0] func82 rfl rfl rfl ⟨⟨_,_,rfl,rfl,rfl,rfl,zue⟩,trivial⟩ ⟨.inr ⟨rfl,rfl⟩,.inl rfl,.inl rfl,.inl rfl,trivial⟩ rfl (fun Xt old=>?_);refine zcC ?_;unfold zcG at h;refine jq [14,15,16] (jp (jI h ?_ ?_))<;>intro py h
 ·refine jr (rc 0 rfl (zA (r:=zO) [] [] (⟨0,0,0⟩:zn) rfl znk rfl rfl) rf) ?_;cases h;exact zdS (lks [16] [(16,3)] lw)
 refine jb h fun x pL h=>jb h fun x2 pO h=>jd [0,3,4,6,8,9] [14,15,16,17] zeq (by exact (lwn 3 (di [0] zeQ.el pL (lw_e (lx (ldl zf [0] x 1 zb x.Fields) (lwn 2 (di [0] zhD.el pO (lx (lde zb [0] x2 znq) (lx (zlY 17 [kS [],kI 0,kI 0,kB false,kB false,kI 0] rfl zeroValue62 rfl) (ly [.ptr 17 0,.rc zb [0] x2] (zlk (r:=zb) (b:=⟨17,62,[kS [],kI 0,kI 0,kB false,kB false,kI 0]⟩) (off:=0) (zaP x2) rfl sizeOf62 rfl rfl rfl rfl) rfl l0)))))))))) (jg [0,3,4,6,8,9] [14,15,16,17] [(32,kB ((x2.Kind==17)&&(decide (d>0))))] ?_ ?_)
 ·refine (rsl 4 [] 29 (x2.Kind==17) ?_ ?_)<;>intro pz
  · exact (rbl [] 32 (decide (d>0)) rfl (by grind))
  exact (rbl [] 32 false rfl (by grind))
 refine jI h ?_ ?_<;>intro pC h
 ·refine jb h fun uX pF h=>jr (rkl 11 [] ⟨[(0,.ag [.sl zf [0] wv.s,.sl Rp.byte [0] wv.b,.om zi ze 2 [0] wv.met]),(8,.ptr 16 0),(33,.ag [.sl zf [0] wv.s,.sl Rp.byte [0] wv.b,.om zi ze 2 [0] wv.met]),(35,kI x2.Of),(38,kI v.Record.At),(41,kI v.Record.To),(43,kI (IntKind.i64.wrap (d - 1)))],[⟨16,114,[kI 0,kI 0,k8 0]⟩]⟩ (zhy ⟨[(0,.ag [.sl zf [0] wv.s,.sl Rp.byte [0] wv.b,.om zi ze 2 [0] uX.2]),(8,.ptr 16 0),(33,.ag [.sl zf [0] wv.s,.sl Rp.byte [0] wv.b,.om zi ze 2 [0] uX.2]),(35,kI x2.Of),(38,kI v.Record.At),(41,kI v.Record.To),(43,kI (IntKind.i64.wrap (d - 1)))],[⟨16,114,[kI 0,kI 0,k8 0]⟩]⟩ (zhA [.ag [.sl zf [0] wv.s,.sl Rp.byte [0] wv.b,.om zi ze 2 [0] wv.met],kI x2.Of,kI v.Record.At,kI v.Record.To,kI (IntKind.i64.wrap (d - 1))] [(2,2)] [0] 17 [] rfl call66 (uA pF) rfl rfl (by kernel_rfl) rfl rfl rfl) rfl (by kernel_rfl) (by kernel_rfl) ⟨⟨_,rfl,zla ⟨zo rfl,zo rfl,zeA 0 rfl,trivial⟩⟩,⟨_,rfl,zo rfl⟩,⟨_,rfl,zla ⟨zo rfl,zo rfl,zeA 0 rfl,trivial⟩⟩,⟨_,rfl,zo rfl⟩,⟨_,rfl,zo rfl⟩,⟨_,rfl,zo rfl⟩,⟨_,rfl,zo rfl⟩,trivial⟩ ⟨⟨_,rfl,rfl,rfl,⟨zo rfl,zo rfl,zo rfl,trivial⟩⟩,trivial⟩ (rfl' [20]))) (jp (jr (lb 0 zO [] (⟨(IntKind.i64.wrap (uX.1.depth+1)),uX.1.place,uX.1.e⟩:zn) rf) ?_));cases h;exact zdS (lks [16] [(16,3)] lw)
 refine jb h fun v3 pV h=>jb h fun u9 pP h=>jd [0,6,8,11] [15,16] zeq (by exact (ly [.ptr 17 0] (zyd (r:=zb) (b:=⟨17,62,(zaP x2)⟩) x2 [] rfl znq rfl rfl) rfl (lwn 10 (ly [.sl Rp.byte [0] wv.b,kI v.Record.At,kI v.Record.To] (zeZ (some (kI v.Record.At)) (some (kI v.Record.To)) rfl zcd.el (zci _ _ _) ⟨rfl,rfl⟩ ⟨rfl,rfl⟩ pV) rfl (lx (lf1 95 (lcd [.rc zb [] x2,kB v.Run,.sl Rp.byte [0] v3] 19 call95 (zpL pP))) l0))))) (jp (jI h ?_ ?_))<;>intro pD h
 ·refine jr (rc 4 rfl (zA (r:=zO) [kI v.Record.From,k8 u9] [] (⟨0,v.Record.From,u9⟩:zn) rfl znk rfl rfl) rf) ?_;cases h;exact zdS (lks [16] [(16,3)] lw)
 refine jr (rc 0 rfl (zA (r:=zO) [] [] (⟨0,0,0⟩:zn) rfl znk rfl rfl) rf) ?_;cases h;exact zdS (lks [16] [(16,3)] lw)
theorem zdw (pR:Nat):(∀{wv:zL} {pE:Int} {pH:Int} {tov:Int} {d:Int} {r:(zn×(List (zg×za)))},zah pR wv pE pH tov d=some r->zeV prog 66 [.ag [.sl zf [0] wv.s,.sl Rp.byte [0] wv.b,.om zi ze 2 [0] wv.met],kI pE,kI pH,kI tov,kI d] [.rc zO [] r.1] [.ag [.any,.any,.om zi ze 2 [0] r.2],.any,.any,.any,.any])/\(∀{wv:zL} {pE:Int} {v:za} {d:Int} {r:(zn×(List (zg×za)))},zbV pR wv pE v d=some r->zeV prog 82 [.ag [.sl zf [0] wv.s,.sl Rp.byte [0] wv.b,.om zi ze 2 [0] wv.met],kI pE,.rc ze [0] v,kI d] [.rc zO [] r.1] [.ag [.any,.any,.om zi ze 2 [0] r.2],.any,.any,.any]):=by
  induction pR with
  | zero=>exact ⟨fun h=>absurd h nofun,fun h=>absurd h nofun⟩
  | succ pR ih=>exact ⟨fun h=>ziQ (fun hh=>ih.1 hh) (fun hh=>ih.2 hh) h,fun h=>zkl (fun hh=>ih.1 hh) (fun hh=>ih.2 hh) h⟩
theorem zjp (h:zah pR wv pE pH tov d=some r):zeV prog 66 [.ag [.sl zf [0] wv.s,.sl Rp.byte [0] wv.b,.om zi ze 2 [0] wv.met],kI pE,kI pH,kI tov,kI d] [.rc zO [] r.1] [.ag [.any,.any,.om zi ze 2 [0] r.2],.any,.any,.any,.any]:=(zdw pR).1 h
end Go.Proofs.YtnckiilakdkklaaGreat

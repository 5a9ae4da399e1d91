/-
  The Go functions do what the plain functions say. No condition.
-/
import Derived.Test.Ytnckiilakdkklaax1G2
set_option autoImplicit true
set_option relaxedAutoImplicit true
namespace Go.Proofs.Ytnckiilakdkklaa
open Try
open Go Go.RowKit
set_option linter.unusedVariables false
set_option maxRecDepth 100000
set_option maxHeartbeats 3200000
theorem zlb (h:zdy sv=some r):ur 19 [.sl zg [0] sv] [kB r]:=by
 refine fi 12 func19 fun Xt=>?_
 unfold zdy at h;refine jp (jb h fun rv pk h=>jr (rl 1 [0] 9 call22 (zla pk) (rfl' [11])) ?_);cases h;exact jz
theorem zph (h:zgo m b po=some r):ur 31 [.rc zg [0] m,.sl Rp.byte [0] b,kI po] [.rc zc [] r.1,k8 r.2]:=by
 refine fj ⟨[(6,.ptr 2 0),(7,k8 r.2)],[⟨2,54,(zbm r.1)⟩]⟩ 15 func31 ⟨⟨_,_,rfl,rfl,rfl,rfl,zpl⟩,rfl,trivial⟩ fun Xt=>?_
 unfold zgo at h;refine jr (ra 0 [.rc zg [0] m] rfl (zfE 13 (zx [0] m) [0] rfl rfl rfl rfl rfl) rfl (rfl' [14])) (jb h fun uv pn h=>jr (rc 3 rfl (zeX (rk:=zA) (rv:=zC) 15 rfl) (rkl 0 [] ⟨[(6,.ptr 14 0),(8,.ag (zx [0] m)),(9,.sl Rp.byte [0] b),(10,kI po),(11,.om zA zC 15 [] ([]:(List (zt×zv))))],[⟨14,54,[kI 0,kI 0,kI 0,kI 0,kI 0,kI 0,kB false]⟩]⟩ (zft ⟨[(6,.ptr 14 0),(8,.ag (zx [0] m)),(9,.sl Rp.byte [0] b),(10,kI po),(11,.om zA zC 15 [0] uv.2.2)],[⟨14,54,[kI 0,kI 0,kI 0,kI 0,kI 0,kI 0,kB false]⟩]⟩ (zhd.le (ins':=[(.tmp 8,.ag (zx [0] m)),(.tmp 9,.sl Rp.byte [0] b),(.tmp 10,kI po),(.tmp 11,.om zA zC 15 [] ([]:(List (zt×zv))))]) (zfw (args:=[.tmp 8,.tmp 9,.tmp 10,.tmp 11]) [.rc zg [0] m,.sl Rp.byte [0] b,kI po,.om zA zC 15 [] ([]:(List (zt×zv)))] [(15,2)] [0] 15 [] rfl call23 (zjT pn) rfl rfl (by kernel_rfl) rfl rfl rfl) ⟨⟨rfl,zhY zg [0] m (zx [0] m) rfl rfl⟩,⟨rfl,ut _⟩,⟨rfl,ut _⟩,⟨rfl,ut _⟩,trivial⟩) rfl (by kernel_rfl) (by kernel_rfl) ⟨⟨_,rfl,zo rfl⟩,⟨_,rfl,zo rfl⟩,⟨_,rfl,zo rfl⟩,⟨_,rfl,zo rfl⟩,⟨_,rfl,zcU 0 rfl⟩,trivial⟩ ⟨⟨_,rfl,rfl,rfl,⟨zo rfl,zo rfl,zo rfl,zo rfl,zo rfl,zo rfl,zo rfl,trivial⟩⟩,trivial⟩ rf))) ?_);cases h;exact zG (lks [14] [(14,2)] lzz)
theorem zng (h:zgH k b=some r):ur 61 [kI k,.sl Rp.byte [0] b] [.fv 67 [.bp uq 3 906700 [] r.1,.bp (Rp.list Rp.byte) 24 906701 [0] r.2]]:=by
 refine fi 6 func61 fun Xt=>?_
 unfold zgH at h;refine jq [906700,906701] (jr (ra 0 [.ptr 906700 0,.ptr 906701 0] rfl (zwe (g:=67) [.tmp 2,.tmp 3] [⟨906700,3,[kI k]⟩,⟨906701,24,[.sl Rp.byte [0] b]⟩] [.bp uq 3 906700 [] k,.bp (Rp.list Rp.byte) 24 906701 [0] b] rfl ⟨⟨rfl,rfl,rfl,rfl⟩,⟨rfl,rfl,rfl,rfl⟩,trivial⟩ rfl) rfl rf) ?_);cases h;exact zG lzz
theorem zkR (h:zgn m b=some r):ur 20 [.rc zg [0] m,.sl Rp.byte [0] b] [.own zc 54 2 [] r.1,kI r.2.1,k8 r.2.2]:=by
 refine fi 36 func20 fun Xt=>?_
 unfold zgn at h;refine jr (ra 0 [.rc zg [0] m] rfl (zfE 19 (zx [0] m) [0] rfl rfl rfl rfl rfl) rfl rf) (jr (rc 0 rfl (zeX (rk:=zA) (rv:=zC) 20 rfl) rf) (jp (zz (jb h fun q pq h=>jL pq [1,2] [19] (fun s=>[(4,.own zc 54 26 [] s.1),(7,.om zA zC 20 [0] s.2.1),(8,kI s.2.2)]) (fun| (.inl v_)=> .x 0 ⟨[(4,.own zc 54 26 [] v_)],[]⟩| (.inr v_)=> .r ⟨[(4,kN),(5,kI v_.1),(6,k8 v_.2)],[]⟩) ?_ lw ?_))))
 ·clear h;intro s o h;obtain ⟨l,met,po⟩:=s;replace h:zbt b m l met po=some o:=h;unfold zbt at h;refine jp (jI h ?_ ?_)<;>intro ph h
  ·refine zz (jb h fun uv pn h=>jr (rkl 4 [] ⟨[(1,.sl Rp.byte [0] b),(2,.ptr 19 0),(4,.own zc 54 26 [] l),(7,.om zA zC 20 [0] met),(8,kI po),(17,.ag (zx [0] m)),(18,.sl Rp.byte [0] b),(19,kI po),(20,.om zA zC 20 [0] met)],[⟨19,39,(zx [0] m)⟩]⟩ (zft ⟨[(1,.sl Rp.byte [0] b),(2,.ptr 19 0),(4,.own zc 54 26 [] l),(7,.om zA zC 20 [0] uv.2.2),(8,kI po),(17,.ag (zx [0] m)),(18,.sl Rp.byte [0] b),(19,kI po),(20,.om zA zC 20 [0] uv.2.2)],[⟨19,39,(zx [0] m)⟩]⟩ (zhd.le (ins':=[(.tmp 17,.ag (zx [0] m)),(.tmp 18,.sl Rp.byte [0] b),(.tmp 19,kI po),(.tmp 20,.om zA zC 20 [0] met)]) (zfw (args:=[.tmp 17,.tmp 18,.tmp 19,.tmp 20]) [.rc zg [0] m,.sl Rp.byte [0] b,kI po,.om zA zC 20 [0] met] [(20,2)] [0] 26 [] rfl call23 (zjT pn) rfl rfl (by kernel_rfl) rfl rfl rfl) ⟨⟨rfl,zhY zg [0] m (zx [0] m) rfl rfl⟩,⟨rfl,ut _⟩,⟨rfl,ut _⟩,⟨rfl,ut _⟩,trivial⟩) rfl (by kernel_rfl) (by kernel_rfl) ⟨⟨_,rfl,zo rfl⟩,⟨_,rfl,zo rfl⟩,⟨_,rfl,zo rfl⟩,⟨_,rfl,zcU 0 rfl⟩,⟨_,rfl,zo rfl⟩,⟨_,rfl,zo rfl⟩,⟨_,rfl,zo rfl⟩,⟨_,rfl,zo rfl⟩,⟨_,rfl,zcU 0 rfl⟩,trivial⟩ ⟨⟨_,rfl,rfl,rfl,⟨zo rfl,zo rfl,trivial⟩⟩,trivial⟩ (rfl' [29]))) (jp (jI h ?_ ?_)))<;>intro pj h
   ·cases h;exact jz'
   refine jb h fun v pA h=>jr (lb 1 zc [] uv.1 (rc 0 rfl (lbs1 30 [] uv.1 zsE) (rc 0 rfl (lao 26 [] 54 30 [] [] zsE.el pA (.inl zgE)) rf))) (jp (zaj ?_));cases h;exact zaA lzz
  cases h;exact zbq rfl lzz
 rcases q with u| u2
 ·refine zca _ rfl (jp ?_);cases h;exact zG (lks [] [(26,2)] lzz)
 cases h;exact zgw lw
theorem ziz (h:zdW sv pu d=some r):ur 12 [.sl zg [0] sv,kI pu,kI d] [k8 r]:=by
 refine fi 28 func12 fun Xt=>?_
 unfold zdW at h;refine jp (zz (jb h fun rv pk h=>jr (rl 1 [0] 9 call19 (zlb pk) rf) (jI h ?_ ?_)))<;>intro ph h
 ·cases h;exact jz
 refine jg [] [] [(11,kB ((decide (pu<0))|| ((decide (pu>=(sv.length:Int)))|| ((decide (d<0))|| (decide (d>64))))))] ?_ ?_
 ·refine (rsl 3 [] 14 (decide (pu<0)) ?_ ?_)<;>intro pj
  · exact (rbl [] 11 true rfl (by grind))
  refine (rsl 6 [] 20 (decide (pu>=(sv.length:Int))) ?_ ?_)<;>intro pm
  · exact (rbl [] 11 true rfl (by grind))
  refine (rsl 4 [] 24 (decide (d<0)) ?_ ?_)<;>intro pp
  · exact (rbl [] 11 true rfl (by grind))
  exact (rbl [] 11 (decide (d>64)) rfl (by grind))
 refine jI h ?_ ?_<;>intro pt h
 ·cases h;exact jz
 refine zaj ?_;cases h;exact jz
theorem ziZ (h:zco wv pl po tov=some r):zdr prog 24 [.ag [.sl zg [0] wv.s,.sl Rp.byte [0] wv.b,.om zf zc 2 [0] wv.met],kI pl,kI po,kI tov] [.rc zc [] r.1,k8 r.2.1] [.ag [.any,.any,.om zf zc 2 [0] r.2.2],.any,.any,.any]:=by
 refine zeG (E:=⟨[(0,.ag [.any,.any,.om zf zc 2 [0] r.2.2]),(8,.ptr 3 0),(9,k8 r.2.1)],[⟨3,54,(zbm r.1)⟩]⟩) 67 [0] func24 rfl rfl rfl ⟨⟨_,_,rfl,rfl,rfl,rfl,zpl⟩,rfl,trivial⟩ ⟨.inr ⟨rfl,rfl⟩,.inl rfl,.inl rfl,.inl rfl,trivial⟩ rfl (fun Xt old=>?_);refine zbx ?_;unfold zco at h;refine jq [13,14] (jb h fun v pA h=>jr (ra 3 [.sl Rp.byte [0] wv.b,kI tov] rfl (zgz none (some (kI tov)) rfl zcW.el (zcx _ _ _) ⟨rfl,rfl⟩ ⟨rfl,rfl⟩ pA) rfl rf) (jb h fun rv pk h=>jr (rl 2 [0] 13 call29 (zhF pk) (rfl' [15])) (jp (jI h ?_ ?_))))<;>intro ph h
 ·refine jr (rc 0 rfl (zD (r:=zc) [] [] (⟨(⟨0,0,0,0,0⟩:zi),0,false⟩:za) rfl zqm rfl rfl) rf) ?_;cases h;exact zcy (lks [14] [(14,3)] lw)
 refine jr (rc 5 rfl (zD (r:=zf) [kI pl,kI rv.1.Number,kI rv.1.Wire] [] (⟨pl,rv.1.Number,rv.1.Wire⟩:ze) rfl zyA rfl rfl) (rfl' [16])) (jr (lb 2 zf [] (⟨pl,rv.1.Number,rv.1.Wire⟩:ze) (ra 0 [.om zf zc 2 [0] wv.met,.rc zf [] (⟨pl,rv.1.Number,rv.1.Wire⟩:ze)] rfl (zkh (rk:=zf) (rv:=zc) (m:=wv.met) (k:=(⟨pl,rv.1.Number,rv.1.Wire⟩:ze)) (.rc zc [0] ((mget wv.met (⟨pl,rv.1.Number,rv.1.Wire⟩:ze)).getD (⟨(⟨0,0,0,0,0⟩:zi),0,false⟩:za))) rfl zuA (zaG rfl) (zoE rfl)) rfl (rfl' [17]))) (jp (jI h ?_ ?_)))<;>intro pj h
 ·refine jb h fun x pr h=>jb h fun uv pn h=>jr (rx 3 [0] ziC.el pr rfl rfl (rc 0 rfl (lde zg [0] x zrG) (rl 2 [0] 16 call31 (zph pn) rf))) (jp (jI h ?_ ?_))<;>intro pm h
  ·refine jr (rc 0 rfl (zD (r:=zc) [] [] (⟨(⟨0,0,0,0,0⟩:zi),0,false⟩:za) rfl zqm rfl rfl) rf) ?_;cases h;exact zcy (lks [14] [(14,3)] lw)
  refine jr (lb 2 zf [] (⟨pl,rv.1.Number,rv.1.Wire⟩:ze) (lb 0 zc [] uv.1 (rms (C1:=[]) (D:=[]) 0 [] 2 [0] wv.met (⟨pl,rv.1.Number,rv.1.Wire⟩:ze) uv.1 [0] zuA (zaG rfl) (zaG rfl) rf))) (jr (lb 0 zO [] rv.1 rf) (jr (lb 0 zc [] (⟨rv.1,uv.1.Field,uv.1.Run⟩:za) rf) ?_));cases h;exact zcy (lks [14] [(14,3)] lw)
 refine jr (lb 0 zO [] rv.1 rf) (jr (lb 0 zc [] (⟨rv.1,((mget wv.met (⟨pl,rv.1.Number,rv.1.Wire⟩:ze)).getD (⟨(⟨0,0,0,0,0⟩:zi),0,false⟩:za)).Field,((mget wv.met (⟨pl,rv.1.Number,rv.1.Wire⟩:ze)).getD (⟨(⟨0,0,0,0,0⟩:zi),0,false⟩:za)).Run⟩:za) rf) ?_);cases h;exact zcy (lks [14] [(14,3)] lw)
theorem zoV (h:zgc k b=some r):ur 46 [kI k,.sl Rp.byte [0] b] [kI r.1,k8 r.2]:=by
 refine zsN (E:=⟨[(4,.ptr 2 0),(5,.ptr 3 0)],[⟨2,3,[kI r.1]⟩,⟨3,27,[k8 r.2]⟩]⟩) 20 func46 rfl rfl rfl ⟨⟨_,_,rfl,rfl,rfl,rfl⟩,⟨_,_,rfl,rfl,rfl,rfl⟩,trivial⟩ rfl rfl (fun Xt=>?_);refine zbx ?_;unfold zgc at h;refine jq [13,14] (jq [15] (jb h fun rv pk h=>jr (rl 2 [0] 0 call61 (zng pk) rf) (zz (jb h fun q pq h=>znG (E':=⟨[(4,.ptr 13 0),(5,.ptr 14 0),(6,.ptr 15 0),(11,.fv 67 [.bp uq 3 906700 [] rv.1,.bp (Rp.list Rp.byte) 24 906701 [0] rv.2])],[⟨13,3,[kI 0]⟩,⟨14,27,[k8 0]⟩,⟨15,3,[kI 0]⟩]⟩) ?_ ?_))))
 · exact lzz
 refine zuf (it:=fun {σ:Type} (kf:Rnd σ ((List UInt8)×Int)) (sg:σ)=>zcf rv.1 rv.2 kf sg) (zkY rv.1 rv.2) [906700,906701] [4,5,6] [13,14,15] [(4,.ptr 13 0),(5,.ptr 14 0),(6,.ptr 15 0)] (fun s:Int=>[⟨13,3,[kI 0]⟩,⟨14,27,[k8 0]⟩,⟨15,3,[kI s]⟩]) (fun o:(Int×Int)=>[⟨13,3,[kI 0]⟩,⟨14,27,[k8 o.1]⟩,⟨15,3,[kI o.2]⟩]) (fun o:(Int×Int)=> .ret) (fun (s:Int) (x:((List UInt8)×Int))=>zbJ s x.1 x.2) (fun (s:Int) (x:((List UInt8)×Int))=>⟨[(4,.ptr 13 0),(5,.ptr 14 0),(6,.ptr 15 0),(8,k8 x.2)],[⟨13,3,[kI 0]⟩,⟨14,27,[k8 0]⟩,⟨15,3,[kI s]⟩]⟩) rfl rfl call67 rfl rfl rfl rfl rfl rfl (fun _=>rfl) (fun o=>rfl) rfl rfl (fun _=>rfl) ?_ (fun _ _=>⟨rfl,rfl⟩) ?_ pq ?_
 ·clear h;intro Xr old f x;obtain ⟨x,x2⟩:=x;exact zbx (znG (E':=⟨[(13,k8 x2),(12,.sl Rp.byte [0] x),(4,.ptr 13 0),(5,.ptr 14 0),(6,.ptr 15 0)],[⟨13,3,[kI 0]⟩,⟨14,27,[k8 0]⟩,⟨15,3,[kI f]⟩]⟩) (fun _ _ _ hs=>hs) jy)
 ·clear h;intro Xr old f x o h;obtain ⟨x,x2⟩:=x;refine zbx (znG (E':=⟨[(4,.ptr 13 0),(5,.ptr 14 0),(6,.ptr 15 0),(8,k8 x2)],[⟨13,3,[kI 0]⟩,⟨14,27,[k8 0]⟩,⟨15,3,[kI f]⟩]⟩) (fun _ _ _ hs=>hs) ?_);replace h:zbJ f x x2=some o:=h;unfold zbJ at h;refine zz (jp (jI h ?_ ?_))<;>intro ph h
  ·refine jp ?_;cases h;exact zvP lzz
  refine jp (zaj ?_);cases h;exact zaA lzz
 rcases q with u| j
 ·refine znG (E':=⟨[(4,.ptr 13 0),(5,.ptr 14 0),(6,.ptr 15 0)],[⟨13,3,[kI 0]⟩,⟨14,27,[k8 0]⟩,⟨15,3,[kI u]⟩]⟩) (fun _ _ _ hs=>hs) (zaj (jp ?_));cases h;exact zG (lks [13,14] [(13,2),(14,3)] lzz)
 refine znG (E':=⟨[(4,.ptr 13 0),(5,.ptr 14 0),(6,.ptr 15 0)],[⟨13,3,[kI 0]⟩,⟨14,27,[k8 j.1]⟩,⟨15,3,[kI j.2]⟩]⟩) (fun _ _ _ hs=>hs) ?_;cases h;exact zG (lks [13,14] [(13,2),(14,3)] lzz)
theorem zhw (h:zdh m b=some r):ur 16 [.rc zg [0] m,.sl Rp.byte [0] b] [.own zc 54 2 [] r]:=by
 refine fi 16 func16 fun Xt=>?_
 unfold zdh at h;refine jr (ra 0 [.rc zg [0] m] rfl (zfE 13 (zx [0] m) [0] rfl rfl rfl rfl rfl) rfl rf) (jb h fun rv pk h=>jr (rl 2 [0] 12 call20 (zkR pk) rf) (jp ?_));cases h;exact zG (lks [] [(14,2)] lzz)
theorem zmj (h:zel m l place=some r):ur 13 [.rc zg [0] m,.sl (Rp.list Rp.byte) [0] l,kI place] [kI r]:=by
 refine fi 42 func13 fun Xt=>?_
 unfold zel at h;refine jr (ra 0 [.rc zg [0] m] rfl (zfE 11 (zx [0] m) [0] rfl rfl rfl rfl rfl) rfl rf) (jp (jp (zz (jb h fun q pq h=>jL pq [1,2,3,13,14] [11] (fun s=>[(7,kI s.1),(15,kI s.2)]) (fun| (.inl v_)=> .X 0 [1] [] [] []| (.inr v_)=> .r ⟨[(6,kI v_)],[]⟩) ?_ lzz ?_))))
 ·clear h;intro s o h;obtain ⟨endv,v⟩:=s;replace h:zbd l m place endv v=some o:=h;unfold zbd at h;refine jp (jI h ?_ ?_)<;>intro ph h
  ·refine zz (jb h fun x pr h=>jr (rx 1 [0] zoq.el pr rfl rfl (rc 0 rfl (ldl (Rp.list Rp.byte) [0] x 0 Rp.byte x) rf)) (jp (jb h fun rv pk h=>jr (rl 2 [0] 11 call20 (zkR pk) rf) (jg [1,2,3,7,8,13,14,15] [11] [(37,kB ((rv.2.2 !=0)|| (decide ((IntKind.i64.wrap (endv+(x.length:Int)))>place))))] ?_ ?_))))
   ·refine (rsl 3 [] 33 (rv.2.2 !=0) ?_ ?_)<;>intro pj
    · exact (rbl [] 37 true rfl (by grind))
    exact (rbl [] 37 (decide ((IntKind.i64.wrap (endv+(x.length:Int)))>place)) rfl (by grind))
   refine jI h ?_ ?_<;>intro pm h
   ·cases h;exact jz'
   refine zaj ?_;cases h;exact jy
  cases h;exact zbq rfl lzz
 rcases q with u| u2
 ·refine zca _ rfl ?_;cases h;exact jz
 obtain rfl:=(sj h);exact zgw lzz
theorem zmP (h:zer f isRun value=some r):ur 32 [.rc zb [0] f,kB isRun,.sl Rp.byte [0] value] [k8 r]:=by
 refine fi 32 func32 fun Xt=>?_
 unfold zer at h;refine jq [11] (zz (jp (jI h ?_ ?_)))<;>intro ph h
 ·refine jb h fun rv pk h=>jr (rl 3 [0] 10 call46 (zoV pk) rf) ?_;cases h;exact jz
 refine jb h fun g pi h=>jg [3] [11] [(19,kB g)] ?_ ?_
 ·refine (rsI 4 23 pi ?_ ?_)<;>intro pj pi
  ·refine jb pi fun uv pn pi=>?_;cases pi;exact (rl 1 [0] 10 call47 (zpg pn) (rel [] lzz))
  cases pi;exact (rel [] lzz)
 refine jI h ?_ ?_<;>intro pm h
 ·cases h;exact jz
 refine jp (jI h ?_ ?_)<;>intro pp h
 ·cases h;exact jz
 refine zaj ?_;cases h;exact jz
theorem zjw (h:zcB m b=some r):ur 15 [.rc zg [0] m,.sl Rp.byte [0] b] [.om uq Rp.bool 2 [] r]:=by
 refine fi 45 func15 fun Xt=>?_
 unfold zcB at h;refine jr (ra 0 [.rc zg [0] m] rfl (zfE 13 (zx [0] m) [0] rfl rfl rfl rfl rfl) rfl rf) (jr (rc 0 rfl (zeX (rk:=uq) (rv:=Rp.bool) 14 rfl) rf) (jb h fun rv pk h=>jr (rl 2 [0] 13 call16 (zhw pk) rf) (zz (jb h fun q pq h=>jL pq [2,11,12] [13] (fun s=>[(5,.om uq Rp.bool 14 [] s.1),(13,kI s.2)]) (fun o=> .x 0 ⟨[(5,.om uq Rp.bool 14 [] o)],[]⟩) ?_ lzz ?_))))
 ·clear h;intro s o h;obtain ⟨fields,v⟩:=s;replace h:zaw m rv fields v=some o:=h;unfold zaw at h;refine jp (jI h ?_ ?_)<;>intro ph h
  ·refine zz (jb h fun x pr h=>jr (ra 0 [.own zc 54 15 [] rv,kI v] rfl (zsf rfl zsE.el (zlW _ _ _ _ _) pr) rfl (rc 0 rfl (lde zc [15] x zpl) (rfl' [17]))) (jb h fun g pi h=>jg [2,5,7,11,12,13] [13,17] [(39,kB g)] ?_ ?_))
   ·refine (rsI 4 20 pi ?_ ?_)<;>intro pj pi
    ·refine jb pi fun x2 px pi=>(rx 4 [0] zkS.el px rfl rfl (rsI 5 30 pi ?_ ?_))<;>intro pm pi
     ·refine jb pi fun x3 pS pi=>?_;cases pi;exact (rx 4 [0] zkS.el pS rfl rfl (rel [] lzz))
     cases pi;exact (rel [] lzz)
    cases pi;exact (rel [] lzz)
   refine jI h ?_ ?_<;>intro pp h
   ·refine jr (rms 3 [] 14 [] fields x.Field true [] zuz (zbp rfl rfl) (zbp rfl rfl) rf) (zaj ?_);cases h;exact jy
   refine zaj ?_;cases h;exact jy
  cases h;exact zbq rfl lzz
 refine zca _ rfl (jp ?_);obtain rfl:=(sj h);exact zG (lks [] [(14,2)] lzz)
theorem zgJ (pU:∀{wv:zI} {pl:Int} {po:Int} {tov:Int} {d:Int} {r:(zn×(List (ze×za)))},xb wv pl po tov d=some r->zdr prog 21 [.ag [.sl zg [0] wv.s,.sl Rp.byte [0] wv.b,.om zf zc 2 [0] wv.met],kI pl,kI po,kI tov,kI d] [.rc zL [] r.1] [.ag [.any,.any,.om zf zc 2 [0] r.2],.any,.any,.any,.any]) (pV:∀{wv:zI} {pl:Int} {v:za} {d:Int} {r:(zn×(List (ze×za)))},xa wv pl v d=some r->zdr prog 25 [.ag [.sl zg [0] wv.s,.sl Rp.byte [0] wv.b,.om zf zc 2 [0] wv.met],kI pl,.rc zc [0] v,kI d] [.rc zL [] r.1] [.ag [.any,.any,.om zf zc 2 [0] r.2],.any,.any,.any]) (h:zbi xb xa wv pl po tov d=some r):zdr prog 21 [.ag [.sl zg [0] wv.s,.sl Rp.byte [0] wv.b,.om zf zc 2 [0] wv.met],kI pl,kI po,kI tov,kI d] [.rc zL [] r.1] [.ag [.any,.any,.om zf zc 2 [0] r.2],.any,.any,.any,.any]:=by
 refine zeG (E:=⟨[(0,.ag [.any,.any,.om zf zc 2 [0] r.2]),(10,.ptr 3 0)],[⟨3,57,(zdM r.1)⟩]⟩) 49 [0] func21 rfl rfl rfl ⟨⟨_,_,rfl,rfl,rfl,rfl,ztE⟩,trivial⟩ ⟨.inr ⟨rfl,rfl⟩,.inl rfl,.inl rfl,.inl rfl,.inl rfl,trivial⟩ rfl (fun Xt old=>?_);refine zbx ?_;unfold zbi at h;refine jq [13,14] (jp (zz (jb h fun q pq h=>jl pq [1,3,4,5,10] [14] (fun s=>[(0,.ag [.sl zg [0] wv.s,.sl Rp.byte [0] wv.b,.om zf zc 2 [0] s.1]),(2,kI s.2.1),(11,kI s.2.2)]) (fun s=>[⟨13,63,[.sl zg [0] wv.s,.sl Rp.byte [0] wv.b,.om zf zc 2 [0] s.1]⟩]) (fun| (.inl v_)=> .X 0 [10] [14] [(0,.ag [.sl zg [0] wv.s,.sl Rp.byte [0] wv.b,.om zf zc 2 [0] v_.1]),(11,kI v_.2)] []| (.inr v_)=> .r ⟨[(0,.ag [.sl zg [0] wv.s,.sl Rp.byte [0] wv.b,.om zf zc 2 [0] v_.1]),(10,.ptr 14 0)],[⟨14,57,[kI v_.2.1,kI v_.2.2.1,k8 v_.2.2.2]⟩]⟩) ?_ lzz ?_)))
 ·clear h;intro s o h;obtain ⟨wv2,uI,pJ⟩:=s;replace h:zV d pl xa tov wv wv2 uI pJ=some o:=h;unfold zV at h;refine jp (jI h ?_ ?_)<;>intro ph h
  ·refine zz (jb h fun uv pn h=>jr (rkl 4 [] ⟨[(0,.ag [.sl zg [0] wv.s,.sl Rp.byte [0] wv.b,.om zf zc 2 [0] wv2]),(1,kI pl),(2,kI uI),(3,kI tov),(4,kI d),(5,.ptr 13 0),(10,.ptr 14 0),(11,kI pJ),(19,.ag [.sl zg [0] wv.s,.sl Rp.byte [0] wv.b,.om zf zc 2 [0] wv2]),(20,kI pl),(21,kI uI),(22,kI tov)],[⟨13,63,[.sl zg [0] wv.s,.sl Rp.byte [0] wv.b,.om zf zc 2 [0] wv2]⟩,⟨14,57,[kI 0,kI 0,k8 0]⟩]⟩ (zft ⟨[(0,.ag [.sl zg [0] wv.s,.sl Rp.byte [0] wv.b,.om zf zc 2 [0] uv.2.2]),(1,kI pl),(2,kI uI),(3,kI tov),(4,kI d),(5,.ptr 13 0),(10,.ptr 14 0),(11,kI pJ),(19,.ag [.sl zg [0] wv.s,.sl Rp.byte [0] wv.b,.om zf zc 2 [0] uv.2.2]),(20,kI pl),(21,kI uI),(22,kI tov)],[⟨13,63,[.sl zg [0] wv.s,.sl Rp.byte [0] wv.b,.om zf zc 2 [0] uv.2.2]⟩,⟨14,57,[kI 0,kI 0,k8 0]⟩]⟩ (zfw [.ag [.sl zg [0] wv.s,.sl Rp.byte [0] wv.b,.om zf zc 2 [0] wv2],kI pl,kI uI,kI tov] [(2,2)] [0] 15 [] rfl call24 (ziZ pn) rfl rfl (by kernel_rfl) rfl rfl rfl) rfl (by kernel_rfl) (by kernel_rfl) ⟨⟨_,rfl,ziy ⟨zo rfl,zo rfl,zcU 0 rfl,trivial⟩⟩,⟨_,rfl,zo rfl⟩,⟨_,rfl,zo rfl⟩,⟨_,rfl,zo rfl⟩,⟨_,rfl,zo rfl⟩,⟨_,rfl,zo rfl⟩,⟨_,rfl,zo rfl⟩,⟨_,rfl,zo rfl⟩,⟨_,rfl,ziy ⟨zo rfl,zo rfl,zcU 0 rfl,trivial⟩⟩,⟨_,rfl,zo rfl⟩,⟨_,rfl,zo rfl⟩,⟨_,rfl,zo rfl⟩,trivial⟩ ⟨⟨_,rfl,rfl,rfl,⟨zo rfl,zo rfl,zcU 0 rfl,trivial⟩⟩,⟨_,rfl,rfl,rfl,⟨zo rfl,zo rfl,zo rfl,trivial⟩⟩,trivial⟩ (rfl' [18]))) (jp (jI h ?_ ?_)))<;>intro pj h
   ·refine jr (rc 2 rfl (zD (r:=zL) [kI uI,k8 uv.2.1] [] (⟨0,uI,uv.2.1⟩:zn) rfl zog rfl rfl) rf) ?_;cases h;exact zhW lzz
   refine jb h fun rv4 pD h=>jr (lb 2 zc [] uv.1 (rkl 1 [] ⟨[(0,.ag [.sl zg [0] wv.s,.sl Rp.byte [0] wv.b,.om zf zc 2 [0] uv.2.2]),(1,kI pl),(3,kI tov),(4,kI d),(5,.ptr 13 0),(10,.ptr 14 0),(11,kI pJ),(12,.ptr 18 0),(31,.ag [.sl zg [0] wv.s,.sl Rp.byte [0] wv.b,.om zf zc 2 [0] uv.2.2]),(32,kI pl),(33,.rc zc [] uv.1),(34,kI d)],[⟨13,63,[.sl zg [0] wv.s,.sl Rp.byte [0] wv.b,.om zf zc 2 [0] uv.2.2]⟩,⟨14,57,[kI 0,kI 0,k8 0]⟩,⟨18,54,(zbm uv.1)⟩]⟩ (zft ⟨[(0,.ag [.sl zg [0] wv.s,.sl Rp.byte [0] wv.b,.om zf zc 2 [0] rv4.2]),(1,kI pl),(3,kI tov),(4,kI d),(5,.ptr 13 0),(10,.ptr 14 0),(11,kI pJ),(12,.ptr 18 0),(31,.ag [.sl zg [0] wv.s,.sl Rp.byte [0] wv.b,.om zf zc 2 [0] rv4.2]),(32,kI pl),(33,.rc zc [] uv.1),(34,kI d)],[⟨13,63,[.sl zg [0] wv.s,.sl Rp.byte [0] wv.b,.om zf zc 2 [0] rv4.2]⟩,⟨14,57,[kI 0,kI 0,k8 0]⟩,⟨18,54,(zbm uv.1)⟩]⟩ (zfw [.ag [.sl zg [0] wv.s,.sl Rp.byte [0] wv.b,.om zf zc 2 [0] uv.2.2],kI pl,.rc zc [] uv.1,kI d] [(2,2)] [0] 18 [] rfl call25 (pV pD) rfl rfl (by kernel_rfl) rfl rfl rfl) rfl (by kernel_rfl) (by kernel_rfl) ⟨⟨_,rfl,ziy ⟨zo rfl,zo rfl,zcU 0 rfl,trivial⟩⟩,⟨_,rfl,zo rfl⟩,⟨_,rfl,zo rfl⟩,⟨_,rfl,zo rfl⟩,⟨_,rfl,zo rfl⟩,⟨_,rfl,zo rfl⟩,⟨_,rfl,zo rfl⟩,⟨_,rfl,zo rfl⟩,⟨_,rfl,ziy ⟨zo rfl,zo rfl,zcU 0 rfl,trivial⟩⟩,⟨_,rfl,zo rfl⟩,⟨_,rfl,zo rfl⟩,⟨_,rfl,zo rfl⟩,trivial⟩ ⟨⟨_,rfl,rfl,rfl,⟨zo rfl,zo rfl,zcU 0 rfl,trivial⟩⟩,⟨_,rfl,rfl,rfl,⟨zo rfl,zo rfl,zo rfl,trivial⟩⟩,⟨_,rfl,rfl,rfl,⟨zo rfl,zo rfl,zo rfl,zo rfl,zo rfl,zo rfl,zo rfl,trivial⟩⟩,trivial⟩ (rfl' [21])))) (jp (jI h ?_ ?_))<;>intro pm h
   ·refine jr (lb 0 zL [] rv4.1 rf) ?_;cases h;exact zhW lzz
   refine jp (jp (zaj ?_));cases h;exact zaA lzz
  cases h;exact zbq rfl lzz
 rcases q with u| u2
 ·refine zca _ rfl (jr (rc 1 rfl (zD (r:=zL) [kI u.2] [] (⟨u.2,0,0⟩:zn) rfl zog rfl rfl) rf) ?_);cases h;exact zcy (lks [14] [(14,3)] lw)
 cases h;exact zyi (lks [14] [(14,3)] lw)
theorem zhO (pU:∀{wv:zI} {pl:Int} {po:Int} {tov:Int} {d:Int} {r:(zn×(List (ze×za)))},xb wv pl po tov d=some r->zdr prog 21 [.ag [.sl zg [0] wv.s,.sl Rp.byte [0] wv.b,.om zf zc 2 [0] wv.met],kI pl,kI po,kI tov,kI d] [.rc zL [] r.1] [.ag [.any,.any,.om zf zc 2 [0] r.2],.any,.any,.any,.any]) (pV:∀{wv:zI} {pl:Int} {v:za} {d:Int} {r:(zn×(List (ze×za)))},xa wv pl v d=some r->zdr prog 25 [.ag [.sl zg [0] wv.s,.sl Rp.byte [0] wv.b,.om zf zc 2 [0] wv.met],kI pl,.rc zc [0] v,kI d] [.rc zL [] r.1] [.ag [.any,.any,.om zf zc 2 [0] r.2],.any,.any,.any]) (h:zbB xb xa wv pl v d=some r):zdr prog 25 [.ag [.sl zg [0] wv.s,.sl Rp.byte [0] wv.b,.om zf zc 2 [0] wv.met],kI pl,.rc zc [0] v,kI d] [.rc zL [] r.1] [.ag [.any,.any,.om zf zc 2 [0] r.2],.any,.any,.any]:=by
 refine zeG (E:=⟨[(0,.ag [.any,.any,.om zf zc 2 [0] r.2]),(8,.ptr 3 0)],[⟨3,57,(zdM r.1)⟩]⟩) 71 [0] func25 rfl rfl rfl ⟨⟨_,_,rfl,rfl,rfl,rfl,ztE⟩,trivial⟩ ⟨.inr ⟨rfl,rfl⟩,.inl rfl,.inl rfl,.inl rfl,trivial⟩ rfl (fun Xt old=>?_);refine zbx ?_;unfold zbB at h;refine jq [14,15,16] (jp (jI h ?_ ?_))<;>intro ph h
 ·refine jr (rc 0 rfl (zD (r:=zL) [] [] (⟨0,0,0⟩:zn) rfl zog rfl rfl) rf) ?_;cases h;exact zcy (lks [16] [(16,3)] lw)
 refine jb h fun x pr h=>jb h fun x2 px h=>jd [0,3,4,6,8,9] [14,15,16,17] zit (by exact (lwn 3 (di [0] ziC.el pr (lw_e (lx (ldl zg [0] x 1 zb x.Fields) (lwn 2 (di [0] zkS.el px (lx (lde zb [0] x2 zpk) (lx (zmf 17 [kS [],kI 0,kI 0,kB false,kB false,kI 0] rfl zeroValue36 rfl) (ly [.ptr 17 0,.rc zb [0] x2] (zki (r:=zb) (b:=⟨17,36,[kS [],kI 0,kI 0,kB false,kB false,kI 0]⟩) (off:=0) (zbb x2) rfl sizeOf36 rfl rfl rfl rfl) rfl l0)))))))))) (jg [0,3,4,6,8,9] [14,15,16,17] [(32,kB ((x2.Kind==17)&&(decide (d>0))))] ?_ ?_)
 ·refine (rsl 4 [] 29 (x2.Kind==17) ?_ ?_)<;>intro pj
  · exact (rbl [] 32 (decide (d>0)) rfl (by grind))
  exact (rbl [] 32 false rfl (by grind))
 refine jI h ?_ ?_<;>intro pm h
 ·refine jb h fun uv pn h=>jr (rkl 11 [] ⟨[(0,.ag [.sl zg [0] wv.s,.sl Rp.byte [0] wv.b,.om zf zc 2 [0] wv.met]),(8,.ptr 16 0),(33,.ag [.sl zg [0] wv.s,.sl Rp.byte [0] wv.b,.om zf zc 2 [0] wv.met]),(35,kI x2.Of),(38,kI v.Record.At),(41,kI v.Record.To),(43,kI (IntKind.i64.wrap (d - 1)))],[⟨16,57,[kI 0,kI 0,k8 0]⟩]⟩ (zft ⟨[(0,.ag [.sl zg [0] wv.s,.sl Rp.byte [0] wv.b,.om zf zc 2 [0] uv.2]),(8,.ptr 16 0),(33,.ag [.sl zg [0] wv.s,.sl Rp.byte [0] wv.b,.om zf zc 2 [0] uv.2]),(35,kI x2.Of),(38,kI v.Record.At),(41,kI v.Record.To),(43,kI (IntKind.i64.wrap (d - 1)))],[⟨16,57,[kI 0,kI 0,k8 0]⟩]⟩ (zfw [.ag [.sl zg [0] wv.s,.sl Rp.byte [0] wv.b,.om zf zc 2 [0] wv.met],kI x2.Of,kI v.Record.At,kI v.Record.To,kI (IntKind.i64.wrap (d - 1))] [(2,2)] [0] 17 [] rfl call21 (pU pn) rfl rfl (by kernel_rfl) rfl rfl rfl) rfl (by kernel_rfl) (by kernel_rfl) ⟨⟨_,rfl,ziy ⟨zo rfl,zo rfl,zcU 0 rfl,trivial⟩⟩,⟨_,rfl,zo rfl⟩,⟨_,rfl,ziy ⟨zo rfl,zo rfl,zcU 0 rfl,trivial⟩⟩,⟨_,rfl,zo rfl⟩,⟨_,rfl,zo rfl⟩,⟨_,rfl,zo rfl⟩,⟨_,rfl,zo rfl⟩,trivial⟩ ⟨⟨_,rfl,rfl,rfl,⟨zo rfl,zo rfl,zo rfl,trivial⟩⟩,trivial⟩ (rfl' [20]))) (jp (jr (lb 0 zL [] (⟨(IntKind.i64.wrap (uv.1.depth+1)),uv.1.place,uv.1.e⟩:zn) rf) ?_));cases h;exact zcy (lks [16] [(16,3)] lw)
 refine jb h fun v3 pF h=>jb h fun uC pv h=>jd [0,6,8,11] [15,16] zit (by exact (ly [.ptr 17 0] (zux (r:=zb) (b:=⟨17,36,(zbb x2)⟩) x2 [] rfl zpk rfl rfl) rfl (lwn 10 (ly [.sl Rp.byte [0] wv.b,kI v.Record.At,kI v.Record.To] (zgz (some (kI v.Record.At)) (some (kI v.Record.To)) rfl zcW.el (zcx _ _ _) ⟨rfl,rfl⟩ ⟨rfl,rfl⟩ pF) rfl (lx (lf1 32 (lcd [.rc zb [] x2,kB v.Run,.sl Rp.byte [0] v3] 19 call32 (zmP pv))) l0))))) (jp (jI h ?_ ?_))<;>intro pp h
 ·refine jr (rc 4 rfl (zD (r:=zL) [kI v.Record.From,k8 uC] [] (⟨0,v.Record.From,uC⟩:zn) rfl zog rfl rfl) rf) ?_;cases h;exact zcy (lks [16] [(16,3)] lw)
 refine jr (rc 0 rfl (zD (r:=zL) [] [] (⟨0,0,0⟩:zn) rfl zog rfl rfl) rf) ?_;cases h;exact zcy (lks [16] [(16,3)] lw)
theorem zch (py:Nat):(∀{wv:zI} {pl:Int} {po:Int} {tov:Int} {d:Int} {r:(zn×(List (ze×za)))},zaa py wv pl po tov d=some r->zdr prog 21 [.ag [.sl zg [0] wv.s,.sl Rp.byte [0] wv.b,.om zf zc 2 [0] wv.met],kI pl,kI po,kI tov,kI d] [.rc zL [] r.1] [.ag [.any,.any,.om zf zc 2 [0] r.2],.any,.any,.any,.any])/\(∀{wv:zI} {pl:Int} {v:za} {d:Int} {r:(zn×(List (ze×za)))},zaZ py wv pl v d=some r->zdr prog 25 [.ag [.sl zg [0] wv.s,.sl Rp.byte [0] wv.b,.om zf zc 2 [0] wv.met],kI pl,.rc zc [0] v,kI d] [.rc zL [] r.1] [.ag [.any,.any,.om zf zc 2 [0] r.2],.any,.any,.any]):=by
  induction py with
  | zero=>exact ⟨fun h=>absurd h nofun,fun h=>absurd h nofun⟩
  | succ py ih=>exact ⟨fun h=>zgJ (fun hh=>ih.1 hh) (fun hh=>ih.2 hh) h,fun h=>zhO (fun hh=>ih.1 hh) (fun hh=>ih.2 hh) h⟩
theorem zgY (h:zaa py wv pl po tov d=some r):zdr prog 21 [.ag [.sl zg [0] wv.s,.sl Rp.byte [0] wv.b,.om zf zc 2 [0] wv.met],kI pl,kI po,kI tov,kI d] [.rc zL [] r.1] [.ag [.any,.any,.om zf zc 2 [0] r.2],.any,.any,.any,.any]:=(zch py).1 h
end Go.Proofs.Ytnckiilakdkklaa

/-
  The Go functions do what the plain functions say. No condition.
-/
import Derived.Test.YtaglemhabeipfaaGreatx1G5
set_option autoImplicit true
set_option relaxedAutoImplicit true
namespace Go.Proofs.YtaglemhabeipfaaGreat
open Tryz
open Go Go.RowKit
set_option linter.unusedVariables false
set_option maxRecDepth 100000
set_option maxHeartbeats 3200000
theorem zwV (h:zjM sv=some r):kg 67 [.sl zd [0] sv] [kB r]:=by
 refine fi 12 func67 fun Xt=>?_
 unfold zjM at h;refine jp (jb h fun rv u9 h=>jr (rl 1 [0] 9 call99 (zwU u9) (rfl' [11])) ?_);cases h;exact jz
theorem zva (h:zlW m b vh=some r):kg 112 [.rc zd [0] m,.sl Rp.byte [0] b,kI vh] [.rc zk [] r.1,k8 r.2]:=by
 refine fj ⟨[(6,.ptr 2 0),(7,k8 r.2)],[⟨2,68,(zeV r.1)⟩]⟩ 15 func112 ⟨⟨_,_,rfl,rfl,rfl,rfl,zDJ⟩,rfl,trivial⟩ fun Xt=>?_
 unfold zlW at h;refine jr (ra 0 [.rc zd [0] m] rfl (zjy 13 (zU [0] m) [0] rfl rfl rfl rfl rfl) rfl (rfl' [14])) (jb h fun kj vb h=>jr (rc 3 rfl (zms (rk:=zY) (rv:=zZ) 15 rfl) (rkl 0 [] ⟨[(6,.ptr 14 0),(8,.ag (zU [0] m)),(9,.sl Rp.byte [0] b),(10,kI vh),(11,.om zY zZ 15 [] ([]:(List (zL×zQ))))],[⟨14,68,[kI 0,kI 0,kI 0,kI 0,kI 0,kI 0,kB false]⟩]⟩ (ziI ⟨[(6,.ptr 14 0),(8,.ag (zU [0] m)),(9,.sl Rp.byte [0] b),(10,kI vh),(11,.om zY zZ 15 [0] kj.2.2)],[⟨14,68,[kI 0,kI 0,kI 0,kI 0,kI 0,kI 0,kB false]⟩]⟩ (zni.le (ins':=[(.tmp 8,.ag (zU [0] m)),(.tmp 9,.sl Rp.byte [0] b),(.tmp 10,kI vh),(.tmp 11,.om zY zZ 15 [] ([]:(List (zL×zQ))))]) (zlH (args:=[.tmp 8,.tmp 9,.tmp 10,.tmp 11]) [.rc zd [0] m,.sl Rp.byte [0] b,kI vh,.om zY zZ 15 [] ([]:(List (zL×zQ)))] [(15,2)] [0] 15 [] rfl call82 (zvc vb) rfl rfl (by kernel_rfl) rfl rfl rfl) ⟨⟨rfl,zlC zd [0] m (zU [0] m) rfl rfl⟩,⟨rfl,kh _⟩,⟨rfl,kh _⟩,⟨rfl,kh _⟩,trivial⟩) rfl (by kernel_rfl) (by kernel_rfl) ⟨⟨_,rfl,zq rfl⟩,⟨_,rfl,zq rfl⟩,⟨_,rfl,zq rfl⟩,⟨_,rfl,zq rfl⟩,⟨_,rfl,zeF 0 rfl⟩,trivial⟩ ⟨⟨_,rfl,rfl,rfl,⟨zq rfl,zq rfl,zq rfl,zq rfl,zq rfl,zq rfl,zq rfl,trivial⟩⟩,trivial⟩ rf))) ?_);cases h;exact zx (lks [14] [(14,2)] lzz)
theorem zsW (h:zky k b=some r):kg 162 [kI k,.sl Rp.byte [0] b] [.fv 199 [.bp kd 3 919900 [] r.1,.bp (Rp.list Rp.byte) 24 919901 [0] r.2]]:=by
 refine fi 6 func162 fun Xt=>?_
 unfold zky at h;refine jq [919900,919901] (jr (ra 0 [.ptr 919900 0,.ptr 919901 0] rfl (zNG (g:=199) [.tmp 2,.tmp 3] [⟨919900,3,[kI k]⟩,⟨919901,24,[.sl Rp.byte [0] b]⟩] [.bp kd 3 919900 [] k,.bp (Rp.list Rp.byte) 24 919901 [0] b] rfl ⟨⟨rfl,rfl,rfl,rfl⟩,⟨rfl,rfl,rfl,rfl⟩,trivial⟩ rfl) rfl rf) ?_);cases h;exact zx lzz
theorem zAp (h:zmv vq size=some r):kg 146 [kI vq,kI size] [.own Rp.byte 5 2 [] r]:=by
 refine fi 23 func146 fun Xt=>?_
 unfold zmv at h;refine jp (jb h fun rv u9 h=>jr (rl 1 [1] 10 call179 (FnOk.le (ins':=[kN,kI vq,kN]) (zAr u9) ⟨ziZ _ _,kh _,ziZ _ _,trivial⟩) rf) (jb h fun kj vb h=>jr (rl 2 [1] 11 call175 (zsY vb) rf) (jb h fun v vn h=>jb h fun v2 vx h=>jr (ra 4 [.own Rp.byte 5 12 [] rv,kI (IntKind.i64.wrap ((rv.length:Int) - 1))] rfl (zIl rfl zap.el vn) rfl (rc 1 rfl (lao 12 [] 5 13 [] [] zap.el vx (.inl zaI)) rf)) ?_)));obtain rfl:=(sj h);exact zx (lks [] [(12,2)] lzz)
theorem zFQ (h:zrO m b=some r):kg 49 [.rc zd [0] m,.sl Rp.byte [0] b] [.own zk 68 2 [] r.1,kI r.2.1,k8 r.2.2]:=by
 refine fi 36 func49 fun Xt=>?_
 unfold zrO at h;refine jr (ra 0 [.rc zd [0] m] rfl (zjy 19 (zU [0] m) [0] rfl rfl rfl rfl rfl) rfl rf) (jr (rc 0 rfl (zms (rk:=zY) (rv:=zZ) 20 rfl) rf) (jp (zr (jb h fun q ve h=>jL ve [1,2] [19] (fun s=>[(4,.own zk 68 26 [] s.1),(7,.om zY zZ 20 [0] s.2.1),(8,kI s.2.2)]) (fun| (.inl v_)=> .x 0 ⟨[(4,.own zk 68 26 [] v_)],[]⟩| (.inr v_)=> .r ⟨[(4,kN),(5,kI v_.1),(6,k8 v_.2)],[]⟩) ?_ lw ?_))))
 ·clear h;intro s o h;obtain ⟨l,met,vh⟩:=s;replace h:zfh b m l met vh=some o:=h;unfold zfh at h;refine jp (jI h ?_ ?_)<;>intro uY h
  ·refine zr (jb h fun kj vb h=>jr (rkl 4 [] ⟨[(1,.sl Rp.byte [0] b),(2,.ptr 19 0),(4,.own zk 68 26 [] l),(7,.om zY zZ 20 [0] met),(8,kI vh),(17,.ag (zU [0] m)),(18,.sl Rp.byte [0] b),(19,kI vh),(20,.om zY zZ 20 [0] met)],[⟨19,62,(zU [0] m)⟩]⟩ (ziI ⟨[(1,.sl Rp.byte [0] b),(2,.ptr 19 0),(4,.own zk 68 26 [] l),(7,.om zY zZ 20 [0] kj.2.2),(8,kI vh),(17,.ag (zU [0] m)),(18,.sl Rp.byte [0] b),(19,kI vh),(20,.om zY zZ 20 [0] kj.2.2)],[⟨19,62,(zU [0] m)⟩]⟩ (zni.le (ins':=[(.tmp 17,.ag (zU [0] m)),(.tmp 18,.sl Rp.byte [0] b),(.tmp 19,kI vh),(.tmp 20,.om zY zZ 20 [0] met)]) (zlH (args:=[.tmp 17,.tmp 18,.tmp 19,.tmp 20]) [.rc zd [0] m,.sl Rp.byte [0] b,kI vh,.om zY zZ 20 [0] met] [(20,2)] [0] 26 [] rfl call82 (zvc vb) rfl rfl (by kernel_rfl) rfl rfl rfl) ⟨⟨rfl,zlC zd [0] m (zU [0] m) rfl rfl⟩,⟨rfl,kh _⟩,⟨rfl,kh _⟩,⟨rfl,kh _⟩,trivial⟩) rfl (by kernel_rfl) (by kernel_rfl) ⟨⟨_,rfl,zq rfl⟩,⟨_,rfl,zq rfl⟩,⟨_,rfl,zq rfl⟩,⟨_,rfl,zeF 0 rfl⟩,⟨_,rfl,zq rfl⟩,⟨_,rfl,zq rfl⟩,⟨_,rfl,zq rfl⟩,⟨_,rfl,zq rfl⟩,⟨_,rfl,zeF 0 rfl⟩,trivial⟩ ⟨⟨_,rfl,rfl,rfl,⟨zq rfl,zq rfl,trivial⟩⟩,trivial⟩ (rfl' [29]))) (jp (jI h ?_ ?_)))<;>intro uZ h
   ·cases h;exact jz'
   refine jb h fun v vn h=>jr (lb 1 zk [] kj.1 (rc 0 rfl (lbs1 30 [] kj.1 zBY) (rc 0 rfl (lao 26 [] 68 30 [] [] zBY.el vn (.inl zjF)) rf))) (jp (zK ?_));cases h;exact zV lzz
  cases h;exact zae rfl lzz
 rcases q with u| u2
 ·refine zar _ rfl (jp ?_);cases h;exact zx (lks [] [(26,2)] lzz)
 cases h;exact zgY lw
theorem zqI (h:zgg vl sv vj b=some r):kg 14 [.sl zd [0] sv,kI vj,.sl Rp.byte [0] b] [.own Rp.byte 5 2 [] r]:=by
 refine fi 14 func14 fun Xt=>?_
 unfold zgg at h;refine jp (jb h fun rv u9 h=>jb h fun kj vb h=>jr (rl 5 [0] 14 call20 (ztg u9) (rc 0 rfl (lcz [.sl zd [0] sv,kI vj,.ag (zaS 17 [18] 19 [] rv)] 18 call32 (zpj vb) (.k (.k (.c (zhb _) .n)))) rf)) ?_);obtain rfl:=(sj h);exact zx (lks [] [(20,2)] lzz)
theorem zAC (h:zkE sv vj d=some r):kg 76 [.sl zd [0] sv,kI vj,kI d] [k8 r]:=by
 refine fi 28 func76 fun Xt=>?_
 unfold zkE at h;refine jp (zr (jb h fun rv u9 h=>jr (rl 1 [0] 9 call67 (zwV u9) rf) (jI h ?_ ?_)))<;>intro uY h
 ·cases h;exact jz
 refine jg [] [] [(11,kB ((decide (vj<0))|| ((decide (vj>=(sv.length:Int)))|| ((decide (d<0))|| (decide (d>64))))))] ?_ ?_
 ·refine (rsl 3 [] 14 (decide (vj<0)) ?_ ?_)<;>intro uZ
  · exact (rbl [] 11 true rfl (by grind))
  refine (rsl 6 [] 20 (decide (vj>=(sv.length:Int))) ?_ ?_)<;>intro va
  · exact (rbl [] 11 true rfl (by grind))
  refine (rsl 4 [] 24 (decide (d<0)) ?_ ?_)<;>intro vd
  · exact (rbl [] 11 true rfl (by grind))
  exact (rbl [] 11 (decide (d>64)) rfl (by grind))
 refine jI h ?_ ?_<;>intro vf h
 ·cases h;exact jz
 refine zK ?_;cases h;exact jz
theorem ztI (h:zhq wv vc vh tov=some r):ziS prog 109 [.ag [.sl zd [0] wv.s,.sl Rp.byte [0] wv.b,.om zo zk 2 [0] wv.met],kI vc,kI vh,kI tov] [.rc zk [] r.1,k8 r.2.1] [.ag [.any,.any,.om zo zk 2 [0] r.2.2],.any,.any,.any]:=by
 refine zkn (E:=⟨[(0,.ag [.any,.any,.om zo zk 2 [0] r.2.2]),(8,.ptr 3 0),(9,k8 r.2.1)],[⟨3,68,(zeV r.1)⟩]⟩) 67 [0] func109 rfl rfl rfl ⟨⟨_,_,rfl,rfl,rfl,rfl,zDJ⟩,rfl,trivial⟩ ⟨.inr ⟨rfl,rfl⟩,.inl rfl,.inl rfl,.inl rfl,trivial⟩ rfl (fun Xt old=>?_);refine zbE ?_;unfold zhq at h;refine jq [13,14] (jb h fun v vn h=>jr (ra 3 [.sl Rp.byte [0] wv.b,kI tov] rfl (zfO none (some (kI tov)) rfl zap.el (zbd _ _ _) ⟨rfl,rfl⟩ ⟨rfl,rfl⟩ vn) rfl rf) (jb h fun rv u9 h=>jr (rl 2 [0] 13 call111 (zjG u9) (rfl' [15])) (jp (jI h ?_ ?_))))<;>intro uY h
 ·refine jr (rc 0 rfl (zM (r:=zk) [] [] (⟨(⟨0,0,0,0,0⟩:zj),0,false⟩:zi) rfl zFA rfl rfl) rf) ?_;cases h;exact zdP (lks [14] [(14,3)] lw)
 refine jr (rc 5 rfl (zM (r:=zo) [kI vc,kI rv.1.Number,kI rv.1.Wire] [] (⟨vc,rv.1.Number,rv.1.Wire⟩:zn) rfl zPX rfl rfl) (rfl' [16])) (jr (lb 2 zo [] (⟨vc,rv.1.Number,rv.1.Wire⟩:zn) (ra 0 [.om zo zk 2 [0] wv.met,.rc zo [] (⟨vc,rv.1.Number,rv.1.Wire⟩:zn)] rfl (zsc (rk:=zo) (rv:=zk) (m:=wv.met) (k:=(⟨vc,rv.1.Number,rv.1.Wire⟩:zn)) (.rc zk [0] ((mget wv.met (⟨vc,rv.1.Number,rv.1.Wire⟩:zn)).getD (⟨(⟨0,0,0,0,0⟩:zj),0,false⟩:zi))) rfl zIo (zcN rfl) (zCx rfl)) rfl (rfl' [17]))) (jp (jI h ?_ ?_)))<;>intro uZ h
 ·refine jb h fun x vi h=>jb h fun kj vb h=>jr (rx 3 [0] zgS.el vi rfl rfl (rc 0 rfl (lde zd [0] x zwf) (rl 2 [0] 16 call112 (zva vb) rf))) (jp (jI h ?_ ?_))<;>intro va h
  ·refine jr (rc 0 rfl (zM (r:=zk) [] [] (⟨(⟨0,0,0,0,0⟩:zj),0,false⟩:zi) rfl zFA rfl rfl) rf) ?_;cases h;exact zdP (lks [14] [(14,3)] lw)
  refine jr (lb 2 zo [] (⟨vc,rv.1.Number,rv.1.Wire⟩:zn) (lb 0 zk [] kj.1 (rms (C1:=[]) (D:=[]) 0 [] 2 [0] wv.met (⟨vc,rv.1.Number,rv.1.Wire⟩:zn) kj.1 [0] zIo (zcN rfl) (zcN rfl) rf))) (jr (lb 0 zp [] rv.1 rf) (jr (lb 0 zk [] (⟨rv.1,kj.1.Field,kj.1.Run⟩:zi) rf) ?_));cases h;exact zdP (lks [14] [(14,3)] lw)
 refine jr (lb 0 zp [] rv.1 rf) (jr (lb 0 zk [] (⟨rv.1,((mget wv.met (⟨vc,rv.1.Number,rv.1.Wire⟩:zn)).getD (⟨(⟨0,0,0,0,0⟩:zj),0,false⟩:zi)).Field,((mget wv.met (⟨vc,rv.1.Number,rv.1.Wire⟩:zn)).getD (⟨(⟨0,0,0,0,0⟩:zj),0,false⟩:zi)).Run⟩:zi) rf) ?_);cases h;exact zdP (lks [14] [(14,3)] lw)
theorem zDk (h:zoK k b=some r):kg 180 [kI k,.sl Rp.byte [0] b] [kI r.1,k8 r.2]:=by
 refine zAW (E:=⟨[(4,.ptr 2 0),(5,.ptr 3 0)],[⟨2,3,[kI r.1]⟩,⟨3,27,[k8 r.2]⟩]⟩) 20 func180 rfl rfl rfl ⟨⟨_,_,rfl,rfl,rfl,rfl⟩,⟨_,_,rfl,rfl,rfl,rfl⟩,trivial⟩ rfl rfl (fun Xt=>?_);refine zbE ?_;unfold zoK at h;refine jq [13,14] (jq [15] (jb h fun rv u9 h=>jr (rl 2 [0] 0 call162 (zsW u9) rf) (zr (jb h fun q ve h=>zqO (E':=⟨[(4,.ptr 13 0),(5,.ptr 14 0),(6,.ptr 15 0),(11,.fv 199 [.bp kd 3 919900 [] rv.1,.bp (Rp.list Rp.byte) 24 919901 [0] rv.2])],[⟨13,3,[kI 0]⟩,⟨14,27,[k8 0]⟩,⟨15,3,[kI 0]⟩]⟩) ?_ ?_))))
 · exact lzz
 refine zEx (it:=fun {σ:Type} (kf:Rnd σ ((List UInt8)×Int)) (sg:σ)=>zff rv.1 rv.2 kf sg) (zpQ rv.1 rv.2) [919900,919901] [4,5,6] [13,14,15] [(4,.ptr 13 0),(5,.ptr 14 0),(6,.ptr 15 0)] (fun s:Int=>[⟨13,3,[kI 0]⟩,⟨14,27,[k8 0]⟩,⟨15,3,[kI s]⟩]) (fun o:(Int×Int)=>[⟨13,3,[kI 0]⟩,⟨14,27,[k8 o.1]⟩,⟨15,3,[kI o.2]⟩]) (fun o:(Int×Int)=> .ret) (fun (s:Int) (x:((List UInt8)×Int))=>zgm s x.1 x.2) (fun (s:Int) (x:((List UInt8)×Int))=>⟨[(4,.ptr 13 0),(5,.ptr 14 0),(6,.ptr 15 0),(8,k8 x.2)],[⟨13,3,[kI 0]⟩,⟨14,27,[k8 0]⟩,⟨15,3,[kI s]⟩]⟩) rfl rfl call199 rfl rfl rfl rfl rfl rfl (fun _=>rfl) (fun o=>rfl) rfl rfl (fun _=>rfl) ?_ (fun _ _=>⟨rfl,rfl⟩) ?_ ve ?_
 ·clear h;intro Xr old f x;obtain ⟨x,x2⟩:=x;exact zbE (zqO (E':=⟨[(13,k8 x2),(12,.sl Rp.byte [0] x),(4,.ptr 13 0),(5,.ptr 14 0),(6,.ptr 15 0)],[⟨13,3,[kI 0]⟩,⟨14,27,[k8 0]⟩,⟨15,3,[kI f]⟩]⟩) (fun _ _ _ hs=>hs) jy)
 ·clear h;intro Xr old f x o h;obtain ⟨x,x2⟩:=x;refine zbE (zqO (E':=⟨[(4,.ptr 13 0),(5,.ptr 14 0),(6,.ptr 15 0),(8,k8 x2)],[⟨13,3,[kI 0]⟩,⟨14,27,[k8 0]⟩,⟨15,3,[kI f]⟩]⟩) (fun _ _ _ hs=>hs) ?_);replace h:zgm f x x2=some o:=h;unfold zgm at h;refine zr (jp (jI h ?_ ?_))<;>intro uY h
  ·refine jp ?_;cases h;exact zIb lzz
  refine jp (zK ?_);cases h;exact zV lzz
 rcases q with u| j
 ·refine zqO (E':=⟨[(4,.ptr 13 0),(5,.ptr 14 0),(6,.ptr 15 0)],[⟨13,3,[kI 0]⟩,⟨14,27,[k8 0]⟩,⟨15,3,[kI u]⟩]⟩) (fun _ _ _ hs=>hs) (zK (jp ?_));cases h;exact zx (lks [13,14] [(13,2),(14,3)] lzz)
 refine zqO (E':=⟨[(4,.ptr 13 0),(5,.ptr 14 0),(6,.ptr 15 0)],[⟨13,3,[kI 0]⟩,⟨14,27,[k8 j.1]⟩,⟨15,3,[kI j.2]⟩]⟩) (fun _ _ _ hs=>hs) ?_;cases h;exact zx (lks [13,14] [(13,2),(14,3)] lzz)
theorem zuw (h:zhP wv vc b vh=some r):ziS prog 78 [.ag [.sl zd [0] wv.s,.om zf kd 2 [0] wv.met],kI vc,.sl Rp.byte [0] b,kI vh] [.rc zp [] r.1,kI r.2.1] [.ag [.any,.om zf kd 2 [0] r.2.2],.any,.any,.any]:=by
 refine zkn (E:=⟨[(0,.ag [.any,.om zf kd 2 [0] r.2.2]),(8,.ptr 3 0),(9,kI r.2.1)],[⟨3,66,(zaT r.1)⟩]⟩) 55 [0] func78 rfl rfl rfl ⟨⟨_,_,rfl,rfl,rfl,rfl,zKv⟩,rfl,trivial⟩ ⟨.inr ⟨rfl,rfl⟩,.inl rfl,.inl rfl,.inl rfl,trivial⟩ rfl (fun Xt old=>?_);refine zbE ?_;unfold zhP at h;refine jq [13,14] (jb h fun rv u9 h=>jr (rl 2 [0] 13 call111 (zjG u9) (rfl' [15])) (jr (rc 3 rfl (zM (r:=zf) [kI vc,kI rv.1.Number] [] (⟨vc,rv.1.Number⟩:zg) rfl zMx rfl rfl) (rfl' [16])) (jr (lb 2 zf [] (⟨vc,rv.1.Number⟩:zg) (ra 0 [.om zf kd 2 [0] wv.met,.rc zf [] (⟨vc,rv.1.Number⟩:zg)] rfl (zsc (rk:=zf) (rv:=kd) (m:=wv.met) (k:=(⟨vc,rv.1.Number⟩:zg)) (kI ((mget wv.met (⟨vc,rv.1.Number⟩:zg)).getD 0)) rfl zCO (zcN rfl) (ztV rfl rfl rfl)) rfl rf)) (jp (jI h ?_ ?_)))))<;>intro uY h
 ·refine jb h fun x vi h=>jb h fun kj vb h=>jr (rx 3 [0] zgS.el vi rfl rfl (rc 0 rfl (lde zd [0] x zwf) (rl 2 [0] 15 call112 (zva vb) (rfl' [17])))) (jp (jr (lb 2 zf [] (⟨vc,rv.1.Number⟩:zg) (rms (C1:=[]) 1 [] 2 [0] wv.met (⟨vc,rv.1.Number⟩:zg) kj.1.Field [0] zCO (zcN rfl) (zeT rfl rfl) rf)) (jr (lb 0 zp [] rv.1 rf) ?_)));cases h;exact zdP (lks [14] [(14,3)] lw)
 refine jr (lb 0 zp [] rv.1 rf) ?_;cases h;exact zdP (lks [14] [(14,3)] lw)
theorem zDl (h:zoL k b=some r):kg 128 [kI k,.sl Rp.byte [0] b] [.own ke 90 3 [] r.1,k8 r.2]:=by
 refine zAW (E:=⟨[(4,.ptr 2 0),(5,.ptr 4 0)],[⟨2,76,[.own ke 90 3 [] r.1]⟩,⟨4,27,[k8 r.2]⟩]⟩) 30 func128 rfl rfl rfl ⟨⟨_,_,rfl,rfl,rfl,rfl⟩,⟨_,_,rfl,rfl,rfl,rfl⟩,trivial⟩ rfl rfl (fun Xt=>?_);refine zbE ?_;unfold zoL at h;refine jq [18,19,20] (jq [21] (jb h fun rv u9 h=>jr (rl 2 [0] 0 call162 (zsW u9) rf) (zr (jb h fun q ve h=>zqO (E':=⟨[(2,.ptr 18 0),(4,.ptr 19 0),(5,.ptr 20 0),(6,.ptr 21 0),(13,.fv 199 [.bp kd 3 919900 [] rv.1,.bp (Rp.list Rp.byte) 24 919901 [0] rv.2])],[⟨18,3,[kI k]⟩,⟨19,76,[kN]⟩,⟨20,27,[k8 0]⟩,⟨21,76,[.own ke 90 24 [] []]⟩]⟩) ?_ ?_))))
 · exact lw
 refine zEx (it:=fun {σ:Type} (kf:Rnd σ ((List UInt8)×Int)) (sg:σ)=>zff rv.1 rv.2 kf sg) (zpQ rv.1 rv.2) [919900,919901] [2,4,5,6] [18,19,20,21] [(2,.ptr 18 0),(4,.ptr 19 0),(5,.ptr 20 0),(6,.ptr 21 0)] (fun s:(List Int)=>[⟨18,3,[kI k]⟩,⟨19,76,[kN]⟩,⟨20,27,[k8 0]⟩,⟨21,76,[.own ke 90 24 [] s]⟩]) (fun o:(Int×(List Int))=>[⟨18,3,[kI k]⟩,⟨19,76,[kN]⟩,⟨20,27,[k8 o.1]⟩,⟨21,76,[.own ke 90 24 [] o.2]⟩]) (fun o:(Int×(List Int))=> .ret) (fun (s:(List Int)) (x:((List UInt8)×Int))=>zes k s x.1 x.2) (fun (s:(List Int)) (x:((List UInt8)×Int))=>⟨[(2,.ptr 18 0),(4,.ptr 19 0),(5,.ptr 20 0),(6,.ptr 21 0),(7,.sl Rp.byte [0] x.1),(8,k8 x.2)],[⟨18,3,[kI k]⟩,⟨19,76,[kN]⟩,⟨20,27,[k8 0]⟩,⟨21,76,[.own ke 90 24 [] s]⟩]⟩) rfl rfl call199 rfl rfl rfl rfl rfl rfl (fun _=>rfl) (fun o=>rfl) rfl rfl (fun _=>rfl) ?_ (fun _ _=>⟨rfl,rfl⟩) ?_ ve ?_
 ·clear h;intro Xr old f x;obtain ⟨x,x2⟩:=x;exact zbE (zqO (E':=⟨[(15,k8 x2),(14,.sl Rp.byte [0] x),(2,.ptr 18 0),(4,.ptr 19 0),(5,.ptr 20 0),(6,.ptr 21 0)],[⟨18,3,[kI k]⟩,⟨19,76,[kN]⟩,⟨20,27,[k8 0]⟩,⟨21,76,[.own ke 90 24 [] f]⟩]⟩) (fun _ _ _ hs=>hs) (jp jy))
 ·clear h;intro Xr old f x o h;obtain ⟨x,x2⟩:=x;refine zbE (zqO (E':=⟨[(2,.ptr 18 0),(4,.ptr 19 0),(5,.ptr 20 0),(6,.ptr 21 0),(7,.sl Rp.byte [0] x),(8,k8 x2)],[⟨18,3,[kI k]⟩,⟨19,76,[kN]⟩,⟨20,27,[k8 0]⟩,⟨21,76,[.own ke 90 24 [] f]⟩]⟩) (fun _ _ _ hs=>hs) ?_);replace h:zes k f x x2=some o:=h;unfold zes at h;refine zr (jp (jI h ?_ ?_))<;>intro uY h
  ·refine jp ?_;cases h;exact zIb lzz
  refine jb h fun kj vb h=>jr (rl 2 [0] 23 call163 (zzA vb) rf) (jb h fun v vn h=>jr (rc 2 rfl (zfe [kU kj.1] 25 [] ([kj.1]:(List Int)) rfl ztb rfl rfl rfl rfl) (rc 0 rfl (lao 24 [] 90 25 [] [] ztb.el vn (.inl (zjc _))) rf)) (zK ?_));cases h;exact zV lzz
 rcases q with u| j
 ·refine zqO (E':=⟨[(2,.ptr 18 0),(4,.ptr 19 0),(5,.ptr 20 0),(6,.ptr 21 0)],[⟨18,3,[kI k]⟩,⟨19,76,[kN]⟩,⟨20,27,[k8 0]⟩,⟨21,76,[.own ke 90 24 [] u]⟩]⟩) (fun _ _ _ hs=>hs) (zK (jp ?_));cases h;exact zx (lks [19,20] [(19,2),(20,4),(24,3)] lzz)
 refine zqO (E':=⟨[(2,.ptr 18 0),(4,.ptr 19 0),(5,.ptr 20 0),(6,.ptr 21 0)],[⟨18,3,[kI k]⟩,⟨19,76,[kN]⟩,⟨20,27,[k8 j.1]⟩,⟨21,76,[.own ke 90 24 [] j.2]⟩]⟩) (fun _ _ _ hs=>hs) ?_;cases h;exact zx (lks [19,20] [(19,2),(20,4)] lw)
theorem zHz (h:zvb m b vq=some r):kg 29 [.rc zd [0] m,.sl Rp.byte [0] b,kI vq] [.own zk 68 2 [] r]:=by
 refine fi 37 func29 fun Xt=>?_
 unfold zvb at h;refine jr (ra 0 [.rc zd [0] m] rfl (zjy 17 (zU [0] m) [0] rfl rfl rfl rfl rfl) rfl rf) (jb h fun rv u9 h=>jr (rl 2 [0] 16 call49 (zFQ u9) rf) (jp (jp (zr (jb h fun q ve h=>jL ve [2,20,21] [] (fun s=>[(10,.own zk 68 22 [] s.1),(22,kI s.2)]) (fun o=> .x 0 ⟨[(10,.own zk 68 22 [] o)],[]⟩) ?_ lw ?_)))))
 ·clear h;intro s o h;obtain ⟨l,v⟩:=s;replace h:ziR vq rv l v=some o:=h;unfold ziR at h;refine jp (jI h ?_ ?_)<;>intro uY h
  ·refine zr (jb h fun x vi h=>jr (ra 0 [.own zk 68 18 [] rv.1,kI v] rfl (zhI rfl zBY.el (zbv _ _ _ _ _) vi) rfl (rc 0 rfl (lde zk [18] x zDJ) (rfl' [23]))) (jp (jI h ?_ ?_)))<;>intro uZ h
   ·refine jb h fun v2 vx h=>jr (lb 1 zk [] x (rc 0 rfl (lbs1 24 [] x zBY) (rc 0 rfl (lao 22 [] 68 24 [] [] zBY.el vx (.inl zjF)) rf))) (zK ?_);cases h;exact jy
   refine zK ?_;cases h;exact jy
  cases h;exact zae rfl lzz
 refine zar _ rfl (jp ?_);obtain rfl:=(sj h);exact zx (lks [] [(22,2)] lzz)
end Go.Proofs.YtaglemhabeipfaaGreat

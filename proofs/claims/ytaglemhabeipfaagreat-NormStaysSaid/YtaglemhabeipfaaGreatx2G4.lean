/-
  The Go functions do what the plain functions say. No condition.
-/
import Derived.Test.YtaglemhabeipfaaGreatx2G3
set_option autoImplicit true
set_option relaxedAutoImplicit true
namespace Go.Proofs.YtaglemhabeipfaaGreat
open Tryz
open Go Go.RowKit
set_option linter.unusedVariables false
set_option maxRecDepth 100000
set_option maxHeartbeats 3200000
theorem zov (h:zeL c uS f=some r):zhP prog 133 [.ag [kI c.size,.sl wI [0] c.kinds,.om zL Rp.bool 2 [0] c.names,.om zh Rp.bool 3 [0] c.numbers],kI uS,.rc zc [0] f] [kI r.1] [.ag [.any,.any,.om zL Rp.bool 2 [0] r.2.1,.om zh Rp.bool 3 [0] r.2.2],.any,.any]:=by
 refine zjg (E:=⟨[(0,.ag [.any,.any,.om zL Rp.bool 2 [0] r.2.1,.om zh Rp.bool 3 [0] r.2.2]),(6,kI r.1)],[]⟩) 63 [0] func133 rfl rfl rfl ⟨rfl,trivial⟩ ⟨.inr ⟨rfl,rfl⟩,.inl rfl,.inl rfl,trivial⟩ rfl (fun Xt old=>?_);refine zbe ?_;unfold zeL at h;refine jq [11,12] (jd [0,3,5,7,8] [11,12,13,14] zee (by exact (lwn 3 (lx (zaj (r:=zL) [kI uS,kS f.Name] [] (⟨uS,f.Name⟩:zy) rfl zKu rfl rfl) (lwn 3 (lx (zaj (r:=zh) [kI uS,kI f.Number] [] (⟨uS,f.Number⟩:zi) rfl zNR rfl rfl) (lx (zse 13 [kI 0,kS []] rfl zeroValue263 rfl) (lx (zse 14 [kI 0,kI 0] rfl zeroValue265 rfl) (ly [.ptr 13 0,.rc zL [] (⟨uS,f.Name⟩:zy)] (zgB (r:=zL) (b:=⟨13,263,[kI 0,kS []]⟩) (off:=0) [kI uS,kS f.Name] rfl sizeOf263 rfl rfl rfl rfl) rfl (ly [.ptr 14 0,.rc zh [] (⟨uS,f.Number⟩:zi)] (zgB (r:=zh) (b:=⟨14,265,[kI 0,kI 0]⟩) (off:=0) [kI uS,kI f.Number] rfl sizeOf265 rfl rfl rfl rfl) rfl l0))))))))) (zx (jb h fun rv uR h=>jr (rl 2 [1] 13 call169 (znd uR) rf) (jI h ?_ ?_))))<;>intro uP h
 ·refine jp ?_;cases h;exact zdc lw
 refine jr (lb 2 zL [] (⟨uS,f.Name⟩:zy) (ra 0 [.om zL Rp.bool 2 [0] c.names,.rc zL [] (⟨uS,f.Name⟩:zy)] rfl (zsj (rk:=zL) (rv:=Rp.bool) (m:=c.names) (k:=(⟨uS,f.Name⟩:zy)) (kB ((mget c.names (⟨uS,f.Name⟩:zy)).getD false)) rfl zvs (zcv rfl) (zrM rfl rfl rfl)) rfl rf)) (jI h ?_ ?_)<;>intro uT h
 ·refine jp ?_;cases h;exact zdc lw
 refine jb h fun wN uU h=>jr (rl 2 [1] 13 call170 (zru uU) rf) (jI h ?_ ?_)<;>intro uV h
 ·refine jp ?_;cases h;exact zdc lw
 refine jr (lb 2 zh [] (⟨uS,f.Number⟩:zi) (ra 0 [.om zh Rp.bool 3 [0] c.numbers,.rc zh [] (⟨uS,f.Number⟩:zi)] rfl (zsj (rk:=zh) (rv:=Rp.bool) (m:=c.numbers) (k:=(⟨uS,f.Number⟩:zi)) (kB ((mget c.numbers (⟨uS,f.Number⟩:zi)).getD false)) rfl zGh (zcv rfl) (zrM rfl rfl rfl)) rfl rf)) (jI h ?_ ?_)<;>intro uY h
 ·refine jp ?_;cases h;exact zdc lw
 refine jb h fun wQ u0 h=>jr (rl 4 [0] 13 call171 (zjU u0) rf) (jI h ?_ ?_)<;>intro ve h
 ·refine jp ?_;cases h;exact zdc lw
 refine jb h fun g uQ h=>jg [0,3,5,7,8] [11,12,13,14] [(44,kB g)] ?_ ?_
 ·refine (rsI 3 47 uQ ?_ ?_)<;>intro vh uQ
  ·refine jb uQ fun ke vj uQ=>?_;cases uQ;exact (lb 0 zc [] f (rl 0 [1] 13 call172 (zsE vj) (rel [] lzz)))
  cases uQ;exact (rel [] lzz)
 refine jI h ?_ ?_<;>intro vq h
 ·refine jp ?_;cases h;exact zdc lw
 refine jb h fun rv5 vr h=>jr (lb 1 zc [] f (rl 0 [0,2,3] 13 call173 (zow vr) rf)) (jI h ?_ ?_)<;>intro vu h
 ·refine jp ?_;cases h;exact zdc lw
 refine zam (jr (lb 2 zL [] (⟨uS,f.Name⟩:zy) (rms (C1:=[]) 0 [] 2 [0] c.names (⟨uS,f.Name⟩:zy) true [0] zvs (zcv rfl) (zdx rfl rfl) rf)) (jr (lb 2 zh [] (⟨uS,f.Number⟩:zi) (rms (C1:=[]) 0 [] 3 [0] c.numbers (⟨uS,f.Number⟩:zi) true [0] zGh (zcv rfl) (zdx rfl rfl) rf)) (jp ?_)));cases h;exact zdc lw
theorem zxK (h:zif m hv=some r):wL 117 [.rc zf [0] m,.rc zal [0] hv] [.rc zao [] r]:=by
 refine fj ⟨[(4,.ptr 2 0)],[⟨2,197,(zwb r)⟩]⟩ 38 func117 ⟨⟨_,_,rfl,rfl,rfl,rfl,zMS⟩,trivial⟩ fun Xt=>?_
 unfold zif at h;refine jr (ra 0 [.rc zf [0] m] rfl (zis 14 (zW [0] m) [0] rfl rfl rfl rfl rfl) rfl (rfl' [15,16])) (jb h fun rv uR h=>jr (rl 3 [0] 15 call147 (zys uR) rf) (jp (jI h ?_ ?_)))<;>intro uP h
 ·refine jr (rc 0 rfl (zaj (r:=zao) [kI (-1)] [] (⟨(-1),false,0⟩:zab) rfl zFa rfl rfl) rf) ?_;cases h;exact zG (lks [16] [(16,2)] lzz)
 refine jb h fun x uZ h=>jr (rx 3 [0] zoq.el uZ rfl rfl (rc 0 rfl (lde zc [0] x zoe) (rfl' [17]))) (jb h fun wN uU h=>jr (lb 0 zc [] x (rl 2 [1] 16 call148 (zyt uU) rf)) (jb h fun g uQ h=>jg [4,5,7] [16] [(33,kB g)] ?_ ?_))
 ·refine (rsI 3 26 uQ ?_ ?_)<;>intro uT uQ
  ·refine jb uQ fun wQ u0 uQ=>?_;cases uQ;exact (rl 4 [1] 16 call149 (zBr u0) (rel [] lzz))
  cases uQ;exact (rel [] lzz)
 refine jI h ?_ ?_<;>intro uV h
 ·refine jr (rc 0 rfl (zaj (r:=zao) [k8 6] [] (⟨0,false,6⟩:zab) rfl zFa rfl rfl) rf) ?_;cases h;exact zG (lks [16] [(16,2)] lzz)
 refine jr (rc 2 rfl (zaj (r:=zao) [kI rv,kB wN] [] (⟨rv,wN,0⟩:zab) rfl zFa rfl rfl) rf) ?_;cases h;exact zG (lks [16] [(16,2)] lzz)
theorem zsD (h:zkS k=some r):wL 174 [kI k] [kI r]:=by
 refine fi 5 func174 fun Xt=>?_
 unfold zkS at h;refine jp (jb h fun rv uR h=>jr (rl 1 [1] 9 call142 (ziE uR) rf) ?_);obtain rfl:=(sj h);exact zG lzz
theorem zsW (h:zkV b=some r):wL 181 [.sl Rp.byte [0] b] [kB r]:=by
 refine fi 8 func181 fun Xt=>?_
 unfold zkV at h;refine jp (jb h fun rv uR h=>jr (rl 1 [0] 9 call208 (zBp uR) rf) ?_);cases h;exact zG lzz
theorem zmP (h:zgq k=some r):wL 113 [kI k] [kB r]:=by
 refine fi 6 func113 fun Xt=>?_
 unfold zgq at h;refine jp (jb h fun rv uR h=>jr (rl 1 [1] 9 call142 (ziE uR) rf) ?_);cases h;exact zG lzz
theorem zmp (h:zhH b vg wire value=some r):wL 137 [.sl Rp.byte [0] b,kI vg,kI wire,.sl Rp.byte [0] value] [.own Rp.byte 5 2 [] r.1,k8 r.2]:=by
 refine fi 39 func137 fun Xt=>?_
 unfold zhH at h;refine jp (jb h fun rv uR h=>jr (rc 2 rfl (zaj (r:=zbN) [kI vg,kI wire] [] (⟨vg,wire⟩:zap) rfl zBh rfl rfl) (rl 0 [1] 13 call176 (FnOk.le (km:=[kN,.rc zbN [0] (⟨vg,wire⟩:zap)]) (zFb uR) ⟨zeW _ _,wM _,trivial⟩) rf)) (jb h fun g uQ h=>jg [0,2,3,10] [] [(26,kB g)] ?_ ?_))
 ·refine (rsI 3 21 uQ ?_ ?_)<;>intro uP uQ
  ·cases uQ;exact rgg
  refine jb uQ fun wN uU uQ=>?_;cases uQ;exact (rl 2 [0] 14 call177 (zxg uU) rgg)
 refine jI h ?_ ?_<;>intro uT h
 ·refine jp ?_;cases h;exact zG lw
 refine jp (jI h ?_ ?_)<;>intro uV h
 ·refine jb h fun wQ u0 h=>jr (rl 4 [15] 14 call178 (zmw u0) rf) (jb h fun ke vj h=>jr (rc 3 rfl (zkg [.sl Rp.byte [0] b,.own Rp.byte 5 16 [] wQ,.sl Rp.byte [0] value] 17 [0,16] ([b,wQ,value]:(List (List UInt8))) rfl znq rfl rfl rfl rfl) (rl 0 [17,0,16] 16 call71 (zbC vj) rf)) ?_);cases h;exact zG (lks [] [(18,2)] lzz)
 refine jb h fun rv5 vr h=>jr (rc 3 rfl (zkg [.sl Rp.byte [0] b,.own Rp.byte 5 15 [] rv.1,.sl Rp.byte [0] value] 19 [0,15] ([b,rv.1,value]:(List (List UInt8))) rfl znq rfl rfl rfl rfl) (rl 0 [19,0,15] 18 call71 (zbC vr) rf)) ?_;cases h;exact zG (lks [] [(20,2)] lzz)
theorem zAL (h:zkO k=some r):wL 144 [kI k] [kI r]:=by
 refine fi 9 func144 fun Xt=>?_
 unfold zkO at h;refine jp (jb h fun rv uR h=>jr (rl 1 [1] 9 call142 (ziE uR) rf) (zx (jp (jI h ?_ ?_))))<;>intro uP h
 ·cases h;exact jz
 refine jp (jI h ?_ ?_)<;>intro uT h
 ·cases h;exact jz
 refine zam ?_;cases h;exact jz
theorem zsR (h:zgR m text=some r):wL 130 [.rc zf [0] m,kS text] [kB r]:=by
 refine fi 33 func130 fun Xt=>?_
 unfold zgR at h;refine jr (ra 0 [.rc zf [0] m] rfl (zis 11 (zW [0] m) [0] rfl rfl rfl rfl rfl) rfl rf) (jb h fun v vc h=>jb h fun rv uR h=>jr (ra 1 [kS text] rfl (zvr 12 rfl underlying9 underlying24 underlying5 vc) rfl (rl 0 [12] 11 call111 (zgM uR) (rfl' [13]))) (jg [2,5] [11,13] [(23,kB ((rv.2 !=0)|| (rv.1.To !=(text.length:Int))))] ?_ ?_))
 ·refine (rsl 3 [] 17 (rv.2 !=0) ?_ ?_)<;>intro uP
  · exact (rbl [] 23 true rfl (by grind))
  exact (rbl [] 23 (rv.1.To !=(text.length:Int)) rfl (by grind))
 refine jI h ?_ ?_<;>intro uT h
 ·refine jp ?_;obtain rfl:=(sj h);exact zG lzz
 refine jb h fun wN uU h=>jr (rl 3 [0] 12 call68 (zhK uU) rf) ?_;cases h;exact jz
theorem zyc (h:zlc k=some r):wL 136 [kI k] [kI r]:=by
 refine fi 9 func136 fun Xt=>?_
 unfold zlc at h;refine jp (jb h fun rv uR h=>jr (rl 1 [1] 9 call142 (ziE uR) rf) (zx (jp (jI h ?_ ?_))))<;>intro uP h
 ·cases h;exact jz
 refine jp (jI h ?_ ?_)<;>intro uT h
 ·cases h;exact jz
 refine zam ?_;cases h;exact jz
end Go.Proofs.YtaglemhabeipfaaGreat

/-
  The Go functions do what the plain functions say. No condition.
-/
import Derived.Test.YtaglemhabeipfaaGreatx1G3
set_option autoImplicit true
set_option relaxedAutoImplicit true
namespace Go.Proofs.YtaglemhabeipfaaGreat
open Tryz
open Go Go.RowKit
set_option linter.unusedVariables false
set_option maxRecDepth 100000
set_option maxHeartbeats 3200000
theorem zql (h:zfD c vc f=some r):ziS prog 133 [.ag [kI c.size,.sl kd [0] c.kinds,.om zC Rp.bool 2 [0] c.names,.om zf Rp.bool 3 [0] c.numbers],kI vc,.rc zb [0] f] [kI r.1] [.ag [.any,.any,.om zC Rp.bool 2 [0] r.2.1,.om zf Rp.bool 3 [0] r.2.2],.any,.any]:=by
 refine zkn (E:=⟨[(0,.ag [.any,.any,.om zC Rp.bool 2 [0] r.2.1,.om zf Rp.bool 3 [0] r.2.2]),(6,kI r.1)],[]⟩) 63 [0] func133 rfl rfl rfl ⟨rfl,trivial⟩ ⟨.inr ⟨rfl,rfl⟩,.inl rfl,.inl rfl,trivial⟩ rfl (fun Xt old=>?_);refine zbE ?_;unfold zfD at h;refine jq [11,12] (jd [0,3,5,7,8] [11,12,13,14] zcw (by exact (lwn 3 (lx (zM (r:=zC) [kI vc,kS f.Name] [] (⟨vc,f.Name⟩:zv) rfl zMy rfl rfl) (lwn 3 (lx (zM (r:=zf) [kI vc,kI f.Number] [] (⟨vc,f.Number⟩:zg) rfl zPY rfl rfl) (lx (zqW 13 [kI 0,kS []] rfl zeroValue263 rfl) (lx (zqW 14 [kI 0,kI 0] rfl zeroValue265 rfl) (ly [.ptr 13 0,.rc zC [] (⟨vc,f.Name⟩:zv)] (zto (r:=zC) (b:=⟨13,263,[kI 0,kS []]⟩) (off:=0) [kI vc,kS f.Name] rfl sizeOf263 rfl rfl rfl rfl) rfl (ly [.ptr 14 0,.rc zf [] (⟨vc,f.Number⟩:zg)] (zto (r:=zf) (b:=⟨14,265,[kI 0,kI 0]⟩) (off:=0) [kI vc,kI f.Number] rfl sizeOf265 rfl rfl rfl rfl) rfl l0))))))))) (zr (jb h fun rv u9 h=>jr (rl 2 [1] 13 call169 (zoO u9) rf) (jI h ?_ ?_))))<;>intro uY h
 ·refine jp ?_;cases h;exact zdP lw
 refine jr (lb 2 zC [] (⟨vc,f.Name⟩:zv) (ra 0 [.om zC Rp.bool 2 [0] c.names,.rc zC [] (⟨vc,f.Name⟩:zv)] rfl (zuq (rk:=zC) (rv:=Rp.bool) (m:=c.names) (k:=(⟨vc,f.Name⟩:zv)) (kB ((mget c.names (⟨vc,f.Name⟩:zv)).getD false)) rfl zxl (zcN rfl) (ztV rfl rfl rfl)) rfl rf)) (jI h ?_ ?_)<;>intro uZ h
 ·refine jp ?_;cases h;exact zdP lw
 refine jb h fun kj vb h=>jr (rl 2 [1] 13 call170 (ztA vb) rf) (jI h ?_ ?_)<;>intro va h
 ·refine jp ?_;cases h;exact zdP lw
 refine jr (lb 2 zf [] (⟨vc,f.Number⟩:zg) (ra 0 [.om zf Rp.bool 3 [0] c.numbers,.rc zf [] (⟨vc,f.Number⟩:zg)] rfl (zuq (rk:=zf) (rv:=Rp.bool) (m:=c.numbers) (k:=(⟨vc,f.Number⟩:zg)) (kB ((mget c.numbers (⟨vc,f.Number⟩:zg)).getD false)) rfl zIq (zcN rfl) (ztV rfl rfl rfl)) rfl rf)) (jI h ?_ ?_)<;>intro vd h
 ·refine jp ?_;cases h;exact zdP lw
 refine jb h fun kr vm h=>jr (rl 4 [0] 13 call171 (zle vm) rf) (jI h ?_ ?_)<;>intro vf h
 ·refine jp ?_;cases h;exact zdP lw
 refine jb h fun g u0 h=>jg [0,3,5,7,8] [11,12,13,14] [(44,kB g)] ?_ ?_
 ·refine (rsI 3 47 u0 ?_ ?_)<;>intro vk u0
  ·refine jb u0 fun kE vv u0=>?_;cases u0;exact (lb 0 zb [] f (rl 0 [1] 13 call172 (zuO vv) (rel [] lzz)))
  cases u0;exact (rel [] lzz)
 refine jI h ?_ ?_<;>intro vp h
 ·refine jp ?_;cases h;exact zdP lw
 refine jb h fun rv5 vG h=>jr (lb 1 zb [] f (rl 0 [0,2,3] 13 call173 (zqm vG) rf)) (jI h ?_ ?_)<;>intro vy h
 ·refine jp ?_;cases h;exact zdP lw
 refine zK (jr (lb 2 zC [] (⟨vc,f.Name⟩:zv) (rms (C1:=[]) 0 [] 2 [0] c.names (⟨vc,f.Name⟩:zv) true [0] zxl (zcN rfl) (zeT rfl rfl) rf)) (jr (lb 2 zf [] (⟨vc,f.Number⟩:zg) (rms (C1:=[]) 0 [] 3 [0] c.numbers (⟨vc,f.Number⟩:zg) true [0] zIq (zcN rfl) (zeT rfl rfl) rf)) (jp ?_)));cases h;exact zdP lw
theorem zzU (h:zjm m hv=some r):kg 117 [.rc zd [0] m,.rc zY [0] hv] [.rc zZ [] r]:=by
 refine fj ⟨[(4,.ptr 2 0)],[⟨2,197,(zxX r)⟩]⟩ 38 func117 ⟨⟨_,_,rfl,rfl,rfl,rfl,zOY⟩,trivial⟩ fun Xt=>?_
 unfold zjm at h;refine jr (ra 0 [.rc zd [0] m] rfl (zjy 14 (zU [0] m) [0] rfl rfl rfl rfl rfl) rfl (rfl' [15,16])) (jb h fun rv u9 h=>jr (rl 3 [0] 15 call147 (zAE u9) rf) (jp (jI h ?_ ?_)))<;>intro uY h
 ·refine jr (rc 0 rfl (zM (r:=zZ) [kI (-1)] [] (⟨(-1),false,0⟩:zQ) rfl zHp rfl rfl) rf) ?_;cases h;exact zx (lks [16] [(16,2)] lzz)
 refine jb h fun x vi h=>jr (rx 3 [0] zkc.el vi rfl rfl (rc 0 rfl (lde zb [0] x zoj) (rfl' [17]))) (jb h fun kj vb h=>jr (lb 0 zb [] x (rl 2 [1] 16 call148 (zAF vb) rf)) (jb h fun g u0 h=>jg [4,5,7] [16] [(33,kB g)] ?_ ?_))
 ·refine (rsI 3 26 u0 ?_ ?_)<;>intro uZ u0
  ·refine jb u0 fun kr vm u0=>?_;cases u0;exact (rl 4 [1] 16 call149 (zDE vm) (rel [] lzz))
  cases u0;exact (rel [] lzz)
 refine jI h ?_ ?_<;>intro va h
 ·refine jr (rc 0 rfl (zM (r:=zZ) [k8 6] [] (⟨0,false,6⟩:zQ) rfl zHp rfl rfl) rf) ?_;cases h;exact zx (lks [16] [(16,2)] lzz)
 refine jr (rc 2 rfl (zM (r:=zZ) [kI rv,kB kj] [] (⟨rv,kj,0⟩:zQ) rfl zHp rfl rfl) rf) ?_;cases h;exact zx (lks [16] [(16,2)] lzz)
theorem zuN (h:zlS k=some r):kg 174 [kI k] [kI r]:=by
 refine fi 5 func174 fun Xt=>?_
 unfold zlS at h;refine jp (jb h fun rv u9 h=>jr (rl 1 [1] 9 call142 (zmF u9) rf) ?_);obtain rfl:=(sj h);exact zx lzz
theorem zDC (h:zlV b=some r):kg 181 [.sl Rp.byte [0] b] [kB r]:=by
 refine fi 8 func181 fun Xt=>?_
 unfold zlV at h;refine jp (jb h fun rv u9 h=>jr (rl 1 [0] 9 call208 (zDB u9) rf) ?_);cases h;exact zx lzz
theorem zoD (h:zhu k=some r):kg 113 [kI k] [kB r]:=by
 refine fi 6 func113 fun Xt=>?_
 unfold zhu at h;refine jp (jb h fun rv u9 h=>jr (rl 1 [1] 9 call142 (zmF u9) rf) ?_);cases h;exact zx lzz
theorem zsV (h:zku b vq wire value=some r):kg 137 [.sl Rp.byte [0] b,kI vq,kI wire,.sl Rp.byte [0] value] [.own Rp.byte 5 2 [] r.1,k8 r.2]:=by
 refine fi 39 func137 fun Xt=>?_
 unfold zku at h;refine jp (jb h fun rv u9 h=>jr (rc 2 rfl (zM (r:=zbG) [kI vq,kI wire] [] (⟨vq,wire⟩:zaa) rfl zDu rfl rfl) (rl 0 [1] 13 call176 (FnOk.le (ins':=[kN,.rc zbG [0] (⟨vq,wire⟩:zaa)]) (zHq u9) ⟨ziZ _ _,kh _,trivial⟩) rf)) (jb h fun g u0 h=>jg [0,2,3,10] [] [(26,kB g)] ?_ ?_))
 ·refine (rsI 3 21 u0 ?_ ?_)<;>intro uY u0
  ·cases u0;exact rgg
  refine jb u0 fun kj vb u0=>?_;cases u0;exact (rl 2 [0] 14 call177 (zzm vb) rgg)
 refine jI h ?_ ?_<;>intro uZ h
 ·refine jp ?_;cases h;exact zx lw
 refine jp (jI h ?_ ?_)<;>intro va h
 ·refine jb h fun kr vm h=>jr (rl 4 [15] 14 call178 (zoi vm) rf) (jb h fun kE vv h=>jr (rc 3 rfl (zfe [.sl Rp.byte [0] b,.own Rp.byte 5 16 [] kr,.sl Rp.byte [0] value] 17 [0,16] ([b,kr,value]:(List (List UInt8))) rfl zGc rfl rfl rfl rfl) (rl 0 [17,0,16] 16 call71 (zeD vv) rf)) ?_);cases h;exact zx (lks [] [(18,2)] lzz)
 refine jb h fun rv5 vG h=>jr (rc 3 rfl (zfe [.sl Rp.byte [0] b,.own Rp.byte 5 15 [] rv.1,.sl Rp.byte [0] value] 19 [0,15] ([b,rv.1,value]:(List (List UInt8))) rfl zGc rfl rfl rfl rfl) (rl 0 [19,0,15] 18 call71 (zeD vG) rf)) ?_;cases h;exact zx (lks [] [(20,2)] lzz)
theorem zCS (h:zlO k=some r):kg 144 [kI k] [kI r]:=by
 refine fi 9 func144 fun Xt=>?_
 unfold zlO at h;refine jp (jb h fun rv u9 h=>jr (rl 1 [1] 9 call142 (zmF u9) rf) (zr (jp (jI h ?_ ?_))))<;>intro uY h
 ·cases h;exact jz
 refine jp (jI h ?_ ?_)<;>intro uZ h
 ·cases h;exact jz
 refine zK ?_;cases h;exact jz
theorem zqG (h:zgd sv vj d=some r):kg 30 [.sl zd [0] sv,kI vj,kI d] [kI r]:=by
 refine fi 26 func30 fun Xt=>?_
 unfold zgd at h;refine jp (jb h fun rv u9 h=>jr (rl 1 [0] 9 call50 (zqe u9) rf) (jI h ?_ ?_))<;>intro uY h
 ·cases h;exact jz
 refine jg [] [] [(25,kB ((decide (vj<0))|| ((decide (vj>=(sv.length:Int)))|| ((decide (d<0))|| (decide (d>64))))))] ?_ ?_
 ·refine (rsl 3 [] 12 (decide (vj<0)) ?_ ?_)<;>intro uZ
  · exact (rbl [] 25 true rfl (by grind))
  refine (rsl 6 [] 18 (decide (vj>=(sv.length:Int))) ?_ ?_)<;>intro va
  · exact (rbl [] 25 true rfl (by grind))
  refine (rsl 4 [] 22 (decide (d<0)) ?_ ?_)<;>intro vd
  · exact (rbl [] 25 true rfl (by grind))
  exact (rbl [] 25 (decide (d>64)) rfl (by grind))
 refine jI h ?_ ?_<;>intro vf h
 ·cases h;exact jz
 cases h;exact jz
theorem zpe (wS:∀{sv:(List zc)} {m:Int} {b:(List UInt8)} {d:Int} {r:(Int×Int)},xh sv m b d=some r->kg 31 [.sl zd [0] sv,kI m,.sl Rp.byte [0] b,kI d] [kI r.1,kI r.2]) (h:zcf xh sv m b d=some r):kg 31 [.sl zd [0] sv,kI m,.sl Rp.byte [0] b,kI d] [kI r.1,kI r.2]:=by
 refine fi 106 func31 fun Xt=>?_
 unfold zcf at h;refine jp (jp (zr (jb h fun q ve h=>jL ve [0,1,2,3] [] (fun s=>[(10,kI s)]) (fun| (.inl v_)=> .x 0 ⟨[],[]⟩| (.inr v_)=> .r ⟨[(8,kI v_.1),(9,kI v_.2)],[]⟩) ?_ lzz ?_)))
 ·clear h;intro kp o h;unfold zbi at h;refine jp (jI h ?_ ?_)<;>intro uY h
  ·refine zr (jb h fun x vi h=>jb h fun rv u9 h=>jr (rx 2 [0] zgS.el vi rfl rfl (rc 0 rfl (lde zd [0] x zwf) (rl 2 [0] 10 call51 (zkU u9) (rfl' [12])))) (jp (jI h ?_ ?_)))<;>intro uZ h
   ·cases h;exact jz'
   refine jb h fun v3 vu h=>jr (ra 7 [.sl Rp.byte [0] b,kI rv.1.R.At,kI rv.1.R.To] rfl (zfO (some (kI rv.1.R.At)) (some (kI rv.1.R.To)) rfl zap.el (zbd _ _ _) ⟨rfl,rfl⟩ ⟨rfl,rfl⟩ vu) rfl rf) (jp (jI h ?_ ?_))<;>intro va h
   ·refine jb h fun x2 vr h=>jb h fun x3 vC h=>jd [0,1,2,3,10,11,13,14] [12,13] zcw (by exact (lwn 2 (di [0] zgS.el vr (lw_e (lx (ldl zd [0] x2 1 zb x2.Fields) (lwn 2 (di [0] zkc.el vC (lx (lde zb [0] x3 zoj) (lx (zqW 13 [kS [],kI 0,kI 0,kB false,kB false,kI 0] rfl zeroValue59 rfl) (ly [.ptr 13 0,.rc zb [0] x3] (zto (r:=zb) (b:=⟨13,59,[kS [],kI 0,kI 0,kB false,kB false,kI 0]⟩) (off:=0) (zT x3) rfl sizeOf59 rfl rfl rfl rfl) rfl l0)))))))))) (jp (jI h ?_ ?_))<;>intro vd h
    ·refine jb h fun kj vb h=>jr (rl 3 [0] 12 call52 (zkT vb) rf) (jp (jI h ?_ ?_))<;>intro vf h
     ·cases h;exact jz'
     refine jp (zK ?_);cases h;exact zV lzz
    refine jb h fun g u0 h=>jg [0,1,2,3,10,11,13,14] [12,13] [(77,kB g)] ?_ ?_
    ·refine (rsI 4 73 u0 ?_ ?_)<;>intro vk u0
     ·refine jb u0 fun kr vm u0=>?_;cases u0;exact (rl 1 [0] 13 call53 (zqa vm) (rel [] lzz))
     cases u0;exact (rel [] lzz)
    refine jI h ?_ ?_<;>intro vp h
    ·cases h;exact jz'
    refine jp (jI h ?_ ?_)<;>intro vy h
    ·refine jp (jI h ?_ ?_)<;>intro vA h
     ·cases h;exact jz'
     refine jb h fun kE vv h=>jr (rl 6 [0] 13 call31 (wS vv) rf) (jp (jI h ?_ ?_))<;>intro vB h
     ·cases h;exact jz'
     refine jp (zK ?_);cases h;exact zV lzz
    refine jp (zK ?_);cases h;exact zV lzz
   refine jp (zK ?_);cases h;exact zV lzz
  cases h;exact zae rfl lzz
 rcases q with u| u2
 ·refine zar _ rfl ?_;cases h;exact jz
 cases h;exact zgY lzz
theorem zqh (h:zaZ vl sv m b d=some r):kg 31 [.sl zd [0] sv,kI m,.sl Rp.byte [0] b,kI d] [kI r.1,kI r.2]:=by
  induction vl generalizing sv m b d r with
  | zero=>exact absurd h nofun
  | succ vl ih=>exact zpe (fun hh=>ih hh) h
theorem zsC (h:zgG m b=some r):kg 35 [.rc zd [0] m,.sl Rp.byte [0] b] [.own zao 86 2 [] r.1,kI r.2.1,kI r.2.2]:=by
 refine fi 34 func35 fun Xt=>?_
 unfold zgG at h;refine jr (ra 0 [.rc zd [0] m] rfl (zjy 16 (zU [0] m) [0] rfl rfl rfl rfl rfl) rfl rf) (jp (jp (zr (jb h fun q ve h=>jL ve [1,2] [16] (fun s=>[(7,.own zao 86 20 [] s.1),(8,kI s.2)]) (fun| (.inl v_)=> .x 0 ⟨[(7,.own zao 86 20 [] v_)],[]⟩| (.inr v_)=> .r ⟨[(4,kN),(5,kI v_.1),(6,kI v_.2)],[]⟩) ?_ lw ?_))))
 ·clear h;intro s o h;obtain ⟨out,kp⟩:=s;replace h:zaR b m out kp=some o:=h;unfold zaR at h;refine jp (jI h ?_ ?_)<;>intro uY h
  ·refine zr (jb h fun rv u9 h=>jr (rl 3 [0] 19 call51 (zkU u9) (rfl' [21])) (jp (jI h ?_ ?_)))<;>intro uZ h
   ·cases h;exact jz'
   refine jb h fun v3 vu h=>jr (lb 1 zao [] rv.1 (rc 0 rfl (lbs1 22 [] rv.1 zvj) (rc 0 rfl (lao 20 [] 86 22 [] [] zvj.el vu (.inl zuD)) rf))) (jp (zK ?_));cases h;exact zV lzz
  cases h;exact zae rfl lzz
 rcases q with u| u2
 ·refine zar _ rfl (jp ?_);cases h;exact zx (lks [] [(20,2)] lzz)
 cases h;exact zgY lw
theorem zos (wB:∀{sv:(List zc)} {vj:Int} {x:zh} {r:(List UInt8)},xe sv vj x=some r->kg 32 [.sl zd [0] sv,kI vj,.rc zN [0] x] [.own Rp.byte 5 2 [] r]) (wC:∀{sv:(List zc)} {f:za} {v:ze} {r:(List UInt8)},xf sv f v=some r->kg 54 [.sl zd [0] sv,.rc zb [0] f,.rc zy [0] v] [.own Rp.byte 5 2 [] r]) (h:zea xe xf sv vj x=some r):kg 32 [.sl zd [0] sv,kI vj,.rc zN [0] x] [.own Rp.byte 5 2 [] r]:=by
 refine fi 59 func32 fun Xt=>?_
 unfold zea at h;refine jr (rc 0 rfl (lbx 15 [0] (ztQ [0] x)) rf) (jp (jp (zr (jb h fun q ve h=>jL ve [0,1,5] [15] (fun s=>[(7,.own Rp.byte 5 18 [] s.1),(8,kI s.2)]) (fun o=> .X 0 [5] [15] [(7,.own Rp.byte 5 18 [] o)] []) ?_ lw ?_))))
 ·clear h;intro s o h;obtain ⟨out,i⟩:=s;replace h:zbC xf vj sv x out i=some o:=h;unfold zbC at h;refine jp (jI h ?_ ?_)<;>intro uY h
  ·refine zr (jb h fun x2 vr h=>jb h fun x3 vC h=>jb h fun x4 vO h=>jb h fun rv u9 h=>jb h fun x5 vS h=>jb h fun x6 wb h=>jb h fun kj vb h=>jb h fun v vn h=>jd [0,1,5,7,8] [15] zcw (by exact (lwn 4 (di [0] zgS.el vr (lw_e (lx (ldl zd [0] x2 1 zb x2.Fields) (lwn 2 (di [0] zgS.el vC (lx (lde zd [0] x3 zwf) (lwn 3 (di [0] zJc.el vO (lw_e (ly [.ep zy [0] x4 0] (zPx (.int .i64 x4.Number) rfl rfl (by rw [zbU]<;>rfl) rfl) rfl (lx (lf1 55 (lc0 17 call55 (zjX u9))) (di [0] zkc.el vS (lx (lde zb [0] x5 zoj) (lwn 3 (di [0] zJc.el wb (lx (lde zy [0] x6 zQq) (lx (lf1 54 (lc0 17 call54 (wC vb))) (lx (lao 18 [] 5 19 [] [] zap.el vn (.inl zaI)) l0)))))))))))))))))))) (zK ?_));cases h;exact jy
  cases h;exact zae rfl lzz
 refine zar _ rfl (jp (zr (jb h fun q2 vE h=>jL vE [5] [15] (fun s=>[(7,.own Rp.byte 5 18 [] s.1),(9,kI s.2)]) (fun o=> .x 2 ⟨[(7,.own Rp.byte 5 18 [] o)],[]⟩) ?_ lzz ?_)))
 ·clear h;intro s o h;obtain ⟨out3,i2⟩:=s;replace h:zbD x out3 i2=some o:=h;unfold zbD at h;refine jp (jI h ?_ ?_)<;>intro uZ h
  ·refine zr (jb h fun x7 wu h=>jb h fun v2 vx h=>jr (rx 4 [0] zBX.el wu rfl rfl (ra 1 [.own Rp.byte 5 18 [] out3,kS x7] rfl (zNy 18 rfl underlying9 zQu (zoy _ _ _ _ _) vx) rfl rf)) (zK ?_));cases h;exact jy
  cases h;exact zae rfl lzz
 refine zar _ rfl (jp ?_);obtain rfl:=(sj h);exact zx (lks [] [(18,2)] lzz)
theorem zpk (wB:∀{sv:(List zc)} {vj:Int} {x:zh} {r:(List UInt8)},xe sv vj x=some r->kg 32 [.sl zd [0] sv,kI vj,.rc zN [0] x] [.own Rp.byte 5 2 [] r]) (wC:∀{sv:(List zc)} {f:za} {v:ze} {r:(List UInt8)},xf sv f v=some r->kg 54 [.sl zd [0] sv,.rc zb [0] f,.rc zy [0] v] [.own Rp.byte 5 2 [] r]) (h:zey vl xe xf sv f v=some r):kg 54 [.sl zd [0] sv,.rc zb [0] f,.rc zy [0] v] [.own Rp.byte 5 2 [] r]:=by
 refine fi 81 func54 fun Xt=>?_
 unfold zey at h;refine jr (ral 1 [15] [.rc zy [0] v] rfl (zjy 16 (zhM [0] v) [0] rfl rfl rfl (by rw [zbU]<;>rfl) rfl) rfl rf) (jb h fun rv u9 h=>jg [0,4,5] [15,16] [(16,kB (rv&&f.Repeated))] ?_ ?_)
 ·refine (rl 2 [1] 15 call38 (zbz u9) (rsl 1 [] 13 rv ?_ ?_))<;>intro uY
  · exact (rbl [] 16 f.Repeated rfl (by grind))
  exact (rbl [] 16 false rfl (by grind))
 refine jI h ?_ ?_<;>intro uZ h
 ·refine jb h fun kj vb h=>jb h fun kr vm h=>jd [6] [] zcw (by exact (lwn 6 (lx (lf1 87 (lc0 15 call87 (zqF vb))) (lx (lf1 86 (lcd [kI f.Number,kI 2,.own Rp.byte 5 17 [] kj] 16 call86 (zgx vm))) l0)))) ?_;obtain rfl:=(sj h);exact zx (lks [] [(18,2)] lzz)
 refine jb h fun kE vv h=>jr (rl 2 [1] 17 call38 (zbz vv) rf) (jI h ?_ ?_)<;>intro va h
 ·refine jb h fun rv5 vG h=>jb h fun x vi h=>jb h fun rv6 vV h=>jb h fun rv7 vY h=>jd [6] [] zcw (by exact (lwn 4 (lx (lf1 58 (lcd [kI f.Kind] 17 call58 (zgb vG))) (lwn 4 (di [0] ztb.el vi (lw_e (lx (lf1 88 (lcd [kI f.Kind,kU x] 17 call88 (zlv vV))) (lx (lf1 86 (lcd [kI f.Number,kI rv5,.own Rp.byte 5 19 [] rv6] 18 call86 (zgx vY))) l0)))))))) ?_;obtain rfl:=(sj h);exact zx (lks [] [(20,2)] lzz)
 refine jp (jp (zr (jb h fun q ve h=>jL ve [0,4,5] [15,16] (fun s=>[(7,.own Rp.byte 5 24 [] s.1),(8,kI s.2)]) (fun o=> .X 0 [0,4,5] [15,16] [(7,.own Rp.byte 5 24 [] o)] []) ?_ lw ?_)))
 ·clear h;intro s o h;obtain ⟨out,i⟩:=s;replace h:zbR vl f v out i=some o:=h;unfold zbR at h;refine jp (jI h ?_ ?_)<;>intro vd h
  ·refine zr (jb h fun x2 vr h=>jb h fun v3 vu h=>jb h fun rv8 vZ h=>jb h fun v4 vK h=>jd [0,4,5,7,8] [15,16] zcw (by exact (lwn 6 (di [0] zBX.el vr (lw_e (ly [kS x2] (zNI 25 rfl underlying9 underlying24 underlying5 vu) rfl (lx (lf1 86 (lcd [kI f.Number,kI 2,.sl Rp.byte [25] v3] 24 call86 (zgx vZ))) (lx (lao 24 [] 5 26 [] [] zap.el vK (.inl zaI)) l0))))))) (zK ?_));cases h;exact jy
  cases h;exact zae rfl lzz
 refine zar _ rfl (jp (zr (jb h fun q2 vE h=>jL vE [0,4,5] [15,16] (fun s=>[(7,.own Rp.byte 5 24 [] s.1),(9,kI s.2)]) (fun o=> .x 2 ⟨[(7,.own Rp.byte 5 24 [] o)],[]⟩) ?_ lzz ?_)))
 ·clear h;intro s o h;obtain ⟨out3,i2⟩:=s;replace h:zbS vl f xe sv v out3 i2=some o:=h;unfold zbS at h;refine jp (jI h ?_ ?_)<;>intro vf h
  ·refine zr (jb h fun x3 vC h=>jb h fun rv9 ww h=>jb h fun rv10 wx h=>jb h fun v5 vU h=>jd [0,4,5,7,9] [15,16] zcw (by exact (lwn 9 (di [0] zJd.el vC (lx (lde zN [0] x3 zOw) (lx (lf1 32 (lc0 26 call32 (wB ww))) (lx (lf1 86 (lcd [kI f.Number,kI 2,.own Rp.byte 5 28 [] rv9] 27 call86 (zgx wx))) (lx (lao 24 [] 5 29 [] [] zap.el vU (.inl zaI)) l0))))))) (zK ?_));cases h;exact jy
  cases h;exact zae rfl lzz
 refine zar _ rfl (jp ?_);obtain rfl:=(sj h);exact zx (lks [] [(24,2)] lzz)
theorem zgw (vl:Nat):(∀{sv:(List zc)} {vj:Int} {x:zh} {r:(List UInt8)},zbH vl sv vj x=some r->kg 32 [.sl zd [0] sv,kI vj,.rc zN [0] x] [.own Rp.byte 5 2 [] r])/\(∀{sv:(List zc)} {f:za} {v:ze} {r:(List UInt8)},zei vl sv f v=some r->kg 54 [.sl zd [0] sv,.rc zb [0] f,.rc zy [0] v] [.own Rp.byte 5 2 [] r]):=by
  induction vl with
  | zero=>exact ⟨fun h=>absurd h nofun,fun h=>absurd h nofun⟩
  | succ vl ih=>exact ⟨fun h=>zos (fun hh=>ih.1 hh) (fun hh=>ih.2 hh) h,fun h=>zpk (fun hh=>ih.1 hh) (fun hh=>ih.2 hh) h⟩
theorem zpj (h:zbH vl sv vj x=some r):kg 32 [.sl zd [0] sv,kI vj,.rc zN [0] x] [.own Rp.byte 5 2 [] r]:=(zgw vl).1 h
theorem zqi (h:zfz b vq=some r):kg 17 [.sl Rp.byte [0] b,kI vq] [.own Rp.byte 5 2 [] r]:=by
 refine fi 44 func17 fun Xt=>?_
 unfold zfz at h;refine jp (jb h fun rv u9 h=>jr (rl 1 [0] 12 call33 (zqb u9) rf) (jp (jp (zr (jb h fun q ve h=>jL ve [0,1,5] [] (fun s=>[(8,.own Rp.byte 5 16 [] s.1),(9,kI s.2)]) (fun o=> .x 0 ⟨[(8,.own Rp.byte 5 16 [] o)],[]⟩) ?_ lw ?_)))))
 ·clear h;intro s o h;obtain ⟨out,i⟩:=s;replace h:zbk b vq rv out i=some o:=h;unfold zbk at h;refine jp (jI h ?_ ?_)<;>intro uY h
  ·refine zr (jb h fun x vi h=>jr (ra 2 [.own zp 74 14 [] rv.1,kI i] rfl (zhI rfl zGb.el (zbv _ _ _ _ _) vi) rfl rf) (jI h ?_ ?_))<;>intro uZ h
   ·refine jb h fun x2 vr h=>jb h fun x3 vC h=>jb h fun v vn h=>jb h fun v2 vx h=>jd [0,1,5,8,9] [] zcw (by exact (lwn 4 (ly [.own zp 74 14 [] rv.1,kI i] (zhI rfl zGb.el (zbv _ _ _ _ _) vr) rfl (lwn 4 (ly [.own zp 74 14 [] rv.1,kI i] (zhI rfl zGb.el (zbv _ _ _ _ _) vC) rfl (lwn 2 (ly [.sl Rp.byte [0] b,kI x2.From,kI x3.To] (zfO (some (kI x2.From)) (some (kI x3.To)) rfl zap.el (zbd _ _ _) ⟨rfl,rfl⟩ ⟨rfl,rfl⟩ vn) rfl (lx (las 16 [] [0] [] zap.el vx (.inl zaI)) l0)))))))) (zK ?_);cases h;exact jy
   refine zK ?_;cases h;exact jy
  cases h;exact zae rfl lzz
 refine zar _ rfl (jp ?_);obtain rfl:=(sj h);exact zx (lks [] [(16,2)] lzz)
end Go.Proofs.YtaglemhabeipfaaGreat

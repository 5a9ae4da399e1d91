/-
  The Go functions do what the plain functions say. No condition.
-/
import Derived.Test.YtaglemhabeipfaaGreatx1G3
set_option autoImplicit true
set_option relaxedAutoImplicit true
namespace Go.Proofs.YtaglemhabeipfaaGreat
open Tryz
open Go Go.RowKit
set_option linter.unusedVariables false
set_option maxRecDepth 100000
set_option maxHeartbeats 3200000
theorem zpc (h:zfj c uR f=some r):zig prog 133 [.ag [kI c.size,.sl wM [0] c.kinds,.om zA Rp.bool 2 [0] c.names,.om zf Rp.bool 3 [0] c.numbers],kI uR,.rc zb [0] f] [kI r.1] [.ag [.any,.any,.om zA Rp.bool 2 [0] r.2.1,.om zf Rp.bool 3 [0] r.2.2],.any,.any]:=by
 refine zjv (E:=⟨[(0,.ag [.any,.any,.om zA Rp.bool 2 [0] r.2.1,.om zf Rp.bool 3 [0] r.2.2]),(6,kI r.1)],[]⟩) 63 [0] func133 rfl rfl rfl ⟨rfl,trivial⟩ ⟨.inr ⟨rfl,rfl⟩,.inl rfl,.inl rfl,trivial⟩ rfl (fun Xt old=>?_);refine zbw ?_;unfold zfj at h;refine jq [11,12] (jd [0,3,5,7,8] [11,12,13,14] zdo (by exact (lwn 3 (lx (zL (r:=zA) [kI uR,kS f.Name] [] (⟨uR,f.Name⟩:zv) rfl zKv rfl rfl) (lwn 3 (lx (zL (r:=zf) [kI uR,kI f.Number] [] (⟨uR,f.Number⟩:zh) rfl zNU rfl rfl) (lx (zpK 13 [kI 0,kS []] rfl zeroValue263 rfl) (lx (zpK 14 [kI 0,kI 0] rfl zeroValue265 rfl) (ly [.ptr 13 0,.rc zA [] (⟨uR,f.Name⟩:zv)] (zrP (r:=zA) (b:=⟨13,263,[kI 0,kS []]⟩) (off:=0) [kI uR,kS f.Name] rfl sizeOf263 rfl rfl rfl rfl) rfl (ly [.ptr 14 0,.rc zf [] (⟨uR,f.Number⟩:zh)] (zrP (r:=zf) (b:=⟨14,265,[kI 0,kI 0]⟩) (off:=0) [kI uR,kI f.Number] rfl sizeOf265 rfl rfl rfl rfl) rfl l0))))))))) (zu (jb h fun rv uP h=>jr (rl 2 [1] 13 call169 (znJ uP) rf) (jI h ?_ ?_))))<;>intro uM h
 ·refine jp ?_;cases h;exact zdw lw
 refine jr (lb 2 zA [] (⟨uR,f.Name⟩:zv) (ra 0 [.om zA Rp.bool 2 [0] c.names,.rc zA [] (⟨uR,f.Name⟩:zv)] rfl (zsL (rk:=zA) (rv:=Rp.bool) (m:=c.names) (k:=(⟨uR,f.Name⟩:zv)) (kB ((mget c.names (⟨uR,f.Name⟩:zv)).getD false)) rfl zvI (zcv rfl) (zst rfl rfl rfl)) rfl rf)) (jI h ?_ ?_)<;>intro uN h
 ·refine jp ?_;cases h;exact zdw lw
 refine jb h fun wQ uT h=>jr (rl 2 [1] 13 call170 (zrZ uT) rf) (jI h ?_ ?_)<;>intro uQ h
 ·refine jp ?_;cases h;exact zdw lw
 refine jr (lb 2 zf [] (⟨uR,f.Number⟩:zh) (ra 0 [.om zf Rp.bool 3 [0] c.numbers,.rc zf [] (⟨uR,f.Number⟩:zh)] rfl (zsL (rk:=zf) (rv:=Rp.bool) (m:=c.numbers) (k:=(⟨uR,f.Number⟩:zh)) (kB ((mget c.numbers (⟨uR,f.Number⟩:zh)).getD false)) rfl zGk (zcv rfl) (zst rfl rfl rfl)) rfl rf)) (jI h ?_ ?_)<;>intro uS h
 ·refine jp ?_;cases h;exact zdw lw
 refine jb h fun wV uZ h=>jr (rl 4 [0] 13 call171 (zkp uZ) rf) (jI h ?_ ?_)<;>intro uU h
 ·refine jp ?_;cases h;exact zdw lw
 refine jb h fun g uO h=>jg [0,3,5,7,8] [11,12,13,14] [(44,kB g)] ?_ ?_
 ·refine (rsI 3 47 uO ?_ ?_)<;>intro uW uO
  ·refine jb uO fun kc vf uO=>?_;cases uO;exact (lb 0 zb [] f (rl 0 [1] 13 call172 (zti vf) (rel [] lzz)))
  cases uO;exact (rel [] lzz)
 refine jI h ?_ ?_<;>intro u0 h
 ·refine jp ?_;cases h;exact zdw lw
 refine jb h fun rv5 vq h=>jr (lb 1 zb [] f (rl 0 [0,2,3] 13 call173 (zpd vq) rf)) (jI h ?_ ?_)<;>intro vg h
 ·refine jp ?_;cases h;exact zdw lw
 refine zR (jr (lb 2 zA [] (⟨uR,f.Name⟩:zv) (rms (C1:=[]) 0 [] 2 [0] c.names (⟨uR,f.Name⟩:zv) true [0] zvI (zcv rfl) (zey rfl rfl) rf)) (jr (lb 2 zf [] (⟨uR,f.Number⟩:zh) (rms (C1:=[]) 0 [] 3 [0] c.numbers (⟨uR,f.Number⟩:zh) true [0] zGk (zcv rfl) (zey rfl rfl) rf)) (jp ?_)));cases h;exact zdw lw
theorem zyc (h:ziy m hv=some r):wO 117 [.rc zg [0] m,.rc zam [0] hv] [.rc zaw [] r]:=by
 refine fj ⟨[(4,.ptr 2 0)],[⟨2,197,(zwo r)⟩]⟩ 38 func117 ⟨⟨_,_,rfl,rfl,rfl,rfl,zMW⟩,trivial⟩ fun Xt=>?_
 unfold ziy at h;refine jr (ra 0 [.rc zg [0] m] rfl (zlu 14 (zaf [0] m) [0] rfl rfl rfl rfl rfl) rfl (rfl' [15,16])) (jb h fun rv uP h=>jr (rl 3 [0] 15 call147 (zyE uP) rf) (jp (jI h ?_ ?_)))<;>intro uM h
 ·refine jr (rc 0 rfl (zL (r:=zaw) [kI (-1)] [] (⟨(-1),false,0⟩:zW) rfl zFl rfl rfl) rf) ?_;cases h;exact zy (lks [16] [(16,2)] lzz)
 refine jb h fun x uY h=>jr (rx 3 [0] zkv.el uY rfl rfl (rc 0 rfl (lde zb [0] x zoG) (rfl' [17]))) (jb h fun wQ uT h=>jr (lb 0 zb [] x (rl 2 [1] 16 call148 (zyF uT) rf)) (jb h fun g uO h=>jg [4,5,7] [16] [(33,kB g)] ?_ ?_))
 ·refine (rsI 3 26 uO ?_ ?_)<;>intro uN uO
  ·refine jb uO fun wV uZ uO=>?_;cases uO;exact (rl 4 [1] 16 call149 (zBx uZ) (rel [] lzz))
  cases uO;exact (rel [] lzz)
 refine jI h ?_ ?_<;>intro uQ h
 ·refine jr (rc 0 rfl (zL (r:=zaw) [k8 6] [] (⟨0,false,6⟩:zW) rfl zFl rfl rfl) rf) ?_;cases h;exact zy (lks [16] [(16,2)] lzz)
 refine jr (rc 2 rfl (zL (r:=zaw) [kI rv,kB wQ] [] (⟨rv,wQ,0⟩:zW) rfl zFl rfl rfl) rf) ?_;cases h;exact zy (lks [16] [(16,2)] lzz)
theorem zth (h:zla k=some r):wO 174 [kI k] [kI r]:=by
 refine fi 5 func174 fun Xt=>?_
 unfold zla at h;refine jp (jb h fun rv uP h=>jr (rl 1 [1] 9 call142 (zlI uP) rf) ?_);obtain rfl:=(sj h);exact zy lzz
theorem zBw (h:zld b=some r):wO 181 [.sl Rp.byte [0] b] [kB r]:=by
 refine fi 8 func181 fun Xt=>?_
 unfold zld at h;refine jp (jb h fun rv uP h=>jr (rl 1 [0] 9 call208 (zBv uP) rf) ?_);cases h;exact zy lzz
theorem zny (h:zgO k=some r):wO 113 [kI k] [kB r]:=by
 refine fi 6 func113 fun Xt=>?_
 unfold zgO at h;refine jp (jb h fun rv uP h=>jr (rl 1 [1] 9 call142 (zlI uP) rf) ?_);cases h;exact zy lzz
theorem zrx (h:zjC b vh wire value=some r):wO 137 [.sl Rp.byte [0] b,kI vh,kI wire,.sl Rp.byte [0] value] [.own Rp.byte 5 2 [] r.1,k8 r.2]:=by
 refine fi 39 func137 fun Xt=>?_
 unfold zjC at h;refine jp (jb h fun rv uP h=>jr (rc 2 rfl (zL (r:=zbz) [kI vh,kI wire] [] (⟨vh,wire⟩:zV) rfl zBn rfl rfl) (rl 0 [1] 13 call176 (FnOk.le (ins':=[kN,.rc zbz [0] (⟨vh,wire⟩:zV)]) (zFm uP) ⟨zin _ _,wP _,trivial⟩) rf)) (jb h fun g uO h=>jg [0,2,3,10] [] [(26,kB g)] ?_ ?_))
 ·refine (rsI 3 21 uO ?_ ?_)<;>intro uM uO
  ·cases uO;exact rgg
  refine jb uO fun wQ uT uO=>?_;cases uO;exact (rl 2 [0] 14 call177 (zxy uT) rgg)
 refine jI h ?_ ?_<;>intro uN h
 ·refine jp ?_;cases h;exact zy lw
 refine jp (jI h ?_ ?_)<;>intro uQ h
 ·refine jb h fun wV uZ h=>jr (rl 4 [15] 14 call178 (zne uZ) rf) (jb h fun kc vf h=>jr (rc 3 rfl (zfR [.sl Rp.byte [0] b,.own Rp.byte 5 16 [] wV,.sl Rp.byte [0] value] 17 [0,16] ([b,wV,value]:(List (List UInt8))) rfl zDY rfl rfl rfl rfl) (rl 0 [17,0,16] 16 call71 (zeh vf) rf)) ?_);cases h;exact zy (lks [] [(18,2)] lzz)
 refine jb h fun rv5 vq h=>jr (rc 3 rfl (zfR [.sl Rp.byte [0] b,.own Rp.byte 5 15 [] rv.1,.sl Rp.byte [0] value] 19 [0,15] ([b,rv.1,value]:(List (List UInt8))) rfl zDY rfl rfl rfl rfl) (rl 0 [19,0,15] 18 call71 (zeh vq) rf)) ?_;cases h;exact zy (lks [] [(20,2)] lzz)
theorem zAP (h:zkW k=some r):wO 144 [kI k] [kI r]:=by
 refine fi 9 func144 fun Xt=>?_
 unfold zkW at h;refine jp (jb h fun rv uP h=>jr (rl 1 [1] 9 call142 (zlI uP) rf) (zu (jp (jI h ?_ ?_))))<;>intro uM h
 ·cases h;exact jz
 refine jp (jI h ?_ ?_)<;>intro uN h
 ·cases h;exact jz
 refine zR ?_;cases h;exact jz
theorem zpv (h:zfD sv va d=some r):wO 30 [.sl zg [0] sv,kI va,kI d] [kI r]:=by
 refine fi 26 func30 fun Xt=>?_
 unfold zfD at h;refine jp (jb h fun rv uP h=>jr (rl 1 [0] 9 call50 (zoX uP) rf) (jI h ?_ ?_))<;>intro uM h
 ·cases h;exact jz
 refine jg [] [] [(25,kB ((decide (va<0))|| ((decide (va>=(sv.length:Int)))|| ((decide (d<0))|| (decide (d>64))))))] ?_ ?_
 ·refine (rsl 3 [] 12 (decide (va<0)) ?_ ?_)<;>intro uN
  · exact (rbl [] 25 true rfl (by grind))
  refine (rsl 6 [] 18 (decide (va>=(sv.length:Int))) ?_ ?_)<;>intro uQ
  · exact (rbl [] 25 true rfl (by grind))
  refine (rsl 4 [] 22 (decide (d<0)) ?_ ?_)<;>intro uS
  · exact (rbl [] 25 true rfl (by grind))
  exact (rbl [] 25 (decide (d>64)) rfl (by grind))
 refine jI h ?_ ?_<;>intro uU h
 ·cases h;exact jz
 cases h;exact jz
theorem zoa (wy:∀{sv:(List ze)} {m:Int} {b:(List UInt8)} {d:Int} {r:(Int×Int)},xh sv m b d=some r->wO 31 [.sl zg [0] sv,kI m,.sl Rp.byte [0] b,kI d] [kI r.1,kI r.2]) (h:zbQ xh sv m b d=some r):wO 31 [.sl zg [0] sv,kI m,.sl Rp.byte [0] b,kI d] [kI r.1,kI r.2]:=by
 refine fi 106 func31 fun Xt=>?_
 unfold zbQ at h;refine jp (jp (zu (jb h fun q uV h=>jL uV [0,1,2,3] [] (fun s=>[(10,kI s)]) (fun| (.inl v_)=> .x 0 ⟨[],[]⟩| (.inr v_)=> .r ⟨[(8,kI v_.1),(9,kI v_.2)],[]⟩) ?_ lzz ?_)))
 ·clear h;intro wU o h;unfold zba at h;refine jp (jI h ?_ ?_)<;>intro uM h
  ·refine zu (jb h fun x uY h=>jb h fun rv uP h=>jr (rx 2 [0] zhp.el uY rfl rfl (rc 0 rfl (lde zg [0] x zyN) (rl 2 [0] 10 call51 (zjZ uP) (rfl' [12])))) (jp (jI h ?_ ?_)))<;>intro uN h
   ·cases h;exact jz'
   refine jb h fun v3 ve h=>jr (ra 7 [.sl Rp.byte [0] b,kI rv.1.R.At,kI rv.1.R.To] rfl (zgf (some (kI rv.1.R.At)) (some (kI rv.1.R.To)) rfl zbd.el (zbj _ _ _) ⟨rfl,rfl⟩ ⟨rfl,rfl⟩ ve) rfl rf) (jp (jI h ?_ ?_))<;>intro uQ h
   ·refine jb h fun x2 vd h=>jb h fun x3 vm h=>jd [0,1,2,3,10,11,13,14] [12,13] zdo (by exact (lwn 2 (di [0] zhp.el vd (lw_e (lx (ldl zg [0] x2 1 zb x2.Fields) (lwn 2 (di [0] zkv.el vm (lx (lde zb [0] x3 zoG) (lx (zpK 13 [kS [],kI 0,kI 0,kB false,kB false,kI 0] rfl zeroValue59 rfl) (ly [.ptr 13 0,.rc zb [0] x3] (zrP (r:=zb) (b:=⟨13,59,[kS [],kI 0,kI 0,kB false,kB false,kI 0]⟩) (off:=0) (zQ x3) rfl sizeOf59 rfl rfl rfl rfl) rfl l0)))))))))) (jp (jI h ?_ ?_))<;>intro uS h
    ·refine jb h fun wQ uT h=>jr (rl 3 [0] 12 call52 (zjY uT) rf) (jp (jI h ?_ ?_))<;>intro uU h
     ·cases h;exact jz'
     refine jp (zR ?_);cases h;exact zS lzz
    refine jb h fun g uO h=>jg [0,1,2,3,10,11,13,14] [12,13] [(77,kB g)] ?_ ?_
    ·refine (rsI 4 73 uO ?_ ?_)<;>intro uW uO
     ·refine jb uO fun wV uZ uO=>?_;cases uO;exact (rl 1 [0] 13 call53 (zoT uZ) (rel [] lzz))
     cases uO;exact (rel [] lzz)
    refine jI h ?_ ?_<;>intro u0 h
    ·cases h;exact jz'
    refine jp (jI h ?_ ?_)<;>intro vg h
    ·refine jp (jI h ?_ ?_)<;>intro vj h
     ·cases h;exact jz'
     refine jb h fun kc vf h=>jr (rl 6 [0] 13 call31 (wy vf) rf) (jp (jI h ?_ ?_))<;>intro vk h
     ·cases h;exact jz'
     refine jp (zR ?_);cases h;exact zS lzz
    refine jp (zR ?_);cases h;exact zS lzz
   refine jp (zR ?_);cases h;exact zS lzz
  cases h;exact zaj rfl lzz
 rcases q with u| u2
 ·refine zaE _ rfl ?_;cases h;exact jz
 cases h;exact zfQ lzz
theorem zoZ (h:zaW vb sv m b d=some r):wO 31 [.sl zg [0] sv,kI m,.sl Rp.byte [0] b,kI d] [kI r.1,kI r.2]:=by
  induction vb generalizing sv m b d r with
  | zero=>exact absurd h nofun
  | succ vb ih=>exact zoa (fun hh=>ih hh) h
theorem zrc (h:zgd m b=some r):wO 35 [.rc zg [0] m,.sl Rp.byte [0] b] [.own zal 86 2 [] r.1,kI r.2.1,kI r.2.2]:=by
 refine fi 34 func35 fun Xt=>?_
 unfold zgd at h;refine jr (ra 0 [.rc zg [0] m] rfl (zlu 16 (zaf [0] m) [0] rfl rfl rfl rfl rfl) rfl rf) (jp (jp (zu (jb h fun q uV h=>jL uV [1,2] [16] (fun s=>[(7,.own zal 86 20 [] s.1),(8,kI s.2)]) (fun| (.inl v_)=> .x 0 ⟨[(7,.own zal 86 20 [] v_)],[]⟩| (.inr v_)=> .r ⟨[(4,kN),(5,kI v_.1),(6,kI v_.2)],[]⟩) ?_ lw ?_))))
 ·clear h;intro s o h;obtain ⟨out,wU⟩:=s;replace h:zaM b m out wU=some o:=h;unfold zaM at h;refine jp (jI h ?_ ?_)<;>intro uM h
  ·refine zu (jb h fun rv uP h=>jr (rl 3 [0] 19 call51 (zjZ uP) (rfl' [21])) (jp (jI h ?_ ?_)))<;>intro uN h
   ·cases h;exact jz'
   refine jb h fun v3 ve h=>jr (lb 1 zal [] rv.1 (rc 0 rfl (lbs1 22 [] rv.1 ztE) (rc 0 rfl (lao 20 [] 86 22 [] [] ztE.el ve (.inl zsX)) rf))) (jp (zR ?_));cases h;exact zS lzz
  cases h;exact zaj rfl lzz
 rcases q with u| u2
 ·refine zaE _ rfl (jp ?_);cases h;exact zy (lks [] [(20,2)] lzz)
 cases h;exact zfQ lw
end Go.Proofs.YtaglemhabeipfaaGreat

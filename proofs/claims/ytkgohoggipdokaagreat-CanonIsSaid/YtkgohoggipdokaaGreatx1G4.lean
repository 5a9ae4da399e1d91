/-
  The Go functions do what the plain functions say. No condition.
-/
import Derived.Test.YtkgohoggipdokaaGreatx1G3
set_option autoImplicit true
set_option relaxedAutoImplicit true
namespace Go.Proofs.YtkgohoggipdokaaGreat
open Tryz
open Go Go.RowKit
set_option linter.unusedVariables false
set_option maxRecDepth 100000
set_option maxHeartbeats 3200000
theorem zqf (h:zfU c uX f=some r):zjv prog 120 [.ag [kI c.size,.sl wY [0] c.kinds,.om zO Rp.bool 2 [0] c.names,.om zP Rp.bool 3 [0] c.numbers],kI uX,.rc ze [0] f] [kI r.1] [.ag [.any,.any,.om zO Rp.bool 2 [0] r.2.1,.om zP Rp.bool 3 [0] r.2.2],.any,.any]:=by
 refine zlP (E:=⟨[(0,.ag [.any,.any,.om zO Rp.bool 2 [0] r.2.1,.om zP Rp.bool 3 [0] r.2.2]),(6,kI r.1)],[]⟩) 63 [0] func120 rfl rfl rfl ⟨rfl,trivial⟩ ⟨.inr ⟨rfl,rfl⟩,.inl rfl,.inl rfl,trivial⟩ rfl (fun Xt old=>?_);refine zcw ?_;unfold zfU at h;refine jq [11,12] (jd [0,3,5,7,8] [11,12,13,14] zdc (by exact (lwn 3 (lx (zab (r:=zO) [kI uX,kS f.Name] [] (⟨uX,f.Name⟩:zu) rfl zKD rfl rfl) (lwn 3 (lx (zab (r:=zP) [kI uX,kI f.Number] [] (⟨uX,f.Number⟩:zw) rfl zNV rfl rfl) (lx (zou 13 [kI 0,kS []] rfl zeroValue233 rfl) (lx (zou 14 [kI 0,kI 0] rfl zeroValue235 rfl) (ly [.ptr 13 0,.rc zO [] (⟨uX,f.Name⟩:zu)] (ziD (r:=zO) (b:=⟨13,233,[kI 0,kS []]⟩) (off:=0) [kI uX,kS f.Name] rfl sizeOf233 rfl rfl rfl rfl) rfl (ly [.ptr 14 0,.rc zP [] (⟨uX,f.Number⟩:zw)] (ziD (r:=zP) (b:=⟨14,235,[kI 0,kI 0]⟩) (off:=0) [kI uX,kI f.Number] rfl sizeOf235 rfl rfl rfl rfl) rfl l0))))))))) (zq (jb h fun rv uU h=>jr (rl 2 [1] 13 call156 (zoI uU) rf) (jI h ?_ ?_))))<;>intro uS h
 ·refine jp ?_;cases h;exact zhB lw
 refine jr (lb 2 zO [] (⟨uX,f.Name⟩:zu) (ra 0 [.om zO Rp.bool 2 [0] c.names,.rc zO [] (⟨uX,f.Name⟩:zu)] rfl (zxR (rk:=zO) (rv:=Rp.bool) (m:=c.names) (k:=(⟨uX,f.Name⟩:zu)) (kB ((mget c.names (⟨uX,f.Name⟩:zu)).getD false)) rfl zwG (zdQ rfl) (zBw rfl rfl rfl)) rfl rf)) (jI h ?_ ?_)<;>intro uT h
 ·refine jp ?_;cases h;exact zhB lw
 refine jb h fun w8 uY h=>jr (rl 2 [1] 13 call157 (zte uY) rf) (jI h ?_ ?_)<;>intro uW h
 ·refine jp ?_;cases h;exact zhB lw
 refine jr (lb 2 zP [] (⟨uX,f.Number⟩:zw) (ra 0 [.om zP Rp.bool 3 [0] c.numbers,.rc zP [] (⟨uX,f.Number⟩:zw)] rfl (zxR (rk:=zP) (rv:=Rp.bool) (m:=c.numbers) (k:=(⟨uX,f.Number⟩:zw)) (kB ((mget c.numbers (⟨uX,f.Number⟩:zw)).getD false)) rfl zGO (zdQ rfl) (zBw rfl rfl rfl)) rfl rf)) (jI h ?_ ?_)<;>intro uZ h
 ·refine jp ?_;cases h;exact zhB lw
 refine jb h fun kg vd h=>jr (rl 4 [0] 13 call158 (zlg vd) rf) (jI h ?_ ?_)<;>intro u9 h
 ·refine jp ?_;cases h;exact zhB lw
 refine jb h fun g uV h=>jg [0,3,5,7,8] [11,12,13,14] [(44,kB g)] ?_ ?_
 ·refine (rsI 3 47 uV ?_ ?_)<;>intro vf uV
  ·refine jb uV fun kq vm uV=>?_;cases uV;exact (lb 0 ze [] f (rl 0 [1] 13 call159 (zud vm) (rel [] lzz)))
  cases uV;exact (rel [] lzz)
 refine jI h ?_ ?_<;>intro vj h
 ·refine jp ?_;cases h;exact zhB lw
 refine jb h fun rv5 vC h=>jr (lb 1 ze [] f (rl 0 [0,2,3] 13 call160 (zqg vC) rf)) (jI h ?_ ?_)<;>intro vr h
 ·refine jp ?_;cases h;exact zhB lw
 refine zS (jr (lb 2 zO [] (⟨uX,f.Name⟩:zu) (rms (C1:=[]) 0 [] 2 [0] c.names (⟨uX,f.Name⟩:zu) true [0] zwG (zdQ rfl) (zfl rfl rfl) rf)) (jr (lb 2 zP [] (⟨uX,f.Number⟩:zw) (rms (C1:=[]) 0 [] 3 [0] c.numbers (⟨uX,f.Number⟩:zw) true [0] zGO (zdQ rfl) (zfl rfl rfl) rf)) (jp ?_)));cases h;exact zhB lw
theorem zut (h:zkC b=some r):w6 145 [.sl Rp.byte [0] b] [kB r]:=by
 refine fi 8 func145 fun Xt=>?_
 unfold zkC at h;refine jp (jb h fun rv uU h=>jr (rl 1 [0] 9 call175 (zCu uU) rf) ?_);cases h;exact zx lzz
theorem zuo (h:zih m text=some r):w6 142 [.rc zg [0] m,kS text] [kB r]:=by
 refine fi 33 func142 fun Xt=>?_
 unfold zih at h;refine jr (ra 0 [.rc zg [0] m] rfl (zhu 11 (zT [0] m) [0] rfl rfl rfl rfl rfl) rfl rf) (jb h fun v vi h=>jb h fun rv uU h=>jr (ra 1 [kS text] rfl (ztL 12 rfl underlying9 underlying35 underlying5 vi) rfl (rl 0 [12] 11 call164 (zmG uU) (rfl' [13]))) (jg [2,5] [11,13] [(23,kB ((rv.2 !=0)|| (rv.1.To !=(text.length:Int))))] ?_ ?_))
 ·refine (rsl 3 [] 17 (rv.2 !=0) ?_ ?_)<;>intro uS
  · exact (rbl [] 23 true rfl (by grind))
  exact (rbl [] 23 (rv.1.To !=(text.length:Int)) rfl (by grind))
 refine jI h ?_ ?_<;>intro uT h
 ·refine jp ?_;obtain rfl:=(sj h);exact zx lzz
 refine jb h fun w8 uY h=>jr (rl 3 [0] 12 call64 (ziT uY) rf) ?_;cases h;exact jz
theorem zuc (h:zlY k=some r):w6 147 [kI k] [kI r]:=by
 refine fi 5 func147 fun Xt=>?_
 unfold zlY at h;refine jp (jb h fun rv uU h=>jr (rl 1 [1] 9 call149 (zrl uU) rf) ?_);obtain rfl:=(sj h);exact zx lzz
theorem zsA (h:zkq b vl wire value=some r):w6 116 [.sl Rp.byte [0] b,kI vl,kI wire,.sl Rp.byte [0] value] [.own Rp.byte 5 2 [] r.1,k8 r.2]:=by
 refine fi 39 func116 fun Xt=>?_
 unfold zkq at h;refine jp (jb h fun rv uU h=>jr (rc 2 rfl (zab (r:=zcq) [kI vl,kI wire] [] (⟨vl,wire⟩:zao) rfl zCo rfl rfl) (rl 0 [1] 13 call150 (FnOk.le (ins':=[kN,.rc zcq [0] (⟨vl,wire⟩:zao)]) (zFL uU) ⟨zha _ _,w7 _,trivial⟩) rf)) (jb h fun g uV h=>jg [0,2,3,10] [] [(26,kB g)] ?_ ?_))
 ·refine (rsI 3 21 uV ?_ ?_)<;>intro uS uV
  ·cases uV;exact rgg
  refine jb uV fun w8 uY uV=>?_;cases uV;exact (rl 2 [0] 14 call151 (zym uY) rgg)
 refine jI h ?_ ?_<;>intro uT h
 ·refine jp ?_;cases h;exact zx lw
 refine jp (jI h ?_ ?_)<;>intro uW h
 ·refine jb h fun kg vd h=>jr (rl 4 [15] 14 call152 (zof vd) rf) (jb h fun kq vm h=>jr (rc 3 rfl (zey [.sl Rp.byte [0] b,.own Rp.byte 5 16 [] kg,.sl Rp.byte [0] value] 17 [0,16] ([b,kg,value]:(List (List UInt8))) rfl zoV rfl rfl rfl rfl) (rl 0 [17,0,16] 16 call66 (zck vm) rf)) ?_);cases h;exact zx (lks [] [(18,2)] lzz)
 refine jb h fun rv5 vC h=>jr (rc 3 rfl (zey [.sl Rp.byte [0] b,.own Rp.byte 5 15 [] rv.1,.sl Rp.byte [0] value] 19 [0,15] ([b,rv.1,value]:(List (List UInt8))) rfl zoV rfl rfl rfl rfl) (rl 0 [19,0,15] 18 call66 (zck vC) rf)) ?_;cases h;exact zx (lks [] [(20,2)] lzz)
theorem zzm (h:zmg k=some r):w6 115 [kI k] [kI r]:=by
 refine fi 9 func115 fun Xt=>?_
 unfold zmg at h;refine jp (jb h fun rv uU h=>jr (rl 1 [1] 9 call149 (zrl uU) rf) (zq (jp (jI h ?_ ?_))))<;>intro uS h
 ·cases h;exact jz
 refine jp (jI h ?_ ?_)<;>intro uT h
 ·cases h;exact jz
 refine zS ?_;cases h;exact jz
theorem zor (wr:∀{sv:(List zc)} {vc:Int} {x:zd} {r:(List UInt8)},xi sv vc x=some r->w6 15 [.sl zg [0] sv,kI vc,.rc zm [0] x] [.own Rp.byte 5 2 [] r]) (ws:∀{sv:(List zc)} {f:za} {v:zb} {r:(List UInt8)},xj sv f v=some r->w6 22 [.sl zg [0] sv,.rc ze [0] f,.rc zj [0] v] [.own Rp.byte 5 2 [] r]) (h:zeo xi xj sv vc x=some r):w6 15 [.sl zg [0] sv,kI vc,.rc zm [0] x] [.own Rp.byte 5 2 [] r]:=by
 refine fi 59 func15 fun Xt=>?_
 unfold zeo at h;refine jr (rc 0 rfl (lbx 15 [0] (zcv [0] x)) rf) (jp (jp (zq (jb h fun q u0 h=>jL u0 [0,1,5] [15] (fun s=>[(7,.own Rp.byte 5 18 [] s.1),(8,kI s.2)]) (fun o=> .X 0 [5] [15] [(7,.own Rp.byte 5 18 [] o)] []) ?_ lw ?_))))
 ·clear h;intro s o h;obtain ⟨out,i⟩:=s;replace h:zbf xj vc sv x out i=some o:=h;unfold zbf at h;refine jp (jI h ?_ ?_)<;>intro uS h
  ·refine zq (jb h fun x2 vh h=>jb h fun x3 vp h=>jb h fun x4 vz h=>jb h fun rv uU h=>jb h fun x5 vB h=>jb h fun x6 vS h=>jb h fun w8 uY h=>jb h fun v vi h=>jd [0,1,5,7,8] [15] zdc (by exact (lwn 4 (di [0] zhl.el vh (lw_e (lx (ldl zg [0] x2 1 ze x2.Fields) (lwn 2 (di [0] zhl.el vp (lx (lde zg [0] x3 ztp) (lwn 3 (di [0] zHw.el vz (lw_e (ly [.ep zj [0] x4 0] (zNx (.int .i64 x4.Number) rfl rfl (by rw [zaa]<;>rfl) rfl) rfl (lx (lf1 35 (lc0 17 call35 (zjV uU))) (di [0] zjp.el vB (lx (lde ze [0] x5 znp) (lwn 3 (di [0] zHw.el vS (lx (lde zj [0] x6 zOm) (lx (lf1 22 (lc0 17 call22 (ws uY))) (lx (lao 18 [] 5 19 [] [] zbB.el vi (.inl zcH)) l0)))))))))))))))))))) (zS ?_));cases h;exact jy
  cases h;exact zag rfl lzz
 refine zaA _ rfl (jp (zq (jb h fun q2 vn h=>jL vn [5] [15] (fun s=>[(7,.own Rp.byte 5 18 [] s.1),(9,kI s.2)]) (fun o=> .x 2 ⟨[(7,.own Rp.byte 5 18 [] o)],[]⟩) ?_ lzz ?_)))
 ·clear h;intro s o h;obtain ⟨out3,i2⟩:=s;replace h:zbg x out3 i2=some o:=h;unfold zbg at h;refine jp (jI h ?_ ?_)<;>intro uT h
  ·refine zq (jb h fun x7 wa h=>jb h fun v2 vq h=>jr (rx 4 [0] znG.el wa rfl rfl (ra 1 [.own Rp.byte 5 18 [] out3,kS x7] rfl (zLF 18 rfl underlying9 zOo (zlQ _ _ _ _ _) vq) rfl rf)) (zS ?_));cases h;exact jy
  cases h;exact zag rfl lzz
 refine zaA _ rfl (jp ?_);obtain rfl:=(sj h);exact zx (lks [] [(18,2)] lzz)
theorem zpl (wr:∀{sv:(List zc)} {vc:Int} {x:zd} {r:(List UInt8)},xi sv vc x=some r->w6 15 [.sl zg [0] sv,kI vc,.rc zm [0] x] [.own Rp.byte 5 2 [] r]) (ws:∀{sv:(List zc)} {f:za} {v:zb} {r:(List UInt8)},xj sv f v=some r->w6 22 [.sl zg [0] sv,.rc ze [0] f,.rc zj [0] v] [.own Rp.byte 5 2 [] r]) (h:zeN vb xi xj sv f v=some r):w6 22 [.sl zg [0] sv,.rc ze [0] f,.rc zj [0] v] [.own Rp.byte 5 2 [] r]:=by
 refine fi 81 func22 fun Xt=>?_
 unfold zeN at h;refine jr (ral 1 [15] [.rc zj [0] v] rfl (zhu 16 (zai [0] v) [0] rfl rfl rfl (by rw [zaa]<;>rfl) rfl) rfl rf) (jb h fun rv uU h=>jg [0,4,5] [15,16] [(16,kB (rv&&f.Repeated))] ?_ ?_)
 ·refine (rl 2 [1] 15 call42 (zcm uU) (rsl 1 [] 13 rv ?_ ?_))<;>intro uS
  · exact (rbl [] 16 f.Repeated rfl (by grind))
  exact (rbl [] 16 false rfl (by grind))
 refine jI h ?_ ?_<;>intro uT h
 ·refine jb h fun w8 uY h=>jb h fun kg vd h=>jd [6] [] zdc (by exact (lwn 6 (lx (lf1 46 (lc0 15 call46 (zqC uY))) (lx (lf1 45 (lcd [kI f.Number,kI 2,.own Rp.byte 5 17 [] w8] 16 call45 (zgP vd))) l0)))) ?_;obtain rfl:=(sj h);exact zx (lks [] [(18,2)] lzz)
 refine jb h fun kq vm h=>jr (rl 2 [1] 17 call42 (zcm vm) rf) (jI h ?_ ?_)<;>intro uW h
 ·refine jb h fun rv5 vC h=>jb h fun x va h=>jb h fun rv6 vP h=>jb h fun rv7 vQ h=>jd [6] [] zdc (by exact (lwn 4 (lx (lf1 47 (lcd [kI f.Kind] 17 call47 (zgs vC))) (lwn 4 (di [0] zoU.el va (lw_e (lx (lf1 48 (lcd [kI f.Kind,kU x] 17 call48 (zlv vP))) (lx (lf1 45 (lcd [kI f.Number,kI rv5,.own Rp.byte 5 19 [] rv6] 18 call45 (zgP vQ))) l0)))))))) ?_;obtain rfl:=(sj h);exact zx (lks [] [(20,2)] lzz)
 refine jp (jp (zq (jb h fun q u0 h=>jL u0 [0,4,5] [15,16] (fun s=>[(7,.own Rp.byte 5 24 [] s.1),(8,kI s.2)]) (fun o=> .X 0 [0,4,5] [15,16] [(7,.own Rp.byte 5 24 [] o)] []) ?_ lw ?_)))
 ·clear h;intro s o h;obtain ⟨out,i⟩:=s;replace h:zbv vb f v out i=some o:=h;unfold zbv at h;refine jp (jI h ?_ ?_)<;>intro uZ h
  ·refine zq (jb h fun x2 vh h=>jb h fun v3 vk h=>jb h fun rv8 vT h=>jb h fun v4 vH h=>jd [0,4,5,7,8] [15,16] zdc (by exact (lwn 6 (di [0] znG.el vh (lw_e (ly [kS x2] (ztL 25 rfl underlying9 underlying35 underlying5 vk) rfl (lx (lf1 45 (lcd [kI f.Number,kI 2,.sl Rp.byte [25] v3] 24 call45 (zgP vT))) (lx (lao 24 [] 5 26 [] [] zbB.el vH (.inl zcH)) l0))))))) (zS ?_));cases h;exact jy
  cases h;exact zag rfl lzz
 refine zaA _ rfl (jp (zq (jb h fun q2 vn h=>jL vn [0,4,5] [15,16] (fun s=>[(7,.own Rp.byte 5 24 [] s.1),(9,kI s.2)]) (fun o=> .x 2 ⟨[(7,.own Rp.byte 5 24 [] o)],[]⟩) ?_ lzz ?_)))
 ·clear h;intro s o h;obtain ⟨out3,i2⟩:=s;replace h:zbw vb f xi sv v out3 i2=some o:=h;unfold zbw at h;refine jp (jI h ?_ ?_)<;>intro u9 h
  ·refine zq (jb h fun x3 vp h=>jb h fun rv9 wM h=>jb h fun rv10 wN h=>jb h fun v5 vJ h=>jd [0,4,5,7,9] [15,16] zdc (by exact (lwn 9 (di [0] zHx.el vp (lx (lde zm [0] x3 zMz) (lx (lf1 15 (lc0 26 call15 (wr wM))) (lx (lf1 45 (lcd [kI f.Number,kI 2,.own Rp.byte 5 28 [] rv9] 27 call45 (zgP wN))) (lx (lao 24 [] 5 29 [] [] zbB.el vJ (.inl zcH)) l0))))))) (zS ?_));cases h;exact jy
  cases h;exact zag rfl lzz
 refine zaA _ rfl (jp ?_);obtain rfl:=(sj h);exact zx (lks [] [(24,2)] lzz)
theorem zgO (vb:Nat):(∀{sv:(List zc)} {vc:Int} {x:zd} {r:(List UInt8)},zbZ vb sv vc x=some r->w6 15 [.sl zg [0] sv,kI vc,.rc zm [0] x] [.own Rp.byte 5 2 [] r])/\(∀{sv:(List zc)} {f:za} {v:zb} {r:(List UInt8)},zex vb sv f v=some r->w6 22 [.sl zg [0] sv,.rc ze [0] f,.rc zj [0] v] [.own Rp.byte 5 2 [] r]):=by
  induction vb with
  | zero=>exact ⟨fun h=>absurd h nofun,fun h=>absurd h nofun⟩
  | succ vb ih=>exact ⟨fun h=>zor (fun hh=>ih.1 hh) (fun hh=>ih.2 hh) h,fun h=>zpl (fun hh=>ih.1 hh) (fun hh=>ih.2 hh) h⟩
theorem zpk (h:zbZ vb sv vc x=some r):w6 15 [.sl zg [0] sv,kI vc,.rc zm [0] x] [.own Rp.byte 5 2 [] r]:=(zgO vb).1 h
theorem zqD (h:zgu sv vc d=some r):w6 81 [.sl zg [0] sv,kI vc,kI d] [kI r]:=by
 refine fi 26 func81 fun Xt=>?_
 unfold zgu at h;refine jp (jb h fun rv uU h=>jr (rl 1 [0] 9 call20 (zqb uU) rf) (jI h ?_ ?_))<;>intro uS h
 ·cases h;exact jz
 refine jg [] [] [(25,kB ((decide (vc<0))|| ((decide (vc>=(sv.length:Int)))|| ((decide (d<0))|| (decide (d>64))))))] ?_ ?_
 ·refine (rsl 3 [] 12 (decide (vc<0)) ?_ ?_)<;>intro uT
  · exact (rbl [] 25 true rfl (by grind))
  refine (rsl 6 [] 18 (decide (vc>=(sv.length:Int))) ?_ ?_)<;>intro uW
  · exact (rbl [] 25 true rfl (by grind))
  refine (rsl 4 [] 22 (decide (d<0)) ?_ ?_)<;>intro uZ
  · exact (rbl [] 25 true rfl (by grind))
  exact (rbl [] 25 (decide (d>64)) rfl (by grind))
 refine jI h ?_ ?_<;>intro u9 h
 ·cases h;exact jz
 cases h;exact jz
theorem zpf (wO:∀{sv:(List zc)} {m:Int} {b:(List UInt8)} {d:Int} {r:(Int×Int)},xl sv m b d=some r->w6 82 [.sl zg [0] sv,kI m,.sl Rp.byte [0] b,kI d] [kI r.1,kI r.2]) (h:zcF xl sv m b d=some r):w6 82 [.sl zg [0] sv,kI m,.sl Rp.byte [0] b,kI d] [kI r.1,kI r.2]:=by
 refine fi 106 func82 fun Xt=>?_
 unfold zcF at h;refine jp (jp (zq (jb h fun q u0 h=>jL u0 [0,1,2,3] [] (fun s=>[(10,kI s)]) (fun| (.inl v_)=> .x 0 ⟨[],[]⟩| (.inr v_)=> .r ⟨[(8,kI v_.1),(9,kI v_.2)],[]⟩) ?_ lzz ?_)))
 ·clear h;intro kd o h;unfold zaZ at h;refine jp (jI h ?_ ?_)<;>intro uS h
  ·refine zq (jb h fun x va h=>jb h fun rv uU h=>jr (rx 2 [0] zhl.el va rfl rfl (rc 0 rfl (lde zg [0] x ztp) (rl 2 [0] 10 call83 (zkS uU) (rfl' [12])))) (jp (jI h ?_ ?_)))<;>intro uT h
   ·cases h;exact jz'
   refine jb h fun v3 vk h=>jr (ra 7 [.sl Rp.byte [0] b,kI rv.1.R.At,kI rv.1.R.To] rfl (zge (some (kI rv.1.R.At)) (some (kI rv.1.R.To)) rfl zbB.el (zce _ _ _) ⟨rfl,rfl⟩ ⟨rfl,rfl⟩ vk) rfl rf) (jp (jI h ?_ ?_))<;>intro uW h
   ·refine jb h fun x2 vh h=>jb h fun x3 vp h=>jd [0,1,2,3,10,11,13,14] [12,13] zdc (by exact (lwn 2 (di [0] zhl.el vh (lw_e (lx (ldl zg [0] x2 1 ze x2.Fields) (lwn 2 (di [0] zjp.el vp (lx (lde ze [0] x3 znp) (lx (zou 13 [kS [],kI 0,kI 0,kB false,kB false,kI 0] rfl zeroValue47 rfl) (ly [.ptr 13 0,.rc ze [0] x3] (ziD (r:=ze) (b:=⟨13,47,[kS [],kI 0,kI 0,kB false,kB false,kI 0]⟩) (off:=0) (zaE x3) rfl sizeOf47 rfl rfl rfl rfl) rfl l0)))))))))) (jp (jI h ?_ ?_))<;>intro uZ h
    ·refine jb h fun w8 uY h=>jr (rl 3 [0] 12 call84 (zkR uY) rf) (jp (jI h ?_ ?_))<;>intro u9 h
     ·cases h;exact jz'
     refine jp (zS ?_);cases h;exact zae lzz
    refine jb h fun g uV h=>jg [0,1,2,3,10,11,13,14] [12,13] [(77,kB g)] ?_ ?_
    ·refine (rsI 4 73 uV ?_ ?_)<;>intro vf uV
     ·refine jb uV fun kg vd uV=>?_;cases uV;exact (rl 1 [0] 13 call44 (zpY vd) (rel [] lzz))
     cases uV;exact (rel [] lzz)
    refine jI h ?_ ?_<;>intro vj h
    ·cases h;exact jz'
    refine jp (jI h ?_ ?_)<;>intro vr h
    ·refine jp (jI h ?_ ?_)<;>intro vu h
     ·cases h;exact jz'
     refine jb h fun kq vm h=>jr (rl 6 [0] 13 call82 (wO vm) rf) (jp (jI h ?_ ?_))<;>intro vv h
     ·cases h;exact jz'
     refine jp (zS ?_);cases h;exact zae lzz
    refine jp (zS ?_);cases h;exact zae lzz
   refine jp (zS ?_);cases h;exact zae lzz
  cases h;exact zag rfl lzz
 rcases q with u| u2
 ·refine zaA _ rfl ?_;cases h;exact jz
 cases h;exact zfn lzz
theorem zqe (h:zbP vb sv m b d=some r):w6 82 [.sl zg [0] sv,kI m,.sl Rp.byte [0] b,kI d] [kI r.1,kI r.2]:=by
  induction vb generalizing sv m b d r with
  | zero=>exact absurd h nofun
  | succ vb ih=>exact zpf (fun hh=>ih hh) h
theorem zsj (h:zgX m b=some r):w6 50 [.rc zg [0] m,.sl Rp.byte [0] b] [.own zaK 104 2 [] r.1,kI r.2.1,kI r.2.2]:=by
 refine fi 34 func50 fun Xt=>?_
 unfold zgX at h;refine jr (ra 0 [.rc zg [0] m] rfl (zhu 16 (zT [0] m) [0] rfl rfl rfl rfl rfl) rfl rf) (jp (jp (zq (jb h fun q u0 h=>jL u0 [1,2] [16] (fun s=>[(7,.own zaK 104 20 [] s.1),(8,kI s.2)]) (fun| (.inl v_)=> .x 0 ⟨[(7,.own zaK 104 20 [] v_)],[]⟩| (.inr v_)=> .r ⟨[(4,kN),(5,kI v_.1),(6,kI v_.2)],[]⟩) ?_ lw ?_))))
 ·clear h;intro s o h;obtain ⟨out,kd⟩:=s;replace h:zaO b m out kd=some o:=h;unfold zaO at h;refine jp (jI h ?_ ?_)<;>intro uS h
  ·refine zq (jb h fun rv uU h=>jr (rl 3 [0] 19 call83 (zkS uU) (rfl' [21])) (jp (jI h ?_ ?_)))<;>intro uT h
   ·cases h;exact jz'
   refine jb h fun v3 vk h=>jr (lb 1 zaK [] rv.1 (rc 0 rfl (lbs1 22 [] rv.1 zuC) (rc 0 rfl (lao 20 [] 104 22 [] [] zuC.el vk (.inl ztT)) rf))) (jp (zS ?_));cases h;exact zae lzz
  cases h;exact zag rfl lzz
 rcases q with u| u2
 ·refine zaA _ rfl (jp ?_);cases h;exact zx (lks [] [(20,2)] lzz)
 cases h;exact zfn lw
theorem zyX (h:zjo m hv=some r):w6 165 [.rc zg [0] m,.rc zak [0] hv] [.rc zan [] r]:=by
 refine fj ⟨[(4,.ptr 2 0)],[⟨2,245,(zxo r)⟩]⟩ 38 func165 ⟨⟨_,_,rfl,rfl,rfl,rfl,zNg⟩,trivial⟩ fun Xt=>?_
 unfold zjo at h;refine jr (ra 0 [.rc zg [0] m] rfl (zhu 14 (zT [0] m) [0] rfl rfl rfl rfl rfl) rfl (rfl' [15,16])) (jb h fun rv uU h=>jr (rl 3 [0] 15 call194 (zzG uU) rf) (jp (jI h ?_ ?_)))<;>intro uS h
 ·refine jr (rc 0 rfl (zab (r:=zan) [kI (-1)] [] (⟨(-1),false,0⟩:zX) rfl zFK rfl rfl) rf) ?_;cases h;exact zx (lks [16] [(16,2)] lzz)
 refine jb h fun x va h=>jr (rx 3 [0] zjp.el va rfl rfl (rc 0 rfl (lde ze [0] x znp) (rfl' [17]))) (jb h fun w8 uY h=>jr (lb 0 ze [] x (rl 2 [1] 16 call195 (zzH uY) rf)) (jb h fun g uV h=>jg [4,5,7] [16] [(33,kB g)] ?_ ?_))
 ·refine (rsI 3 26 uV ?_ ?_)<;>intro uT uV
  ·refine jb uV fun kg vd uV=>?_;cases uV;exact (rl 4 [1] 16 call196 (zCw vd) (rel [] lzz))
  cases uV;exact (rel [] lzz)
 refine jI h ?_ ?_<;>intro uW h
 ·refine jr (rc 0 rfl (zab (r:=zan) [k8 6] [] (⟨0,false,6⟩:zX) rfl zFK rfl rfl) rf) ?_;cases h;exact zx (lks [16] [(16,2)] lzz)
 refine jr (rc 2 rfl (zab (r:=zan) [kI rv,kB w8] [] (⟨rv,w8,0⟩:zX) rfl zFK rfl rfl) rf) ?_;cases h;exact zx (lks [16] [(16,2)] lzz)
end Go.Proofs.YtkgohoggipdokaaGreat

/-
  The Go functions do what the plain functions say. No condition.
-/
import Derived.Test.YtkgohoggipdokaaGreatx1G5
set_option autoImplicit true
set_option relaxedAutoImplicit true
namespace Go.Proofs.YtkgohoggipdokaaGreat
open Tryz
open Go Go.RowKit
set_option linter.unusedVariables false
set_option maxRecDepth 100000
set_option maxHeartbeats 3200000
theorem zpO (h:zir sv=some r):w6 38 [.sl zg [0] sv] [kB r]:=by
 refine fi 12 func38 fun Xt=>?_
 unfold zir at h;refine jp (jb h fun rv uU h=>jr (rl 1 [0] 9 call72 (zwm uU) (rfl' [11])) ?_);cases h;exact jz
theorem zrt (wc:∀{sv:(List zc)} {uX:Int} {l:(List zd)} {r:Bool},xo sv uX l=some r->w6 112 [.sl zg [0] sv,kI uX,.sl zm [0] l] [kB r]) (wd:∀{f:za} {sv:(List zc)} {v:zb} {r:Bool},xc f sv v=some r->w6 68 [.rc ze [0] f,.sl zg [0] sv,.rc zj [0] v] [kB r]) (we:∀{sv:(List zc)} {uX:Int} {x:zd} {r:Bool},xh sv uX x=some r->w6 106 [.sl zg [0] sv,kI uX,.rc zm [0] x] [kB r]) (h:zfY xo xc xh sv uX l=some r):w6 112 [.sl zg [0] sv,kI uX,.sl zm [0] l] [kB r]:=by
 refine fi 29 func112 fun Xt=>?_
 unfold zfY at h;refine jp (jg [0,1,2] [] [(16,kB ((decide (uX<0))|| (decide (uX>=(sv.length:Int)))))] ?_ ?_)
 ·refine (rsl 3 [] 11 (decide (uX<0)) ?_ ?_)<;>intro uS
  · exact (rbl [] 16 true rfl (by grind))
  exact (rbl [] 16 (decide (uX>=(sv.length:Int))) rfl (by grind))
 refine jI h ?_ ?_<;>intro uT h
 ·refine jp ?_;obtain rfl:=(sj h);exact zx lzz
 refine jp (zq (jb h fun q u0 h=>jL u0 [0,1,17,18] [] (fun s=>[(19,kI s)]) (fun| (.inl v_)=> .x 0 ⟨[],[]⟩| (.inr v_)=> .r ⟨[(6,kB false)],[]⟩) ?_ lzz ?_))
 ·clear h;intro v2 o h;unfold zca at h;refine jp (jI h ?_ ?_)<;>intro uW h
  ·refine zq (jb h fun x va h=>jr (rx 0 [0] zEE.el va rfl rfl (rc 0 rfl (lde zm [0] x zCz) (ral 1 [12] [.ptr 12 0,.rc zm [0] x] rfl (ziD (r:=zm) (b:=⟨12,27,[kN,kN]⟩) (off:=0) (zcd [0] x) rfl sizeOf27 rfl rfl (by rw [zbb]<;>rfl) rfl) rfl rf))) (jb h fun rv uU h=>jr (rc 3 rfl (lw0 11 call106 (we uU) (.k (.k (.l (zbH [0] x))))) rf) (jI h ?_ ?_)))<;>intro uZ h
   ·cases h;exact jz'
   refine zS ?_;cases h;exact jy
  cases h;exact zag rfl lzz
 rcases q with u| u2
 ·refine zaA _ rfl (jp ?_);obtain rfl:=(sj h);exact zx lzz
 obtain rfl:=(sj h);exact zfn lzz
theorem zzB (wc:∀{sv:(List zc)} {uX:Int} {l:(List zd)} {r:Bool},xo sv uX l=some r->w6 112 [.sl zg [0] sv,kI uX,.sl zm [0] l] [kB r]) (wd:∀{f:za} {sv:(List zc)} {v:zb} {r:Bool},xc f sv v=some r->w6 68 [.rc ze [0] f,.sl zg [0] sv,.rc zj [0] v] [kB r]) (we:∀{sv:(List zc)} {uX:Int} {x:zd} {r:Bool},xh sv uX x=some r->w6 106 [.sl zg [0] sv,kI uX,.rc zm [0] x] [kB r]) (h:zlj xo xc xh f sv v=some r):w6 68 [.rc ze [0] f,.sl zg [0] sv,.rc zj [0] v] [kB r]:=by
 refine fi 69 func68 fun Xt=>?_
 unfold zlj at h;refine jr (ral 1 [11] [.rc zj [0] v] rfl (zhu 12 (zai [0] v) [0] rfl rfl rfl (by rw [zaa]<;>rfl) rfl) rfl rf) (jb h fun rv uU h=>jr (rc 1 rfl (lw0 11 call93 (zlh uU) (.l (zfJ [0] v))) rf) (jg [1,3,5,7] [11,12] [(20,kB ((rv==0)|| ((decide (rv>1))&&(!f.Repeated))))] ?_ ?_))
 ·refine (rsl 3 [] 12 (rv==0) ?_ ?_)<;>intro uS
  · exact (rbl [] 20 true rfl (by grind))
  refine (rsl 3 [] 15 (decide (rv>1)) ?_ ?_)<;>intro uT
  · exact (rbl [] 20 (!f.Repeated) rfl (by grind))
  exact (rbl [] 20 false rfl (by grind))
 refine jI h ?_ ?_<;>intro uW h
 ·refine jp ?_;obtain rfl:=(sj h);exact zx lzz
 refine jp (zq (jp (jI h ?_ ?_)))<;>intro uZ h
 ·refine jb h fun g uV h=>jg [] [] [(6,kB g)] ?_ ?_
  ·refine (rsI 6 30 uV ?_ ?_)<;>intro u9 uV
   ·refine jb uV fun w8 uY uV=>?_;cases uV;exact (rl 2 [0] 11 call111 (zvp uY) rgg)
   cases uV;exact rgg
  obtain rfl:=(sj h);exact zx lzz
 refine jp (jI h ?_ ?_)<;>intro vf h
 ·cases h;exact jz
 refine jp (jI h ?_ ?_)<;>intro vj h
 ·refine jb h fun g2 vg h=>jg [] [] [(6,kB g2)] ?_ ?_
  ·refine (rsI 6 49 vg ?_ ?_)<;>intro vr vg
   ·refine jb vg fun kg vd vg=>?_;cases vg;exact (rl 5 [0] 11 call112 (wc vd) rgg)
   cases vg;exact rgg
  obtain rfl:=(sj h);exact zx lzz
 refine zS (jb h fun g3 vx h=>jg [] [] [(6,kB g3)] ?_ ?_)
 ·refine (rsI 6 62 vx ?_ ?_)<;>intro vu vx
  ·refine jb vx fun kq vm vx=>?_;cases vx;exact (rl 4 [0] 11 call113 (zrs vm) rgg)
  cases vx;exact rgg
 obtain rfl:=(sj h);exact zx lzz
theorem zti (wc:∀{sv:(List zc)} {uX:Int} {l:(List zd)} {r:Bool},xo sv uX l=some r->w6 112 [.sl zg [0] sv,kI uX,.sl zm [0] l] [kB r]) (wd:∀{f:za} {sv:(List zc)} {v:zb} {r:Bool},xc f sv v=some r->w6 68 [.rc ze [0] f,.sl zg [0] sv,.rc zj [0] v] [kB r]) (we:∀{sv:(List zc)} {uX:Int} {x:zd} {r:Bool},xh sv uX x=some r->w6 106 [.sl zg [0] sv,kI uX,.rc zm [0] x] [kB r]) (h:zhh xo xc xh sv uX x=some r):w6 106 [.sl zg [0] sv,kI uX,.rc zm [0] x] [kB r]:=by
 refine fi 67 func106 fun Xt=>?_
 unfold zhh at h;refine jr (rc 0 rfl (lbx 11 [0] (zcv [0] x)) rf) (jb h fun x2 vh h=>jr (rx 2 [0] zhl.el vh rfl rfl (rc 0 rfl (lde zg [0] x2 ztp) (ral 1 [12] [.ptr 12 0,.rc zg [0] x2] rfl (ziD (r:=zg) (b:=⟨12,71,[kS [],kN]⟩) (off:=0) (zT [0] x2) rfl sizeOf71 rfl rfl rfl rfl) rfl rf))) (jp (jp (zq (jb h fun q u0 h=>jL u0 [0,5,7,20,21] [11,12] (fun s=>[(8,kI s.1),(22,kI s.2)]) (fun| (.inl v_)=> .X 0 [5,7] [11,12] [] []| (.inr v_)=> .r ⟨[(6,kB false)],[]⟩) ?_ lzz ?_)))))
 ·clear h;intro s o h;obtain ⟨last,v⟩:=s;replace h:zcf xc sv x x2 last v=some o:=h;unfold zcf at h;refine jp (jI h ?_ ?_)<;>intro uS h
  ·refine zq (jb h fun x3 vp h=>jr (rx 0 [0] zAY.el vp rfl rfl (rc 0 rfl (lde zj [0] x3 zzO) (ral 1 [14] [.ptr 14 0,.rc zj [0] x3] rfl (ziD (r:=zj) (b:=⟨14,51,[kI 0,kN,kN,kN]⟩) (off:=0) (zai [0] x3) rfl sizeOf51 rfl rfl (by rw [zaa]<;>rfl) rfl) rfl rf))) (jb h fun rv uU h=>jr (rl 3 [0] 13 call64 (ziT uU) rf) (jb h fun g uV h=>jn (.N [0,5,7,10,20,21,22] [11,12,14] [(51,kB g)] []) ?_ (zek ?_))))
   ·rcases zkW uV with ⟨uT,uV⟩| ⟨uT,uV⟩
    ·cases uV;exact jd [0,5,7,10,20,21,22,51] [11,12,14] zdc (by exact (lwn 2 (dg 34 uT l0))) (zae lzz)
    rcases zkW uV with ⟨uW,uV⟩| ⟨uW,uV⟩
    ·cases uV;exact jd [0,5,7,10,20,21,22,51] [11,12,14] zdc (by exact (lwn 2 (dg 34 uT (lwn 5 (dg 40 uW l0))))) (zae lzz)
    refine jb uV fun x4 vz uV=>jb uV fun w8 uY uV=>?_;cases uV;exact jd [0,5,7,10,20,21,22,51] [11,12,14] zdc (by exact (lwn 2 (dg 34 uT (lwn 5 (dg 40 uW (lwn 3 (di [0] zjp.el vz (lx (lde ze [0] x4 znp) (lw_e (lx (ldw 14 51 (zai [0] x3) zzO) (lx (lf1 68 (lw0 13 call68 (wd uY) (.k (.k (.l (zfJ [0] x3)))))) l0))))))))))) (zae lzz)
   refine jI h ?_ ?_<;>intro uZ h
   ·cases h;exact jz'
   refine jp (zS ?_);cases h;exact jy
  cases h;exact zag rfl lzz
 rcases q with u| u4
 ·refine zaA _ rfl (jp (zq (jb h fun q2 vn h=>jL vn [7,56,57] [12] (fun s=>[(58,kI s)]) (fun| (.inl v_)=> .x 2 ⟨[],[]⟩| (.inr v_)=> .r ⟨[(6,kB false)],[]⟩) ?_ lzz ?_)))
  ·clear h;intro v3 o h;unfold zcx at h;refine jp (jI h ?_ ?_)<;>intro u9 h
   ·refine zq (jb h fun x5 vB h=>jr (rx 0 [0] znG.el vB rfl rfl rf) (jb h fun kg vd h=>jr (rl 2 [0] 14 call142 (zuo vd) rf) (jI h ?_ ?_)))<;>intro vf h
    ·cases h;exact jz'
    refine zS ?_;cases h;exact jy
   cases h;exact zag rfl lzz
  rcases q2 with u2| u3
  ·refine zaA _ rfl (jp ?_);obtain rfl:=(sj h);exact zx lzz
  obtain rfl:=(sj h);exact zfn lzz
 obtain rfl:=(sj h);exact zfn lzz
theorem zju (vb:Nat):(∀{sv:(List zc)} {uX:Int} {l:(List zd)} {r:Bool},zhg vb sv uX l=some r->w6 112 [.sl zg [0] sv,kI uX,.sl zm [0] l] [kB r])/\(∀{f:za} {sv:(List zc)} {v:zb} {r:Bool},zjl vb f sv v=some r->w6 68 [.rc ze [0] f,.sl zg [0] sv,.rc zj [0] v] [kB r])/\(∀{sv:(List zc)} {uX:Int} {x:zd} {r:Bool},zdX vb sv uX x=some r->w6 106 [.sl zg [0] sv,kI uX,.rc zm [0] x] [kB r]):=by
  induction vb with
  | zero=>exact ⟨fun h=>absurd h nofun,fun h=>absurd h nofun,fun h=>absurd h nofun⟩
  | succ vb ih=>exact ⟨fun h=>zrt (fun hh=>ih.1 hh) (fun hh=>ih.2.1 hh) (fun hh=>ih.2.2 hh) h,fun h=>zzB (fun hh=>ih.1 hh) (fun hh=>ih.2.1 hh) (fun hh=>ih.2.2 hh) h,fun h=>zti (fun hh=>ih.1 hh) (fun hh=>ih.2.1 hh) (fun hh=>ih.2.2 hh) h⟩
theorem zun (h:zdX vb sv uX x=some r):w6 106 [.sl zg [0] sv,kI uX,.rc zm [0] x] [kB r]:=(zju vb).2.2 h
theorem zzl (h:zmf vl size=some r):w6 117 [kI vl,kI size] [.own Rp.byte 5 2 [] r]:=by
 refine fi 23 func117 fun Xt=>?_
 unfold zmf at h;refine jp (jb h fun rv uU h=>jr (rl 1 [1] 10 call153 (FnOk.le (ins':=[kN,kI vl,kN]) (zzq uU) ⟨zha _ _,w7 _,zha _ _,trivial⟩) rf) (jb h fun w8 uY h=>jr (rl 2 [1] 11 call148 (zsD uY) rf) (jb h fun v vi h=>jb h fun v2 vq h=>jr (ra 4 [.own Rp.byte 5 12 [] rv,kI (IntKind.i64.wrap ((rv.length:Int) - 1))] rfl (zGJ rfl zbB.el vi) rfl (rc 1 rfl (lao 12 [] 5 13 [] [] zbB.el vq (.inl zcH)) rf)) ?_)));obtain rfl:=(sj h);exact zx (lks [] [(12,2)] lzz)
theorem zpT (h:zfI wv f l=some r):ziI prog 69 [.ptr 800000 0,.rc ze [0] f,.sl wZ [0] l] [] [⟨800000,76,(zp 800001 [0] wv)⟩] [800000] [⟨800000,76,(zp 800001 [0,2,3,4,5,6] r)⟩]:=by
 refine zlO (E:=⟨[(0,.ptr 800000 0)],[⟨800000,76,(zp 800001 [0,2,3,4,5,6] r)⟩]⟩) 30 [0] [(0,800000)] func69 rfl rfl rfl trivial ⟨⟨rfl,rfl,rfl⟩,trivial⟩ ⟨rfl,trivial⟩ (fun Xt old=>?_);refine zcw ?_;unfold zfI at h;refine jq [17] (jb h fun rv uU h=>jr (rl 3 [0] 16 call114 (zEa uU) rf) (jp (jI h ?_ ?_)))<;>intro uS h
 ·refine jb h fun w8 uY h=>jr (ra 4 [.ptr 800000 0,kI f.Number,kI 2,.own Rp.byte 5 18 [] rv.1] rfl (zhD (args:=[.tmp 17,.tmp 19,.const (.int .i64 2),.tmp 20]) [.ptr 800000 0,kI f.Number,kI 2,.own Rp.byte 5 18 [] rv.1] [⟨800000,76,(zp 800001 [0] wv)⟩] [(800000,800000),(800001,800001)] [0,18] 17 [800001] rfl call70 (zhm uY) rfl rfl rfl rfl rfl rfl rfl rfl) rfl rf) ?_;obtain rfl:=(sj h);exact zhB (lks [800000] [(18,6),(19,6),(20,6)] lw)
 refine jb h fun kg vd h=>jb h fun kq vm h=>jd [0] [800000] zdc (by exact (lwn 5 (lx (lf1 115 (lcd [kI f.Kind] 19 call115 (zzm vd))) (lw_e (ly [.lf (.val (.func (.func 70) #[] #[])),.ptr 800000 0,kI f.Number,kI kg,.own Rp.byte 5 18 [] rv.1] (lf1 70 (zhD (args:=[.tmp 22,.tmp 24,.tmp 27,.tmp 28]) [.ptr 800000 0,kI f.Number,kI kg,.own Rp.byte 5 18 [] rv.1] [⟨800000,76,(zp 800001 [0] wv)⟩] [(800000,800000),(800001,800001)] [0,18] 19 [800001] rfl call70 (zhm vm) rfl rfl rfl rfl rfl rfl rfl rfl)) rfl l0))))) ?_;obtain rfl:=(sj h);exact zAi (lks [800000] [(18,6),(21,6),(22,6)] lw)
theorem zsL (h:zhz vb sv vc b d=some r):w6 23 [.sl zg [0] sv,kI vc,.sl Rp.byte [0] b,kI d] [kB r]:=by
 refine fi 21 func23 fun Xt=>?_
 unfold zhz at h;refine jp (jb h fun rv uU h=>jr (rl 4 [0] 9 call49 (zqd uU) rf) ?_);cases h;exact jz
theorem zCv (h:zoR m b ve=some r):w6 191 [.rc zg [0] m,.sl Rp.byte [0] b,kI ve] [.rc zh [] r.1,k8 r.2]:=by
 refine fj ⟨[(6,.ptr 2 0),(7,k8 r.2)],[⟨2,154,(zcY r.1)⟩]⟩ 15 func191 ⟨⟨_,_,rfl,rfl,rfl,rfl,zqn⟩,rfl,trivial⟩ fun Xt=>?_
 unfold zoR at h;refine jr (ra 0 [.rc zg [0] m] rfl (zhu 13 (zT [0] m) [0] rfl rfl rfl rfl rfl) rfl (rfl' [14])) (jb h fun w8 uY h=>jr (rc 3 rfl (zov (rk:=zak) (rv:=zan) 15 rfl) (rkl 0 [] ⟨[(6,.ptr 14 0),(8,.ag (zT [0] m)),(9,.sl Rp.byte [0] b),(10,kI ve),(11,.om zak zan 15 [] ([]:(List (zU×zX))))],[⟨14,154,[kI 0,kI 0,kI 0,kI 0,kI 0,kI 0,kB false]⟩]⟩ (znz ⟨[(6,.ptr 14 0),(8,.ag (zT [0] m)),(9,.sl Rp.byte [0] b),(10,kI ve),(11,.om zak zan 15 [0] w8.2.2)],[⟨14,154,[kI 0,kI 0,kI 0,kI 0,kI 0,kI 0,kB false]⟩]⟩ (zoh.le (ins':=[(.tmp 8,.ag (zT [0] m)),(.tmp 9,.sl Rp.byte [0] b),(.tmp 10,kI ve),(.tmp 11,.om zak zan 15 [] ([]:(List (zU×zX))))]) (znB (args:=[.tmp 8,.tmp 9,.tmp 10,.tmp 11]) [.rc zg [0] m,.sl Rp.byte [0] b,kI ve,.om zak zan 15 [] ([]:(List (zU×zX)))] [(15,2)] [0] 15 [] rfl call123 (zux uY) rfl rfl (by kernel_rfl) rfl rfl rfl) ⟨⟨rfl,ziP zg [0] m (zT [0] m) rfl rfl⟩,⟨rfl,w7 _⟩,⟨rfl,w7 _⟩,⟨rfl,w7 _⟩,trivial⟩) rfl (by kernel_rfl) (by kernel_rfl) ⟨⟨_,rfl,zz rfl⟩,⟨_,rfl,zz rfl⟩,⟨_,rfl,zz rfl⟩,⟨_,rfl,zz rfl⟩,⟨_,rfl,ziA 0 rfl⟩,trivial⟩ ⟨⟨_,rfl,rfl,rfl,⟨zz rfl,zz rfl,zz rfl,zz rfl,zz rfl,zz rfl,zz rfl,trivial⟩⟩,trivial⟩ rf))) ?_);cases h;exact zx (lks [14] [(14,2)] lzz)
theorem zsB (h:zku k b=some r):w6 208 [kI k,.sl Rp.byte [0] b] [.fv 223 [.bp wY 3 922300 [] r.1,.bp (Rp.list Rp.byte) 35 922301 [0] r.2]]:=by
 refine fi 6 func208 fun Xt=>?_
 unfold zku at h;refine jq [922300,922301] (jr (ra 0 [.ptr 922300 0,.ptr 922301 0] rfl (zLJ (g:=223) [.tmp 2,.tmp 3] [⟨922300,3,[kI k]⟩,⟨922301,35,[.sl Rp.byte [0] b]⟩] [.bp wY 3 922300 [] k,.bp (Rp.list Rp.byte) 35 922301 [0] b] rfl ⟨⟨rfl,rfl,rfl,rfl⟩,⟨rfl,rfl,rfl,rfl⟩,trivial⟩ rfl) rfl rf) ?_);cases h;exact zx lzz
theorem zEt (h:zrz m b=some r):w6 89 [.rc zg [0] m,.sl Rp.byte [0] b] [.own zh 154 2 [] r.1,kI r.2.1,k8 r.2.2]:=by
 refine fi 36 func89 fun Xt=>?_
 unfold zrz at h;refine jr (ra 0 [.rc zg [0] m] rfl (zhu 19 (zT [0] m) [0] rfl rfl rfl rfl rfl) rfl rf) (jr (rc 0 rfl (zov (rk:=zak) (rv:=zan) 20 rfl) rf) (jp (zq (jb h fun q u0 h=>jL u0 [1,2] [19] (fun s=>[(4,.own zh 154 26 [] s.1),(7,.om zak zan 20 [0] s.2.1),(8,kI s.2.2)]) (fun| (.inl v_)=> .x 0 ⟨[(4,.own zh 154 26 [] v_)],[]⟩| (.inr v_)=> .r ⟨[(4,kN),(5,kI v_.1),(6,k8 v_.2)],[]⟩) ?_ lw ?_))))
 ·clear h;intro s o h;obtain ⟨l,met,ve⟩:=s;replace h:zej b m l met ve=some o:=h;unfold zej at h;refine jp (jI h ?_ ?_)<;>intro uS h
  ·refine zq (jb h fun w8 uY h=>jr (rkl 4 [] ⟨[(1,.sl Rp.byte [0] b),(2,.ptr 19 0),(4,.own zh 154 26 [] l),(7,.om zak zan 20 [0] met),(8,kI ve),(17,.ag (zT [0] m)),(18,.sl Rp.byte [0] b),(19,kI ve),(20,.om zak zan 20 [0] met)],[⟨19,71,(zT [0] m)⟩]⟩ (znz ⟨[(1,.sl Rp.byte [0] b),(2,.ptr 19 0),(4,.own zh 154 26 [] l),(7,.om zak zan 20 [0] w8.2.2),(8,kI ve),(17,.ag (zT [0] m)),(18,.sl Rp.byte [0] b),(19,kI ve),(20,.om zak zan 20 [0] w8.2.2)],[⟨19,71,(zT [0] m)⟩]⟩ (zoh.le (ins':=[(.tmp 17,.ag (zT [0] m)),(.tmp 18,.sl Rp.byte [0] b),(.tmp 19,kI ve),(.tmp 20,.om zak zan 20 [0] met)]) (znB (args:=[.tmp 17,.tmp 18,.tmp 19,.tmp 20]) [.rc zg [0] m,.sl Rp.byte [0] b,kI ve,.om zak zan 20 [0] met] [(20,2)] [0] 26 [] rfl call123 (zux uY) rfl rfl (by kernel_rfl) rfl rfl rfl) ⟨⟨rfl,ziP zg [0] m (zT [0] m) rfl rfl⟩,⟨rfl,w7 _⟩,⟨rfl,w7 _⟩,⟨rfl,w7 _⟩,trivial⟩) rfl (by kernel_rfl) (by kernel_rfl) ⟨⟨_,rfl,zz rfl⟩,⟨_,rfl,zz rfl⟩,⟨_,rfl,zz rfl⟩,⟨_,rfl,ziA 0 rfl⟩,⟨_,rfl,zz rfl⟩,⟨_,rfl,zz rfl⟩,⟨_,rfl,zz rfl⟩,⟨_,rfl,zz rfl⟩,⟨_,rfl,ziA 0 rfl⟩,trivial⟩ ⟨⟨_,rfl,rfl,rfl,⟨zz rfl,zz rfl,trivial⟩⟩,trivial⟩ (rfl' [29]))) (jp (jI h ?_ ?_)))<;>intro uT h
   ·cases h;exact jz'
   refine jb h fun v vi h=>jr (lb 1 zh [] w8.1 (rc 0 rfl (lbs1 30 [] w8.1 zog) (rc 0 rfl (lao 26 [] 154 30 [] [] zog.el vi (.inl zjJ)) rf))) (jp (zS ?_));cases h;exact zae lzz
  cases h;exact zag rfl lzz
 rcases q with u| u2
 ·refine zaA _ rfl (jp ?_);cases h;exact zx (lks [] [(26,2)] lzz)
 cases h;exact zfn lw
theorem zsF (h:zkD sv vc d=some r):w6 105 [.sl zg [0] sv,kI vc,kI d] [k8 r]:=by
 refine fi 28 func105 fun Xt=>?_
 unfold zkD at h;refine jp (zq (jb h fun rv uU h=>jr (rl 1 [0] 9 call38 (zpO uU) rf) (jI h ?_ ?_)))<;>intro uS h
 ·cases h;exact jz
 refine jg [] [] [(11,kB ((decide (vc<0))|| ((decide (vc>=(sv.length:Int)))|| ((decide (d<0))|| (decide (d>64))))))] ?_ ?_
 ·refine (rsl 3 [] 14 (decide (vc<0)) ?_ ?_)<;>intro uT
  · exact (rbl [] 11 true rfl (by grind))
  refine (rsl 6 [] 20 (decide (vc>=(sv.length:Int))) ?_ ?_)<;>intro uW
  · exact (rbl [] 11 true rfl (by grind))
  refine (rsl 4 [] 24 (decide (d<0)) ?_ ?_)<;>intro uZ
  · exact (rbl [] 11 true rfl (by grind))
  exact (rbl [] 11 (decide (d>64)) rfl (by grind))
 refine jI h ?_ ?_<;>intro u9 h
 ·cases h;exact jz
 refine zS ?_;cases h;exact jz
theorem znI (wg:∀{wv:zi} {sv:(List zc)} {uX:Int} {x:zd} {r:zi},xp wv sv uX x=some r->ziI prog 31 [.ptr 800000 0,.sl zg [0] sv,kI uX,.rc zm [0] x] [] [⟨800000,76,(zp 800001 [0] wv)⟩] [800000] [⟨800000,76,(zp 800001 [0,2] r)⟩]) (wh:∀{wv:zi} {sv:(List zc)} {f:za} {x:zd} {r:zi},xd wv sv f x=some r->ziI prog 71 [.ptr 800000 0,.sl zg [0] sv,.rc ze [0] f,.rc zm [0] x] [] [⟨800000,76,(zp 800001 [0] wv)⟩] [800000] [⟨800000,76,(zp 800001 [0,2] r)⟩]) (wi:∀{wv:zi} {sv:(List zc)} {f:za} {v:zb} {r:zi},xe wv sv f v=some r->ziI prog 37 [.ptr 800000 0,.sl zg [0] sv,.rc ze [0] f,.rc zj [0] v] [] [⟨800000,76,(zp 800001 [0] wv)⟩] [800000] [⟨800000,76,(zp 800001 [0,2] r)⟩]) (h:zdR xp xd xe wv sv uX x=some r):ziI prog 31 [.ptr 800000 0,.sl zg [0] sv,kI uX,.rc zm [0] x] [] [⟨800000,76,(zp 800001 [0] wv)⟩] [800000] [⟨800000,76,(zp 800001 [0,2] r)⟩]:=by
 refine zlO (E:=⟨[(0,.ptr 800000 0)],[⟨800000,76,(zp 800001 [0,2] r)⟩]⟩) 55 [0] [(0,800000)] func31 rfl rfl rfl trivial ⟨⟨rfl,rfl,rfl⟩,trivial⟩ ⟨rfl,trivial⟩ (fun Xt old=>?_);refine zcw ?_;unfold zdR at h;refine jr (rc 0 rfl (lbx 21 [0] (zcv [0] x)) rf) (jb h fun x2 vh h=>jr (rx 2 [0] zhl.el vh rfl rfl (rc 0 rfl (lde zg [0] x2 ztp) (ral 1 [22] [.ptr 22 0,.rc zg [0] x2] rfl (ziD (r:=zg) (b:=⟨22,71,[kS [],kN]⟩) (off:=0) (zT [0] x2) rfl sizeOf71 rfl rfl rfl rfl) rfl rf))) (jp (zq (jb h fun q u0 h=>jl u0 [0,1,7,8,20,21] [21,22] (fun s=>[(22,kI s.1)]) (fun s=>[⟨800000,76,[.own (Rp.list Rp.byte) 35 800001 [0,23] s.2.1,kI s.2.2]⟩]) (fun o=> .X 0 [0,7] [21] [] [⟨800000,76,[.own (Rp.list Rp.byte) 35 800001 [0,23] o.1,kI o.2]⟩]) ?_ lw ?_))))
 ·clear h;intro s o h;obtain ⟨v,f,f2⟩:=s;replace h:zaV xe sv x x2 v f f2=some o:=h;unfold zaV at h;refine jp (jI h ?_ ?_)<;>intro uS h
  ·refine zq (jb h fun x3 vp h=>jr (rx 0 [0] zAY.el vp rfl rfl (rc 0 rfl (lde zj [0] x3 zzO) (ral 1 [28] [.ptr 28 0,.rc zj [0] x3] rfl (ziD (r:=zj) (b:=⟨28,51,[kI 0,kN,kN,kN]⟩) (off:=0) (zai [0] x3) rfl sizeOf51 rfl rfl (by rw [zaa]<;>rfl) rfl) rfl rf))) (jb h fun rv uU h=>jr (rl 3 [0] 27 call64 (ziT uU) rf) (jb h fun x4 vz h=>jb h fun w8 uY h=>jd [0,1,7,8,20,21,22] [800000,21,22] zdc (by exact (lwn 5 (di [0] zjp.el vz (lx (lde ze [0] x4 znp) (lx (ldw 28 51 (zai [0] x3) zzO) (lx (lf1 37 (zy.le (ins':=[(.tmp 33,.ptr 800000 0),(.tmp 34,.sl zg [0] sv),(.tmp 39,.rc ze [0] x4),(.tmp 40,.ag (zai [0] x3))]) (zhD (args:=[.tmp 33,.tmp 34,.tmp 39,.tmp 40]) [.ptr 800000 0,.sl zg [0] sv,.rc ze [0] x4,.rc zj [0] x3] [⟨800000,76,[.own (Rp.list Rp.byte) 35 800001 [0,23] f,kI f2]⟩] [(800000,800000),(800001,800001)] [0,23] 27 [800001] rfl call37 (wi uY) rfl rfl rfl rfl rfl rfl rfl rfl) ⟨⟨rfl,w7 _⟩,⟨rfl,w7 _⟩,⟨rfl,w7 _⟩,⟨rfl,zfJ [0] x3⟩,trivial⟩)) l0)))))) (zS (jp ?_)))));cases h;exact zae (lks [800000,21,22] [(29,23)] lw)
  cases h;exact zag rfl lzz
 refine zaA _ rfl (jp (zq (jb h fun q2 vn h=>jl vn [0,44,45] [] (fun s=>[(46,kI s.1)]) (fun s=>[⟨800000,76,[.own (Rp.list Rp.byte) 35 800001 [0,23,30] s.2.1,kI s.2.2]⟩]) (fun o=> .X 2 [0] [] [] [⟨800000,76,[.own (Rp.list Rp.byte) 35 800001 [0,23,30] o.1,kI o.2]⟩]) ?_ lw ?_)))
 ·clear h;intro s o h;obtain ⟨v2,f5,f6⟩:=s;replace h:zaW x v2 f5 f6=some o:=h;unfold zaW at h;refine jp (jI h ?_ ?_)<;>intro uT h
  ·refine zq (jb h fun x5 vB h=>jr (rx 0 [0] znG.el vB rfl rfl rf) (jb h fun v3 vk h=>jb h fun kg vd h=>jr (ra 2 [kS x5] rfl (ztL 35 rfl underlying9 underlying35 underlying5 vk) rfl (ra 0 [.ptr 800000 0,.sl Rp.byte [35] v3] rfl (zhD (args:=[.tmp 50,.tmp 52]) [.ptr 800000 0,.sl Rp.byte [35] v3] [⟨800000,76,[.own (Rp.list Rp.byte) 35 800001 [0,23,30] f5,kI f6]⟩] [(800000,800000),(800001,800001)] [0,23,30,35] 34 [800001] rfl call65 (zhQ vd) rfl rfl rfl rfl rfl rfl rfl rfl) rfl rf)) (zS (jp ?_))));cases h;exact zae (lks [800000] [(35,30),(36,30)] lw)
  cases h;exact zag rfl lzz
 refine zaA _ rfl ?_;cases h;exact zAi (lks [800000] [(23,2),(30,2)] lw)
theorem zqr (wg:∀{wv:zi} {sv:(List zc)} {uX:Int} {x:zd} {r:zi},xp wv sv uX x=some r->ziI prog 31 [.ptr 800000 0,.sl zg [0] sv,kI uX,.rc zm [0] x] [] [⟨800000,76,(zp 800001 [0] wv)⟩] [800000] [⟨800000,76,(zp 800001 [0,2] r)⟩]) (wh:∀{wv:zi} {sv:(List zc)} {f:za} {x:zd} {r:zi},xd wv sv f x=some r->ziI prog 71 [.ptr 800000 0,.sl zg [0] sv,.rc ze [0] f,.rc zm [0] x] [] [⟨800000,76,(zp 800001 [0] wv)⟩] [800000] [⟨800000,76,(zp 800001 [0,2] r)⟩]) (wi:∀{wv:zi} {sv:(List zc)} {f:za} {v:zb} {r:zi},xe wv sv f v=some r->ziI prog 37 [.ptr 800000 0,.sl zg [0] sv,.rc ze [0] f,.rc zj [0] v] [] [⟨800000,76,(zp 800001 [0] wv)⟩] [800000] [⟨800000,76,(zp 800001 [0,2] r)⟩]) (h:zfH xp xd xe wv sv f x=some r):ziI prog 71 [.ptr 800000 0,.sl zg [0] sv,.rc ze [0] f,.rc zm [0] x] [] [⟨800000,76,(zp 800001 [0] wv)⟩] [800000] [⟨800000,76,(zp 800001 [0,2] r)⟩]:=by
 refine zlO (E:=⟨[(0,.ptr 800000 0)],[⟨800000,76,(zp 800001 [0,2] r)⟩]⟩) 57 [0] [(0,800000)] func71 rfl rfl rfl trivial ⟨⟨rfl,rfl,rfl⟩,trivial⟩ ⟨rfl,trivial⟩ (fun Xt old=>?_);refine zcw ?_;unfold zfH at h;refine jr (ral 1 [16] [.rc zm [0] x] rfl (zhu 17 (zcd [0] x) [0] rfl rfl rfl (by rw [zbb]<;>rfl) rfl) rfl rf) (jd [0,1,6,7,8,9] [800000,16,17] zdc (by exact l0) (jb h fun rv uU h=>jr (rc 1 rfl (zy.le (ins':=[(.tmp 19,.ptr 800000 0),(.const (.slice none 0 0),kN)]) (zhD (args:=[.tmp 19,.const (.slice none 0 0)]) [.ptr 800000 0,.sl Rp.byte [] ([]:(List UInt8))] [⟨800000,76,(zp 800001 [0] wv)⟩] [(800000,800000),(800001,800001)] [0] 16 [800001] rfl call65 (zhQ uU) rfl rfl rfl rfl rfl rfl rfl rfl) ⟨⟨rfl,w7 _⟩,⟨rfl,zha _ _⟩,trivial⟩) rf) (jb h fun w8 uY h=>jr (rc 5 rfl (zy.le (ins':=[(.tmp 21,.ptr 800000 0),(.tmp 22,.sl zg [0] sv),(.tmp 24,kI f.Of),(.tmp 25,.ag (zcd [0] x))]) (zhD (args:=[.tmp 21,.tmp 22,.tmp 24,.tmp 25]) [.ptr 800000 0,.sl zg [0] sv,kI f.Of,.rc zm [0] x] [⟨800000,76,(zp 800001 [0,18] rv)⟩] [(800000,800000),(800001,800001)] [0,18] 17 [800001] rfl call31 (wg uY) rfl rfl rfl rfl rfl rfl rfl rfl) ⟨⟨rfl,w7 _⟩,⟨rfl,w7 _⟩,⟨rfl,w7 _⟩,⟨rfl,zbH [0] x⟩,trivial⟩) rf) (jb h fun kg vd h=>jb h fun x2 vh h=>jk [0,6,8,9] [800000,16] (zBF ⟨[(0,.ptr 800000 0),(8,kI (wv.pieces.length:Int))],[⟨800000,76,[.own (Rp.list Rp.byte) 35 800001 [0,18,19,20] (w8.pieces.set (Int.toNat (wv.pieces.length:Int)) kg),kI w8.size]⟩]⟩ [.ev,.ev,.ev,.ev,.ev,.ev,.ev,.ev,.ev,.ev,.ev,.ev,.ev,.ex [] [] [20] (.own Rp.byte 5 20 [] kg) [],.ex [] [] [] (.ptr 800001 (Int.toNat (wv.pieces.length:Int)*(Rp.list Rp.byte).size)) [],.raw [11,0,1,11,19] [800001] [] [.sl 30 (.own (Rp.list Rp.byte) 35 800001 [0,18,19,20] (w8.pieces.set (Int.toNat (wv.pieces.length:Int)) kg)),.bx ⟨800000,76,[.own (Rp.list Rp.byte) 35 800001 [0,18,19,20] (w8.pieces.set (Int.toNat (wv.pieces.length:Int)) kg),kI w8.size]⟩]] [⟨[(.func 117,.lf (.val (.func (.func 117) #[] #[]))),(.tmp 33,kI f.Number),(.tmp 39,kI (IntKind.i64.wrap (w8.size - wv.size)))],[],[]⟩,⟨[(.tmp 30,.own (Rp.list Rp.byte) 35 800001 [0,18,19] w8.pieces),(.tmp 31,kI (wv.pieces.length:Int))],[],[]⟩,⟨[],[],[.sl 30 (.own (Rp.list Rp.byte) 35 800001 [0,18,19] w8.pieces),.sl 41 (.ptr 800001 (Int.toNat (wv.pieces.length:Int)*(Rp.list Rp.byte).size)),.sl 40 (.own Rp.byte 5 20 [] kg),.sl 30 (.own (Rp.list Rp.byte) 35 800001 [0,18,19] w8.pieces),.bx ⟨800000,76,(zp 800001 [0,18,19] w8)⟩]⟩] [0,8] [800000] zdc (by kernel_rfl) (by exact (lwn 13 (lw_x (zy.cons _ (zGH (lcd [kI f.Number,kI (IntKind.i64.wrap (w8.size - wv.size))] 18 call117 (zzl vd)) rfl)) (lw_x (zGH (zxQ rfl zoV.el vh) rfl) (lw_r (zIg (ins:=[(.tmp 30,.own (Rp.list Rp.byte) 35 800001 [0,18,19] w8.pieces),(.tmp 41,.ptr 800001 (Int.toNat (wv.pieces.length:Int)*(Rp.list Rp.byte).size)),(.tmp 40,.own Rp.byte 5 20 [] kg)]) [30] [(⟨800000,76,(zp 800001 [0,18,19] w8)⟩,⟨800000,76,[.own (Rp.list Rp.byte) 35 800001 [0,18,19,20] (w8.pieces.set (Int.toNat (wv.pieces.length:Int)) kg),kI w8.size]⟩)] (zNP (r:=(Rp.list Rp.byte)) (e:=35) (ℓ:=800001) (C:=[0,18,19]) (xs:=w8.pieces) (off:=(Int.toNat (wv.pieces.length:Int)*(Rp.list Rp.byte).size)) (.tmp 30) (Int.toNat (wv.pieces.length:Int)) 0 x2 kg [0,18,19,20] rfl rfl sizeOf35 rfl (ztC vh) rfl (zwS rfl _) rfl) ⟨trivial,trivial,trivial,trivial⟩ (fun _ _=>nofun) ⟨⟨rfl,rfl,rfl,⟨ziA 0 rfl,zz rfl,trivial⟩⟩,trivial⟩) lw_0))))) (jb h fun x3 vp h=>jd [0] [800000] zdc (by exact (lwn 9 (ly [.own (Rp.list Rp.byte) 35 800001 [0,18,19,20] (w8.pieces.set (Int.toNat (wv.pieces.length:Int)) kg),kI (wv.pieces.length:Int)] (zjG rfl zoV.el (zcn _ _ _ _ _) vp) rfl (lx (ldl (Rp.list Rp.byte) [800001,0,18,19,20] x3 0 Rp.byte x3) (lwn 4 (ly [.ptr 800000 1,kI (IntKind.i64.wrap (w8.size+(x3.length:Int)))] (zxS (b:=⟨800000,76,[.own (Rp.list Rp.byte) 35 800001 [0,18,19,20] (w8.pieces.set (Int.toNat (wv.pieces.length:Int)) kg),kI w8.size]⟩) (off:=1) rfl sizeOf3 rfl rfl rfl) rfl l0)))))) ?_))))));cases h;exact zAi (lks [800000] [(18,2),(19,2),(20,2)] lw)
theorem zpc (wg:∀{wv:zi} {sv:(List zc)} {uX:Int} {x:zd} {r:zi},xp wv sv uX x=some r->ziI prog 31 [.ptr 800000 0,.sl zg [0] sv,kI uX,.rc zm [0] x] [] [⟨800000,76,(zp 800001 [0] wv)⟩] [800000] [⟨800000,76,(zp 800001 [0,2] r)⟩]) (wh:∀{wv:zi} {sv:(List zc)} {f:za} {x:zd} {r:zi},xd wv sv f x=some r->ziI prog 71 [.ptr 800000 0,.sl zg [0] sv,.rc ze [0] f,.rc zm [0] x] [] [⟨800000,76,(zp 800001 [0] wv)⟩] [800000] [⟨800000,76,(zp 800001 [0,2] r)⟩]) (wi:∀{wv:zi} {sv:(List zc)} {f:za} {v:zb} {r:zi},xe wv sv f v=some r->ziI prog 37 [.ptr 800000 0,.sl zg [0] sv,.rc ze [0] f,.rc zj [0] v] [] [⟨800000,76,(zp 800001 [0] wv)⟩] [800000] [⟨800000,76,(zp 800001 [0,2] r)⟩]) (h:zeL xp xd xe wv sv f v=some r):ziI prog 37 [.ptr 800000 0,.sl zg [0] sv,.rc ze [0] f,.rc zj [0] v] [] [⟨800000,76,(zp 800001 [0] wv)⟩] [800000] [⟨800000,76,(zp 800001 [0,2] r)⟩]:=by
 refine zlO (E:=⟨[(0,.ptr 800000 0)],[⟨800000,76,(zp 800001 [0,2] r)⟩]⟩) 48 [0] [(0,800000)] func37 rfl rfl rfl trivial ⟨⟨rfl,rfl,rfl⟩,trivial⟩ ⟨rfl,trivial⟩ (fun Xt old=>?_);refine zcw ?_;unfold zeL at h;refine jr (ral 1 [34] [.rc zj [0] v] rfl (zhu 35 (zai [0] v) [0] rfl rfl rfl (by rw [zaa]<;>rfl) rfl) rfl rf) (jp (jb h fun p vt h=>jn (.N [0,1,6,7] [34,35] [] [⟨800000,76,[.own (Rp.list Rp.byte) 35 800001 [0,36,37,38,39,40] p.1,kI p.2]⟩]) ?_ ?_))
 ·replace h:=vt;refine jI h ?_ ?_<;>intro uS h
  ·refine jb h fun rv uU h=>jr (lb 1 ze [] f (ra 2 [.ptr 800000 0,.rc ze [] f,.sl wZ [0] v.Words] rfl (zhD (args:=[.tmp 16,.tmp 17,.tmp 19]) [.ptr 800000 0,.rc ze [] f,.sl wZ [0] v.Words] [⟨800000,76,(zp 800001 [0] wv)⟩] [(800000,800000),(800001,800001)] [0] 39 [800001] rfl call69 (zpT uU) rfl rfl rfl rfl rfl rfl rfl rfl) rfl rf)) ?_;cases h;exact zae (lks [800000,34,35] [(41,40),(42,40),(43,40),(44,40),(45,40)] lw)
  cases h;exact zae lw
 refine zek (jp (zq (jb h fun q u0 h=>jl u0 [0,1,6,7,22,23] [34,35] (fun s=>[(24,kI s.1)]) (fun s=>[⟨800000,76,[.own (Rp.list Rp.byte) 35 800001 [0,36,37,38,39,40,46] s.2.1,kI s.2.2]⟩]) (fun o=> .X 0 [0,1,6,7] [34,35] [] [⟨800000,76,[.own (Rp.list Rp.byte) 35 800001 [0,36,37,38,39,40,46] o.1,kI o.2]⟩]) ?_ lw ?_)))
 ·clear h;intro s o h;obtain ⟨v2,f4,f5⟩:=s;replace h:zbn f v v2 f4 f5=some o:=h;unfold zbn at h;refine jp (jI h ?_ ?_)<;>intro uT h
  ·refine zq (jb h fun x va h=>jr (rx 0 [0] znG.el va rfl rfl rf) (jb h fun v3 vk h=>jb h fun w8 uY h=>jr (ra 4 [kS x] rfl (ztL 53 rfl underlying9 underlying35 underlying5 vk) rfl (ra 0 [.ptr 800000 0,kI f.Number,kI 2,.sl Rp.byte [53] v3] rfl (zhD (args:=[.tmp 28,.tmp 30,.const (.int .i64 2),.tmp 32]) [.ptr 800000 0,kI f.Number,kI 2,.sl Rp.byte [53] v3] [⟨800000,76,[.own (Rp.list Rp.byte) 35 800001 [0,36,37,38,39,40,46] f4,kI f5]⟩] [(800000,800000),(800001,800001)] [0,36,37,38,39,40,46,53] 52 [800001] rfl call70 (zhm uY) rfl rfl rfl rfl rfl rfl rfl rfl) rfl rf)) (zS (jp ?_))));cases h;exact zae (lks [800000,34,35] [(53,46),(54,46),(55,46)] lw)
  cases h;exact zag rfl lzz
 refine zaA _ rfl (jp (zq (jb h fun q2 vn h=>jl vn [0,1,6,36,37] [34] (fun s=>[(38,kI s.1)]) (fun s=>[⟨800000,76,[.own (Rp.list Rp.byte) 35 800001 [0,36,37,38,39,40,46,56] s.2.1,kI s.2.2]⟩]) (fun o=> .X 2 [0] [] [] [⟨800000,76,[.own (Rp.list Rp.byte) 35 800001 [0,36,37,38,39,40,46,56] o.1,kI o.2]⟩]) ?_ lw ?_)))
 ·clear h;intro s o h;obtain ⟨v4,f8,f9⟩:=s;replace h:zbo f xd sv v v4 f8 f9=some o:=h;unfold zbo at h;refine jp (jI h ?_ ?_)<;>intro uW h
  ·refine zq (jb h fun x2 vh h=>jr (rx 0 [0] zEE.el vh rfl rfl (rc 0 rfl (lde zm [0] x2 zCz) (ral 1 [61] [.ptr 61 0,.rc zm [0] x2] rfl (ziD (r:=zm) (b:=⟨61,27,[kN,kN]⟩) (off:=0) (zcd [0] x2) rfl sizeOf27 rfl rfl (by rw [zbb]<;>rfl) rfl) rfl rf))) (jb h fun kg vd h=>jr (lb 2 ze [] f (rc 1 rfl (zy.le (ins':=[(.tmp 42,.ptr 800000 0),(.tmp 43,.sl zg [0] sv),(.tmp 44,.rc ze [] f),(.tmp 45,.ag (zcd [0] x2))]) (zhD (args:=[.tmp 42,.tmp 43,.tmp 44,.tmp 45]) [.ptr 800000 0,.sl zg [0] sv,.rc ze [] f,.rc zm [0] x2] [⟨800000,76,[.own (Rp.list Rp.byte) 35 800001 [0,36,37,38,39,40,46,56] f8,kI f9]⟩] [(800000,800000),(800001,800001)] [0,36,37,38,39,40,46,56] 60 [800001] rfl call71 (wh vd) rfl rfl rfl rfl rfl rfl rfl rfl) ⟨⟨rfl,w7 _⟩,⟨rfl,w7 _⟩,⟨rfl,w7 _⟩,⟨rfl,zbH [0] x2⟩,trivial⟩) rf)) (zS (jp ?_))));cases h;exact zae (lks [800000,34] [(62,56)] lw)
  cases h;exact zag rfl lzz
 refine zaA _ rfl ?_;cases h;exact zAi (lks [800000] [(36,2),(37,2),(38,2),(39,2),(40,2),(46,2),(56,2)] lw)
theorem zgT (vb:Nat):(∀{wv:zi} {sv:(List zc)} {uX:Int} {x:zd} {r:zi},zbG vb wv sv uX x=some r->ziI prog 31 [.ptr 800000 0,.sl zg [0] sv,kI uX,.rc zm [0] x] [] [⟨800000,76,(zp 800001 [0] wv)⟩] [800000] [⟨800000,76,(zp 800001 [0,2] r)⟩])/\(∀{wv:zi} {sv:(List zc)} {f:za} {x:zd} {r:zi},zer vb wv sv f x=some r->ziI prog 71 [.ptr 800000 0,.sl zg [0] sv,.rc ze [0] f,.rc zm [0] x] [] [⟨800000,76,(zp 800001 [0] wv)⟩] [800000] [⟨800000,76,(zp 800001 [0,2] r)⟩])/\(∀{wv:zi} {sv:(List zc)} {f:za} {v:zb} {r:zi},zds vb wv sv f v=some r->ziI prog 37 [.ptr 800000 0,.sl zg [0] sv,.rc ze [0] f,.rc zj [0] v] [] [⟨800000,76,(zp 800001 [0] wv)⟩] [800000] [⟨800000,76,(zp 800001 [0,2] r)⟩]):=by
  induction vb with
  | zero=>exact ⟨fun h=>absurd h nofun,fun h=>absurd h nofun,fun h=>absurd h nofun⟩
  | succ vb ih=>exact ⟨fun h=>znI (fun hh=>ih.1 hh) (fun hh=>ih.2.1 hh) (fun hh=>ih.2.2 hh) h,fun h=>zqr (fun hh=>ih.1 hh) (fun hh=>ih.2.1 hh) (fun hh=>ih.2.2 hh) h,fun h=>zpc (fun hh=>ih.1 hh) (fun hh=>ih.2.1 hh) (fun hh=>ih.2.2 hh) h⟩
theorem ziZ (h:zbG vb wv sv uX x=some r):ziI prog 31 [.ptr 800000 0,.sl zg [0] sv,kI uX,.rc zm [0] x] [] [⟨800000,76,(zp 800001 [0] wv)⟩] [800000] [⟨800000,76,(zp 800001 [0,2] r)⟩]:=(zgT vb).1 h
theorem ztk (h:zhH wv uX ve tov=some r):zjv prog 162 [.ag [.sl zg [0] wv.s,.sl Rp.byte [0] wv.b,.om zo zh 2 [0] wv.met],kI uX,kI ve,kI tov] [.rc zh [] r.1,k8 r.2.1] [.ag [.any,.any,.om zo zh 2 [0] r.2.2],.any,.any,.any]:=by
 refine zlP (E:=⟨[(0,.ag [.any,.any,.om zo zh 2 [0] r.2.2]),(8,.ptr 3 0),(9,k8 r.2.1)],[⟨3,154,(zcY r.1)⟩]⟩) 67 [0] func162 rfl rfl rfl ⟨⟨_,_,rfl,rfl,rfl,rfl,zqn⟩,rfl,trivial⟩ ⟨.inr ⟨rfl,rfl⟩,.inl rfl,.inl rfl,.inl rfl,trivial⟩ rfl (fun Xt old=>?_);refine zcw ?_;unfold zhH at h;refine jq [13,14] (jb h fun v vi h=>jr (ra 3 [.sl Rp.byte [0] wv.b,kI tov] rfl (zge none (some (kI tov)) rfl zbB.el (zce _ _ _) ⟨rfl,rfl⟩ ⟨rfl,rfl⟩ vi) rfl rf) (jb h fun rv uU h=>jr (rl 2 [0] 13 call164 (zmG uU) (rfl' [15])) (jp (jI h ?_ ?_))))<;>intro uS h
 ·refine jr (rc 0 rfl (zab (r:=zh) [] [] (⟨(⟨0,0,0,0,0⟩:zn),0,false⟩:zf) rfl zyJ rfl rfl) rf) ?_;cases h;exact zhB (lks [14] [(14,3)] lw)
 refine jr (rc 5 rfl (zab (r:=zo) [kI uX,kI rv.1.Number,kI rv.1.Wire] [] (⟨uX,rv.1.Number,rv.1.Wire⟩:zk) rfl zNX rfl rfl) (rfl' [16])) (jr (lb 2 zo [] (⟨uX,rv.1.Number,rv.1.Wire⟩:zk) (ra 0 [.om zo zh 2 [0] wv.met,.rc zo [] (⟨uX,rv.1.Number,rv.1.Wire⟩:zk)] rfl (zuS (rk:=zo) (rv:=zh) (m:=wv.met) (k:=(⟨uX,rv.1.Number,rv.1.Wire⟩:zk)) (.rc zh [0] ((mget wv.met (⟨uX,rv.1.Number,rv.1.Wire⟩:zk)).getD (⟨(⟨0,0,0,0,0⟩:zn),0,false⟩:zf))) rfl zGP (zdQ rfl) (zBx rfl)) rfl (rfl' [17]))) (jp (jI h ?_ ?_)))<;>intro uT h
 ·refine jb h fun x va h=>jb h fun w8 uY h=>jr (rx 3 [0] zhl.el va rfl rfl (rc 0 rfl (lde zg [0] x ztp) (rl 2 [0] 16 call191 (zCv uY) rf))) (jp (jI h ?_ ?_))<;>intro uW h
  ·refine jr (rc 0 rfl (zab (r:=zh) [] [] (⟨(⟨0,0,0,0,0⟩:zn),0,false⟩:zf) rfl zyJ rfl rfl) rf) ?_;cases h;exact zhB (lks [14] [(14,3)] lw)
  refine jr (lb 2 zo [] (⟨uX,rv.1.Number,rv.1.Wire⟩:zk) (lb 0 zh [] w8.1 (rms (C1:=[]) (D:=[]) 0 [] 2 [0] wv.met (⟨uX,rv.1.Number,rv.1.Wire⟩:zk) w8.1 [0] zGP (zdQ rfl) (zdQ rfl) rf))) (jr (lb 0 zH [] rv.1 rf) (jr (lb 0 zh [] (⟨rv.1,w8.1.Field,w8.1.Run⟩:zf) rf) ?_));cases h;exact zhB (lks [14] [(14,3)] lw)
 refine jr (lb 0 zH [] rv.1 rf) (jr (lb 0 zh [] (⟨rv.1,((mget wv.met (⟨uX,rv.1.Number,rv.1.Wire⟩:zk)).getD (⟨(⟨0,0,0,0,0⟩:zn),0,false⟩:zf)).Field,((mget wv.met (⟨uX,rv.1.Number,rv.1.Wire⟩:zk)).getD (⟨(⟨0,0,0,0,0⟩:zn),0,false⟩:zf)).Run⟩:zf) rf) ?_);cases h;exact zhB (lks [14] [(14,3)] lw)
theorem zCe (h:zoE k b=some r):w6 215 [kI k,.sl Rp.byte [0] b] [kI r.1,k8 r.2]:=by
 refine zAa (E:=⟨[(4,.ptr 2 0),(5,.ptr 3 0)],[⟨2,3,[kI r.1]⟩,⟨3,36,[k8 r.2]⟩]⟩) 20 func215 rfl rfl rfl ⟨⟨_,_,rfl,rfl,rfl,rfl⟩,⟨_,_,rfl,rfl,rfl,rfl⟩,trivial⟩ rfl rfl (fun Xt=>?_);refine zcw ?_;unfold zoE at h;refine jq [13,14] (jq [15] (jb h fun rv uU h=>jr (rl 2 [0] 0 call208 (zsB uU) rf) (zq (jb h fun q u0 h=>zqJ (E':=⟨[(4,.ptr 13 0),(5,.ptr 14 0),(6,.ptr 15 0),(11,.fv 223 [.bp wY 3 922300 [] rv.1,.bp (Rp.list Rp.byte) 35 922301 [0] rv.2])],[⟨13,3,[kI 0]⟩,⟨14,36,[k8 0]⟩,⟨15,3,[kI 0]⟩]⟩) ?_ ?_))))
 · exact lzz
 refine zDj (it:=fun {σ:Type} (kf:Rnd σ ((List UInt8)×Int)) (sg:σ)=>zfr rv.1 rv.2 kf sg) (zpM rv.1 rv.2) [922300,922301] [4,5,6] [13,14,15] [(4,.ptr 13 0),(5,.ptr 14 0),(6,.ptr 15 0)] (fun s:Int=>[⟨13,3,[kI 0]⟩,⟨14,36,[k8 0]⟩,⟨15,3,[kI s]⟩]) (fun o:(Int×Int)=>[⟨13,3,[kI 0]⟩,⟨14,36,[k8 o.1]⟩,⟨15,3,[kI o.2]⟩]) (fun o:(Int×Int)=> .ret) (fun (s:Int) (x:((List UInt8)×Int))=>zgz s x.1 x.2) (fun (s:Int) (x:((List UInt8)×Int))=>⟨[(4,.ptr 13 0),(5,.ptr 14 0),(6,.ptr 15 0),(8,k8 x.2)],[⟨13,3,[kI 0]⟩,⟨14,36,[k8 0]⟩,⟨15,3,[kI s]⟩]⟩) rfl rfl call223 rfl rfl rfl rfl rfl rfl (fun _=>rfl) (fun o=>rfl) rfl rfl (fun _=>rfl) ?_ (fun _ _=>⟨rfl,rfl⟩) ?_ u0 ?_
 ·clear h;intro Xr old f x;obtain ⟨x,x2⟩:=x;exact zcw (zqJ (E':=⟨[(13,k8 x2),(12,.sl Rp.byte [0] x),(4,.ptr 13 0),(5,.ptr 14 0),(6,.ptr 15 0)],[⟨13,3,[kI 0]⟩,⟨14,36,[k8 0]⟩,⟨15,3,[kI f]⟩]⟩) (fun _ _ _ hs=>hs) jy)
 ·clear h;intro Xr old f x o h;obtain ⟨x,x2⟩:=x;refine zcw (zqJ (E':=⟨[(4,.ptr 13 0),(5,.ptr 14 0),(6,.ptr 15 0),(8,k8 x2)],[⟨13,3,[kI 0]⟩,⟨14,36,[k8 0]⟩,⟨15,3,[kI f]⟩]⟩) (fun _ _ _ hs=>hs) ?_);replace h:zgz f x x2=some o:=h;unfold zgz at h;refine zq (jp (jI h ?_ ?_))<;>intro uS h
  ·refine jp ?_;cases h;exact zGv lzz
  refine jp (zS ?_);cases h;exact zae lzz
 rcases q with u| j
 ·refine zqJ (E':=⟨[(4,.ptr 13 0),(5,.ptr 14 0),(6,.ptr 15 0)],[⟨13,3,[kI 0]⟩,⟨14,36,[k8 0]⟩,⟨15,3,[kI u]⟩]⟩) (fun _ _ _ hs=>hs) (zS (jp ?_));cases h;exact zx (lks [13,14] [(13,2),(14,3)] lzz)
 refine zqJ (E':=⟨[(4,.ptr 13 0),(5,.ptr 14 0),(6,.ptr 15 0)],[⟨13,3,[kI 0]⟩,⟨14,36,[k8 j.1]⟩,⟨15,3,[kI j.2]⟩]⟩) (fun _ _ _ hs=>hs) ?_;cases h;exact zx (lks [13,14] [(13,2),(14,3)] lzz)
theorem zCf (h:zoF k b=some r):w6 169 [kI k,.sl Rp.byte [0] b] [.own wZ 72 3 [] r.1,k8 r.2]:=by
 refine zAa (E:=⟨[(4,.ptr 2 0),(5,.ptr 4 0)],[⟨2,48,[.own wZ 72 3 [] r.1]⟩,⟨4,36,[k8 r.2]⟩]⟩) 30 func169 rfl rfl rfl ⟨⟨_,_,rfl,rfl,rfl,rfl⟩,⟨_,_,rfl,rfl,rfl,rfl⟩,trivial⟩ rfl rfl (fun Xt=>?_);refine zcw ?_;unfold zoF at h;refine jq [18,19,20] (jq [21] (jb h fun rv uU h=>jr (rl 2 [0] 0 call208 (zsB uU) rf) (zq (jb h fun q u0 h=>zqJ (E':=⟨[(2,.ptr 18 0),(4,.ptr 19 0),(5,.ptr 20 0),(6,.ptr 21 0),(13,.fv 223 [.bp wY 3 922300 [] rv.1,.bp (Rp.list Rp.byte) 35 922301 [0] rv.2])],[⟨18,3,[kI k]⟩,⟨19,48,[kN]⟩,⟨20,36,[k8 0]⟩,⟨21,48,[.own wZ 72 24 [] []]⟩]⟩) ?_ ?_))))
 · exact lw
 refine zDj (it:=fun {σ:Type} (kf:Rnd σ ((List UInt8)×Int)) (sg:σ)=>zfr rv.1 rv.2 kf sg) (zpM rv.1 rv.2) [922300,922301] [2,4,5,6] [18,19,20,21] [(2,.ptr 18 0),(4,.ptr 19 0),(5,.ptr 20 0),(6,.ptr 21 0)] (fun s:(List Int)=>[⟨18,3,[kI k]⟩,⟨19,48,[kN]⟩,⟨20,36,[k8 0]⟩,⟨21,48,[.own wZ 72 24 [] s]⟩]) (fun o:(Int×(List Int))=>[⟨18,3,[kI k]⟩,⟨19,48,[kN]⟩,⟨20,36,[k8 o.1]⟩,⟨21,48,[.own wZ 72 24 [] o.2]⟩]) (fun o:(Int×(List Int))=> .ret) (fun (s:(List Int)) (x:((List UInt8)×Int))=>zeD k s x.1 x.2) (fun (s:(List Int)) (x:((List UInt8)×Int))=>⟨[(2,.ptr 18 0),(4,.ptr 19 0),(5,.ptr 20 0),(6,.ptr 21 0),(7,.sl Rp.byte [0] x.1),(8,k8 x.2)],[⟨18,3,[kI k]⟩,⟨19,48,[kN]⟩,⟨20,36,[k8 0]⟩,⟨21,48,[.own wZ 72 24 [] s]⟩]⟩) rfl rfl call223 rfl rfl rfl rfl rfl rfl (fun _=>rfl) (fun o=>rfl) rfl rfl (fun _=>rfl) ?_ (fun _ _=>⟨rfl,rfl⟩) ?_ u0 ?_
 ·clear h;intro Xr old f x;obtain ⟨x,x2⟩:=x;exact zcw (zqJ (E':=⟨[(15,k8 x2),(14,.sl Rp.byte [0] x),(2,.ptr 18 0),(4,.ptr 19 0),(5,.ptr 20 0),(6,.ptr 21 0)],[⟨18,3,[kI k]⟩,⟨19,48,[kN]⟩,⟨20,36,[k8 0]⟩,⟨21,48,[.own wZ 72 24 [] f]⟩]⟩) (fun _ _ _ hs=>hs) (jp jy))
 ·clear h;intro Xr old f x o h;obtain ⟨x,x2⟩:=x;refine zcw (zqJ (E':=⟨[(2,.ptr 18 0),(4,.ptr 19 0),(5,.ptr 20 0),(6,.ptr 21 0),(7,.sl Rp.byte [0] x),(8,k8 x2)],[⟨18,3,[kI k]⟩,⟨19,48,[kN]⟩,⟨20,36,[k8 0]⟩,⟨21,48,[.own wZ 72 24 [] f]⟩]⟩) (fun _ _ _ hs=>hs) ?_);replace h:zeD k f x x2=some o:=h;unfold zeD at h;refine zq (jp (jI h ?_ ?_))<;>intro uS h
  ·refine jp ?_;cases h;exact zGv lzz
  refine jb h fun w8 uY h=>jr (rl 2 [0] 23 call209 (zyB uY) rf) (jb h fun v vi h=>jr (rc 2 rfl (zey [kU w8.1] 25 [] ([w8.1]:(List Int)) rfl zoU rfl rfl rfl rfl) (rc 0 rfl (lao 24 [] 72 25 [] [] zoU.el vi (.inl (zio _))) rf)) (zS ?_));cases h;exact zae lzz
 rcases q with u| j
 ·refine zqJ (E':=⟨[(2,.ptr 18 0),(4,.ptr 19 0),(5,.ptr 20 0),(6,.ptr 21 0)],[⟨18,3,[kI k]⟩,⟨19,48,[kN]⟩,⟨20,36,[k8 0]⟩,⟨21,48,[.own wZ 72 24 [] u]⟩]⟩) (fun _ _ _ hs=>hs) (zS (jp ?_));cases h;exact zx (lks [19,20] [(19,2),(20,4),(24,3)] lzz)
 refine zqJ (E':=⟨[(2,.ptr 18 0),(4,.ptr 19 0),(5,.ptr 20 0),(6,.ptr 21 0)],[⟨18,3,[kI k]⟩,⟨19,48,[kN]⟩,⟨20,36,[k8 j.1]⟩,⟨21,48,[.own wZ 72 24 [] j.2]⟩]⟩) (fun _ _ _ hs=>hs) ?_;cases h;exact zx (lks [19,20] [(19,2),(20,4)] lw)
end Go.Proofs.YtkgohoggipdokaaGreat

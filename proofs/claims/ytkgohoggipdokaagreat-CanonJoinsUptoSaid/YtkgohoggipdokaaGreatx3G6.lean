/-
  The Go functions do what the plain functions say. No condition.
-/
import Derived.Test.YtkgohoggipdokaaGreatx3G5
set_option autoImplicit true
set_option relaxedAutoImplicit true
namespace Go.Proofs.YtkgohoggipdokaaGreat
open Tryz
open Go Go.RowKit
set_option linter.unusedVariables false
set_option maxRecDepth 100000
set_option maxHeartbeats 3200000
theorem zlo (h:zgU sv=some r):wo 38 [.sl zj [0] sv] [kB r]:=by
 refine fi 12 func38 fun Xt=>?_
 unfold zgU at h;refine jp (jb h fun rv uF h=>jr (rl 1 [0] 9 call72 (zvL uF) (rfl' [11])) ?_);cases h;exact jz
theorem zqz (vF:∀{sv:(List ze)} {uI:Int} {l:(List zb)} {r:Bool},xr sv uI l=some r->wo 112 [.sl zj [0] sv,kI uI,.sl zg [0] l] [kB r]) (vG:∀{f:zc} {sv:(List ze)} {v:za} {r:Bool},xd f sv v=some r->wo 68 [.rc zf [0] f,.sl zj [0] sv,.rc zd [0] v] [kB r]) (vH:∀{sv:(List ze)} {uI:Int} {x:zb} {r:Bool},xi sv uI x=some r->wo 106 [.sl zj [0] sv,kI uI,.rc zg [0] x] [kB r]) (h:zfB xr xd xi sv uI l=some r):wo 112 [.sl zj [0] sv,kI uI,.sl zg [0] l] [kB r]:=by
 refine fi 29 func112 fun Xt=>?_
 unfold zfB at h;refine jp (jg [0,1,2] [] [(16,kB ((decide (uI<0))|| (decide (uI>=(sv.length:Int)))))] ?_ ?_)
 ·refine (rsl 3 [] 11 (decide (uI<0)) ?_ ?_)<;>intro uE
  · exact (rbl [] 16 true rfl (by grind))
  exact (rbl [] 16 (decide (uI>=(sv.length:Int))) rfl (by grind))
 refine jI h ?_ ?_<;>intro uH h
 ·refine jp ?_;obtain rfl:=(sj h);exact zB lzz
 refine jp (zp (jb h fun q uL h=>jL uL [0,1,17,18] [] (fun s=>[(19,kI s)]) (fun| (.inl v_)=> .x 0 ⟨[],[]⟩| (.inr v_)=> .r ⟨[(6,kB false)],[]⟩) ?_ lzz ?_))
 ·clear h;intro v2 o h;unfold zcf at h;refine jp (jI h ?_ ?_)<;>intro uJ h
  ·refine zp (jb h fun x uN h=>jr (rx 0 [0] zjm.el uN rfl rfl (rc 0 rfl (lde zg [0] x zkH) (ral 1 [12] [.ptr 12 0,.rc zg [0] x] rfl (zfe (r:=zg) (b:=⟨12,27,[kN,kN]⟩) (off:=0) (zak [0] x) rfl sizeOf27 rfl rfl (by rw [zaq]<;>rfl) rfl) rfl rf))) (jb h fun rv uF h=>jr (rc 3 rfl (lw0 11 call106 (vH uF) (.k (.k (.l (zL [0] x))))) rf) (jI h ?_ ?_)))<;>intro uO h
   ·cases h;exact jz'
   refine zan ?_;cases h;exact jy
  cases h;exact zaC rfl lzz
 rcases q with u| u2
 ·refine zaX _ rfl (jp ?_);obtain rfl:=(sj h);exact zB lzz
 obtain rfl:=(sj h);exact zgh lzz
theorem zyQ (vF:∀{sv:(List ze)} {uI:Int} {l:(List zb)} {r:Bool},xr sv uI l=some r->wo 112 [.sl zj [0] sv,kI uI,.sl zg [0] l] [kB r]) (vG:∀{f:zc} {sv:(List ze)} {v:za} {r:Bool},xd f sv v=some r->wo 68 [.rc zf [0] f,.sl zj [0] sv,.rc zd [0] v] [kB r]) (vH:∀{sv:(List ze)} {uI:Int} {x:zb} {r:Bool},xi sv uI x=some r->wo 106 [.sl zj [0] sv,kI uI,.rc zg [0] x] [kB r]) (h:zld xr xd xi f sv v=some r):wo 68 [.rc zf [0] f,.sl zj [0] sv,.rc zd [0] v] [kB r]:=by
 refine fi 69 func68 fun Xt=>?_
 unfold zld at h;refine jr (ral 1 [11] [.rc zd [0] v] rfl (zij 12 (zt [0] v) [0] rfl rfl rfl (by rw [zG]<;>rfl) rfl) rfl rf) (jb h fun rv uF h=>jr (rc 1 rfl (lw0 11 call93 (zlb uF) (.l (zaV [0] v))) rf) (jg [1,3,5,7] [11,12] [(20,kB ((rv==0)|| ((decide (rv>1))&&(!f.Repeated))))] ?_ ?_))
 ·refine (rsl 3 [] 12 (rv==0) ?_ ?_)<;>intro uE
  · exact (rbl [] 20 true rfl (by grind))
  refine (rsl 3 [] 15 (decide (rv>1)) ?_ ?_)<;>intro uH
  · exact (rbl [] 20 (!f.Repeated) rfl (by grind))
  exact (rbl [] 20 false rfl (by grind))
 refine jI h ?_ ?_<;>intro uJ h
 ·refine jp ?_;obtain rfl:=(sj h);exact zB lzz
 refine jp (zp (jp (jI h ?_ ?_)))<;>intro uO h
 ·refine jb h fun g uG h=>jg [] [] [(6,kB g)] ?_ ?_
  ·refine (rsI 6 30 uG ?_ ?_)<;>intro uW uG
   ·refine jb uG fun wu uK uG=>?_;cases uG;exact (rl 2 [0] 11 call111 (zuJ uK) rgg)
   cases uG;exact rgg
  obtain rfl:=(sj h);exact zB lzz
 refine jp (jI h ?_ ?_)<;>intro u0 h
 ·cases h;exact jz
 refine jp (jI h ?_ ?_)<;>intro vb h
 ·refine jb h fun g2 uV h=>jg [] [] [(6,kB g2)] ?_ ?_
  ·refine (rsI 6 49 uV ?_ ?_)<;>intro vg uV
   ·refine jb uV fun wy uP uV=>?_;cases uV;exact (rl 5 [0] 11 call112 (vF uP) rgg)
   cases uV;exact rgg
  obtain rfl:=(sj h);exact zB lzz
 refine zan (jb h fun g3 vj h=>jg [] [] [(6,kB g3)] ?_ ?_)
 ·refine (rsI 6 62 vj ?_ ?_)<;>intro vh vj
  ·refine jb vj fun wM u9 vj=>?_;cases vj;exact (rl 4 [0] 11 call113 (zqy u9) rgg)
  cases vj;exact rgg
 obtain rfl:=(sj h);exact zB lzz
theorem zsr (vF:∀{sv:(List ze)} {uI:Int} {l:(List zb)} {r:Bool},xr sv uI l=some r->wo 112 [.sl zj [0] sv,kI uI,.sl zg [0] l] [kB r]) (vG:∀{f:zc} {sv:(List ze)} {v:za} {r:Bool},xd f sv v=some r->wo 68 [.rc zf [0] f,.sl zj [0] sv,.rc zd [0] v] [kB r]) (vH:∀{sv:(List ze)} {uI:Int} {x:zb} {r:Bool},xi sv uI x=some r->wo 106 [.sl zj [0] sv,kI uI,.rc zg [0] x] [kB r]) (h:zgD xr xd xi sv uI x=some r):wo 106 [.sl zj [0] sv,kI uI,.rc zg [0] x] [kB r]:=by
 refine fi 67 func106 fun Xt=>?_
 unfold zgD at h;refine jr (rc 0 rfl (lbx 11 [0] (zah [0] x)) rf) (jb h fun x2 uQ h=>jr (rx 2 [0] zpp.el uQ rfl rfl (rc 0 rfl (lde zj [0] x2 zzh) (ral 1 [12] [.ptr 12 0,.rc zj [0] x2] rfl (zfe (r:=zj) (b:=⟨12,71,[kS [],kN]⟩) (off:=0) (zag [0] x2) rfl sizeOf71 rfl rfl rfl rfl) rfl rf))) (jp (jp (zp (jb h fun q uL h=>jL uL [0,5,7,20,21] [11,12] (fun s=>[(8,kI s.1),(22,kI s.2)]) (fun| (.inl v_)=> .X 0 [5,7] [11,12] [] []| (.inr v_)=> .r ⟨[(6,kB false)],[]⟩) ?_ lzz ?_)))))
 ·clear h;intro s o h;obtain ⟨last,v⟩:=s;replace h:zcl xd sv x x2 last v=some o:=h;unfold zcl at h;refine jp (jI h ?_ ?_)<;>intro uE h
  ·refine zp (jb h fun x3 va h=>jr (rx 0 [0] zjX.el va rfl rfl (rc 0 rfl (lde zd [0] x3 ziS) (ral 1 [14] [.ptr 14 0,.rc zd [0] x3] rfl (zfe (r:=zd) (b:=⟨14,51,[kI 0,kN,kN,kN]⟩) (off:=0) (zt [0] x3) rfl sizeOf51 rfl rfl (by rw [zG]<;>rfl) rfl) rfl rf))) (jb h fun rv uF h=>jr (rl 3 [0] 13 call64 (zgT uF) rf) (jb h fun g uG h=>jn (.N [0,5,7,10,20,21,22] [11,12,14] [(51,kB g)] []) ?_ (zll ?_))))
   ·rcases zxc uG with ⟨uH,uG⟩| ⟨uH,uG⟩
    ·cases uG;exact jd [0,5,7,10,20,21,22,51] [11,12,14] zeY (by exact (lwn 2 (dg 34 uH l0))) (zbj lzz)
    rcases zxc uG with ⟨uJ,uG⟩| ⟨uJ,uG⟩
    ·cases uG;exact jd [0,5,7,10,20,21,22,51] [11,12,14] zeY (by exact (lwn 2 (dg 34 uH (lwn 5 (dg 40 uJ l0))))) (zbj lzz)
    refine jb uG fun x4 ve uG=>jb uG fun wu uK uG=>?_;cases uG;exact jd [0,5,7,10,20,21,22,51] [11,12,14] zeY (by exact (lwn 2 (dg 34 uH (lwn 5 (dg 40 uJ (lwn 3 (di [0] zqJ.el ve (lx (lde zf [0] x4 zpE) (lw_e (lx (ldw 14 51 (zt [0] x3) ziS) (lx (lf1 68 (lw0 13 call68 (vG uK) (.k (.k (.l (zaV [0] x3)))))) l0))))))))))) (zbj lzz)
   refine jI h ?_ ?_<;>intro uO h
   ·cases h;exact jz'
   refine jp (zan ?_);cases h;exact jy
  cases h;exact zaC rfl lzz
 rcases q with u| u4
 ·refine zaX _ rfl (jp (zp (jb h fun q2 uX h=>jL uX [7,56,57] [12] (fun s=>[(58,kI s)]) (fun| (.inl v_)=> .x 2 ⟨[],[]⟩| (.inr v_)=> .r ⟨[(6,kB false)],[]⟩) ?_ lzz ?_)))
  ·clear h;intro v3 o h;unfold zcH at h;refine jp (jI h ?_ ?_)<;>intro uW h
   ·refine zp (jb h fun x5 vi h=>jr (rx 0 [0] zjY.el vi rfl rfl rf) (jb h fun wy uP h=>jr (rl 2 [0] 14 call142 (ztD uP) rf) (jI h ?_ ?_)))<;>intro u0 h
    ·cases h;exact jz'
    refine zan ?_;cases h;exact jy
   cases h;exact zaC rfl lzz
  rcases q2 with u2| u3
  ·refine zaX _ rfl (jp ?_);obtain rfl:=(sj h);exact zB lzz
  obtain rfl:=(sj h);exact zgh lzz
 obtain rfl:=(sj h);exact zgh lzz
theorem zjs (uM:Nat):(∀{sv:(List ze)} {uI:Int} {l:(List zb)} {r:Bool},zgB uM sv uI l=some r->wo 112 [.sl zj [0] sv,kI uI,.sl zg [0] l] [kB r])/\(∀{f:zc} {sv:(List ze)} {v:za} {r:Bool},zji uM f sv v=some r->wo 68 [.rc zf [0] f,.sl zj [0] sv,.rc zd [0] v] [kB r])/\(∀{sv:(List ze)} {uI:Int} {x:zb} {r:Bool},zdQ uM sv uI x=some r->wo 106 [.sl zj [0] sv,kI uI,.rc zg [0] x] [kB r]):=by
  induction uM with
  | zero=>exact ⟨fun h=>absurd h nofun,fun h=>absurd h nofun,fun h=>absurd h nofun⟩
  | succ uM ih=>exact ⟨fun h=>zqz (fun hh=>ih.1 hh) (fun hh=>ih.2.1 hh) (fun hh=>ih.2.2 hh) h,fun h=>zyQ (fun hh=>ih.1 hh) (fun hh=>ih.2.1 hh) (fun hh=>ih.2.2 hh) h,fun h=>zsr (fun hh=>ih.1 hh) (fun hh=>ih.2.1 hh) (fun hh=>ih.2.2 hh) h⟩
theorem ztC (h:zdQ uM sv uI x=some r):wo 106 [.sl zj [0] sv,kI uI,.rc zg [0] x] [kB r]:=(zjs uM).2.2 h
theorem zyI (h:zma uZ size=some r):wo 117 [kI uZ,kI size] [.own Rp.byte 5 2 [] r]:=by
 refine fi 23 func117 fun Xt=>?_
 unfold zma at h;refine jp (jb h fun rv uF h=>jr (rl 1 [1] 10 call153 (FnOk.le (ins':=[kN,kI uZ,kN]) (zyN uF) ⟨zgx _ _,ws _,zgx _ _,trivial⟩) rf) (jb h fun wu uK h=>jr (rl 2 [1] 11 call148 (zrO uK) rf) (jb h fun v uS h=>jb h fun v2 uY h=>jr (ra 4 [.own Rp.byte 5 12 [] rv,kI (IntKind.i64.wrap ((rv.length:Int) - 1))] rfl (zsZ rfl zej.el uS) rfl (rc 1 rfl (lao 12 [] 5 13 [] [] zej.el uY (.inl zhI)) rf)) ?_)));obtain rfl:=(sj h);exact zB (lks [] [(12,2)] lzz)
theorem zpr (h:zfv wv f l=some r):ziq prog 69 [.ptr 800000 0,.rc zf [0] f,.sl wk [0] l] [] [⟨800000,76,(zo 800001 [0] wv)⟩] [800000] [⟨800000,76,(zo 800001 [0,2,3,4,5,6] r)⟩]:=by
 refine zlJ (E:=⟨[(0,.ptr 800000 0)],[⟨800000,76,(zo 800001 [0,2,3,4,5,6] r)⟩]⟩) 30 [0] [(0,800000)] func69 rfl rfl rfl trivial ⟨⟨rfl,rfl,rfl⟩,trivial⟩ ⟨rfl,trivial⟩ (fun Xt old=>?_);refine zcm ?_;unfold zfv at h;refine jq [17] (jb h fun rv uF h=>jr (rl 3 [0] 16 call114 (zDn uF) rf) (jp (jI h ?_ ?_)))<;>intro uE h
 ·refine jb h fun wu uK h=>jr (ra 4 [.ptr 800000 0,kI f.Number,kI 2,.own Rp.byte 5 18 [] rv.1] rfl (zhc (args:=[.tmp 17,.tmp 19,.const (.int .i64 2),.tmp 20]) [.ptr 800000 0,kI f.Number,kI 2,.own Rp.byte 5 18 [] rv.1] [⟨800000,76,(zo 800001 [0] wv)⟩] [(800000,800000),(800001,800001)] [0,18] 17 [800001] rfl call70 (zgN uK) rfl rfl rfl rfl rfl rfl rfl rfl) rfl rf) ?_;obtain rfl:=(sj h);exact zha (lks [800000] [(18,6),(19,6),(20,6)] lw)
 refine jb h fun wy uP h=>jb h fun wM u9 h=>jd [0] [800000] zeY (by exact (lwn 5 (lx (lf1 115 (lcd [kI f.Kind] 19 call115 (zyJ uP))) (lw_e (ly [.lf (.val (.func (.func 70) #[] #[])),.ptr 800000 0,kI f.Number,kI wy,.own Rp.byte 5 18 [] rv.1] (lf1 70 (zhc (args:=[.tmp 22,.tmp 24,.tmp 27,.tmp 28]) [.ptr 800000 0,kI f.Number,kI wy,.own Rp.byte 5 18 [] rv.1] [⟨800000,76,(zo 800001 [0] wv)⟩] [(800000,800000),(800001,800001)] [0,18] 19 [800001] rfl call70 (zgN u9) rfl rfl rfl rfl rfl rfl rfl rfl)) rfl l0))))) ?_;obtain rfl:=(sj h);exact zzF (lks [800000] [(18,6),(21,6),(22,6)] lw)
theorem zBJ (h:zoq m b uR=some r):wo 191 [.rc zj [0] m,.sl Rp.byte [0] b,kI uR] [.rc zi [] r.1,k8 r.2]:=by
 refine fj ⟨[(6,.ptr 2 0),(7,k8 r.2)],[⟨2,154,(zcV r.1)⟩]⟩ 15 func191 ⟨⟨_,_,rfl,rfl,rfl,rfl,zpD⟩,rfl,trivial⟩ fun Xt=>?_
 unfold zoq at h;refine jr (ra 0 [.rc zj [0] m] rfl (zij 13 (zag [0] m) [0] rfl rfl rfl rfl rfl) rfl (rfl' [14])) (jb h fun wu uK h=>jr (rc 3 rfl (znT (rk:=zau) (rv:=zaz) 15 rfl) (rkl 0 [] ⟨[(6,.ptr 14 0),(8,.ag (zag [0] m)),(9,.sl Rp.byte [0] b),(10,kI uR),(11,.om zau zaz 15 [] ([]:(List (zab×zaf))))],[⟨14,154,[kI 0,kI 0,kI 0,kI 0,kI 0,kI 0,kB false]⟩]⟩ (znb ⟨[(6,.ptr 14 0),(8,.ag (zag [0] m)),(9,.sl Rp.byte [0] b),(10,kI uR),(11,.om zau zaz 15 [0] wu.2.2)],[⟨14,154,[kI 0,kI 0,kI 0,kI 0,kI 0,kI 0,kB false]⟩]⟩ (znA.le (ins':=[(.tmp 8,.ag (zag [0] m)),(.tmp 9,.sl Rp.byte [0] b),(.tmp 10,kI uR),(.tmp 11,.om zau zaz 15 [] ([]:(List (zab×zaf))))]) (zne (args:=[.tmp 8,.tmp 9,.tmp 10,.tmp 11]) [.rc zj [0] m,.sl Rp.byte [0] b,kI uR,.om zau zaz 15 [] ([]:(List (zab×zaf)))] [(15,2)] [0] 15 [] rfl call123 (ztM uK) rfl rfl (by kernel_rfl) rfl rfl rfl) ⟨⟨rfl,zlB zj [0] m (zag [0] m) rfl rfl⟩,⟨rfl,ws _⟩,⟨rfl,ws _⟩,⟨rfl,ws _⟩,trivial⟩) rfl (by kernel_rfl) (by kernel_rfl) ⟨⟨_,rfl,zD rfl⟩,⟨_,rfl,zD rfl⟩,⟨_,rfl,zD rfl⟩,⟨_,rfl,zD rfl⟩,⟨_,rfl,zhz 0 rfl⟩,trivial⟩ ⟨⟨_,rfl,rfl,rfl,⟨zD rfl,zD rfl,zD rfl,zD rfl,zD rfl,zD rfl,zD rfl,trivial⟩⟩,trivial⟩ rf))) ?_);cases h;exact zB (lks [14] [(14,2)] lzz)
theorem zrL (h:zkr k b=some r):wo 208 [kI k,.sl Rp.byte [0] b] [.fv 223 [.bp wj 3 922300 [] r.1,.bp (Rp.list Rp.byte) 35 922301 [0] r.2]]:=by
 refine fi 6 func208 fun Xt=>?_
 unfold zkr at h;refine jq [922300,922301] (jr (ra 0 [.ptr 922300 0,.ptr 922301 0] rfl (zLd (g:=223) [.tmp 2,.tmp 3] [⟨922300,3,[kI k]⟩,⟨922301,35,[.sl Rp.byte [0] b]⟩] [.bp wj 3 922300 [] k,.bp (Rp.list Rp.byte) 35 922301 [0] b] rfl ⟨⟨rfl,rfl,rfl,rfl⟩,⟨rfl,rfl,rfl,rfl⟩,trivial⟩ rfl) rfl rf) ?_);cases h;exact zB lzz
theorem zDJ (h:zqG m b=some r):wo 89 [.rc zj [0] m,.sl Rp.byte [0] b] [.own zi 154 2 [] r.1,kI r.2.1,k8 r.2.2]:=by
 refine fi 36 func89 fun Xt=>?_
 unfold zqG at h;refine jr (ra 0 [.rc zj [0] m] rfl (zij 19 (zag [0] m) [0] rfl rfl rfl rfl rfl) rfl rf) (jr (rc 0 rfl (znT (rk:=zau) (rv:=zaz) 20 rfl) rf) (jp (zp (jb h fun q uL h=>jL uL [1,2] [19] (fun s=>[(4,.own zi 154 26 [] s.1),(7,.om zau zaz 20 [0] s.2.1),(8,kI s.2.2)]) (fun| (.inl v_)=> .x 0 ⟨[(4,.own zi 154 26 [] v_)],[]⟩| (.inr v_)=> .r ⟨[(4,kN),(5,kI v_.1),(6,k8 v_.2)],[]⟩) ?_ lw ?_))))
 ·clear h;intro s o h;obtain ⟨l,met,uR⟩:=s;replace h:zec b m l met uR=some o:=h;unfold zec at h;refine jp (jI h ?_ ?_)<;>intro uE h
  ·refine zp (jb h fun wu uK h=>jr (rkl 4 [] ⟨[(1,.sl Rp.byte [0] b),(2,.ptr 19 0),(4,.own zi 154 26 [] l),(7,.om zau zaz 20 [0] met),(8,kI uR),(17,.ag (zag [0] m)),(18,.sl Rp.byte [0] b),(19,kI uR),(20,.om zau zaz 20 [0] met)],[⟨19,71,(zag [0] m)⟩]⟩ (znb ⟨[(1,.sl Rp.byte [0] b),(2,.ptr 19 0),(4,.own zi 154 26 [] l),(7,.om zau zaz 20 [0] wu.2.2),(8,kI uR),(17,.ag (zag [0] m)),(18,.sl Rp.byte [0] b),(19,kI uR),(20,.om zau zaz 20 [0] wu.2.2)],[⟨19,71,(zag [0] m)⟩]⟩ (znA.le (ins':=[(.tmp 17,.ag (zag [0] m)),(.tmp 18,.sl Rp.byte [0] b),(.tmp 19,kI uR),(.tmp 20,.om zau zaz 20 [0] met)]) (zne (args:=[.tmp 17,.tmp 18,.tmp 19,.tmp 20]) [.rc zj [0] m,.sl Rp.byte [0] b,kI uR,.om zau zaz 20 [0] met] [(20,2)] [0] 26 [] rfl call123 (ztM uK) rfl rfl (by kernel_rfl) rfl rfl rfl) ⟨⟨rfl,zlB zj [0] m (zag [0] m) rfl rfl⟩,⟨rfl,ws _⟩,⟨rfl,ws _⟩,⟨rfl,ws _⟩,trivial⟩) rfl (by kernel_rfl) (by kernel_rfl) ⟨⟨_,rfl,zD rfl⟩,⟨_,rfl,zD rfl⟩,⟨_,rfl,zD rfl⟩,⟨_,rfl,zhz 0 rfl⟩,⟨_,rfl,zD rfl⟩,⟨_,rfl,zD rfl⟩,⟨_,rfl,zD rfl⟩,⟨_,rfl,zD rfl⟩,⟨_,rfl,zhz 0 rfl⟩,trivial⟩ ⟨⟨_,rfl,rfl,rfl,⟨zD rfl,zD rfl,trivial⟩⟩,trivial⟩ (rfl' [29]))) (jp (jI h ?_ ?_)))<;>intro uH h
   ·cases h;exact jz'
   refine jb h fun v uS h=>jr (lb 1 zi [] wu.1 (rc 0 rfl (lbs1 30 [] wu.1 znz) (rc 0 rfl (lao 26 [] 154 30 [] [] znz.el uS (.inl zjC)) rf))) (jp (zan ?_));cases h;exact zbj lzz
  cases h;exact zaC rfl lzz
 rcases q with u| u2
 ·refine zaX _ rfl (jp ?_);cases h;exact zB (lks [] [(26,2)] lzz)
 cases h;exact zgh lw
theorem zrR (h:zky sv uT d=some r):wo 105 [.sl zj [0] sv,kI uT,kI d] [k8 r]:=by
 refine fi 28 func105 fun Xt=>?_
 unfold zky at h;refine jp (zp (jb h fun rv uF h=>jr (rl 1 [0] 9 call38 (zlo uF) rf) (jI h ?_ ?_)))<;>intro uE h
 ·cases h;exact jz
 refine jg [] [] [(11,kB ((decide (uT<0))|| ((decide (uT>=(sv.length:Int)))|| ((decide (d<0))|| (decide (d>64))))))] ?_ ?_
 ·refine (rsl 3 [] 14 (decide (uT<0)) ?_ ?_)<;>intro uH
  · exact (rbl [] 11 true rfl (by grind))
  refine (rsl 6 [] 20 (decide (uT>=(sv.length:Int))) ?_ ?_)<;>intro uJ
  · exact (rbl [] 11 true rfl (by grind))
  refine (rsl 4 [] 24 (decide (d<0)) ?_ ?_)<;>intro uO
  · exact (rbl [] 11 true rfl (by grind))
  exact (rbl [] 11 (decide (d>64)) rfl (by grind))
 refine jI h ?_ ?_<;>intro uW h
 ·cases h;exact jz
 refine zan ?_;cases h;exact jz
theorem znh (vI:∀{wv:zk} {sv:(List ze)} {uI:Int} {x:zb} {r:zk},xt wv sv uI x=some r->ziq prog 31 [.ptr 800000 0,.sl zj [0] sv,kI uI,.rc zg [0] x] [] [⟨800000,76,(zo 800001 [0] wv)⟩] [800000] [⟨800000,76,(zo 800001 [0,2] r)⟩]) (vJ:∀{wv:zk} {sv:(List ze)} {f:zc} {x:zb} {r:zk},xe wv sv f x=some r->ziq prog 71 [.ptr 800000 0,.sl zj [0] sv,.rc zf [0] f,.rc zg [0] x] [] [⟨800000,76,(zo 800001 [0] wv)⟩] [800000] [⟨800000,76,(zo 800001 [0,2] r)⟩]) (vK:∀{wv:zk} {sv:(List ze)} {f:zc} {v:za} {r:zk},xf wv sv f v=some r->ziq prog 37 [.ptr 800000 0,.sl zj [0] sv,.rc zf [0] f,.rc zd [0] v] [] [⟨800000,76,(zo 800001 [0] wv)⟩] [800000] [⟨800000,76,(zo 800001 [0,2] r)⟩]) (h:zdF xt xe xf wv sv uI x=some r):ziq prog 31 [.ptr 800000 0,.sl zj [0] sv,kI uI,.rc zg [0] x] [] [⟨800000,76,(zo 800001 [0] wv)⟩] [800000] [⟨800000,76,(zo 800001 [0,2] r)⟩]:=by
 refine zlJ (E:=⟨[(0,.ptr 800000 0)],[⟨800000,76,(zo 800001 [0,2] r)⟩]⟩) 55 [0] [(0,800000)] func31 rfl rfl rfl trivial ⟨⟨rfl,rfl,rfl⟩,trivial⟩ ⟨rfl,trivial⟩ (fun Xt old=>?_);refine zcm ?_;unfold zdF at h;refine jr (rc 0 rfl (lbx 21 [0] (zah [0] x)) rf) (jb h fun x2 uQ h=>jr (rx 2 [0] zpp.el uQ rfl rfl (rc 0 rfl (lde zj [0] x2 zzh) (ral 1 [22] [.ptr 22 0,.rc zj [0] x2] rfl (zfe (r:=zj) (b:=⟨22,71,[kS [],kN]⟩) (off:=0) (zag [0] x2) rfl sizeOf71 rfl rfl rfl rfl) rfl rf))) (jp (zp (jb h fun q uL h=>jl uL [0,1,7,8,20,21] [21,22] (fun s=>[(22,kI s.1)]) (fun s=>[⟨800000,76,[.own (Rp.list Rp.byte) 35 800001 [0,23] s.2.1,kI s.2.2]⟩]) (fun o=> .X 0 [0,7] [21] [] [⟨800000,76,[.own (Rp.list Rp.byte) 35 800001 [0,23] o.1,kI o.2]⟩]) ?_ lw ?_))))
 ·clear h;intro s o h;obtain ⟨v,f,f2⟩:=s;replace h:zbk xf sv x x2 v f f2=some o:=h;unfold zbk at h;refine jp (jI h ?_ ?_)<;>intro uE h
  ·refine zp (jb h fun x3 va h=>jr (rx 0 [0] zjX.el va rfl rfl (rc 0 rfl (lde zd [0] x3 ziS) (ral 1 [28] [.ptr 28 0,.rc zd [0] x3] rfl (zfe (r:=zd) (b:=⟨28,51,[kI 0,kN,kN,kN]⟩) (off:=0) (zt [0] x3) rfl sizeOf51 rfl rfl (by rw [zG]<;>rfl) rfl) rfl rf))) (jb h fun rv uF h=>jr (rl 3 [0] 27 call64 (zgT uF) rf) (jb h fun x4 ve h=>jb h fun wu uK h=>jd [0,1,7,8,20,21,22] [800000,21,22] zeY (by exact (lwn 5 (di [0] zqJ.el ve (lx (lde zf [0] x4 zpE) (lx (ldw 28 51 (zt [0] x3) ziS) (lx (lf1 37 (zF.le (ins':=[(.tmp 33,.ptr 800000 0),(.tmp 34,.sl zj [0] sv),(.tmp 39,.rc zf [0] x4),(.tmp 40,.ag (zt [0] x3))]) (zhc (args:=[.tmp 33,.tmp 34,.tmp 39,.tmp 40]) [.ptr 800000 0,.sl zj [0] sv,.rc zf [0] x4,.rc zd [0] x3] [⟨800000,76,[.own (Rp.list Rp.byte) 35 800001 [0,23] f,kI f2]⟩] [(800000,800000),(800001,800001)] [0,23] 27 [800001] rfl call37 (vK uK) rfl rfl rfl rfl rfl rfl rfl rfl) ⟨⟨rfl,ws _⟩,⟨rfl,ws _⟩,⟨rfl,ws _⟩,⟨rfl,zaV [0] x3⟩,trivial⟩)) l0)))))) (zan (jp ?_)))));cases h;exact zbj (lks [800000,21,22] [(29,23)] lw)
  cases h;exact zaC rfl lzz
 refine zaX _ rfl (jp (zp (jb h fun q2 uX h=>jl uX [0,44,45] [] (fun s=>[(46,kI s.1)]) (fun s=>[⟨800000,76,[.own (Rp.list Rp.byte) 35 800001 [0,23,30] s.2.1,kI s.2.2]⟩]) (fun o=> .X 2 [0] [] [] [⟨800000,76,[.own (Rp.list Rp.byte) 35 800001 [0,23,30] o.1,kI o.2]⟩]) ?_ lw ?_)))
 ·clear h;intro s o h;obtain ⟨v2,f5,f6⟩:=s;replace h:zbl x v2 f5 f6=some o:=h;unfold zbl at h;refine jp (jI h ?_ ?_)<;>intro uH h
  ·refine zp (jb h fun x5 vi h=>jr (rx 0 [0] zjY.el vi rfl rfl rf) (jb h fun v3 uU h=>jb h fun wy uP h=>jr (ra 2 [kS x5] rfl (zwd 35 rfl underlying9 underlying35 underlying5 uU) rfl (ra 0 [.ptr 800000 0,.sl Rp.byte [35] v3] rfl (zhc (args:=[.tmp 50,.tmp 52]) [.ptr 800000 0,.sl Rp.byte [35] v3] [⟨800000,76,[.own (Rp.list Rp.byte) 35 800001 [0,23,30] f5,kI f6]⟩] [(800000,800000),(800001,800001)] [0,23,30,35] 34 [800001] rfl call65 (zhr uP) rfl rfl rfl rfl rfl rfl rfl rfl) rfl rf)) (zan (jp ?_))));cases h;exact zbj (lks [800000] [(35,30),(36,30)] lw)
  cases h;exact zaC rfl lzz
 refine zaX _ rfl ?_;cases h;exact zzF (lks [800000] [(23,2),(30,2)] lw)
theorem zpH (vI:∀{wv:zk} {sv:(List ze)} {uI:Int} {x:zb} {r:zk},xt wv sv uI x=some r->ziq prog 31 [.ptr 800000 0,.sl zj [0] sv,kI uI,.rc zg [0] x] [] [⟨800000,76,(zo 800001 [0] wv)⟩] [800000] [⟨800000,76,(zo 800001 [0,2] r)⟩]) (vJ:∀{wv:zk} {sv:(List ze)} {f:zc} {x:zb} {r:zk},xe wv sv f x=some r->ziq prog 71 [.ptr 800000 0,.sl zj [0] sv,.rc zf [0] f,.rc zg [0] x] [] [⟨800000,76,(zo 800001 [0] wv)⟩] [800000] [⟨800000,76,(zo 800001 [0,2] r)⟩]) (vK:∀{wv:zk} {sv:(List ze)} {f:zc} {v:za} {r:zk},xf wv sv f v=some r->ziq prog 37 [.ptr 800000 0,.sl zj [0] sv,.rc zf [0] f,.rc zd [0] v] [] [⟨800000,76,(zo 800001 [0] wv)⟩] [800000] [⟨800000,76,(zo 800001 [0,2] r)⟩]) (h:zfu xt xe xf wv sv f x=some r):ziq prog 71 [.ptr 800000 0,.sl zj [0] sv,.rc zf [0] f,.rc zg [0] x] [] [⟨800000,76,(zo 800001 [0] wv)⟩] [800000] [⟨800000,76,(zo 800001 [0,2] r)⟩]:=by
 refine zlJ (E:=⟨[(0,.ptr 800000 0)],[⟨800000,76,(zo 800001 [0,2] r)⟩]⟩) 57 [0] [(0,800000)] func71 rfl rfl rfl trivial ⟨⟨rfl,rfl,rfl⟩,trivial⟩ ⟨rfl,trivial⟩ (fun Xt old=>?_);refine zcm ?_;unfold zfu at h;refine jr (ral 1 [16] [.rc zg [0] x] rfl (zij 17 (zak [0] x) [0] rfl rfl rfl (by rw [zaq]<;>rfl) rfl) rfl rf) (jd [0,1,6,7,8,9] [800000,16,17] zeY (by exact l0) (jb h fun rv uF h=>jr (rc 1 rfl (zF.le (ins':=[(.tmp 19,.ptr 800000 0),(.const (.slice none 0 0),kN)]) (zhc (args:=[.tmp 19,.const (.slice none 0 0)]) [.ptr 800000 0,.sl Rp.byte [] ([]:(List UInt8))] [⟨800000,76,(zo 800001 [0] wv)⟩] [(800000,800000),(800001,800001)] [0] 16 [800001] rfl call65 (zhr uF) rfl rfl rfl rfl rfl rfl rfl rfl) ⟨⟨rfl,ws _⟩,⟨rfl,zgx _ _⟩,trivial⟩) rf) (jb h fun wu uK h=>jr (rc 5 rfl (zF.le (ins':=[(.tmp 21,.ptr 800000 0),(.tmp 22,.sl zj [0] sv),(.tmp 24,kI f.Of),(.tmp 25,.ag (zak [0] x))]) (zhc (args:=[.tmp 21,.tmp 22,.tmp 24,.tmp 25]) [.ptr 800000 0,.sl zj [0] sv,kI f.Of,.rc zg [0] x] [⟨800000,76,(zo 800001 [0,18] rv)⟩] [(800000,800000),(800001,800001)] [0,18] 17 [800001] rfl call31 (vI uK) rfl rfl rfl rfl rfl rfl rfl rfl) ⟨⟨rfl,ws _⟩,⟨rfl,ws _⟩,⟨rfl,ws _⟩,⟨rfl,zL [0] x⟩,trivial⟩) rf) (jb h fun wy uP h=>jb h fun x2 uQ h=>jk [0,6,8,9] [800000,16] (zsR ⟨[(0,.ptr 800000 0),(8,kI (wv.pieces.length:Int))],[⟨800000,76,[.own (Rp.list Rp.byte) 35 800001 [0,18,19,20] (wu.pieces.set (Int.toNat (wv.pieces.length:Int)) wy),kI wu.size]⟩]⟩ [.ev,.ev,.ev,.ev,.ev,.ev,.ev,.ev,.ev,.ev,.ev,.ev,.ev,.ex [] [] [20] (.own Rp.byte 5 20 [] wy) [],.ex [] [] [] (.ptr 800001 (Int.toNat (wv.pieces.length:Int)*(Rp.list Rp.byte).size)) [],.raw [11,0,1,11,19] [800001] [] [.sl 30 (.own (Rp.list Rp.byte) 35 800001 [0,18,19,20] (wu.pieces.set (Int.toNat (wv.pieces.length:Int)) wy)),.bx ⟨800000,76,[.own (Rp.list Rp.byte) 35 800001 [0,18,19,20] (wu.pieces.set (Int.toNat (wv.pieces.length:Int)) wy),kI wu.size]⟩]] [⟨[(.func 117,.lf (.val (.func (.func 117) #[] #[]))),(.tmp 33,kI f.Number),(.tmp 39,kI (IntKind.i64.wrap (wu.size - wv.size)))],[],[]⟩,⟨[(.tmp 30,.own (Rp.list Rp.byte) 35 800001 [0,18,19] wu.pieces),(.tmp 31,kI (wv.pieces.length:Int))],[],[]⟩,⟨[],[],[.sl 30 (.own (Rp.list Rp.byte) 35 800001 [0,18,19] wu.pieces),.sl 41 (.ptr 800001 (Int.toNat (wv.pieces.length:Int)*(Rp.list Rp.byte).size)),.sl 40 (.own Rp.byte 5 20 [] wy),.sl 30 (.own (Rp.list Rp.byte) 35 800001 [0,18,19] wu.pieces),.bx ⟨800000,76,(zo 800001 [0,18,19] wu)⟩]⟩] [0,8] [800000] zeY (by kernel_rfl) (by exact (lwn 13 (lw_x (zF.cons _ (zrI (lcd [kI f.Number,kI (IntKind.i64.wrap (wu.size - wv.size))] 18 call117 (zyI uP)) rfl)) (lw_x (zrI (zoM rfl zot.el uQ) rfl) (lw_r (zux (ins:=[(.tmp 30,.own (Rp.list Rp.byte) 35 800001 [0,18,19] wu.pieces),(.tmp 41,.ptr 800001 (Int.toNat (wv.pieces.length:Int)*(Rp.list Rp.byte).size)),(.tmp 40,.own Rp.byte 5 20 [] wy)]) [30] [(⟨800000,76,(zo 800001 [0,18,19] wu)⟩,⟨800000,76,[.own (Rp.list Rp.byte) 35 800001 [0,18,19,20] (wu.pieces.set (Int.toNat (wv.pieces.length:Int)) wy),kI wu.size]⟩)] (zFd (r:=(Rp.list Rp.byte)) (e:=35) (ℓ:=800001) (C:=[0,18,19]) (xs:=wu.pieces) (off:=(Int.toNat (wv.pieces.length:Int)*(Rp.list Rp.byte).size)) (.tmp 30) (Int.toNat (wv.pieces.length:Int)) 0 x2 wy [0,18,19,20] rfl rfl sizeOf35 rfl (zoI uQ) rfl (zrl rfl _) rfl) ⟨trivial,trivial,trivial,trivial⟩ (fun _ _=>nofun) ⟨⟨rfl,rfl,rfl,⟨zhz 0 rfl,zD rfl,trivial⟩⟩,trivial⟩) lw_0))))) (jb h fun x3 va h=>jd [0] [800000] zeY (by exact (lwn 9 (ly [.own (Rp.list Rp.byte) 35 800001 [0,18,19,20] (wu.pieces.set (Int.toNat (wv.pieces.length:Int)) wy),kI (wv.pieces.length:Int)] (zxo rfl zot.el (zkS _ _ _ _ _) va) rfl (lx (ldl (Rp.list Rp.byte) [800001,0,18,19,20] x3 0 Rp.byte x3) (lwn 4 (ly [.ptr 800000 1,kI (IntKind.i64.wrap (wu.size+(x3.length:Int)))] (zEH (b:=⟨800000,76,[.own (Rp.list Rp.byte) 35 800001 [0,18,19,20] (wu.pieces.set (Int.toNat (wv.pieces.length:Int)) wy),kI wu.size]⟩) (off:=1) rfl sizeOf3 rfl rfl rfl) rfl l0)))))) ?_))))));cases h;exact zzF (lks [800000] [(18,2),(19,2),(20,2)] lw)
theorem zoA (vI:∀{wv:zk} {sv:(List ze)} {uI:Int} {x:zb} {r:zk},xt wv sv uI x=some r->ziq prog 31 [.ptr 800000 0,.sl zj [0] sv,kI uI,.rc zg [0] x] [] [⟨800000,76,(zo 800001 [0] wv)⟩] [800000] [⟨800000,76,(zo 800001 [0,2] r)⟩]) (vJ:∀{wv:zk} {sv:(List ze)} {f:zc} {x:zb} {r:zk},xe wv sv f x=some r->ziq prog 71 [.ptr 800000 0,.sl zj [0] sv,.rc zf [0] f,.rc zg [0] x] [] [⟨800000,76,(zo 800001 [0] wv)⟩] [800000] [⟨800000,76,(zo 800001 [0,2] r)⟩]) (vK:∀{wv:zk} {sv:(List ze)} {f:zc} {v:za} {r:zk},xf wv sv f v=some r->ziq prog 37 [.ptr 800000 0,.sl zj [0] sv,.rc zf [0] f,.rc zd [0] v] [] [⟨800000,76,(zo 800001 [0] wv)⟩] [800000] [⟨800000,76,(zo 800001 [0,2] r)⟩]) (h:zeE xt xe xf wv sv f v=some r):ziq prog 37 [.ptr 800000 0,.sl zj [0] sv,.rc zf [0] f,.rc zd [0] v] [] [⟨800000,76,(zo 800001 [0] wv)⟩] [800000] [⟨800000,76,(zo 800001 [0,2] r)⟩]:=by
 refine zlJ (E:=⟨[(0,.ptr 800000 0)],[⟨800000,76,(zo 800001 [0,2] r)⟩]⟩) 48 [0] [(0,800000)] func37 rfl rfl rfl trivial ⟨⟨rfl,rfl,rfl⟩,trivial⟩ ⟨rfl,trivial⟩ (fun Xt old=>?_);refine zcm ?_;unfold zeE at h;refine jr (ral 1 [34] [.rc zd [0] v] rfl (zij 35 (zt [0] v) [0] rfl rfl rfl (by rw [zG]<;>rfl) rfl) rfl rf) (jp (jb h fun p vc h=>jn (.N [0,1,6,7] [34,35] [] [⟨800000,76,[.own (Rp.list Rp.byte) 35 800001 [0,36,37,38,39,40] p.1,kI p.2]⟩]) ?_ ?_))
 ·replace h:=vc;refine jI h ?_ ?_<;>intro uE h
  ·refine jb h fun rv uF h=>jr (lb 1 zf [] f (ra 2 [.ptr 800000 0,.rc zf [] f,.sl wk [0] v.Words] rfl (zhc (args:=[.tmp 16,.tmp 17,.tmp 19]) [.ptr 800000 0,.rc zf [] f,.sl wk [0] v.Words] [⟨800000,76,(zo 800001 [0] wv)⟩] [(800000,800000),(800001,800001)] [0] 39 [800001] rfl call69 (zpr uF) rfl rfl rfl rfl rfl rfl rfl rfl) rfl rf)) ?_;cases h;exact zbj (lks [800000,34,35] [(41,40),(42,40),(43,40),(44,40),(45,40)] lw)
  cases h;exact zbj lw
 refine zll (jp (zp (jb h fun q uL h=>jl uL [0,1,6,7,22,23] [34,35] (fun s=>[(24,kI s.1)]) (fun s=>[⟨800000,76,[.own (Rp.list Rp.byte) 35 800001 [0,36,37,38,39,40,46] s.2.1,kI s.2.2]⟩]) (fun o=> .X 0 [0,1,6,7] [34,35] [] [⟨800000,76,[.own (Rp.list Rp.byte) 35 800001 [0,36,37,38,39,40,46] o.1,kI o.2]⟩]) ?_ lw ?_)))
 ·clear h;intro s o h;obtain ⟨v2,f4,f5⟩:=s;replace h:zbE f v v2 f4 f5=some o:=h;unfold zbE at h;refine jp (jI h ?_ ?_)<;>intro uH h
  ·refine zp (jb h fun x uN h=>jr (rx 0 [0] zjY.el uN rfl rfl rf) (jb h fun v3 uU h=>jb h fun wu uK h=>jr (ra 4 [kS x] rfl (zwd 53 rfl underlying9 underlying35 underlying5 uU) rfl (ra 0 [.ptr 800000 0,kI f.Number,kI 2,.sl Rp.byte [53] v3] rfl (zhc (args:=[.tmp 28,.tmp 30,.const (.int .i64 2),.tmp 32]) [.ptr 800000 0,kI f.Number,kI 2,.sl Rp.byte [53] v3] [⟨800000,76,[.own (Rp.list Rp.byte) 35 800001 [0,36,37,38,39,40,46] f4,kI f5]⟩] [(800000,800000),(800001,800001)] [0,36,37,38,39,40,46,53] 52 [800001] rfl call70 (zgN uK) rfl rfl rfl rfl rfl rfl rfl rfl) rfl rf)) (zan (jp ?_))));cases h;exact zbj (lks [800000,34,35] [(53,46),(54,46),(55,46)] lw)
  cases h;exact zaC rfl lzz
 refine zaX _ rfl (jp (zp (jb h fun q2 uX h=>jl uX [0,1,6,36,37] [34] (fun s=>[(38,kI s.1)]) (fun s=>[⟨800000,76,[.own (Rp.list Rp.byte) 35 800001 [0,36,37,38,39,40,46,56] s.2.1,kI s.2.2]⟩]) (fun o=> .X 2 [0] [] [] [⟨800000,76,[.own (Rp.list Rp.byte) 35 800001 [0,36,37,38,39,40,46,56] o.1,kI o.2]⟩]) ?_ lw ?_)))
 ·clear h;intro s o h;obtain ⟨v4,f8,f9⟩:=s;replace h:zbF f xe sv v v4 f8 f9=some o:=h;unfold zbF at h;refine jp (jI h ?_ ?_)<;>intro uJ h
  ·refine zp (jb h fun x2 uQ h=>jr (rx 0 [0] zjm.el uQ rfl rfl (rc 0 rfl (lde zg [0] x2 zkH) (ral 1 [61] [.ptr 61 0,.rc zg [0] x2] rfl (zfe (r:=zg) (b:=⟨61,27,[kN,kN]⟩) (off:=0) (zak [0] x2) rfl sizeOf27 rfl rfl (by rw [zaq]<;>rfl) rfl) rfl rf))) (jb h fun wy uP h=>jr (lb 2 zf [] f (rc 1 rfl (zF.le (ins':=[(.tmp 42,.ptr 800000 0),(.tmp 43,.sl zj [0] sv),(.tmp 44,.rc zf [] f),(.tmp 45,.ag (zak [0] x2))]) (zhc (args:=[.tmp 42,.tmp 43,.tmp 44,.tmp 45]) [.ptr 800000 0,.sl zj [0] sv,.rc zf [] f,.rc zg [0] x2] [⟨800000,76,[.own (Rp.list Rp.byte) 35 800001 [0,36,37,38,39,40,46,56] f8,kI f9]⟩] [(800000,800000),(800001,800001)] [0,36,37,38,39,40,46,56] 60 [800001] rfl call71 (vJ uP) rfl rfl rfl rfl rfl rfl rfl rfl) ⟨⟨rfl,ws _⟩,⟨rfl,ws _⟩,⟨rfl,ws _⟩,⟨rfl,zL [0] x2⟩,trivial⟩) rf)) (zan (jp ?_))));cases h;exact zbj (lks [800000,34] [(62,56)] lw)
  cases h;exact zaC rfl lzz
 refine zaX _ rfl ?_;cases h;exact zzF (lks [800000] [(36,2),(37,2),(38,2),(39,2),(40,2),(46,2),(56,2)] lw)
theorem zgv (uM:Nat):(∀{wv:zk} {sv:(List ze)} {uI:Int} {x:zb} {r:zk},zbU uM wv sv uI x=some r->ziq prog 31 [.ptr 800000 0,.sl zj [0] sv,kI uI,.rc zg [0] x] [] [⟨800000,76,(zo 800001 [0] wv)⟩] [800000] [⟨800000,76,(zo 800001 [0,2] r)⟩])/\(∀{wv:zk} {sv:(List ze)} {f:zc} {x:zb} {r:zk},zen uM wv sv f x=some r->ziq prog 71 [.ptr 800000 0,.sl zj [0] sv,.rc zf [0] f,.rc zg [0] x] [] [⟨800000,76,(zo 800001 [0] wv)⟩] [800000] [⟨800000,76,(zo 800001 [0,2] r)⟩])/\(∀{wv:zk} {sv:(List ze)} {f:zc} {v:za} {r:zk},zdq uM wv sv f v=some r->ziq prog 37 [.ptr 800000 0,.sl zj [0] sv,.rc zf [0] f,.rc zd [0] v] [] [⟨800000,76,(zo 800001 [0] wv)⟩] [800000] [⟨800000,76,(zo 800001 [0,2] r)⟩]):=by
  induction uM with
  | zero=>exact ⟨fun h=>absurd h nofun,fun h=>absurd h nofun,fun h=>absurd h nofun⟩
  | succ uM ih=>exact ⟨fun h=>znh (fun hh=>ih.1 hh) (fun hh=>ih.2.1 hh) (fun hh=>ih.2.2 hh) h,fun h=>zpH (fun hh=>ih.1 hh) (fun hh=>ih.2.1 hh) (fun hh=>ih.2.2 hh) h,fun h=>zoA (fun hh=>ih.1 hh) (fun hh=>ih.2.1 hh) (fun hh=>ih.2.2 hh) h⟩
theorem ziU (h:zbU uM wv sv uI x=some r):ziq prog 31 [.ptr 800000 0,.sl zj [0] sv,kI uI,.rc zg [0] x] [] [⟨800000,76,(zo 800001 [0] wv)⟩] [800000] [⟨800000,76,(zo 800001 [0,2] r)⟩]:=(zgv uM).1 h
theorem zsu (h:zhh wv uI uR tov=some r):zjt prog 162 [.ag [.sl zj [0] wv.s,.sl Rp.byte [0] wv.b,.om zn zi 2 [0] wv.met],kI uI,kI uR,kI tov] [.rc zi [] r.1,k8 r.2.1] [.ag [.any,.any,.om zn zi 2 [0] r.2.2],.any,.any,.any]:=by
 refine zlK (E:=⟨[(0,.ag [.any,.any,.om zn zi 2 [0] r.2.2]),(8,.ptr 3 0),(9,k8 r.2.1)],[⟨3,154,(zcV r.1)⟩]⟩) 67 [0] func162 rfl rfl rfl ⟨⟨_,_,rfl,rfl,rfl,rfl,zpD⟩,rfl,trivial⟩ ⟨.inr ⟨rfl,rfl⟩,.inl rfl,.inl rfl,.inl rfl,trivial⟩ rfl (fun Xt old=>?_);refine zcm ?_;unfold zhh at h;refine jq [13,14] (jb h fun v uS h=>jr (ra 3 [.sl Rp.byte [0] wv.b,kI tov] rfl (ziK none (some (kI tov)) rfl zej.el (zcZ _ _ _) ⟨rfl,rfl⟩ ⟨rfl,rfl⟩ uS) rfl rf) (jb h fun rv uF h=>jr (rl 2 [0] 13 call164 (zmu uF) (rfl' [15])) (jp (jI h ?_ ?_))))<;>intro uE h
 ·refine jr (rc 0 rfl (zaw (r:=zi) [] [] (⟨(⟨0,0,0,0,0⟩:zu),0,false⟩:zh) rfl zyd rfl rfl) rf) ?_;cases h;exact zha (lks [14] [(14,3)] lw)
 refine jr (rc 5 rfl (zaw (r:=zn) [kI uI,kI rv.1.Number,kI rv.1.Wire] [] (⟨uI,rv.1.Number,rv.1.Wire⟩:zm) rfl zNm rfl rfl) (rfl' [16])) (jr (lb 2 zn [] (⟨uI,rv.1.Number,rv.1.Wire⟩:zm) (ra 0 [.om zn zi 2 [0] wv.met,.rc zn [] (⟨uI,rv.1.Number,rv.1.Wire⟩:zm)] rfl (zqV (rk:=zn) (rv:=zi) (m:=wv.met) (k:=(⟨uI,rv.1.Number,rv.1.Wire⟩:zm)) (.rc zi [0] ((mget wv.met (⟨uI,rv.1.Number,rv.1.Wire⟩:zm)).getD (⟨(⟨0,0,0,0,0⟩:zu),0,false⟩:zh))) rfl zGe (zdf rfl) (zsG rfl)) rfl (rfl' [17]))) (jp (jI h ?_ ?_)))<;>intro uH h
 ·refine jb h fun x uN h=>jb h fun wu uK h=>jr (rx 3 [0] zpp.el uN rfl rfl (rc 0 rfl (lde zj [0] x zzh) (rl 2 [0] 16 call191 (zBJ uK) rf))) (jp (jI h ?_ ?_))<;>intro uJ h
  ·refine jr (rc 0 rfl (zaw (r:=zi) [] [] (⟨(⟨0,0,0,0,0⟩:zu),0,false⟩:zh) rfl zyd rfl rfl) rf) ?_;cases h;exact zha (lks [14] [(14,3)] lw)
  refine jr (lb 2 zn [] (⟨uI,rv.1.Number,rv.1.Wire⟩:zm) (lb 0 zi [] wu.1 (rms (C1:=[]) (D:=[]) 0 [] 2 [0] wv.met (⟨uI,rv.1.Number,rv.1.Wire⟩:zm) wu.1 [0] zGe (zdf rfl) (zdf rfl) rf))) (jr (lb 0 zbc [] rv.1 rf) (jr (lb 0 zi [] (⟨rv.1,wu.1.Field,wu.1.Run⟩:zh) rf) ?_));cases h;exact zha (lks [14] [(14,3)] lw)
 refine jr (lb 0 zbc [] rv.1 rf) (jr (lb 0 zi [] (⟨rv.1,((mget wv.met (⟨uI,rv.1.Number,rv.1.Wire⟩:zm)).getD (⟨(⟨0,0,0,0,0⟩:zu),0,false⟩:zh)).Field,((mget wv.met (⟨uI,rv.1.Number,rv.1.Wire⟩:zm)).getD (⟨(⟨0,0,0,0,0⟩:zu),0,false⟩:zh)).Run⟩:zh) rf) ?_);cases h;exact zha (lks [14] [(14,3)] lw)
theorem zBs (h:zoc k b=some r):wo 215 [kI k,.sl Rp.byte [0] b] [kI r.1,k8 r.2]:=by
 refine zzy (E:=⟨[(4,.ptr 2 0),(5,.ptr 3 0)],[⟨2,3,[kI r.1]⟩,⟨3,36,[k8 r.2]⟩]⟩) 20 func215 rfl rfl rfl ⟨⟨_,_,rfl,rfl,rfl,rfl⟩,⟨_,_,rfl,rfl,rfl,rfl⟩,trivial⟩ rfl rfl (fun Xt=>?_);refine zcm ?_;unfold zoc at h;refine jq [13,14] (jq [15] (jb h fun rv uF h=>jr (rl 2 [0] 0 call208 (zrL uF) rf) (zp (jb h fun q uL h=>zpQ (E':=⟨[(4,.ptr 13 0),(5,.ptr 14 0),(6,.ptr 15 0),(11,.fv 223 [.bp wj 3 922300 [] rv.1,.bp (Rp.list Rp.byte) 35 922301 [0] rv.2])],[⟨13,3,[kI 0]⟩,⟨14,36,[k8 0]⟩,⟨15,3,[kI 0]⟩]⟩) ?_ ?_))))
 · exact lzz
 refine zCF (it:=fun {σ:Type} (kf:Rnd σ ((List UInt8)×Int)) (sg:σ)=>zfg rv.1 rv.2 kf sg) (zpi rv.1 rv.2) [922300,922301] [4,5,6] [13,14,15] [(4,.ptr 13 0),(5,.ptr 14 0),(6,.ptr 15 0)] (fun s:Int=>[⟨13,3,[kI 0]⟩,⟨14,36,[k8 0]⟩,⟨15,3,[kI s]⟩]) (fun o:(Int×Int)=>[⟨13,3,[kI 0]⟩,⟨14,36,[k8 o.1]⟩,⟨15,3,[kI o.2]⟩]) (fun o:(Int×Int)=> .ret) (fun (s:Int) (x:((List UInt8)×Int))=>zfY s x.1 x.2) (fun (s:Int) (x:((List UInt8)×Int))=>⟨[(4,.ptr 13 0),(5,.ptr 14 0),(6,.ptr 15 0),(8,k8 x.2)],[⟨13,3,[kI 0]⟩,⟨14,36,[k8 0]⟩,⟨15,3,[kI s]⟩]⟩) rfl rfl call223 rfl rfl rfl rfl rfl rfl (fun _=>rfl) (fun o=>rfl) rfl rfl (fun _=>rfl) ?_ (fun _ _=>⟨rfl,rfl⟩) ?_ uL ?_
 ·clear h;intro Xr old f x;obtain ⟨x,x2⟩:=x;exact zcm (zpQ (E':=⟨[(13,k8 x2),(12,.sl Rp.byte [0] x),(4,.ptr 13 0),(5,.ptr 14 0),(6,.ptr 15 0)],[⟨13,3,[kI 0]⟩,⟨14,36,[k8 0]⟩,⟨15,3,[kI f]⟩]⟩) (fun _ _ _ hs=>hs) jy)
 ·clear h;intro Xr old f x o h;obtain ⟨x,x2⟩:=x;refine zcm (zpQ (E':=⟨[(4,.ptr 13 0),(5,.ptr 14 0),(6,.ptr 15 0),(8,k8 x2)],[⟨13,3,[kI 0]⟩,⟨14,36,[k8 0]⟩,⟨15,3,[kI f]⟩]⟩) (fun _ _ _ hs=>hs) ?_);replace h:zfY f x x2=some o:=h;unfold zfY at h;refine zp (jp (jI h ?_ ?_))<;>intro uE h
  ·refine jp ?_;cases h;exact zFL lzz
  refine jp (zan ?_);cases h;exact zbj lzz
 rcases q with u| j
 ·refine zpQ (E':=⟨[(4,.ptr 13 0),(5,.ptr 14 0),(6,.ptr 15 0)],[⟨13,3,[kI 0]⟩,⟨14,36,[k8 0]⟩,⟨15,3,[kI u]⟩]⟩) (fun _ _ _ hs=>hs) (zan (jp ?_));cases h;exact zB (lks [13,14] [(13,2),(14,3)] lzz)
 refine zpQ (E':=⟨[(4,.ptr 13 0),(5,.ptr 14 0),(6,.ptr 15 0)],[⟨13,3,[kI 0]⟩,⟨14,36,[k8 j.1]⟩,⟨15,3,[kI j.2]⟩]⟩) (fun _ _ _ hs=>hs) ?_;cases h;exact zB (lks [13,14] [(13,2),(14,3)] lzz)
theorem zBt (h:zod k b=some r):wo 169 [kI k,.sl Rp.byte [0] b] [.own wk 72 3 [] r.1,k8 r.2]:=by
 refine zzy (E:=⟨[(4,.ptr 2 0),(5,.ptr 4 0)],[⟨2,48,[.own wk 72 3 [] r.1]⟩,⟨4,36,[k8 r.2]⟩]⟩) 30 func169 rfl rfl rfl ⟨⟨_,_,rfl,rfl,rfl,rfl⟩,⟨_,_,rfl,rfl,rfl,rfl⟩,trivial⟩ rfl rfl (fun Xt=>?_);refine zcm ?_;unfold zod at h;refine jq [18,19,20] (jq [21] (jb h fun rv uF h=>jr (rl 2 [0] 0 call208 (zrL uF) rf) (zp (jb h fun q uL h=>zpQ (E':=⟨[(2,.ptr 18 0),(4,.ptr 19 0),(5,.ptr 20 0),(6,.ptr 21 0),(13,.fv 223 [.bp wj 3 922300 [] rv.1,.bp (Rp.list Rp.byte) 35 922301 [0] rv.2])],[⟨18,3,[kI k]⟩,⟨19,48,[kN]⟩,⟨20,36,[k8 0]⟩,⟨21,48,[.own wk 72 24 [] []]⟩]⟩) ?_ ?_))))
 · exact lw
 refine zCF (it:=fun {σ:Type} (kf:Rnd σ ((List UInt8)×Int)) (sg:σ)=>zfg rv.1 rv.2 kf sg) (zpi rv.1 rv.2) [922300,922301] [2,4,5,6] [18,19,20,21] [(2,.ptr 18 0),(4,.ptr 19 0),(5,.ptr 20 0),(6,.ptr 21 0)] (fun s:(List Int)=>[⟨18,3,[kI k]⟩,⟨19,48,[kN]⟩,⟨20,36,[k8 0]⟩,⟨21,48,[.own wk 72 24 [] s]⟩]) (fun o:(Int×(List Int))=>[⟨18,3,[kI k]⟩,⟨19,48,[kN]⟩,⟨20,36,[k8 o.1]⟩,⟨21,48,[.own wk 72 24 [] o.2]⟩]) (fun o:(Int×(List Int))=> .ret) (fun (s:(List Int)) (x:((List UInt8)×Int))=>zev k s x.1 x.2) (fun (s:(List Int)) (x:((List UInt8)×Int))=>⟨[(2,.ptr 18 0),(4,.ptr 19 0),(5,.ptr 20 0),(6,.ptr 21 0),(7,.sl Rp.byte [0] x.1),(8,k8 x.2)],[⟨18,3,[kI k]⟩,⟨19,48,[kN]⟩,⟨20,36,[k8 0]⟩,⟨21,48,[.own wk 72 24 [] s]⟩]⟩) rfl rfl call223 rfl rfl rfl rfl rfl rfl (fun _=>rfl) (fun o=>rfl) rfl rfl (fun _=>rfl) ?_ (fun _ _=>⟨rfl,rfl⟩) ?_ uL ?_
 ·clear h;intro Xr old f x;obtain ⟨x,x2⟩:=x;exact zcm (zpQ (E':=⟨[(15,k8 x2),(14,.sl Rp.byte [0] x),(2,.ptr 18 0),(4,.ptr 19 0),(5,.ptr 20 0),(6,.ptr 21 0)],[⟨18,3,[kI k]⟩,⟨19,48,[kN]⟩,⟨20,36,[k8 0]⟩,⟨21,48,[.own wk 72 24 [] f]⟩]⟩) (fun _ _ _ hs=>hs) (jp jy))
 ·clear h;intro Xr old f x o h;obtain ⟨x,x2⟩:=x;refine zcm (zpQ (E':=⟨[(2,.ptr 18 0),(4,.ptr 19 0),(5,.ptr 20 0),(6,.ptr 21 0),(7,.sl Rp.byte [0] x),(8,k8 x2)],[⟨18,3,[kI k]⟩,⟨19,48,[kN]⟩,⟨20,36,[k8 0]⟩,⟨21,48,[.own wk 72 24 [] f]⟩]⟩) (fun _ _ _ hs=>hs) ?_);replace h:zev k f x x2=some o:=h;unfold zev at h;refine zp (jp (jI h ?_ ?_))<;>intro uE h
  ·refine jp ?_;cases h;exact zFL lzz
  refine jb h fun wu uK h=>jr (rl 2 [0] 23 call209 (zxV uK) rf) (jb h fun v uS h=>jr (rc 2 rfl (zfI [kU wu.1] 25 [] ([wu.1]:(List Int)) rfl zng rfl rfl rfl rfl) (rc 0 rfl (lao 24 [] 72 25 [] [] zng.el uS (.inl (zrc _))) rf)) (zan ?_));cases h;exact zbj lzz
 rcases q with u| j
 ·refine zpQ (E':=⟨[(2,.ptr 18 0),(4,.ptr 19 0),(5,.ptr 20 0),(6,.ptr 21 0)],[⟨18,3,[kI k]⟩,⟨19,48,[kN]⟩,⟨20,36,[k8 0]⟩,⟨21,48,[.own wk 72 24 [] u]⟩]⟩) (fun _ _ _ hs=>hs) (zan (jp ?_));cases h;exact zB (lks [19,20] [(19,2),(20,4),(24,3)] lzz)
 refine zpQ (E':=⟨[(2,.ptr 18 0),(4,.ptr 19 0),(5,.ptr 20 0),(6,.ptr 21 0)],[⟨18,3,[kI k]⟩,⟨19,48,[kN]⟩,⟨20,36,[k8 j.1]⟩,⟨21,48,[.own wk 72 24 [] j.2]⟩]⟩) (fun _ _ _ hs=>hs) ?_;cases h;exact zB (lks [19,20] [(19,2),(20,4)] lw)
end Go.Proofs.YtkgohoggipdokaaGreat

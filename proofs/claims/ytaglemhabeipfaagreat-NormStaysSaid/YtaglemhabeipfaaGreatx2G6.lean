/-
  The Go functions do what the plain functions say. No condition.
-/
import Derived.Test.YtaglemhabeipfaaGreatx2G5
set_option autoImplicit true
set_option relaxedAutoImplicit true
namespace Go.Proofs.YtaglemhabeipfaaGreat
open Tryz
open Go Go.RowKit
set_option linter.unusedVariables false
set_option maxRecDepth 100000
set_option maxHeartbeats 3200000
theorem zol (h:zhc sv=some r):wL 67 [.sl zf [0] sv] [kB r]:=by
 refine fi 12 func67 fun Xt=>?_
 unfold zhc at h;refine jp (jb h fun rv uR h=>jr (rl 1 [0] 9 call99 (zuW uR) (rfl' [11])) ?_);cases h;exact jz
theorem zta (h:zkW m b u9=some r):wL 112 [.rc zf [0] m,.sl Rp.byte [0] b,kI u9] [.rc zj [] r.1,k8 r.2]:=by
 refine fj ⟨[(6,.ptr 2 0),(7,k8 r.2)],[⟨2,68,(zcj r.1)⟩]⟩ 15 func112 ⟨⟨_,_,rfl,rfl,rfl,rfl,zul⟩,rfl,trivial⟩ fun Xt=>?_
 unfold zkW at h;refine jr (ra 0 [.rc zf [0] m] rfl (zis 13 (zW [0] m) [0] rfl rfl rfl rfl rfl) rfl (rfl' [14])) (jb h fun wN uU h=>jr (rc 3 rfl (zlp (rk:=zal) (rv:=zao) 15 rfl) (rkl 0 [] ⟨[(6,.ptr 14 0),(8,.ag (zW [0] m)),(9,.sl Rp.byte [0] b),(10,kI u9),(11,.om zal zao 15 [] ([]:(List (zV×zab))))],[⟨14,68,[kI 0,kI 0,kI 0,kI 0,kI 0,kI 0,kB false]⟩]⟩ (zhF ⟨[(6,.ptr 14 0),(8,.ag (zW [0] m)),(9,.sl Rp.byte [0] b),(10,kI u9),(11,.om zal zao 15 [0] wN.2.2)],[⟨14,68,[kI 0,kI 0,kI 0,kI 0,kI 0,kI 0,kB false]⟩]⟩ (zkm.le (km:=[(.tmp 8,.ag (zW [0] m)),(.tmp 9,.sl Rp.byte [0] b),(.tmp 10,kI u9),(.tmp 11,.om zal zao 15 [] ([]:(List (zV×zab))))]) (zkF (args:=[.tmp 8,.tmp 9,.tmp 10,.tmp 11]) [.rc zf [0] m,.sl Rp.byte [0] b,kI u9,.om zal zao 15 [] ([]:(List (zV×zab)))] [(15,2)] [0] 15 [] rfl call82 (ztb uU) rfl rfl (by kernel_rfl) rfl rfl rfl) ⟨⟨rfl,zlV zf [0] m (zW [0] m) rfl rfl⟩,⟨rfl,wM _⟩,⟨rfl,wM _⟩,⟨rfl,wM _⟩,trivial⟩) rfl (by kernel_rfl) (by kernel_rfl) ⟨⟨_,rfl,zu rfl⟩,⟨_,rfl,zu rfl⟩,⟨_,rfl,zu rfl⟩,⟨_,rfl,zu rfl⟩,⟨_,rfl,zdL 0 rfl⟩,trivial⟩ ⟨⟨_,rfl,rfl,rfl,⟨zu rfl,zu rfl,zu rfl,zu rfl,zu rfl,zu rfl,zu rfl,trivial⟩⟩,trivial⟩ rf))) ?_);cases h;exact zG (lks [14] [(14,2)] lzz)
theorem zqU (h:zjp k b=some r):wL 162 [kI k,.sl Rp.byte [0] b] [.fv 199 [.bp wI 3 919900 [] r.1,.bp (Rp.list Rp.byte) 24 919901 [0] r.2]]:=by
 refine fi 6 func162 fun Xt=>?_
 unfold zjp at h;refine jq [919900,919901] (jr (ra 0 [.ptr 919900 0,.ptr 919901 0] rfl (zLA (g:=199) [.tmp 2,.tmp 3] [⟨919900,3,[kI k]⟩,⟨919901,24,[.sl Rp.byte [0] b]⟩] [.bp wI 3 919900 [] k,.bp (Rp.list Rp.byte) 24 919901 [0] b] rfl ⟨⟨rfl,rfl,rfl,rfl⟩,⟨rfl,rfl,rfl,rfl⟩,trivial⟩ rfl) rfl rf) ?_);cases h;exact zG lzz
theorem zyg (h:zlq vg size=some r):wL 146 [kI vg,kI size] [.own Rp.byte 5 2 [] r]:=by
 refine fi 23 func146 fun Xt=>?_
 unfold zlq at h;refine jp (jb h fun rv uR h=>jr (rl 1 [1] 10 call179 (FnOk.le (km:=[kN,kI vg,kN]) (zqT uR) ⟨zeW _ _,wM _,zeW _ _,trivial⟩) rf) (jb h fun wN uU h=>jr (rl 2 [1] 11 call175 (zmq uU) rf) (jb h fun v vc h=>jb h fun v2 vi h=>jr (ra 4 [.own Rp.byte 5 12 [] rv,kI (IntKind.i64.wrap ((rv.length:Int) - 1))] rfl (zAD rfl zcd.el vc) rfl (rc 1 rfl (lao 12 [] 5 13 [] [] zcd.el vi (.inl zeK)) rf)) ?_)));obtain rfl:=(sj h);exact zG (lks [] [(12,2)] lzz)
theorem zDy (h:zpM m b=some r):wL 49 [.rc zf [0] m,.sl Rp.byte [0] b] [.own zj 68 2 [] r.1,kI r.2.1,k8 r.2.2]:=by
 refine fi 36 func49 fun Xt=>?_
 unfold zpM at h;refine jr (ra 0 [.rc zf [0] m] rfl (zis 19 (zW [0] m) [0] rfl rfl rfl rfl rfl) rfl rf) (jr (rc 0 rfl (zlp (rk:=zal) (rv:=zao) 20 rfl) rf) (jp (zx (jb h fun q uW h=>jL uW [1,2] [19] (fun s=>[(4,.own zj 68 26 [] s.1),(7,.om zal zao 20 [0] s.2.1),(8,kI s.2.2)]) (fun| (.inl v_)=> .x 0 ⟨[(4,.own zj 68 26 [] v_)],[]⟩| (.inr v_)=> .r ⟨[(4,kN),(5,kI v_.1),(6,k8 v_.2)],[]⟩) ?_ lw ?_))))
 ·clear h;intro s o h;obtain ⟨l,met,u9⟩:=s;replace h:zex b m l met u9=some o:=h;unfold zex at h;refine jp (jI h ?_ ?_)<;>intro uP h
  ·refine zx (jb h fun wN uU h=>jr (rkl 4 [] ⟨[(1,.sl Rp.byte [0] b),(2,.ptr 19 0),(4,.own zj 68 26 [] l),(7,.om zal zao 20 [0] met),(8,kI u9),(17,.ag (zW [0] m)),(18,.sl Rp.byte [0] b),(19,kI u9),(20,.om zal zao 20 [0] met)],[⟨19,62,(zW [0] m)⟩]⟩ (zhF ⟨[(1,.sl Rp.byte [0] b),(2,.ptr 19 0),(4,.own zj 68 26 [] l),(7,.om zal zao 20 [0] wN.2.2),(8,kI u9),(17,.ag (zW [0] m)),(18,.sl Rp.byte [0] b),(19,kI u9),(20,.om zal zao 20 [0] wN.2.2)],[⟨19,62,(zW [0] m)⟩]⟩ (zkm.le (km:=[(.tmp 17,.ag (zW [0] m)),(.tmp 18,.sl Rp.byte [0] b),(.tmp 19,kI u9),(.tmp 20,.om zal zao 20 [0] met)]) (zkF (args:=[.tmp 17,.tmp 18,.tmp 19,.tmp 20]) [.rc zf [0] m,.sl Rp.byte [0] b,kI u9,.om zal zao 20 [0] met] [(20,2)] [0] 26 [] rfl call82 (ztb uU) rfl rfl (by kernel_rfl) rfl rfl rfl) ⟨⟨rfl,zlV zf [0] m (zW [0] m) rfl rfl⟩,⟨rfl,wM _⟩,⟨rfl,wM _⟩,⟨rfl,wM _⟩,trivial⟩) rfl (by kernel_rfl) (by kernel_rfl) ⟨⟨_,rfl,zu rfl⟩,⟨_,rfl,zu rfl⟩,⟨_,rfl,zu rfl⟩,⟨_,rfl,zdL 0 rfl⟩,⟨_,rfl,zu rfl⟩,⟨_,rfl,zu rfl⟩,⟨_,rfl,zu rfl⟩,⟨_,rfl,zu rfl⟩,⟨_,rfl,zdL 0 rfl⟩,trivial⟩ ⟨⟨_,rfl,rfl,rfl,⟨zu rfl,zu rfl,trivial⟩⟩,trivial⟩ (rfl' [29]))) (jp (jI h ?_ ?_)))<;>intro uT h
   ·cases h;exact jz'
   refine jb h fun v vc h=>jr (lb 1 zj [] wN.1 (rc 0 rfl (lbs1 30 [] wN.1 zra) (rc 0 rfl (lao 26 [] 68 30 [] [] zra.el vc (.inl ziz)) rf))) (jp (zam ?_));cases h;exact zaJ lzz
  cases h;exact zaI rfl lzz
 rcases q with u| u2
 ·refine zbo _ rfl (jp ?_);cases h;exact zG (lks [] [(26,2)] lzz)
 cases h;exact zgz lw
theorem zpE (vO:∀{sv:(List ze)} {uS:Int} {l:(List zd)} {r:Bool},xq sv uS l=some r->wL 165 [.sl zf [0] sv,kI uS,.sl zm [0] l] [kB r]) (vP:∀{f:za} {sv:(List ze)} {v:zb} {r:Bool},xe f sv v=some r->wL 129 [.rc zc [0] f,.sl zf [0] sv,.rc zk [0] v] [kB r]) (vQ:∀{sv:(List ze)} {uS:Int} {x:zd} {r:Bool},xk sv uS x=some r->wL 98 [.sl zf [0] sv,kI uS,.rc zm [0] x] [kB r]) (h:zeP xq xe xk sv uS l=some r):wL 165 [.sl zf [0] sv,kI uS,.sl zm [0] l] [kB r]:=by
 refine fi 29 func165 fun Xt=>?_
 unfold zeP at h;refine jp (jg [0,1,2] [] [(16,kB ((decide (uS<0))|| (decide (uS>=(sv.length:Int)))))] ?_ ?_)
 ·refine (rsl 3 [] 11 (decide (uS<0)) ?_ ?_)<;>intro uP
  · exact (rbl [] 16 true rfl (by grind))
  exact (rbl [] 16 (decide (uS>=(sv.length:Int))) rfl (by grind))
 refine jI h ?_ ?_<;>intro uT h
 ·refine jp ?_;obtain rfl:=(sj h);exact zG lzz
 refine jp (zx (jb h fun q uW h=>jL uW [0,1,17,18] [] (fun s=>[(19,kI s)]) (fun| (.inl v_)=> .x 0 ⟨[],[]⟩| (.inr v_)=> .r ⟨[(6,kB false)],[]⟩) ?_ lzz ?_))
 ·clear h;intro v2 o h;unfold zcm at h;refine jp (jI h ?_ ?_)<;>intro uV h
  ·refine zx (jb h fun x uZ h=>jr (rx 0 [0] zrF.el uZ rfl rfl (rc 0 rfl (lde zm [0] x zoF) (ral 1 [12] [.ptr 12 0,.rc zm [0] x] rfl (zgB (r:=zm) (b:=⟨12,52,[kN,kN]⟩) (off:=0) (zaK [0] x) rfl sizeOf52 rfl rfl (by rw [zaq]<;>rfl) rfl) rfl rf))) (jb h fun rv uR h=>jr (rc 3 rfl (lw0 11 call98 (vQ uR) (.k (.k (.l (zaz [0] x))))) rf) (jI h ?_ ?_)))<;>intro uY h
   ·cases h;exact jz'
   refine zam ?_;cases h;exact jy
  cases h;exact zaI rfl lzz
 rcases q with u| u2
 ·refine zbo _ rfl (jp ?_);obtain rfl:=(sj h);exact zG lzz
 obtain rfl:=(sj h);exact zgz lzz
theorem zym (vO:∀{sv:(List ze)} {uS:Int} {l:(List zd)} {r:Bool},xq sv uS l=some r->wL 165 [.sl zf [0] sv,kI uS,.sl zm [0] l] [kB r]) (vP:∀{f:za} {sv:(List ze)} {v:zb} {r:Bool},xe f sv v=some r->wL 129 [.rc zc [0] f,.sl zf [0] sv,.rc zk [0] v] [kB r]) (vQ:∀{sv:(List ze)} {uS:Int} {x:zd} {r:Bool},xk sv uS x=some r->wL 98 [.sl zf [0] sv,kI uS,.rc zm [0] x] [kB r]) (h:zjX xq xe xk f sv v=some r):wL 129 [.rc zc [0] f,.sl zf [0] sv,.rc zk [0] v] [kB r]:=by
 refine fi 69 func129 fun Xt=>?_
 unfold zjX at h;refine jr (ral 1 [11] [.rc zk [0] v] rfl (zis 12 (zX [0] v) [0] rfl rfl rfl (by rw [zan]<;>rfl) rfl) rfl rf) (jb h fun rv uR h=>jr (rc 1 rfl (lw0 11 call65 (zjV uR) (.l (zbY [0] v))) rf) (jg [1,3,5,7] [11,12] [(20,kB ((rv==0)|| ((decide (rv>1))&&(!f.Repeated))))] ?_ ?_))
 ·refine (rsl 3 [] 12 (rv==0) ?_ ?_)<;>intro uP
  · exact (rbl [] 20 true rfl (by grind))
  refine (rsl 3 [] 15 (decide (rv>1)) ?_ ?_)<;>intro uT
  · exact (rbl [] 20 (!f.Repeated) rfl (by grind))
  exact (rbl [] 20 false rfl (by grind))
 refine jI h ?_ ?_<;>intro uV h
 ·refine jp ?_;obtain rfl:=(sj h);exact zG lzz
 refine jp (zx (jp (jI h ?_ ?_)))<;>intro uY h
 ·refine jb h fun g uQ h=>jg [] [] [(6,kB g)] ?_ ?_
  ·refine (rsI 6 30 uQ ?_ ?_)<;>intro ve uQ
   ·refine jb uQ fun wN uU uQ=>?_;cases uQ;exact (rl 2 [0] 11 call164 (ztZ uU) rgg)
   cases uQ;exact rgg
  obtain rfl:=(sj h);exact zG lzz
 refine jp (jI h ?_ ?_)<;>intro vh h
 ·cases h;exact jz
 refine jp (jI h ?_ ?_)<;>intro vq h
 ·refine jb h fun g2 va h=>jg [] [] [(6,kB g2)] ?_ ?_
  ·refine (rsI 6 49 va ?_ ?_)<;>intro vu va
   ·refine jb va fun wQ u0 va=>?_;cases va;exact (rl 5 [0] 11 call165 (vO u0) rgg)
   cases va;exact rgg
  obtain rfl:=(sj h);exact zG lzz
 refine zam (jb h fun g3 vk h=>jg [] [] [(6,kB g3)] ?_ ?_)
 ·refine (rsI 6 62 vk ?_ ?_)<;>intro vx vk
  ·refine jb vk fun ke vj vk=>?_;cases vk;exact (rl 4 [0] 11 call166 (zpD vj) rgg)
  cases vk;exact rgg
 obtain rfl:=(sj h);exact zG lzz
theorem zry (vO:∀{sv:(List ze)} {uS:Int} {l:(List zd)} {r:Bool},xq sv uS l=some r->wL 165 [.sl zf [0] sv,kI uS,.sl zm [0] l] [kB r]) (vP:∀{f:za} {sv:(List ze)} {v:zb} {r:Bool},xe f sv v=some r->wL 129 [.rc zc [0] f,.sl zf [0] sv,.rc zk [0] v] [kB r]) (vQ:∀{sv:(List ze)} {uS:Int} {x:zd} {r:Bool},xk sv uS x=some r->wL 98 [.sl zf [0] sv,kI uS,.rc zm [0] x] [kB r]) (h:zfH xq xe xk sv uS x=some r):wL 98 [.sl zf [0] sv,kI uS,.rc zm [0] x] [kB r]:=by
 refine fi 67 func98 fun Xt=>?_
 unfold zfH at h;refine jr (rc 0 rfl (lbx 11 [0] (zbd [0] x)) rf) (jb h fun x2 vd h=>jr (rx 2 [0] znp.el vd rfl rfl (rc 0 rfl (lde zf [0] x2 zyA) (ral 1 [12] [.ptr 12 0,.rc zf [0] x2] rfl (zgB (r:=zf) (b:=⟨12,62,[kS [],kN]⟩) (off:=0) (zW [0] x2) rfl sizeOf62 rfl rfl rfl rfl) rfl rf))) (jp (jp (zx (jb h fun q uW h=>jL uW [0,5,7,20,21] [11,12] (fun s=>[(8,kI s.1),(22,kI s.2)]) (fun| (.inl v_)=> .X 0 [5,7] [11,12] [] []| (.inr v_)=> .r ⟨[(6,kB false)],[]⟩) ?_ lzz ?_)))))
 ·clear h;intro s o h;obtain ⟨last,v⟩:=s;replace h:zcp xe sv x x2 last v=some o:=h;unfold zcp at h;refine jp (jI h ?_ ?_)<;>intro uP h
  ·refine zx (jb h fun x3 vn h=>jr (rx 0 [0] zxT.el vn rfl rfl (rc 0 rfl (lde zk [0] x3 zoE) (ral 1 [14] [.ptr 14 0,.rc zk [0] x3] rfl (zgB (r:=zk) (b:=⟨14,133,[kI 0,kN,kN,kN]⟩) (off:=0) (zX [0] x3) rfl sizeOf133 rfl rfl (by rw [zan]<;>rfl) rfl) rfl rf))) (jb h fun rv uR h=>jr (rl 3 [0] 13 call68 (zhK uR) rf) (jb h fun g uQ h=>jn (.N [0,5,7,10,20,21,22] [11,12,14] [(51,kB g)] []) ?_ (ziq ?_))))
   ·rcases zoS uQ with ⟨uT,uQ⟩| ⟨uT,uQ⟩
    ·cases uQ;exact jd [0,5,7,10,20,21,22,51] [11,12,14] zee (by exact (lwn 2 (dg 34 uT l0))) (zaJ lzz)
    rcases zoS uQ with ⟨uV,uQ⟩| ⟨uV,uQ⟩
    ·cases uQ;exact jd [0,5,7,10,20,21,22,51] [11,12,14] zee (by exact (lwn 2 (dg 34 uT (lwn 5 (dg 40 uV l0))))) (zaJ lzz)
    refine jb uQ fun x4 vp uQ=>jb uQ fun wN uU uQ=>?_;cases uQ;exact jd [0,5,7,10,20,21,22,51] [11,12,14] zee (by exact (lwn 2 (dg 34 uT (lwn 5 (dg 40 uV (lwn 3 (di [0] zoq.el vp (lx (lde zc [0] x4 zoe) (lw_e (lx (ldw 14 133 (zX [0] x3) zoE) (lx (lf1 129 (lw0 13 call129 (vP uU) (.k (.k (.l (zbY [0] x3)))))) l0))))))))))) (zaJ lzz)
   refine jI h ?_ ?_<;>intro uY h
   ·cases h;exact jz'
   refine jp (zam ?_);cases h;exact jy
  cases h;exact zaI rfl lzz
 rcases q with u| u4
 ·refine zbo _ rfl (jp (zx (jb h fun q2 vl h=>jL vl [7,56,57] [12] (fun s=>[(58,kI s)]) (fun| (.inl v_)=> .x 2 ⟨[],[]⟩| (.inr v_)=> .r ⟨[(6,kB false)],[]⟩) ?_ lzz ?_)))
  ·clear h;intro v3 o h;unfold zdh at h;refine jp (jI h ?_ ?_)<;>intro ve h
   ·refine zx (jb h fun x5 vz h=>jr (rx 0 [0] zqZ.el vz rfl rfl rf) (jb h fun wQ u0 h=>jr (rl 2 [0] 14 call130 (zsR u0) rf) (jI h ?_ ?_)))<;>intro vh h
    ·cases h;exact jz'
    refine zam ?_;cases h;exact jy
   cases h;exact zaI rfl lzz
  rcases q2 with u2| u3
  ·refine zbo _ rfl (jp ?_);obtain rfl:=(sj h);exact zG lzz
  obtain rfl:=(sj h);exact zgz lzz
 obtain rfl:=(sj h);exact zgz lzz
theorem zik (uX:Nat):(∀{sv:(List ze)} {uS:Int} {l:(List zd)} {r:Bool},zfE uX sv uS l=some r->wL 165 [.sl zf [0] sv,kI uS,.sl zm [0] l] [kB r])/\(∀{f:za} {sv:(List ze)} {v:zb} {r:Bool},zic uX f sv v=some r->wL 129 [.rc zc [0] f,.sl zf [0] sv,.rc zk [0] v] [kB r])/\(∀{sv:(List ze)} {uS:Int} {x:zd} {r:Bool},zdg uX sv uS x=some r->wL 98 [.sl zf [0] sv,kI uS,.rc zm [0] x] [kB r]):=by
  induction uX with
  | zero=>exact ⟨fun h=>absurd h nofun,fun h=>absurd h nofun,fun h=>absurd h nofun⟩
  | succ uX ih=>exact ⟨fun h=>zpE (fun hh=>ih.1 hh) (fun hh=>ih.2.1 hh) (fun hh=>ih.2.2 hh) h,fun h=>zym (fun hh=>ih.1 hh) (fun hh=>ih.2.1 hh) (fun hh=>ih.2.2 hh) h,fun h=>zry (fun hh=>ih.1 hh) (fun hh=>ih.2.1 hh) (fun hh=>ih.2.2 hh) h⟩
theorem zsQ (h:zdg uX sv uS x=some r):wL 98 [.sl zf [0] sv,kI uS,.rc zm [0] x] [kB r]:=(zik uX).2.2 h
theorem zyb (h:zlb vg size=some r):wL 138 [kI vg,kI size] [.own Rp.byte 5 2 [] r]:=by
 refine fi 23 func138 fun Xt=>?_
 unfold zlb at h;refine jp (jb h fun rv uR h=>jr (rl 1 [1] 10 call179 (FnOk.le (km:=[kN,kI vg,kN]) (zqT uR) ⟨zeW _ _,wM _,zeW _ _,trivial⟩) rf) (jb h fun wN uU h=>jr (rl 2 [1] 11 call175 (zmq uU) rf) (jb h fun v vc h=>jb h fun v2 vi h=>jr (ra 4 [.own Rp.byte 5 12 [] rv,kI (IntKind.i64.wrap ((rv.length:Int) - 1))] rfl (zAD rfl zcd.el vc) rfl (rc 1 rfl (lao 12 [] 5 13 [] [] zcd.el vi (.inl zeK)) rf)) ?_)));obtain rfl:=(sj h);exact zG (lks [] [(12,2)] lzz)
theorem zor (h:zeG wv f l=some r):zht prog 102 [.ptr 800000 0,.rc zc [0] f,.sl wK [0] l] [] [⟨800000,98,(zr 800001 [0] wv)⟩] [800000] [⟨800000,98,(zr 800001 [0,2,3,4,5,6] r)⟩]:=by
 refine zkI (E:=⟨[(0,.ptr 800000 0)],[⟨800000,98,(zr 800001 [0,2,3,4,5,6] r)⟩]⟩) 30 [0] [(0,800000)] func102 rfl rfl rfl trivial ⟨⟨rfl,rfl,rfl⟩,trivial⟩ ⟨rfl,trivial⟩ (fun Xt old=>?_);refine zbe ?_;unfold zeG at h;refine jq [17] (jb h fun rv uR h=>jr (rl 3 [0] 16 call135 (zuE uR) rf) (jp (jI h ?_ ?_)))<;>intro uP h
 ·refine jb h fun wN uU h=>jr (ra 4 [.ptr 800000 0,kI f.Number,kI 2,.own Rp.byte 5 18 [] rv.1] rfl (zgj (args:=[.tmp 17,.tmp 19,.const (.int .i64 2),.tmp 20]) [.ptr 800000 0,kI f.Number,kI 2,.own Rp.byte 5 18 [] rv.1] [⟨800000,98,(zr 800001 [0] wv)⟩] [(800000,800000),(800001,800001)] [0,18] 17 [800001] rfl call103 (zfS uU) rfl rfl rfl rfl rfl rfl rfl rfl) rfl rf) ?_;obtain rfl:=(sj h);exact zdc (lks [800000] [(18,6),(19,6),(20,6)] lw)
 refine jb h fun wQ u0 h=>jb h fun ke vj h=>jd [0] [800000] zee (by exact (lwn 5 (lx (lf1 136 (lcd [kI f.Kind] 19 call136 (zyc u0))) (lw_e (ly [.lf (.val (.func (.func 103) #[] #[])),.ptr 800000 0,kI f.Number,kI wQ,.own Rp.byte 5 18 [] rv.1] (lf1 103 (zgj (args:=[.tmp 22,.tmp 24,.tmp 27,.tmp 28]) [.ptr 800000 0,kI f.Number,kI wQ,.own Rp.byte 5 18 [] rv.1] [⟨800000,98,(zr 800001 [0] wv)⟩] [(800000,800000),(800001,800001)] [0,18] 19 [800001] rfl call103 (zfS vj) rfl rfl rfl rfl rfl rfl rfl rfl)) rfl l0))))) ?_;obtain rfl:=(sj h);exact zyY (lks [800000] [(18,6),(21,6),(22,6)] lw)
theorem zqW (h:zju sv vb d=some r):wL 76 [.sl zf [0] sv,kI vb,kI d] [k8 r]:=by
 refine fi 28 func76 fun Xt=>?_
 unfold zju at h;refine jp (zx (jb h fun rv uR h=>jr (rl 1 [0] 9 call67 (zol uR) rf) (jI h ?_ ?_)))<;>intro uP h
 ·cases h;exact jz
 refine jg [] [] [(11,kB ((decide (vb<0))|| ((decide (vb>=(sv.length:Int)))|| ((decide (d<0))|| (decide (d>64))))))] ?_ ?_
 ·refine (rsl 3 [] 14 (decide (vb<0)) ?_ ?_)<;>intro uT
  · exact (rbl [] 11 true rfl (by grind))
  refine (rsl 6 [] 20 (decide (vb>=(sv.length:Int))) ?_ ?_)<;>intro uV
  · exact (rbl [] 11 true rfl (by grind))
  refine (rsl 4 [] 24 (decide (d<0)) ?_ ?_)<;>intro uY
  · exact (rbl [] 11 true rfl (by grind))
  exact (rbl [] 11 (decide (d>64)) rfl (by grind))
 refine jI h ?_ ?_<;>intro ve h
 ·cases h;exact jz
 refine zam ?_;cases h;exact jz
theorem zrB (h:zgn wv uS u9 tov=some r):zhP prog 109 [.ag [.sl zf [0] wv.s,.sl Rp.byte [0] wv.b,.om zq zj 2 [0] wv.met],kI uS,kI u9,kI tov] [.rc zj [] r.1,k8 r.2.1] [.ag [.any,.any,.om zq zj 2 [0] r.2.2],.any,.any,.any]:=by
 refine zjg (E:=⟨[(0,.ag [.any,.any,.om zq zj 2 [0] r.2.2]),(8,.ptr 3 0),(9,k8 r.2.1)],[⟨3,68,(zcj r.1)⟩]⟩) 67 [0] func109 rfl rfl rfl ⟨⟨_,_,rfl,rfl,rfl,rfl,zul⟩,rfl,trivial⟩ ⟨.inr ⟨rfl,rfl⟩,.inl rfl,.inl rfl,.inl rfl,trivial⟩ rfl (fun Xt old=>?_);refine zbe ?_;unfold zgn at h;refine jq [13,14] (jb h fun v vc h=>jr (ra 3 [.sl Rp.byte [0] wv.b,kI tov] rfl (zgA none (some (kI tov)) rfl zcd.el (zbI _ _ _) ⟨rfl,rfl⟩ ⟨rfl,rfl⟩ vc) rfl rf) (jb h fun rv uR h=>jr (rl 2 [0] 13 call111 (zgM uR) (rfl' [15])) (jp (jI h ?_ ?_))))<;>intro uP h
 ·refine jr (rc 0 rfl (zaj (r:=zj) [] [] (⟨(⟨0,0,0,0,0⟩:zt),0,false⟩:zg) rfl zDg rfl rfl) rf) ?_;cases h;exact zdc (lks [14] [(14,3)] lw)
 refine jr (rc 5 rfl (zaj (r:=zq) [kI uS,kI rv.1.Number,kI rv.1.Wire] [] (⟨uS,rv.1.Number,rv.1.Wire⟩:zo) rfl zNQ rfl rfl) (rfl' [16])) (jr (lb 2 zq [] (⟨uS,rv.1.Number,rv.1.Wire⟩:zo) (ra 0 [.om zq zj 2 [0] wv.met,.rc zq [] (⟨uS,rv.1.Number,rv.1.Wire⟩:zo)] rfl (zqb (rk:=zq) (rv:=zj) (m:=wv.met) (k:=(⟨uS,rv.1.Number,rv.1.Wire⟩:zo)) (.rc zj [0] ((mget wv.met (⟨uS,rv.1.Number,rv.1.Wire⟩:zo)).getD (⟨(⟨0,0,0,0,0⟩:zt),0,false⟩:zg))) rfl zGf (zcv rfl) (zAs rfl)) rfl (rfl' [17]))) (jp (jI h ?_ ?_)))<;>intro uT h
 ·refine jb h fun x uZ h=>jb h fun wN uU h=>jr (rx 3 [0] znp.el uZ rfl rfl (rc 0 rfl (lde zf [0] x zyA) (rl 2 [0] 16 call112 (zta uU) rf))) (jp (jI h ?_ ?_))<;>intro uV h
  ·refine jr (rc 0 rfl (zaj (r:=zj) [] [] (⟨(⟨0,0,0,0,0⟩:zt),0,false⟩:zg) rfl zDg rfl rfl) rf) ?_;cases h;exact zdc (lks [14] [(14,3)] lw)
  refine jr (lb 2 zq [] (⟨uS,rv.1.Number,rv.1.Wire⟩:zo) (lb 0 zj [] wN.1 (rms (C1:=[]) (D:=[]) 0 [] 2 [0] wv.met (⟨uS,rv.1.Number,rv.1.Wire⟩:zo) wN.1 [0] zGf (zcv rfl) (zcv rfl) rf))) (jr (lb 0 zU [] rv.1 rf) (jr (lb 0 zj [] (⟨rv.1,wN.1.Field,wN.1.Run⟩:zg) rf) ?_));cases h;exact zdc (lks [14] [(14,3)] lw)
 refine jr (lb 0 zU [] rv.1 rf) (jr (lb 0 zj [] (⟨rv.1,((mget wv.met (⟨uS,rv.1.Number,rv.1.Wire⟩:zo)).getD (⟨(⟨0,0,0,0,0⟩:zt),0,false⟩:zg)).Field,((mget wv.met (⟨uS,rv.1.Number,rv.1.Wire⟩:zo)).getD (⟨(⟨0,0,0,0,0⟩:zt),0,false⟩:zg)).Run⟩:zg) rf) ?_);cases h;exact zdc (lks [14] [(14,3)] lw)
theorem zAY (h:zmX k b=some r):wL 180 [kI k,.sl Rp.byte [0] b] [kI r.1,k8 r.2]:=by
 refine zyN (E:=⟨[(4,.ptr 2 0),(5,.ptr 3 0)],[⟨2,3,[kI r.1]⟩,⟨3,27,[k8 r.2]⟩]⟩) 20 func180 rfl rfl rfl ⟨⟨_,_,rfl,rfl,rfl,rfl⟩,⟨_,_,rfl,rfl,rfl,rfl⟩,trivial⟩ rfl rfl (fun Xt=>?_);refine zbe ?_;unfold zmX at h;refine jq [13,14] (jq [15] (jb h fun rv uR h=>jr (rl 2 [0] 0 call162 (zqU uR) rf) (zx (jb h fun q uW h=>zoT (E':=⟨[(4,.ptr 13 0),(5,.ptr 14 0),(6,.ptr 15 0),(11,.fv 199 [.bp wI 3 919900 [] rv.1,.bp (Rp.list Rp.byte) 24 919901 [0] rv.2])],[⟨13,3,[kI 0]⟩,⟨14,27,[k8 0]⟩,⟨15,3,[kI 0]⟩]⟩) ?_ ?_))))
 · exact lzz
 refine zCl (it:=fun {σ:Type} (kf:Rnd σ ((List UInt8)×Int)) (sg:σ)=>zet rv.1 rv.2 kf sg) (zoj rv.1 rv.2) [919900,919901] [4,5,6] [13,14,15] [(4,.ptr 13 0),(5,.ptr 14 0),(6,.ptr 15 0)] (fun s:Int=>[⟨13,3,[kI 0]⟩,⟨14,27,[k8 0]⟩,⟨15,3,[kI s]⟩]) (fun o:(Int×Int)=>[⟨13,3,[kI 0]⟩,⟨14,27,[k8 o.1]⟩,⟨15,3,[kI o.2]⟩]) (fun o:(Int×Int)=> .ret) (fun (s:Int) (x:((List UInt8)×Int))=>zfg s x.1 x.2) (fun (s:Int) (x:((List UInt8)×Int))=>⟨[(4,.ptr 13 0),(5,.ptr 14 0),(6,.ptr 15 0),(8,k8 x.2)],[⟨13,3,[kI 0]⟩,⟨14,27,[k8 0]⟩,⟨15,3,[kI s]⟩]⟩) rfl rfl call199 rfl rfl rfl rfl rfl rfl (fun _=>rfl) (fun o=>rfl) rfl rfl (fun _=>rfl) ?_ (fun _ _=>⟨rfl,rfl⟩) ?_ uW ?_
 ·clear h;intro Xr old f x;obtain ⟨x,x2⟩:=x;exact zbe (zoT (E':=⟨[(13,k8 x2),(12,.sl Rp.byte [0] x),(4,.ptr 13 0),(5,.ptr 14 0),(6,.ptr 15 0)],[⟨13,3,[kI 0]⟩,⟨14,27,[k8 0]⟩,⟨15,3,[kI f]⟩]⟩) (fun _ _ _ hs=>hs) jy)
 ·clear h;intro Xr old f x o h;obtain ⟨x,x2⟩:=x;refine zbe (zoT (E':=⟨[(4,.ptr 13 0),(5,.ptr 14 0),(6,.ptr 15 0),(8,k8 x2)],[⟨13,3,[kI 0]⟩,⟨14,27,[k8 0]⟩,⟨15,3,[kI f]⟩]⟩) (fun _ _ _ hs=>hs) ?_);replace h:zfg f x x2=some o:=h;unfold zfg at h;refine zx (jp (jI h ?_ ?_))<;>intro uP h
  ·refine jp ?_;cases h;exact zFM lzz
  refine jp (zam ?_);cases h;exact zaJ lzz
 rcases q with u| j
 ·refine zoT (E':=⟨[(4,.ptr 13 0),(5,.ptr 14 0),(6,.ptr 15 0)],[⟨13,3,[kI 0]⟩,⟨14,27,[k8 0]⟩,⟨15,3,[kI u]⟩]⟩) (fun _ _ _ hs=>hs) (zam (jp ?_));cases h;exact zG (lks [13,14] [(13,2),(14,3)] lzz)
 refine zoT (E':=⟨[(4,.ptr 13 0),(5,.ptr 14 0),(6,.ptr 15 0)],[⟨13,3,[kI 0]⟩,⟨14,27,[k8 j.1]⟩,⟨15,3,[kI j.2]⟩]⟩) (fun _ _ _ hs=>hs) ?_;cases h;exact zG (lks [13,14] [(13,2),(14,3)] lzz)
theorem zsn (h:zgI wv uS b u9=some r):zhP prog 78 [.ag [.sl zf [0] wv.s,.om zh wI 2 [0] wv.met],kI uS,.sl Rp.byte [0] b,kI u9] [.rc zU [] r.1,kI r.2.1] [.ag [.any,.om zh wI 2 [0] r.2.2],.any,.any,.any]:=by
 refine zjg (E:=⟨[(0,.ag [.any,.om zh wI 2 [0] r.2.2]),(8,.ptr 3 0),(9,kI r.2.1)],[⟨3,66,(zbF r.1)⟩]⟩) 55 [0] func78 rfl rfl rfl ⟨⟨_,_,rfl,rfl,rfl,rfl,zIt⟩,rfl,trivial⟩ ⟨.inr ⟨rfl,rfl⟩,.inl rfl,.inl rfl,.inl rfl,trivial⟩ rfl (fun Xt old=>?_);refine zbe ?_;unfold zgI at h;refine jq [13,14] (jb h fun rv uR h=>jr (rl 2 [0] 13 call111 (zgM uR) (rfl' [15])) (jr (rc 3 rfl (zaj (r:=zh) [kI uS,kI rv.1.Number] [] (⟨uS,rv.1.Number⟩:zi) rfl zKt rfl rfl) (rfl' [16])) (jr (lb 2 zh [] (⟨uS,rv.1.Number⟩:zi) (ra 0 [.om zh wI 2 [0] wv.met,.rc zh [] (⟨uS,rv.1.Number⟩:zi)] rfl (zqb (rk:=zh) (rv:=wI) (m:=wv.met) (k:=(⟨uS,rv.1.Number⟩:zi)) (kI ((mget wv.met (⟨uS,rv.1.Number⟩:zi)).getD 0)) rfl zAF (zcv rfl) (zrM rfl rfl rfl)) rfl rf)) (jp (jI h ?_ ?_)))))<;>intro uP h
 ·refine jb h fun x uZ h=>jb h fun wN uU h=>jr (rx 3 [0] znp.el uZ rfl rfl (rc 0 rfl (lde zf [0] x zyA) (rl 2 [0] 15 call112 (zta uU) (rfl' [17])))) (jp (jr (lb 2 zh [] (⟨uS,rv.1.Number⟩:zi) (rms (C1:=[]) 1 [] 2 [0] wv.met (⟨uS,rv.1.Number⟩:zi) wN.1.Field [0] zAF (zcv rfl) (zdx rfl rfl) rf)) (jr (lb 0 zU [] rv.1 rf) ?_)));cases h;exact zdc (lks [14] [(14,3)] lw)
 refine jr (lb 0 zU [] rv.1 rf) ?_;cases h;exact zdc (lks [14] [(14,3)] lw)
theorem zsB (h:zkR k b=some r):wL 128 [kI k,.sl Rp.byte [0] b] [.own wK 90 3 [] r.1,k8 r.2]:=by
 refine zyN (E:=⟨[(4,.ptr 2 0),(5,.ptr 4 0)],[⟨2,76,[.own wK 90 3 [] r.1]⟩,⟨4,27,[k8 r.2]⟩]⟩) 30 func128 rfl rfl rfl ⟨⟨_,_,rfl,rfl,rfl,rfl⟩,⟨_,_,rfl,rfl,rfl,rfl⟩,trivial⟩ rfl rfl (fun Xt=>?_);refine zbe ?_;unfold zkR at h;refine jq [18,19,20] (jq [21] (jb h fun rv uR h=>jr (rl 2 [0] 0 call162 (zqU uR) rf) (zx (jb h fun q uW h=>zoT (E':=⟨[(2,.ptr 18 0),(4,.ptr 19 0),(5,.ptr 20 0),(6,.ptr 21 0),(13,.fv 199 [.bp wI 3 919900 [] rv.1,.bp (Rp.list Rp.byte) 24 919901 [0] rv.2])],[⟨18,3,[kI k]⟩,⟨19,76,[kN]⟩,⟨20,27,[k8 0]⟩,⟨21,76,[.own wK 90 24 [] []]⟩]⟩) ?_ ?_))))
 · exact lw
 refine zCl (it:=fun {σ:Type} (kf:Rnd σ ((List UInt8)×Int)) (sg:σ)=>zet rv.1 rv.2 kf sg) (zoj rv.1 rv.2) [919900,919901] [2,4,5,6] [18,19,20,21] [(2,.ptr 18 0),(4,.ptr 19 0),(5,.ptr 20 0),(6,.ptr 21 0)] (fun s:(List Int)=>[⟨18,3,[kI k]⟩,⟨19,76,[kN]⟩,⟨20,27,[k8 0]⟩,⟨21,76,[.own wK 90 24 [] s]⟩]) (fun o:(Int×(List Int))=>[⟨18,3,[kI k]⟩,⟨19,76,[kN]⟩,⟨20,27,[k8 o.1]⟩,⟨21,76,[.own wK 90 24 [] o.2]⟩]) (fun o:(Int×(List Int))=> .ret) (fun (s:(List Int)) (x:((List UInt8)×Int))=>zdM k s x.1 x.2) (fun (s:(List Int)) (x:((List UInt8)×Int))=>⟨[(2,.ptr 18 0),(4,.ptr 19 0),(5,.ptr 20 0),(6,.ptr 21 0),(7,.sl Rp.byte [0] x.1),(8,k8 x.2)],[⟨18,3,[kI k]⟩,⟨19,76,[kN]⟩,⟨20,27,[k8 0]⟩,⟨21,76,[.own wK 90 24 [] s]⟩]⟩) rfl rfl call199 rfl rfl rfl rfl rfl rfl (fun _=>rfl) (fun o=>rfl) rfl rfl (fun _=>rfl) ?_ (fun _ _=>⟨rfl,rfl⟩) ?_ uW ?_
 ·clear h;intro Xr old f x;obtain ⟨x,x2⟩:=x;exact zbe (zoT (E':=⟨[(15,k8 x2),(14,.sl Rp.byte [0] x),(2,.ptr 18 0),(4,.ptr 19 0),(5,.ptr 20 0),(6,.ptr 21 0)],[⟨18,3,[kI k]⟩,⟨19,76,[kN]⟩,⟨20,27,[k8 0]⟩,⟨21,76,[.own wK 90 24 [] f]⟩]⟩) (fun _ _ _ hs=>hs) (jp jy))
 ·clear h;intro Xr old f x o h;obtain ⟨x,x2⟩:=x;refine zbe (zoT (E':=⟨[(2,.ptr 18 0),(4,.ptr 19 0),(5,.ptr 20 0),(6,.ptr 21 0),(7,.sl Rp.byte [0] x),(8,k8 x2)],[⟨18,3,[kI k]⟩,⟨19,76,[kN]⟩,⟨20,27,[k8 0]⟩,⟨21,76,[.own wK 90 24 [] f]⟩]⟩) (fun _ _ _ hs=>hs) ?_);replace h:zdM k f x x2=some o:=h;unfold zdM at h;refine zx (jp (jI h ?_ ?_))<;>intro uP h
  ·refine jp ?_;cases h;exact zFM lzz
  refine jb h fun wN uU h=>jr (rl 2 [0] 23 call163 (zxp uU) rf) (jb h fun v vc h=>jr (rc 2 rfl (zkg [kU wN.1] 25 [] ([wN.1]:(List Int)) rfl zxU rfl rfl rfl rfl) (rc 0 rfl (lao 24 [] 90 25 [] [] zxU.el vc (.inl (zzq _))) rf)) (zam ?_));cases h;exact zaJ lzz
 rcases q with u| j
 ·refine zoT (E':=⟨[(2,.ptr 18 0),(4,.ptr 19 0),(5,.ptr 20 0),(6,.ptr 21 0)],[⟨18,3,[kI k]⟩,⟨19,76,[kN]⟩,⟨20,27,[k8 0]⟩,⟨21,76,[.own wK 90 24 [] u]⟩]⟩) (fun _ _ _ hs=>hs) (zam (jp ?_));cases h;exact zG (lks [19,20] [(19,2),(20,4),(24,3)] lzz)
 refine zoT (E':=⟨[(2,.ptr 18 0),(4,.ptr 19 0),(5,.ptr 20 0),(6,.ptr 21 0)],[⟨18,3,[kI k]⟩,⟨19,76,[kN]⟩,⟨20,27,[k8 j.1]⟩,⟨21,76,[.own wK 90 24 [] j.2]⟩]⟩) (fun _ _ _ hs=>hs) ?_;cases h;exact zG (lks [19,20] [(19,2),(20,4)] lw)
theorem zmh (vR:∀{wv:zn} {sv:(List ze)} {uS:Int} {x:zd} {r:zn},xr wv sv uS x=some r->zht prog 43 [.ptr 800000 0,.sl zf [0] sv,kI uS,.rc zm [0] x] [] [⟨800000,98,(zr 800001 [0] wv)⟩] [800000] [⟨800000,98,(zr 800001 [0,2] r)⟩]) (vS:∀{wv:zn} {sv:(List ze)} {f:za} {x:zd} {r:zn},xf wv sv f x=some r->zht prog 104 [.ptr 800000 0,.sl zf [0] sv,.rc zc [0] f,.rc zm [0] x] [] [⟨800000,98,(zr 800001 [0] wv)⟩] [800000] [⟨800000,98,(zr 800001 [0,2] r)⟩]) (vT:∀{wv:zn} {sv:(List ze)} {f:za} {v:zb} {r:zn},xg wv sv f v=some r->zht prog 69 [.ptr 800000 0,.sl zf [0] sv,.rc zc [0] f,.rc zk [0] v] [] [⟨800000,98,(zr 800001 [0] wv)⟩] [800000] [⟨800000,98,(zr 800001 [0,2] r)⟩]) (h:zcV xr xf xg wv sv uS x=some r):zht prog 43 [.ptr 800000 0,.sl zf [0] sv,kI uS,.rc zm [0] x] [] [⟨800000,98,(zr 800001 [0] wv)⟩] [800000] [⟨800000,98,(zr 800001 [0,2] r)⟩]:=by
 refine zkI (E:=⟨[(0,.ptr 800000 0)],[⟨800000,98,(zr 800001 [0,2] r)⟩]⟩) 55 [0] [(0,800000)] func43 rfl rfl rfl trivial ⟨⟨rfl,rfl,rfl⟩,trivial⟩ ⟨rfl,trivial⟩ (fun Xt old=>?_);refine zbe ?_;unfold zcV at h;refine jr (rc 0 rfl (lbx 21 [0] (zbd [0] x)) rf) (jb h fun x2 vd h=>jr (rx 2 [0] znp.el vd rfl rfl (rc 0 rfl (lde zf [0] x2 zyA) (ral 1 [22] [.ptr 22 0,.rc zf [0] x2] rfl (zgB (r:=zf) (b:=⟨22,62,[kS [],kN]⟩) (off:=0) (zW [0] x2) rfl sizeOf62 rfl rfl rfl rfl) rfl rf))) (jp (zx (jb h fun q uW h=>jl uW [0,1,7,8,20,21] [21,22] (fun s=>[(22,kI s.1)]) (fun s=>[⟨800000,98,[.own (Rp.list Rp.byte) 24 800001 [0,23] s.2.1,kI s.2.2]⟩]) (fun o=> .X 0 [0,7] [21] [] [⟨800000,98,[.own (Rp.list Rp.byte) 24 800001 [0,23] o.1,kI o.2]⟩]) ?_ lw ?_))))
 ·clear h;intro s o h;obtain ⟨v,f,f2⟩:=s;replace h:zbw xg sv x x2 v f f2=some o:=h;unfold zbw at h;refine jp (jI h ?_ ?_)<;>intro uP h
  ·refine zx (jb h fun x3 vn h=>jr (rx 0 [0] zxT.el vn rfl rfl (rc 0 rfl (lde zk [0] x3 zoE) (ral 1 [28] [.ptr 28 0,.rc zk [0] x3] rfl (zgB (r:=zk) (b:=⟨28,133,[kI 0,kN,kN,kN]⟩) (off:=0) (zX [0] x3) rfl sizeOf133 rfl rfl (by rw [zan]<;>rfl) rfl) rfl rf))) (jb h fun rv uR h=>jr (rl 3 [0] 27 call68 (zhK uR) rf) (jb h fun x4 vp h=>jb h fun wN uU h=>jd [0,1,7,8,20,21,22] [800000,21,22] zee (by exact (lwn 5 (di [0] zoq.el vp (lx (lde zc [0] x4 zoe) (lx (ldw 28 133 (zX [0] x3) zoE) (lx (lf1 69 (zB.le (km:=[(.tmp 33,.ptr 800000 0),(.tmp 34,.sl zf [0] sv),(.tmp 39,.rc zc [0] x4),(.tmp 40,.ag (zX [0] x3))]) (zgj (args:=[.tmp 33,.tmp 34,.tmp 39,.tmp 40]) [.ptr 800000 0,.sl zf [0] sv,.rc zc [0] x4,.rc zk [0] x3] [⟨800000,98,[.own (Rp.list Rp.byte) 24 800001 [0,23] f,kI f2]⟩] [(800000,800000),(800001,800001)] [0,23] 27 [800001] rfl call69 (vT uU) rfl rfl rfl rfl rfl rfl rfl rfl) ⟨⟨rfl,wM _⟩,⟨rfl,wM _⟩,⟨rfl,wM _⟩,⟨rfl,zbY [0] x3⟩,trivial⟩)) l0)))))) (zam (jp ?_)))));cases h;exact zaJ (lks [800000,21,22] [(29,23)] lw)
  cases h;exact zaI rfl lzz
 refine zbo _ rfl (jp (zx (jb h fun q2 vl h=>jl vl [0,44,45] [] (fun s=>[(46,kI s.1)]) (fun s=>[⟨800000,98,[.own (Rp.list Rp.byte) 24 800001 [0,23,30] s.2.1,kI s.2.2]⟩]) (fun o=> .X 2 [0] [] [] [⟨800000,98,[.own (Rp.list Rp.byte) 24 800001 [0,23,30] o.1,kI o.2]⟩]) ?_ lw ?_)))
 ·clear h;intro s o h;obtain ⟨v2,f5,f6⟩:=s;replace h:zbx x v2 f5 f6=some o:=h;unfold zbx at h;refine jp (jI h ?_ ?_)<;>intro uT h
  ·refine zx (jb h fun x5 vz h=>jr (rx 0 [0] zqZ.el vz rfl rfl rf) (jb h fun v3 vf h=>jb h fun wQ u0 h=>jr (ra 2 [kS x5] rfl (zvr 35 rfl underlying9 underlying24 underlying5 vf) rfl (ra 0 [.ptr 800000 0,.sl Rp.byte [35] v3] rfl (zgj (args:=[.tmp 50,.tmp 52]) [.ptr 800000 0,.sl Rp.byte [35] v3] [⟨800000,98,[.own (Rp.list Rp.byte) 24 800001 [0,23,30] f5,kI f6]⟩] [(800000,800000),(800001,800001)] [0,23,30,35] 34 [800001] rfl call70 (zgy u0) rfl rfl rfl rfl rfl rfl rfl rfl) rfl rf)) (zam (jp ?_))));cases h;exact zaJ (lks [800000] [(35,30),(36,30)] lw)
  cases h;exact zaI rfl lzz
 refine zbo _ rfl ?_;cases h;exact zyY (lks [800000] [(23,2),(30,2)] lw)
theorem zoI (vR:∀{wv:zn} {sv:(List ze)} {uS:Int} {x:zd} {r:zn},xr wv sv uS x=some r->zht prog 43 [.ptr 800000 0,.sl zf [0] sv,kI uS,.rc zm [0] x] [] [⟨800000,98,(zr 800001 [0] wv)⟩] [800000] [⟨800000,98,(zr 800001 [0,2] r)⟩]) (vS:∀{wv:zn} {sv:(List ze)} {f:za} {x:zd} {r:zn},xf wv sv f x=some r->zht prog 104 [.ptr 800000 0,.sl zf [0] sv,.rc zc [0] f,.rc zm [0] x] [] [⟨800000,98,(zr 800001 [0] wv)⟩] [800000] [⟨800000,98,(zr 800001 [0,2] r)⟩]) (vT:∀{wv:zn} {sv:(List ze)} {f:za} {v:zb} {r:zn},xg wv sv f v=some r->zht prog 69 [.ptr 800000 0,.sl zf [0] sv,.rc zc [0] f,.rc zk [0] v] [] [⟨800000,98,(zr 800001 [0] wv)⟩] [800000] [⟨800000,98,(zr 800001 [0,2] r)⟩]) (h:zeF xr xf xg wv sv f x=some r):zht prog 104 [.ptr 800000 0,.sl zf [0] sv,.rc zc [0] f,.rc zm [0] x] [] [⟨800000,98,(zr 800001 [0] wv)⟩] [800000] [⟨800000,98,(zr 800001 [0,2] r)⟩]:=by
 refine zkI (E:=⟨[(0,.ptr 800000 0)],[⟨800000,98,(zr 800001 [0,2] r)⟩]⟩) 57 [0] [(0,800000)] func104 rfl rfl rfl trivial ⟨⟨rfl,rfl,rfl⟩,trivial⟩ ⟨rfl,trivial⟩ (fun Xt old=>?_);refine zbe ?_;unfold zeF at h;refine jr (ral 1 [16] [.rc zm [0] x] rfl (zis 17 (zaK [0] x) [0] rfl rfl rfl (by rw [zaq]<;>rfl) rfl) rfl rf) (jd [0,1,6,7,8,9] [800000,16,17] zee (by exact l0) (jb h fun rv uR h=>jr (rc 1 rfl (zB.le (km:=[(.tmp 19,.ptr 800000 0),(.const (.slice none 0 0),kN)]) (zgj (args:=[.tmp 19,.const (.slice none 0 0)]) [.ptr 800000 0,.sl Rp.byte [] ([]:(List UInt8))] [⟨800000,98,(zr 800001 [0] wv)⟩] [(800000,800000),(800001,800001)] [0] 16 [800001] rfl call70 (zgy uR) rfl rfl rfl rfl rfl rfl rfl rfl) ⟨⟨rfl,wM _⟩,⟨rfl,zeW _ _⟩,trivial⟩) rf) (jb h fun wN uU h=>jr (rc 5 rfl (zB.le (km:=[(.tmp 21,.ptr 800000 0),(.tmp 22,.sl zf [0] sv),(.tmp 24,kI f.Of),(.tmp 25,.ag (zaK [0] x))]) (zgj (args:=[.tmp 21,.tmp 22,.tmp 24,.tmp 25]) [.ptr 800000 0,.sl zf [0] sv,kI f.Of,.rc zm [0] x] [⟨800000,98,(zr 800001 [0,18] rv)⟩] [(800000,800000),(800001,800001)] [0,18] 17 [800001] rfl call43 (vR uU) rfl rfl rfl rfl rfl rfl rfl rfl) ⟨⟨rfl,wM _⟩,⟨rfl,wM _⟩,⟨rfl,wM _⟩,⟨rfl,zaz [0] x⟩,trivial⟩) rf) (jb h fun wQ u0 h=>jb h fun x2 vd h=>jk [0,6,8,9] [800000,16] (zqa ⟨[(0,.ptr 800000 0),(8,kI (wv.pieces.length:Int))],[⟨800000,98,[.own (Rp.list Rp.byte) 24 800001 [0,18,19,20] (wN.pieces.set (Int.toNat (wv.pieces.length:Int)) wQ),kI wN.size]⟩]⟩ [.ev,.ev,.ev,.ev,.ev,.ev,.ev,.ev,.ev,.ev,.ev,.ev,.ev,.ex [] [] [20] (.own Rp.byte 5 20 [] wQ) [],.ex [] [] [] (.ptr 800001 (Int.toNat (wv.pieces.length:Int)*(Rp.list Rp.byte).size)) [],.raw [11,0,1,11,19] [800001] [] [.sl 30 (.own (Rp.list Rp.byte) 24 800001 [0,18,19,20] (wN.pieces.set (Int.toNat (wv.pieces.length:Int)) wQ)),.bx ⟨800000,98,[.own (Rp.list Rp.byte) 24 800001 [0,18,19,20] (wN.pieces.set (Int.toNat (wv.pieces.length:Int)) wQ),kI wN.size]⟩]] [⟨[(.func 138,.lf (.val (.func (.func 138) #[] #[]))),(.tmp 33,kI f.Number),(.tmp 39,kI (IntKind.i64.wrap (wN.size - wv.size)))],[],[]⟩,⟨[(.tmp 30,.own (Rp.list Rp.byte) 24 800001 [0,18,19] wN.pieces),(.tmp 31,kI (wv.pieces.length:Int))],[],[]⟩,⟨[],[],[.sl 30 (.own (Rp.list Rp.byte) 24 800001 [0,18,19] wN.pieces),.sl 41 (.ptr 800001 (Int.toNat (wv.pieces.length:Int)*(Rp.list Rp.byte).size)),.sl 40 (.own Rp.byte 5 20 [] wQ),.sl 30 (.own (Rp.list Rp.byte) 24 800001 [0,18,19] wN.pieces),.bx ⟨800000,98,(zr 800001 [0,18,19] wN)⟩]⟩] [0,8] [800000] zee (by kernel_rfl) (by exact (lwn 13 (lw_x (zB.cons _ (zlW (lcd [kI f.Number,kI (IntKind.i64.wrap (wN.size - wv.size))] 18 call138 (zyb u0)) rfl)) (lw_x (zlW (zwC rfl znq.el vd) rfl) (lw_r (zHO (ins:=[(.tmp 30,.own (Rp.list Rp.byte) 24 800001 [0,18,19] wN.pieces),(.tmp 41,.ptr 800001 (Int.toNat (wv.pieces.length:Int)*(Rp.list Rp.byte).size)),(.tmp 40,.own Rp.byte 5 20 [] wQ)]) [30] [(⟨800000,98,(zr 800001 [0,18,19] wN)⟩,⟨800000,98,[.own (Rp.list Rp.byte) 24 800001 [0,18,19,20] (wN.pieces.set (Int.toNat (wv.pieces.length:Int)) wQ),kI wN.size]⟩)] (zNG (r:=(Rp.list Rp.byte)) (e:=24) (ℓ:=800001) (C:=[0,18,19]) (xs:=wN.pieces) (off:=(Int.toNat (wv.pieces.length:Int)*(Rp.list Rp.byte).size)) (.tmp 30) (Int.toNat (wv.pieces.length:Int)) 0 x2 wQ [0,18,19,20] rfl rfl sizeOf24 rfl (zrU vd) rfl (zvG rfl _) rfl) ⟨trivial,trivial,trivial,trivial⟩ (fun _ _=>nofun) ⟨⟨rfl,rfl,rfl,⟨zdL 0 rfl,zu rfl,trivial⟩⟩,trivial⟩) lw_0))))) (jb h fun x3 vn h=>jd [0] [800000] zee (by exact (lwn 9 (ly [.own (Rp.list Rp.byte) 24 800001 [0,18,19,20] (wN.pieces.set (Int.toNat (wv.pieces.length:Int)) wQ),kI (wv.pieces.length:Int)] (zsh rfl znq.el (zjL _ _ _ _ _) vn) rfl (lx (ldl (Rp.list Rp.byte) [800001,0,18,19,20] x3 0 Rp.byte x3) (lwn 4 (ly [.ptr 800000 1,kI (IntKind.i64.wrap (wN.size+(x3.length:Int)))] (zEz (b:=⟨800000,98,[.own (Rp.list Rp.byte) 24 800001 [0,18,19,20] (wN.pieces.set (Int.toNat (wv.pieces.length:Int)) wQ),kI wN.size]⟩) (off:=1) rfl sizeOf3 rfl rfl rfl) rfl l0)))))) ?_))))));cases h;exact zyY (lks [800000] [(18,2),(19,2),(20,2)] lw)
theorem znt (vR:∀{wv:zn} {sv:(List ze)} {uS:Int} {x:zd} {r:zn},xr wv sv uS x=some r->zht prog 43 [.ptr 800000 0,.sl zf [0] sv,kI uS,.rc zm [0] x] [] [⟨800000,98,(zr 800001 [0] wv)⟩] [800000] [⟨800000,98,(zr 800001 [0,2] r)⟩]) (vS:∀{wv:zn} {sv:(List ze)} {f:za} {x:zd} {r:zn},xf wv sv f x=some r->zht prog 104 [.ptr 800000 0,.sl zf [0] sv,.rc zc [0] f,.rc zm [0] x] [] [⟨800000,98,(zr 800001 [0] wv)⟩] [800000] [⟨800000,98,(zr 800001 [0,2] r)⟩]) (vT:∀{wv:zn} {sv:(List ze)} {f:za} {v:zb} {r:zn},xg wv sv f v=some r->zht prog 69 [.ptr 800000 0,.sl zf [0] sv,.rc zc [0] f,.rc zk [0] v] [] [⟨800000,98,(zr 800001 [0] wv)⟩] [800000] [⟨800000,98,(zr 800001 [0,2] r)⟩]) (h:zdP xr xf xg wv sv f v=some r):zht prog 69 [.ptr 800000 0,.sl zf [0] sv,.rc zc [0] f,.rc zk [0] v] [] [⟨800000,98,(zr 800001 [0] wv)⟩] [800000] [⟨800000,98,(zr 800001 [0,2] r)⟩]:=by
 refine zkI (E:=⟨[(0,.ptr 800000 0)],[⟨800000,98,(zr 800001 [0,2] r)⟩]⟩) 48 [0] [(0,800000)] func69 rfl rfl rfl trivial ⟨⟨rfl,rfl,rfl⟩,trivial⟩ ⟨rfl,trivial⟩ (fun Xt old=>?_);refine zbe ?_;unfold zdP at h;refine jr (ral 1 [34] [.rc zk [0] v] rfl (zis 35 (zX [0] v) [0] rfl rfl rfl (by rw [zan]<;>rfl) rfl) rfl rf) (jp (jb h fun p vm h=>jn (.N [0,1,6,7] [34,35] [] [⟨800000,98,[.own (Rp.list Rp.byte) 24 800001 [0,36,37,38,39,40] p.1,kI p.2]⟩]) ?_ ?_))
 ·replace h:=vm;refine jI h ?_ ?_<;>intro uP h
  ·refine jb h fun rv uR h=>jr (lb 1 zc [] f (ra 2 [.ptr 800000 0,.rc zc [] f,.sl wK [0] v.Words] rfl (zgj (args:=[.tmp 16,.tmp 17,.tmp 19]) [.ptr 800000 0,.rc zc [] f,.sl wK [0] v.Words] [⟨800000,98,(zr 800001 [0] wv)⟩] [(800000,800000),(800001,800001)] [0] 39 [800001] rfl call102 (zor uR) rfl rfl rfl rfl rfl rfl rfl rfl) rfl rf)) ?_;cases h;exact zaJ (lks [800000,34,35] [(41,40),(42,40),(43,40),(44,40),(45,40)] lw)
  cases h;exact zaJ lw
 refine ziq (jp (zx (jb h fun q uW h=>jl uW [0,1,6,7,22,23] [34,35] (fun s=>[(24,kI s.1)]) (fun s=>[⟨800000,98,[.own (Rp.list Rp.byte) 24 800001 [0,36,37,38,39,40,46] s.2.1,kI s.2.2]⟩]) (fun o=> .X 0 [0,1,6,7] [34,35] [] [⟨800000,98,[.own (Rp.list Rp.byte) 24 800001 [0,36,37,38,39,40,46] o.1,kI o.2]⟩]) ?_ lw ?_)))
 ·clear h;intro s o h;obtain ⟨v2,f4,f5⟩:=s;replace h:zbP f v v2 f4 f5=some o:=h;unfold zbP at h;refine jp (jI h ?_ ?_)<;>intro uT h
  ·refine zx (jb h fun x uZ h=>jr (rx 0 [0] zqZ.el uZ rfl rfl rf) (jb h fun v3 vf h=>jb h fun wN uU h=>jr (ra 4 [kS x] rfl (zvr 53 rfl underlying9 underlying24 underlying5 vf) rfl (ra 0 [.ptr 800000 0,kI f.Number,kI 2,.sl Rp.byte [53] v3] rfl (zgj (args:=[.tmp 28,.tmp 30,.const (.int .i64 2),.tmp 32]) [.ptr 800000 0,kI f.Number,kI 2,.sl Rp.byte [53] v3] [⟨800000,98,[.own (Rp.list Rp.byte) 24 800001 [0,36,37,38,39,40,46] f4,kI f5]⟩] [(800000,800000),(800001,800001)] [0,36,37,38,39,40,46,53] 52 [800001] rfl call103 (zfS uU) rfl rfl rfl rfl rfl rfl rfl rfl) rfl rf)) (zam (jp ?_))));cases h;exact zaJ (lks [800000,34,35] [(53,46),(54,46),(55,46)] lw)
  cases h;exact zaI rfl lzz
 refine zbo _ rfl (jp (zx (jb h fun q2 vl h=>jl vl [0,1,6,36,37] [34] (fun s=>[(38,kI s.1)]) (fun s=>[⟨800000,98,[.own (Rp.list Rp.byte) 24 800001 [0,36,37,38,39,40,46,56] s.2.1,kI s.2.2]⟩]) (fun o=> .X 2 [0] [] [] [⟨800000,98,[.own (Rp.list Rp.byte) 24 800001 [0,36,37,38,39,40,46,56] o.1,kI o.2]⟩]) ?_ lw ?_)))
 ·clear h;intro s o h;obtain ⟨v4,f8,f9⟩:=s;replace h:zbQ f xf sv v v4 f8 f9=some o:=h;unfold zbQ at h;refine jp (jI h ?_ ?_)<;>intro uV h
  ·refine zx (jb h fun x2 vd h=>jr (rx 0 [0] zrF.el vd rfl rfl (rc 0 rfl (lde zm [0] x2 zoF) (ral 1 [61] [.ptr 61 0,.rc zm [0] x2] rfl (zgB (r:=zm) (b:=⟨61,52,[kN,kN]⟩) (off:=0) (zaK [0] x2) rfl sizeOf52 rfl rfl (by rw [zaq]<;>rfl) rfl) rfl rf))) (jb h fun wQ u0 h=>jr (lb 2 zc [] f (rc 1 rfl (zB.le (km:=[(.tmp 42,.ptr 800000 0),(.tmp 43,.sl zf [0] sv),(.tmp 44,.rc zc [] f),(.tmp 45,.ag (zaK [0] x2))]) (zgj (args:=[.tmp 42,.tmp 43,.tmp 44,.tmp 45]) [.ptr 800000 0,.sl zf [0] sv,.rc zc [] f,.rc zm [0] x2] [⟨800000,98,[.own (Rp.list Rp.byte) 24 800001 [0,36,37,38,39,40,46,56] f8,kI f9]⟩] [(800000,800000),(800001,800001)] [0,36,37,38,39,40,46,56] 60 [800001] rfl call104 (vS u0) rfl rfl rfl rfl rfl rfl rfl rfl) ⟨⟨rfl,wM _⟩,⟨rfl,wM _⟩,⟨rfl,wM _⟩,⟨rfl,zaz [0] x2⟩,trivial⟩) rf)) (zam (jp ?_))));cases h;exact zaJ (lks [800000,34] [(62,56)] lw)
  cases h;exact zaI rfl lzz
 refine zbo _ rfl ?_;cases h;exact zyY (lks [800000] [(36,2),(37,2),(38,2),(39,2),(40,2),(46,2),(56,2)] lw)
theorem zfy (uX:Nat):(∀{wv:zn} {sv:(List ze)} {uS:Int} {x:zd} {r:zn},zbq uX wv sv uS x=some r->zht prog 43 [.ptr 800000 0,.sl zf [0] sv,kI uS,.rc zm [0] x] [] [⟨800000,98,(zr 800001 [0] wv)⟩] [800000] [⟨800000,98,(zr 800001 [0,2] r)⟩])/\(∀{wv:zn} {sv:(List ze)} {f:za} {x:zd} {r:zn},zdD uX wv sv f x=some r->zht prog 104 [.ptr 800000 0,.sl zf [0] sv,.rc zc [0] f,.rc zm [0] x] [] [⟨800000,98,(zr 800001 [0] wv)⟩] [800000] [⟨800000,98,(zr 800001 [0,2] r)⟩])/\(∀{wv:zn} {sv:(List ze)} {f:za} {v:zb} {r:zn},zdE uX wv sv f v=some r->zht prog 69 [.ptr 800000 0,.sl zf [0] sv,.rc zc [0] f,.rc zk [0] v] [] [⟨800000,98,(zr 800001 [0] wv)⟩] [800000] [⟨800000,98,(zr 800001 [0,2] r)⟩]):=by
  induction uX with
  | zero=>exact ⟨fun h=>absurd h nofun,fun h=>absurd h nofun,fun h=>absurd h nofun⟩
  | succ uX ih=>exact ⟨fun h=>zmh (fun hh=>ih.1 hh) (fun hh=>ih.2.1 hh) (fun hh=>ih.2.2 hh) h,fun h=>zoI (fun hh=>ih.1 hh) (fun hh=>ih.2.1 hh) (fun hh=>ih.2.2 hh) h,fun h=>znt (fun hh=>ih.1 hh) (fun hh=>ih.2.1 hh) (fun hh=>ih.2.2 hh) h⟩
theorem zhR (h:zbq uX wv sv uS x=some r):zht prog 43 [.ptr 800000 0,.sl zf [0] sv,kI uS,.rc zm [0] x] [] [⟨800000,98,(zr 800001 [0] wv)⟩] [800000] [⟨800000,98,(zr 800001 [0,2] r)⟩]:=(zfy uX).1 h
end Go.Proofs.YtaglemhabeipfaaGreat

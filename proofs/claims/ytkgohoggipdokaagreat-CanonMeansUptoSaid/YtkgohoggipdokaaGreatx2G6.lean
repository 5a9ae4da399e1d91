/-
  The Go functions do what the plain functions say. No condition.
-/
import Derived.Test.YtkgohoggipdokaaGreatx2G5
set_option autoImplicit true
set_option relaxedAutoImplicit true
namespace Go.Proofs.YtkgohoggipdokaaGreat
open Tryz
open Go Go.RowKit
set_option linter.unusedVariables false
set_option maxRecDepth 100000
set_option maxHeartbeats 3200000
theorem zmL (h:zgr sv=some r):vW 38 [.sl zi [0] sv] [kB r]:=by
 refine fi 12 func38 fun Xt=>?_
 unfold zgr at h;refine jp (jb h fun rv uu h=>jr (rl 1 [0] 9 call72 (zsU uu) (rfl' [11])) ?_);cases h;exact jz
theorem znZ (vp:∀{sv:(List zd)} {uw:Int} {l:(List zc)} {r:Bool},xo sv uw l=some r->vW 112 [.sl zi [0] sv,kI uw,.sl zj [0] l] [kB r]) (vq:∀{f:za} {sv:(List zd)} {v:zb} {r:Bool},xd f sv v=some r->vW 68 [.rc zf [0] f,.sl zi [0] sv,.rc zh [0] v] [kB r]) (vr:∀{sv:(List zd)} {uw:Int} {x:zc} {r:Bool},xi sv uw x=some r->vW 106 [.sl zi [0] sv,kI uw,.rc zj [0] x] [kB r]) (h:zep xo xd xi sv uw l=some r):vW 112 [.sl zi [0] sv,kI uw,.sl zj [0] l] [kB r]:=by
 refine fi 29 func112 fun Xt=>?_
 unfold zep at h;refine jp (jg [0,1,2] [] [(16,kB ((decide (uw<0))|| (decide (uw>=(sv.length:Int)))))] ?_ ?_)
 ·refine (rsl 3 [] 11 (decide (uw<0)) ?_ ?_)<;>intro ur
  · exact (rbl [] 16 true rfl (by grind))
  exact (rbl [] 16 (decide (uw>=(sv.length:Int))) rfl (by grind))
 refine jI h ?_ ?_<;>intro uv h
 ·refine jp ?_;obtain rfl:=(sj h);exact zH lzz
 refine jp (zw (jb h fun q uA h=>jL uA [0,1,17,18] [] (fun s=>[(19,kI s)]) (fun| (.inl v_)=> .x 0 ⟨[],[]⟩| (.inr v_)=> .r ⟨[(6,kB false)],[]⟩) ?_ lzz ?_))
 ·clear h;intro v2 o h;unfold zbz at h;refine jp (jI h ?_ ?_)<;>intro uy h
  ·refine zw (jb h fun x uD h=>jr (rx 0 [0] zsL.el uD rfl rfl (rc 0 rfl (lde zj [0] x zjs) (ral 1 [12] [.ptr 12 0,.rc zj [0] x] rfl (zfW (r:=zj) (b:=⟨12,27,[kN,kN]⟩) (off:=0) (zae [0] x) rfl sizeOf27 rfl rfl (by rw [zak]<;>rfl) rfl) rfl rf))) (jb h fun rv uu h=>jr (rc 3 rfl (lw0 11 call106 (vr uu) (.k (.k (.l (zaa [0] x))))) rf) (jI h ?_ ?_)))<;>intro uC h
   ·cases h;exact jz'
   refine zal ?_;cases h;exact jy
  cases h;exact zaJ rfl lzz
 rcases q with u| u2
 ·refine zbo _ rfl (jp ?_);obtain rfl:=(sj h);exact zH lzz
 obtain rfl:=(sj h);exact zfe lzz
theorem zvT (vp:∀{sv:(List zd)} {uw:Int} {l:(List zc)} {r:Bool},xo sv uw l=some r->vW 112 [.sl zi [0] sv,kI uw,.sl zj [0] l] [kB r]) (vq:∀{f:za} {sv:(List zd)} {v:zb} {r:Bool},xd f sv v=some r->vW 68 [.rc zf [0] f,.sl zi [0] sv,.rc zh [0] v] [kB r]) (vr:∀{sv:(List zd)} {uw:Int} {x:zc} {r:Bool},xi sv uw x=some r->vW 106 [.sl zi [0] sv,kI uw,.rc zj [0] x] [kB r]) (h:zjd xo xd xi f sv v=some r):vW 68 [.rc zf [0] f,.sl zi [0] sv,.rc zh [0] v] [kB r]:=by
 refine fi 69 func68 fun Xt=>?_
 unfold zjd at h;refine jr (ral 1 [11] [.rc zh [0] v] rfl (zhC 12 (zW [0] v) [0] rfl rfl rfl (by rw [zad]<;>rfl) rfl) rfl rf) (jb h fun rv uu h=>jr (rc 1 rfl (lw0 11 call93 (zjb uu) (.l (zbZ [0] v))) rf) (jg [1,3,5,7] [11,12] [(20,kB ((rv==0)|| ((decide (rv>1))&&(!f.Repeated))))] ?_ ?_))
 ·refine (rsl 3 [] 12 (rv==0) ?_ ?_)<;>intro ur
  · exact (rbl [] 20 true rfl (by grind))
  refine (rsl 3 [] 15 (decide (rv>1)) ?_ ?_)<;>intro uv
  · exact (rbl [] 20 (!f.Repeated) rfl (by grind))
  exact (rbl [] 20 false rfl (by grind))
 refine jI h ?_ ?_<;>intro uy h
 ·refine jp ?_;obtain rfl:=(sj h);exact zH lzz
 refine jp (zw (jp (jI h ?_ ?_)))<;>intro uC h
 ·refine jb h fun g ut h=>jg [] [] [(6,kB g)] ?_ ?_
  ·refine (rsI 6 30 ut ?_ ?_)<;>intro uJ ut
   ·refine jb ut fun vY uz ut=>?_;cases ut;exact (rl 2 [0] 11 call111 (zrV uz) rgg)
   cases ut;exact rgg
  obtain rfl:=(sj h);exact zH lzz
 refine jp (jI h ?_ ?_)<;>intro uL h
 ·cases h;exact jz
 refine jp (jI h ?_ ?_)<;>intro uU h
 ·refine jb h fun g2 uG h=>jg [] [] [(6,kB g2)] ?_ ?_
  ·refine (rsI 6 49 uG ?_ ?_)<;>intro uT uG
   ·refine jb uG fun wd uE uG=>?_;cases uG;exact (rl 5 [0] 11 call112 (vp uE) rgg)
   cases uG;exact rgg
  obtain rfl:=(sj h);exact zH lzz
 refine zal (jb h fun g3 u0 h=>jg [] [] [(6,kB g3)] ?_ ?_)
 ·refine (rsI 6 62 u0 ?_ ?_)<;>intro uV u0
  ·refine jb u0 fun rv4 uQ u0=>?_;cases u0;exact (rl 4 [0] 11 call113 (znY uQ) rgg)
  cases u0;exact rgg
 obtain rfl:=(sj h);exact zH lzz
theorem zpM (vp:∀{sv:(List zd)} {uw:Int} {l:(List zc)} {r:Bool},xo sv uw l=some r->vW 112 [.sl zi [0] sv,kI uw,.sl zj [0] l] [kB r]) (vq:∀{f:za} {sv:(List zd)} {v:zb} {r:Bool},xd f sv v=some r->vW 68 [.rc zf [0] f,.sl zi [0] sv,.rc zh [0] v] [kB r]) (vr:∀{sv:(List zd)} {uw:Int} {x:zc} {r:Bool},xi sv uw x=some r->vW 106 [.sl zi [0] sv,kI uw,.rc zj [0] x] [kB r]) (h:zfm xo xd xi sv uw x=some r):vW 106 [.sl zi [0] sv,kI uw,.rc zj [0] x] [kB r]:=by
 refine fi 67 func106 fun Xt=>?_
 unfold zfm at h;refine jr (rc 0 rfl (lbx 11 [0] (zaH [0] x)) rf) (jb h fun x2 uH h=>jr (rx 2 [0] zoj.el uH rfl rfl (rc 0 rfl (lde zi [0] x2 zyK) (ral 1 [12] [.ptr 12 0,.rc zi [0] x2] rfl (zfW (r:=zi) (b:=⟨12,71,[kS [],kN]⟩) (off:=0) (zV [0] x2) rfl sizeOf71 rfl rfl rfl rfl) rfl rf))) (jp (jp (zw (jb h fun q uA h=>jL uA [0,5,7,20,21] [11,12] (fun s=>[(8,kI s.1),(22,kI s.2)]) (fun| (.inl v_)=> .X 0 [5,7] [11,12] [] []| (.inr v_)=> .r ⟨[(6,kB false)],[]⟩) ?_ lzz ?_)))))
 ·clear h;intro s o h;obtain ⟨last,v⟩:=s;replace h:zbE xd sv x x2 last v=some o:=h;unfold zbE at h;refine jp (jI h ?_ ?_)<;>intro ur h
  ·refine zw (jb h fun x3 uR h=>jr (rx 0 [0] zrk.el uR rfl rfl (rc 0 rfl (lde zh [0] x3 zpV) (ral 1 [14] [.ptr 14 0,.rc zh [0] x3] rfl (zfW (r:=zh) (b:=⟨14,51,[kI 0,kN,kN,kN]⟩) (off:=0) (zW [0] x3) rfl sizeOf51 rfl rfl (by rw [zad]<;>rfl) rfl) rfl rf))) (jb h fun rv uu h=>jr (rl 3 [0] 13 call64 (zgS uu) rf) (jb h fun g ut h=>jn (.N [0,5,7,10,20,21,22] [11,12,14] [(51,kB g)] []) ?_ (zim ?_))))
   ·rcases zlH ut with ⟨uv,ut⟩| ⟨uv,ut⟩
    ·cases ut;exact jd [0,5,7,10,20,21,22,51] [11,12,14] zeY (by exact (lwn 2 (dg 34 uv l0))) (zaT lzz)
    rcases zlH ut with ⟨uy,ut⟩| ⟨uy,ut⟩
    ·cases ut;exact jd [0,5,7,10,20,21,22,51] [11,12,14] zeY (by exact (lwn 2 (dg 34 uv (lwn 5 (dg 40 uy l0))))) (zaT lzz)
    refine jb ut fun x4 uW ut=>jb ut fun vY uz ut=>?_;cases ut;exact jd [0,5,7,10,20,21,22,51] [11,12,14] zeY (by exact (lwn 2 (dg 34 uv (lwn 5 (dg 40 uy (lwn 3 (di [0] zpl.el uW (lx (lde zf [0] x4 zpU) (lw_e (lx (ldw 14 51 (zW [0] x3) zpV) (lx (lf1 68 (lw0 13 call68 (vq uz) (.k (.k (.l (zbZ [0] x3)))))) l0))))))))))) (zaT lzz)
   refine jI h ?_ ?_<;>intro uC h
   ·cases h;exact jz'
   refine jp (zal ?_);cases h;exact jy
  cases h;exact zaJ rfl lzz
 rcases q with u| u4
 ·refine zbo _ rfl (jp (zw (jb h fun q2 uN h=>jL uN [7,56,57] [12] (fun s=>[(58,kI s)]) (fun| (.inl v_)=> .x 2 ⟨[],[]⟩| (.inr v_)=> .r ⟨[(6,kB false)],[]⟩) ?_ lzz ?_)))
  ·clear h;intro v3 o h;unfold zbS at h;refine jp (jI h ?_ ?_)<;>intro uJ h
   ·refine zw (jb h fun x5 uY h=>jr (rx 0 [0] zmQ.el uY rfl rfl rf) (jb h fun wd uE h=>jr (rl 2 [0] 14 call142 (zqW uE) rf) (jI h ?_ ?_)))<;>intro uL h
    ·cases h;exact jz'
    refine zal ?_;cases h;exact jy
   cases h;exact zaJ rfl lzz
  rcases q2 with u2| u3
  ·refine zbo _ rfl (jp ?_);obtain rfl:=(sj h);exact zH lzz
  obtain rfl:=(sj h);exact zfe lzz
 obtain rfl:=(sj h);exact zfe lzz
theorem zht (uB:Nat):(∀{sv:(List zd)} {uw:Int} {l:(List zc)} {r:Bool},zfl uB sv uw l=some r->vW 112 [.sl zi [0] sv,kI uw,.sl zj [0] l] [kB r])/\(∀{f:za} {sv:(List zd)} {v:zb} {r:Bool},zhl uB f sv v=some r->vW 68 [.rc zf [0] f,.sl zi [0] sv,.rc zh [0] v] [kB r])/\(∀{sv:(List zd)} {uw:Int} {x:zc} {r:Bool},zcU uB sv uw x=some r->vW 106 [.sl zi [0] sv,kI uw,.rc zj [0] x] [kB r]):=by
  induction uB with
  | zero=>exact ⟨fun h=>absurd h nofun,fun h=>absurd h nofun,fun h=>absurd h nofun⟩
  | succ uB ih=>exact ⟨fun h=>znZ (fun hh=>ih.1 hh) (fun hh=>ih.2.1 hh) (fun hh=>ih.2.2 hh) h,fun h=>zvT (fun hh=>ih.1 hh) (fun hh=>ih.2.1 hh) (fun hh=>ih.2.2 hh) h,fun h=>zpM (fun hh=>ih.1 hh) (fun hh=>ih.2.1 hh) (fun hh=>ih.2.2 hh) h⟩
theorem zqV (h:zcU uB sv uw x=some r):vW 106 [.sl zi [0] sv,kI uw,.rc zj [0] x] [kB r]:=(zht uB).2.2 h
theorem zvK (h:zkf uO size=some r):vW 117 [kI uO,kI size] [.own Rp.byte 5 2 [] r]:=by
 refine fi 23 func117 fun Xt=>?_
 unfold zkf at h;refine jp (jb h fun rv uu h=>jr (rl 1 [1] 10 call153 (FnOk.le (ins':=[kN,kI uO,kN]) (zvP uu) ⟨zff _ _,vX _,zff _ _,trivial⟩) rf) (jb h fun vY uz h=>jr (rl 2 [1] 11 call148 (zph uz) rf) (jb h fun v uK h=>jb h fun v2 uP h=>jr (ra 4 [.own Rp.byte 5 12 [] rv,kI (IntKind.i64.wrap ((rv.length:Int) - 1))] rfl (zCL rfl zdK.el uK) rfl (rc 1 rfl (lao 12 [] 5 13 [] [] zdK.el uP (.inl zin)) rf)) ?_)));obtain rfl:=(sj h);exact zH (lks [] [(12,2)] lzz)
theorem zmR (h:zej wv f l=some r):zgE prog 69 [.ptr 800000 0,.rc zf [0] f,.sl vV [0] l] [] [⟨800000,76,(zo 800001 [0] wv)⟩] [800000] [⟨800000,76,(zo 800001 [0,2,3,4,5,6] r)⟩]:=by
 refine zjO (E:=⟨[(0,.ptr 800000 0)],[⟨800000,76,(zo 800001 [0,2,3,4,5,6] r)⟩]⟩) 30 [0] [(0,800000)] func69 rfl rfl rfl trivial ⟨⟨rfl,rfl,rfl⟩,trivial⟩ ⟨rfl,trivial⟩ (fun Xt old=>?_);refine zbR ?_;unfold zej at h;refine jq [17] (jb h fun rv uu h=>jr (rl 3 [0] 16 call114 (zAg uu) rf) (jp (jI h ?_ ?_)))<;>intro ur h
 ·refine jb h fun vY uz h=>jr (ra 4 [.ptr 800000 0,kI f.Number,kI 2,.own Rp.byte 5 18 [] rv.1] rfl (zfH (args:=[.tmp 17,.tmp 19,.const (.int .i64 2),.tmp 20]) [.ptr 800000 0,kI f.Number,kI 2,.own Rp.byte 5 18 [] rv.1] [⟨800000,76,(zo 800001 [0] wv)⟩] [(800000,800000),(800001,800001)] [0,18] 17 [800001] rfl call70 (zfu uz) rfl rfl rfl rfl rfl rfl rfl rfl) rfl rf) ?_;obtain rfl:=(sj h);exact zfG (lks [800000] [(18,6),(19,6),(20,6)] lw)
 refine jb h fun wd uE h=>jb h fun rv4 uQ h=>jd [0] [800000] zeY (by exact (lwn 5 (lx (lf1 115 (lcd [kI f.Kind] 19 call115 (zvL uE))) (lw_e (ly [.lf (.val (.func (.func 70) #[] #[])),.ptr 800000 0,kI f.Number,kI wd,.own Rp.byte 5 18 [] rv.1] (lf1 70 (zfH (args:=[.tmp 22,.tmp 24,.tmp 27,.tmp 28]) [.ptr 800000 0,kI f.Number,kI wd,.own Rp.byte 5 18 [] rv.1] [⟨800000,76,(zo 800001 [0] wv)⟩] [(800000,800000),(800001,800001)] [0,18] 19 [800001] rfl call70 (zfu uQ) rfl rfl rfl rfl rfl rfl rfl rfl)) rfl l0))))) ?_;obtain rfl:=(sj h);exact zwF (lks [800000] [(18,6),(21,6),(22,6)] lw)
theorem zyE (h:zmd m b uF=some r):vW 191 [.rc zi [0] m,.sl Rp.byte [0] b,kI uF] [.rc zg [] r.1,k8 r.2]:=by
 refine fj ⟨[(6,.ptr 2 0),(7,k8 r.2)],[⟨2,154,(zcj r.1)⟩]⟩ 15 func191 ⟨⟨_,_,rfl,rfl,rfl,rfl,zne⟩,rfl,trivial⟩ fun Xt=>?_
 unfold zmd at h;refine jr (ra 0 [.rc zi [0] m] rfl (zhC 13 (zV [0] m) [0] rfl rfl rfl rfl rfl) rfl (rfl' [14])) (jb h fun vY uz h=>jr (rc 3 rfl (zlJ (rk:=zah) (rv:=zap) 15 rfl) (rkl 0 [] ⟨[(6,.ptr 14 0),(8,.ag (zV [0] m)),(9,.sl Rp.byte [0] b),(10,kI uF),(11,.om zah zap 15 [] ([]:(List (zQ×zT))))],[⟨14,154,[kI 0,kI 0,kI 0,kI 0,kI 0,kI 0,kB false]⟩]⟩ (zkZ ⟨[(6,.ptr 14 0),(8,.ag (zV [0] m)),(9,.sl Rp.byte [0] b),(10,kI uF),(11,.om zah zap 15 [0] vY.2.2)],[⟨14,154,[kI 0,kI 0,kI 0,kI 0,kI 0,kI 0,kB false]⟩]⟩ (zlv.le (ins':=[(.tmp 8,.ag (zV [0] m)),(.tmp 9,.sl Rp.byte [0] b),(.tmp 10,kI uF),(.tmp 11,.om zah zap 15 [] ([]:(List (zQ×zT))))]) (zlc (args:=[.tmp 8,.tmp 9,.tmp 10,.tmp 11]) [.rc zi [0] m,.sl Rp.byte [0] b,kI uF,.om zah zap 15 [] ([]:(List (zQ×zT)))] [(15,2)] [0] 15 [] rfl call123 (zrf uz) rfl rfl (by kernel_rfl) rfl rfl rfl) ⟨⟨rfl,zjD zi [0] m (zV [0] m) rfl rfl⟩,⟨rfl,vX _⟩,⟨rfl,vX _⟩,⟨rfl,vX _⟩,trivial⟩) rfl (by kernel_rfl) (by kernel_rfl) ⟨⟨_,rfl,zy rfl⟩,⟨_,rfl,zy rfl⟩,⟨_,rfl,zy rfl⟩,⟨_,rfl,zy rfl⟩,⟨_,rfl,zgw 0 rfl⟩,trivial⟩ ⟨⟨_,rfl,rfl,rfl,⟨zy rfl,zy rfl,zy rfl,zy rfl,zy rfl,zy rfl,zy rfl,trivial⟩⟩,trivial⟩ rf))) ?_);cases h;exact zH (lks [14] [(14,2)] lzz)
theorem zpf (h:zit k b=some r):vW 208 [kI k,.sl Rp.byte [0] b] [.fv 223 [.bp vU 3 922300 [] r.1,.bp (Rp.list Rp.byte) 35 922301 [0] r.2]]:=by
 refine fi 6 func208 fun Xt=>?_
 unfold zit at h;refine jq [922300,922301] (jr (ra 0 [.ptr 922300 0,.ptr 922301 0] rfl (zHH (g:=223) [.tmp 2,.tmp 3] [⟨922300,3,[kI k]⟩,⟨922301,35,[.sl Rp.byte [0] b]⟩] [.bp vU 3 922300 [] k,.bp (Rp.list Rp.byte) 35 922301 [0] b] rfl ⟨⟨rfl,rfl,rfl,rfl⟩,⟨rfl,rfl,rfl,rfl⟩,trivial⟩ rfl) rfl rf) ?_);cases h;exact zH lzz
theorem zAC (h:zof m b=some r):vW 89 [.rc zi [0] m,.sl Rp.byte [0] b] [.own zg 154 2 [] r.1,kI r.2.1,k8 r.2.2]:=by
 refine fi 36 func89 fun Xt=>?_
 unfold zof at h;refine jr (ra 0 [.rc zi [0] m] rfl (zhC 19 (zV [0] m) [0] rfl rfl rfl rfl rfl) rfl rf) (jr (rc 0 rfl (zlJ (rk:=zah) (rv:=zap) 20 rfl) rf) (jp (zw (jb h fun q uA h=>jL uA [1,2] [19] (fun s=>[(4,.own zg 154 26 [] s.1),(7,.om zah zap 20 [0] s.2.1),(8,kI s.2.2)]) (fun| (.inl v_)=> .x 0 ⟨[(4,.own zg 154 26 [] v_)],[]⟩| (.inr v_)=> .r ⟨[(4,kN),(5,kI v_.1),(6,k8 v_.2)],[]⟩) ?_ lw ?_))))
 ·clear h;intro s o h;obtain ⟨l,met,uF⟩:=s;replace h:zde b m l met uF=some o:=h;unfold zde at h;refine jp (jI h ?_ ?_)<;>intro ur h
  ·refine zw (jb h fun vY uz h=>jr (rkl 4 [] ⟨[(1,.sl Rp.byte [0] b),(2,.ptr 19 0),(4,.own zg 154 26 [] l),(7,.om zah zap 20 [0] met),(8,kI uF),(17,.ag (zV [0] m)),(18,.sl Rp.byte [0] b),(19,kI uF),(20,.om zah zap 20 [0] met)],[⟨19,71,(zV [0] m)⟩]⟩ (zkZ ⟨[(1,.sl Rp.byte [0] b),(2,.ptr 19 0),(4,.own zg 154 26 [] l),(7,.om zah zap 20 [0] vY.2.2),(8,kI uF),(17,.ag (zV [0] m)),(18,.sl Rp.byte [0] b),(19,kI uF),(20,.om zah zap 20 [0] vY.2.2)],[⟨19,71,(zV [0] m)⟩]⟩ (zlv.le (ins':=[(.tmp 17,.ag (zV [0] m)),(.tmp 18,.sl Rp.byte [0] b),(.tmp 19,kI uF),(.tmp 20,.om zah zap 20 [0] met)]) (zlc (args:=[.tmp 17,.tmp 18,.tmp 19,.tmp 20]) [.rc zi [0] m,.sl Rp.byte [0] b,kI uF,.om zah zap 20 [0] met] [(20,2)] [0] 26 [] rfl call123 (zrf uz) rfl rfl (by kernel_rfl) rfl rfl rfl) ⟨⟨rfl,zjD zi [0] m (zV [0] m) rfl rfl⟩,⟨rfl,vX _⟩,⟨rfl,vX _⟩,⟨rfl,vX _⟩,trivial⟩) rfl (by kernel_rfl) (by kernel_rfl) ⟨⟨_,rfl,zy rfl⟩,⟨_,rfl,zy rfl⟩,⟨_,rfl,zy rfl⟩,⟨_,rfl,zgw 0 rfl⟩,⟨_,rfl,zy rfl⟩,⟨_,rfl,zy rfl⟩,⟨_,rfl,zy rfl⟩,⟨_,rfl,zy rfl⟩,⟨_,rfl,zgw 0 rfl⟩,trivial⟩ ⟨⟨_,rfl,rfl,rfl,⟨zy rfl,zy rfl,trivial⟩⟩,trivial⟩ (rfl' [29]))) (jp (jI h ?_ ?_)))<;>intro uv h
   ·cases h;exact jz'
   refine jb h fun v uK h=>jr (lb 1 zg [] vY.1 (rc 0 rfl (lbs1 30 [] vY.1 zlu) (rc 0 rfl (lao 26 [] 154 30 [] [] zlu.el uK (.inl zhG)) rf))) (jp (zal ?_));cases h;exact zaT lzz
  cases h;exact zaJ rfl lzz
 rcases q with u| u2
 ·refine zbo _ rfl (jp ?_);cases h;exact zH (lks [] [(26,2)] lzz)
 cases h;exact zfe lw
theorem zpj (h:ziB sv uI d=some r):vW 105 [.sl zi [0] sv,kI uI,kI d] [k8 r]:=by
 refine fi 28 func105 fun Xt=>?_
 unfold ziB at h;refine jp (zw (jb h fun rv uu h=>jr (rl 1 [0] 9 call38 (zmL uu) rf) (jI h ?_ ?_)))<;>intro ur h
 ·cases h;exact jz
 refine jg [] [] [(11,kB ((decide (uI<0))|| ((decide (uI>=(sv.length:Int)))|| ((decide (d<0))|| (decide (d>64))))))] ?_ ?_
 ·refine (rsl 3 [] 14 (decide (uI<0)) ?_ ?_)<;>intro uv
  · exact (rbl [] 11 true rfl (by grind))
  refine (rsl 6 [] 20 (decide (uI>=(sv.length:Int))) ?_ ?_)<;>intro uy
  · exact (rbl [] 11 true rfl (by grind))
  refine (rsl 4 [] 24 (decide (d<0)) ?_ ?_)<;>intro uC
  · exact (rbl [] 11 true rfl (by grind))
  exact (rbl [] 11 (decide (d>64)) rfl (by grind))
 refine jI h ?_ ?_<;>intro uJ h
 ·cases h;exact jz
 refine zal ?_;cases h;exact jz
theorem zle (vt:∀{wv:zk} {sv:(List zd)} {uw:Int} {x:zc} {r:zk},xp wv sv uw x=some r->zgE prog 31 [.ptr 800000 0,.sl zi [0] sv,kI uw,.rc zj [0] x] [] [⟨800000,76,(zo 800001 [0] wv)⟩] [800000] [⟨800000,76,(zo 800001 [0,2] r)⟩]) (vu:∀{wv:zk} {sv:(List zd)} {f:za} {x:zc} {r:zk},xe wv sv f x=some r->zgE prog 71 [.ptr 800000 0,.sl zi [0] sv,.rc zf [0] f,.rc zj [0] x] [] [⟨800000,76,(zo 800001 [0] wv)⟩] [800000] [⟨800000,76,(zo 800001 [0,2] r)⟩]) (vv:∀{wv:zk} {sv:(List zd)} {f:za} {v:zb} {r:zk},xf wv sv f v=some r->zgE prog 37 [.ptr 800000 0,.sl zi [0] sv,.rc zf [0] f,.rc zh [0] v] [] [⟨800000,76,(zo 800001 [0] wv)⟩] [800000] [⟨800000,76,(zo 800001 [0,2] r)⟩]) (h:zcM xp xe xf wv sv uw x=some r):zgE prog 31 [.ptr 800000 0,.sl zi [0] sv,kI uw,.rc zj [0] x] [] [⟨800000,76,(zo 800001 [0] wv)⟩] [800000] [⟨800000,76,(zo 800001 [0,2] r)⟩]:=by
 refine zjO (E:=⟨[(0,.ptr 800000 0)],[⟨800000,76,(zo 800001 [0,2] r)⟩]⟩) 55 [0] [(0,800000)] func31 rfl rfl rfl trivial ⟨⟨rfl,rfl,rfl⟩,trivial⟩ ⟨rfl,trivial⟩ (fun Xt old=>?_);refine zbR ?_;unfold zcM at h;refine jr (rc 0 rfl (lbx 21 [0] (zaH [0] x)) rf) (jb h fun x2 uH h=>jr (rx 2 [0] zoj.el uH rfl rfl (rc 0 rfl (lde zi [0] x2 zyK) (ral 1 [22] [.ptr 22 0,.rc zi [0] x2] rfl (zfW (r:=zi) (b:=⟨22,71,[kS [],kN]⟩) (off:=0) (zV [0] x2) rfl sizeOf71 rfl rfl rfl rfl) rfl rf))) (jp (zw (jb h fun q uA h=>jl uA [0,1,7,8,20,21] [21,22] (fun s=>[(22,kI s.1)]) (fun s=>[⟨800000,76,[.own (Rp.list Rp.byte) 35 800001 [0,23] s.2.1,kI s.2.2]⟩]) (fun o=> .X 0 [0,7] [21] [] [⟨800000,76,[.own (Rp.list Rp.byte) 35 800001 [0,23] o.1,kI o.2]⟩]) ?_ lw ?_))))
 ·clear h;intro s o h;obtain ⟨v,f,f2⟩:=s;replace h:zaU xf sv x x2 v f f2=some o:=h;unfold zaU at h;refine jp (jI h ?_ ?_)<;>intro ur h
  ·refine zw (jb h fun x3 uR h=>jr (rx 0 [0] zrk.el uR rfl rfl (rc 0 rfl (lde zh [0] x3 zpV) (ral 1 [28] [.ptr 28 0,.rc zh [0] x3] rfl (zfW (r:=zh) (b:=⟨28,51,[kI 0,kN,kN,kN]⟩) (off:=0) (zW [0] x3) rfl sizeOf51 rfl rfl (by rw [zad]<;>rfl) rfl) rfl rf))) (jb h fun rv uu h=>jr (rl 3 [0] 27 call64 (zgS uu) rf) (jb h fun x4 uW h=>jb h fun vY uz h=>jd [0,1,7,8,20,21,22] [800000,21,22] zeY (by exact (lwn 5 (di [0] zpl.el uW (lx (lde zf [0] x4 zpU) (lx (ldw 28 51 (zW [0] x3) zpV) (lx (lf1 37 (zB.le (ins':=[(.tmp 33,.ptr 800000 0),(.tmp 34,.sl zi [0] sv),(.tmp 39,.rc zf [0] x4),(.tmp 40,.ag (zW [0] x3))]) (zfH (args:=[.tmp 33,.tmp 34,.tmp 39,.tmp 40]) [.ptr 800000 0,.sl zi [0] sv,.rc zf [0] x4,.rc zh [0] x3] [⟨800000,76,[.own (Rp.list Rp.byte) 35 800001 [0,23] f,kI f2]⟩] [(800000,800000),(800001,800001)] [0,23] 27 [800001] rfl call37 (vv uz) rfl rfl rfl rfl rfl rfl rfl rfl) ⟨⟨rfl,vX _⟩,⟨rfl,vX _⟩,⟨rfl,vX _⟩,⟨rfl,zbZ [0] x3⟩,trivial⟩)) l0)))))) (zal (jp ?_)))));cases h;exact zaT (lks [800000,21,22] [(29,23)] lw)
  cases h;exact zaJ rfl lzz
 refine zbo _ rfl (jp (zw (jb h fun q2 uN h=>jl uN [0,44,45] [] (fun s=>[(46,kI s.1)]) (fun s=>[⟨800000,76,[.own (Rp.list Rp.byte) 35 800001 [0,23,30] s.2.1,kI s.2.2]⟩]) (fun o=> .X 2 [0] [] [] [⟨800000,76,[.own (Rp.list Rp.byte) 35 800001 [0,23,30] o.1,kI o.2]⟩]) ?_ lw ?_)))
 ·clear h;intro s o h;obtain ⟨v2,f5,f6⟩:=s;replace h:zaV x v2 f5 f6=some o:=h;unfold zaV at h;refine jp (jI h ?_ ?_)<;>intro uv h
  ·refine zw (jb h fun x5 uY h=>jr (rx 0 [0] zmQ.el uY rfl rfl rf) (jb h fun v3 uM h=>jb h fun wd uE h=>jr (ra 2 [kS x5] rfl (ztn 35 rfl underlying9 underlying35 underlying5 uM) rfl (ra 0 [.ptr 800000 0,.sl Rp.byte [35] v3] rfl (zfH (args:=[.tmp 50,.tmp 52]) [.ptr 800000 0,.sl Rp.byte [35] v3] [⟨800000,76,[.own (Rp.list Rp.byte) 35 800001 [0,23,30] f5,kI f6]⟩] [(800000,800000),(800001,800001)] [0,23,30,35] 34 [800001] rfl call65 (zfV uE) rfl rfl rfl rfl rfl rfl rfl rfl) rfl rf)) (zal (jp ?_))));cases h;exact zaT (lks [800000] [(35,30),(36,30)] lw)
  cases h;exact zaJ rfl lzz
 refine zbo _ rfl ?_;cases h;exact zwF (lks [800000] [(23,2),(30,2)] lw)
theorem znj (vt:∀{wv:zk} {sv:(List zd)} {uw:Int} {x:zc} {r:zk},xp wv sv uw x=some r->zgE prog 31 [.ptr 800000 0,.sl zi [0] sv,kI uw,.rc zj [0] x] [] [⟨800000,76,(zo 800001 [0] wv)⟩] [800000] [⟨800000,76,(zo 800001 [0,2] r)⟩]) (vu:∀{wv:zk} {sv:(List zd)} {f:za} {x:zc} {r:zk},xe wv sv f x=some r->zgE prog 71 [.ptr 800000 0,.sl zi [0] sv,.rc zf [0] f,.rc zj [0] x] [] [⟨800000,76,(zo 800001 [0] wv)⟩] [800000] [⟨800000,76,(zo 800001 [0,2] r)⟩]) (vv:∀{wv:zk} {sv:(List zd)} {f:za} {v:zb} {r:zk},xf wv sv f v=some r->zgE prog 37 [.ptr 800000 0,.sl zi [0] sv,.rc zf [0] f,.rc zh [0] v] [] [⟨800000,76,(zo 800001 [0] wv)⟩] [800000] [⟨800000,76,(zo 800001 [0,2] r)⟩]) (h:zei xp xe xf wv sv f x=some r):zgE prog 71 [.ptr 800000 0,.sl zi [0] sv,.rc zf [0] f,.rc zj [0] x] [] [⟨800000,76,(zo 800001 [0] wv)⟩] [800000] [⟨800000,76,(zo 800001 [0,2] r)⟩]:=by
 refine zjO (E:=⟨[(0,.ptr 800000 0)],[⟨800000,76,(zo 800001 [0,2] r)⟩]⟩) 57 [0] [(0,800000)] func71 rfl rfl rfl trivial ⟨⟨rfl,rfl,rfl⟩,trivial⟩ ⟨rfl,trivial⟩ (fun Xt old=>?_);refine zbR ?_;unfold zei at h;refine jr (ral 1 [16] [.rc zj [0] x] rfl (zhC 17 (zae [0] x) [0] rfl rfl rfl (by rw [zak]<;>rfl) rfl) rfl rf) (jd [0,1,6,7,8,9] [800000,16,17] zeY (by exact l0) (jb h fun rv uu h=>jr (rc 1 rfl (zB.le (ins':=[(.tmp 19,.ptr 800000 0),(.const (.slice none 0 0),kN)]) (zfH (args:=[.tmp 19,.const (.slice none 0 0)]) [.ptr 800000 0,.sl Rp.byte [] ([]:(List UInt8))] [⟨800000,76,(zo 800001 [0] wv)⟩] [(800000,800000),(800001,800001)] [0] 16 [800001] rfl call65 (zfV uu) rfl rfl rfl rfl rfl rfl rfl rfl) ⟨⟨rfl,vX _⟩,⟨rfl,zff _ _⟩,trivial⟩) rf) (jb h fun vY uz h=>jr (rc 5 rfl (zB.le (ins':=[(.tmp 21,.ptr 800000 0),(.tmp 22,.sl zi [0] sv),(.tmp 24,kI f.Of),(.tmp 25,.ag (zae [0] x))]) (zfH (args:=[.tmp 21,.tmp 22,.tmp 24,.tmp 25]) [.ptr 800000 0,.sl zi [0] sv,kI f.Of,.rc zj [0] x] [⟨800000,76,(zo 800001 [0,18] rv)⟩] [(800000,800000),(800001,800001)] [0,18] 17 [800001] rfl call31 (vt uz) rfl rfl rfl rfl rfl rfl rfl rfl) ⟨⟨rfl,vX _⟩,⟨rfl,vX _⟩,⟨rfl,vX _⟩,⟨rfl,zaa [0] x⟩,trivial⟩) rf) (jb h fun wd uE h=>jb h fun x2 uH h=>jk [0,6,8,9] [800000,16] (zyb ⟨[(0,.ptr 800000 0),(8,kI (wv.pieces.length:Int))],[⟨800000,76,[.own (Rp.list Rp.byte) 35 800001 [0,18,19,20] (vY.pieces.set (Int.toNat (wv.pieces.length:Int)) wd),kI vY.size]⟩]⟩ [.ev,.ev,.ev,.ev,.ev,.ev,.ev,.ev,.ev,.ev,.ev,.ev,.ev,.ex [] [] [20] (.own Rp.byte 5 20 [] wd) [],.ex [] [] [] (.ptr 800001 (Int.toNat (wv.pieces.length:Int)*(Rp.list Rp.byte).size)) [],.raw [11,0,1,11,19] [800001] [] [.sl 30 (.own (Rp.list Rp.byte) 35 800001 [0,18,19,20] (vY.pieces.set (Int.toNat (wv.pieces.length:Int)) wd)),.bx ⟨800000,76,[.own (Rp.list Rp.byte) 35 800001 [0,18,19,20] (vY.pieces.set (Int.toNat (wv.pieces.length:Int)) wd),kI vY.size]⟩]] [⟨[(.func 117,.lf (.val (.func (.func 117) #[] #[]))),(.tmp 33,kI f.Number),(.tmp 39,kI (IntKind.i64.wrap (vY.size - wv.size)))],[],[]⟩,⟨[(.tmp 30,.own (Rp.list Rp.byte) 35 800001 [0,18,19] vY.pieces),(.tmp 31,kI (wv.pieces.length:Int))],[],[]⟩,⟨[],[],[.sl 30 (.own (Rp.list Rp.byte) 35 800001 [0,18,19] vY.pieces),.sl 41 (.ptr 800001 (Int.toNat (wv.pieces.length:Int)*(Rp.list Rp.byte).size)),.sl 40 (.own Rp.byte 5 20 [] wd),.sl 30 (.own (Rp.list Rp.byte) 35 800001 [0,18,19] vY.pieces),.bx ⟨800000,76,(zo 800001 [0,18,19] vY)⟩]⟩] [0,8] [800000] zeY (by kernel_rfl) (by exact (lwn 13 (lw_x (zB.cons _ (zCJ (lcd [kI f.Number,kI (IntKind.i64.wrap (vY.size - wv.size))] 18 call117 (zvK uE)) rfl)) (lw_x (zCJ (zus rfl zmg.el uH) rfl) (lw_r (zEi (ins:=[(.tmp 30,.own (Rp.list Rp.byte) 35 800001 [0,18,19] vY.pieces),(.tmp 41,.ptr 800001 (Int.toNat (wv.pieces.length:Int)*(Rp.list Rp.byte).size)),(.tmp 40,.own Rp.byte 5 20 [] wd)]) [30] [(⟨800000,76,(zo 800001 [0,18,19] vY)⟩,⟨800000,76,[.own (Rp.list Rp.byte) 35 800001 [0,18,19,20] (vY.pieces.set (Int.toNat (wv.pieces.length:Int)) wd),kI vY.size]⟩)] (zJO (r:=(Rp.list Rp.byte)) (e:=35) (ℓ:=800001) (C:=[0,18,19]) (xs:=vY.pieces) (off:=(Int.toNat (wv.pieces.length:Int)*(Rp.list Rp.byte).size)) (.tmp 30) (Int.toNat (wv.pieces.length:Int)) 0 x2 wd [0,18,19,20] rfl rfl sizeOf35 rfl (zqj uH) rfl (ztC rfl _) rfl) ⟨trivial,trivial,trivial,trivial⟩ (fun _ _=>nofun) ⟨⟨rfl,rfl,rfl,⟨zgw 0 rfl,zy rfl,trivial⟩⟩,trivial⟩) lw_0))))) (jb h fun x3 uR h=>jd [0] [800000] zeY (by exact (lwn 9 (ly [.own (Rp.list Rp.byte) 35 800001 [0,18,19,20] (vY.pieces.set (Int.toNat (wv.pieces.length:Int)) wd),kI (wv.pieces.length:Int)] (zwM rfl zmg.el (zko _ _ _ _ _) uR) rfl (lx (ldl (Rp.list Rp.byte) [800001,0,18,19,20] x3 0 Rp.byte x3) (lwn 4 (ly [.ptr 800000 1,kI (IntKind.i64.wrap (vY.size+(x3.length:Int)))] (zBw (b:=⟨800000,76,[.own (Rp.list Rp.byte) 35 800001 [0,18,19,20] (vY.pieces.set (Int.toNat (wv.pieces.length:Int)) wd),kI vY.size]⟩) (off:=1) rfl sizeOf3 rfl rfl rfl) rfl l0)))))) ?_))))));cases h;exact zwF (lks [800000] [(18,2),(19,2),(20,2)] lw)
theorem zmk (vt:∀{wv:zk} {sv:(List zd)} {uw:Int} {x:zc} {r:zk},xp wv sv uw x=some r->zgE prog 31 [.ptr 800000 0,.sl zi [0] sv,kI uw,.rc zj [0] x] [] [⟨800000,76,(zo 800001 [0] wv)⟩] [800000] [⟨800000,76,(zo 800001 [0,2] r)⟩]) (vu:∀{wv:zk} {sv:(List zd)} {f:za} {x:zc} {r:zk},xe wv sv f x=some r->zgE prog 71 [.ptr 800000 0,.sl zi [0] sv,.rc zf [0] f,.rc zj [0] x] [] [⟨800000,76,(zo 800001 [0] wv)⟩] [800000] [⟨800000,76,(zo 800001 [0,2] r)⟩]) (vv:∀{wv:zk} {sv:(List zd)} {f:za} {v:zb} {r:zk},xf wv sv f v=some r->zgE prog 37 [.ptr 800000 0,.sl zi [0] sv,.rc zf [0] f,.rc zh [0] v] [] [⟨800000,76,(zo 800001 [0] wv)⟩] [800000] [⟨800000,76,(zo 800001 [0,2] r)⟩]) (h:zdw xp xe xf wv sv f v=some r):zgE prog 37 [.ptr 800000 0,.sl zi [0] sv,.rc zf [0] f,.rc zh [0] v] [] [⟨800000,76,(zo 800001 [0] wv)⟩] [800000] [⟨800000,76,(zo 800001 [0,2] r)⟩]:=by
 refine zjO (E:=⟨[(0,.ptr 800000 0)],[⟨800000,76,(zo 800001 [0,2] r)⟩]⟩) 48 [0] [(0,800000)] func37 rfl rfl rfl trivial ⟨⟨rfl,rfl,rfl⟩,trivial⟩ ⟨rfl,trivial⟩ (fun Xt old=>?_);refine zbR ?_;unfold zdw at h;refine jr (ral 1 [34] [.rc zh [0] v] rfl (zhC 35 (zW [0] v) [0] rfl rfl rfl (by rw [zad]<;>rfl) rfl) rfl rf) (jp (jb h fun p uS h=>jn (.N [0,1,6,7] [34,35] [] [⟨800000,76,[.own (Rp.list Rp.byte) 35 800001 [0,36,37,38,39,40] p.1,kI p.2]⟩]) ?_ ?_))
 ·replace h:=uS;refine jI h ?_ ?_<;>intro ur h
  ·refine jb h fun rv uu h=>jr (lb 1 zf [] f (ra 2 [.ptr 800000 0,.rc zf [] f,.sl vV [0] v.Words] rfl (zfH (args:=[.tmp 16,.tmp 17,.tmp 19]) [.ptr 800000 0,.rc zf [] f,.sl vV [0] v.Words] [⟨800000,76,(zo 800001 [0] wv)⟩] [(800000,800000),(800001,800001)] [0] 39 [800001] rfl call69 (zmR uu) rfl rfl rfl rfl rfl rfl rfl rfl) rfl rf)) ?_;cases h;exact zaT (lks [800000,34,35] [(41,40),(42,40),(43,40),(44,40),(45,40)] lw)
  cases h;exact zaT lw
 refine zim (jp (zw (jb h fun q uA h=>jl uA [0,1,6,7,22,23] [34,35] (fun s=>[(24,kI s.1)]) (fun s=>[⟨800000,76,[.own (Rp.list Rp.byte) 35 800001 [0,36,37,38,39,40,46] s.2.1,kI s.2.2]⟩]) (fun o=> .X 0 [0,1,6,7] [34,35] [] [⟨800000,76,[.own (Rp.list Rp.byte) 35 800001 [0,36,37,38,39,40,46] o.1,kI o.2]⟩]) ?_ lw ?_)))
 ·clear h;intro s o h;obtain ⟨v2,f4,f5⟩:=s;replace h:zbh f v v2 f4 f5=some o:=h;unfold zbh at h;refine jp (jI h ?_ ?_)<;>intro uv h
  ·refine zw (jb h fun x uD h=>jr (rx 0 [0] zmQ.el uD rfl rfl rf) (jb h fun v3 uM h=>jb h fun vY uz h=>jr (ra 4 [kS x] rfl (ztn 53 rfl underlying9 underlying35 underlying5 uM) rfl (ra 0 [.ptr 800000 0,kI f.Number,kI 2,.sl Rp.byte [53] v3] rfl (zfH (args:=[.tmp 28,.tmp 30,.const (.int .i64 2),.tmp 32]) [.ptr 800000 0,kI f.Number,kI 2,.sl Rp.byte [53] v3] [⟨800000,76,[.own (Rp.list Rp.byte) 35 800001 [0,36,37,38,39,40,46] f4,kI f5]⟩] [(800000,800000),(800001,800001)] [0,36,37,38,39,40,46,53] 52 [800001] rfl call70 (zfu uz) rfl rfl rfl rfl rfl rfl rfl rfl) rfl rf)) (zal (jp ?_))));cases h;exact zaT (lks [800000,34,35] [(53,46),(54,46),(55,46)] lw)
  cases h;exact zaJ rfl lzz
 refine zbo _ rfl (jp (zw (jb h fun q2 uN h=>jl uN [0,1,6,36,37] [34] (fun s=>[(38,kI s.1)]) (fun s=>[⟨800000,76,[.own (Rp.list Rp.byte) 35 800001 [0,36,37,38,39,40,46,56] s.2.1,kI s.2.2]⟩]) (fun o=> .X 2 [0] [] [] [⟨800000,76,[.own (Rp.list Rp.byte) 35 800001 [0,36,37,38,39,40,46,56] o.1,kI o.2]⟩]) ?_ lw ?_)))
 ·clear h;intro s o h;obtain ⟨v4,f8,f9⟩:=s;replace h:zbi f xe sv v v4 f8 f9=some o:=h;unfold zbi at h;refine jp (jI h ?_ ?_)<;>intro uy h
  ·refine zw (jb h fun x2 uH h=>jr (rx 0 [0] zsL.el uH rfl rfl (rc 0 rfl (lde zj [0] x2 zjs) (ral 1 [61] [.ptr 61 0,.rc zj [0] x2] rfl (zfW (r:=zj) (b:=⟨61,27,[kN,kN]⟩) (off:=0) (zae [0] x2) rfl sizeOf27 rfl rfl (by rw [zak]<;>rfl) rfl) rfl rf))) (jb h fun wd uE h=>jr (lb 2 zf [] f (rc 1 rfl (zB.le (ins':=[(.tmp 42,.ptr 800000 0),(.tmp 43,.sl zi [0] sv),(.tmp 44,.rc zf [] f),(.tmp 45,.ag (zae [0] x2))]) (zfH (args:=[.tmp 42,.tmp 43,.tmp 44,.tmp 45]) [.ptr 800000 0,.sl zi [0] sv,.rc zf [] f,.rc zj [0] x2] [⟨800000,76,[.own (Rp.list Rp.byte) 35 800001 [0,36,37,38,39,40,46,56] f8,kI f9]⟩] [(800000,800000),(800001,800001)] [0,36,37,38,39,40,46,56] 60 [800001] rfl call71 (vu uE) rfl rfl rfl rfl rfl rfl rfl rfl) ⟨⟨rfl,vX _⟩,⟨rfl,vX _⟩,⟨rfl,vX _⟩,⟨rfl,zaa [0] x2⟩,trivial⟩) rf)) (zal (jp ?_))));cases h;exact zaT (lks [800000,34] [(62,56)] lw)
  cases h;exact zaJ rfl lzz
 refine zbo _ rfl ?_;cases h;exact zwF (lks [800000] [(36,2),(37,2),(38,2),(39,2),(40,2),(46,2),(56,2)] lw)
theorem zfc (uB:Nat):(∀{wv:zk} {sv:(List zd)} {uw:Int} {x:zc} {r:zk},zbq uB wv sv uw x=some r->zgE prog 31 [.ptr 800000 0,.sl zi [0] sv,kI uw,.rc zj [0] x] [] [⟨800000,76,(zo 800001 [0] wv)⟩] [800000] [⟨800000,76,(zo 800001 [0,2] r)⟩])/\(∀{wv:zk} {sv:(List zd)} {f:za} {x:zc} {r:zk},zdl uB wv sv f x=some r->zgE prog 71 [.ptr 800000 0,.sl zi [0] sv,.rc zf [0] f,.rc zj [0] x] [] [⟨800000,76,(zo 800001 [0] wv)⟩] [800000] [⟨800000,76,(zo 800001 [0,2] r)⟩])/\(∀{wv:zk} {sv:(List zd)} {f:za} {v:zb} {r:zk},zcv uB wv sv f v=some r->zgE prog 37 [.ptr 800000 0,.sl zi [0] sv,.rc zf [0] f,.rc zh [0] v] [] [⟨800000,76,(zo 800001 [0] wv)⟩] [800000] [⟨800000,76,(zo 800001 [0,2] r)⟩]):=by
  induction uB with
  | zero=>exact ⟨fun h=>absurd h nofun,fun h=>absurd h nofun,fun h=>absurd h nofun⟩
  | succ uB ih=>exact ⟨fun h=>zle (fun hh=>ih.1 hh) (fun hh=>ih.2.1 hh) (fun hh=>ih.2.2 hh) h,fun h=>znj (fun hh=>ih.1 hh) (fun hh=>ih.2.1 hh) (fun hh=>ih.2.2 hh) h,fun h=>zmk (fun hh=>ih.1 hh) (fun hh=>ih.2.1 hh) (fun hh=>ih.2.2 hh) h⟩
theorem zha (h:zbq uB wv sv uw x=some r):zgE prog 31 [.ptr 800000 0,.sl zi [0] sv,kI uw,.rc zj [0] x] [] [⟨800000,76,(zo 800001 [0] wv)⟩] [800000] [⟨800000,76,(zo 800001 [0,2] r)⟩]:=(zfc uB).1 h
theorem zpP (h:zfM wv uw uF tov=some r):zhu prog 162 [.ag [.sl zi [0] wv.s,.sl Rp.byte [0] wv.b,.om zn zg 2 [0] wv.met],kI uw,kI uF,kI tov] [.rc zg [] r.1,k8 r.2.1] [.ag [.any,.any,.om zn zg 2 [0] r.2.2],.any,.any,.any]:=by
 refine zjP (E:=⟨[(0,.ag [.any,.any,.om zn zg 2 [0] r.2.2]),(8,.ptr 3 0),(9,k8 r.2.1)],[⟨3,154,(zcj r.1)⟩]⟩) 67 [0] func162 rfl rfl rfl ⟨⟨_,_,rfl,rfl,rfl,rfl,zne⟩,rfl,trivial⟩ ⟨.inr ⟨rfl,rfl⟩,.inl rfl,.inl rfl,.inl rfl,trivial⟩ rfl (fun Xt old=>?_);refine zbR ?_;unfold zfM at h;refine jq [13,14] (jb h fun v uK h=>jr (ra 3 [.sl Rp.byte [0] wv.b,kI tov] rfl (zgQ none (some (kI tov)) rfl zdK.el (zcH _ _ _) ⟨rfl,rfl⟩ ⟨rfl,rfl⟩ uK) rfl rf) (jb h fun rv uu h=>jr (rl 2 [0] 13 call164 (zku uu) (rfl' [15])) (jp (jI h ?_ ?_))))<;>intro ur h
 ·refine jr (rc 0 rfl (zam (r:=zg) [] [] (⟨(⟨0,0,0,0,0⟩:zq),0,false⟩:ze) rfl zve rfl rfl) rf) ?_;cases h;exact zfG (lks [14] [(14,3)] lw)
 refine jr (rc 5 rfl (zam (r:=zn) [kI uw,kI rv.1.Number,kI rv.1.Wire] [] (⟨uw,rv.1.Number,rv.1.Wire⟩:zm) rfl zJW rfl rfl) (rfl' [16])) (jr (lb 2 zn [] (⟨uw,rv.1.Number,rv.1.Wire⟩:zm) (ra 0 [.om zn zg 2 [0] wv.met,.rc zn [] (⟨uw,rv.1.Number,rv.1.Wire⟩:zm)] rfl (zrD (rk:=zn) (rv:=zg) (m:=wv.met) (k:=(⟨uw,rv.1.Number,rv.1.Wire⟩:zm)) (.rc zg [0] ((mget wv.met (⟨uw,rv.1.Number,rv.1.Wire⟩:zm)).getD (⟨(⟨0,0,0,0,0⟩:zq),0,false⟩:ze))) rfl zCQ (zcL rfl) (zxR rfl)) rfl (rfl' [17]))) (jp (jI h ?_ ?_)))<;>intro uv h
 ·refine jb h fun x uD h=>jb h fun vY uz h=>jr (rx 3 [0] zoj.el uD rfl rfl (rc 0 rfl (lde zi [0] x zyK) (rl 2 [0] 16 call191 (zyE uz) rf))) (jp (jI h ?_ ?_))<;>intro uy h
  ·refine jr (rc 0 rfl (zam (r:=zg) [] [] (⟨(⟨0,0,0,0,0⟩:zq),0,false⟩:ze) rfl zve rfl rfl) rf) ?_;cases h;exact zfG (lks [14] [(14,3)] lw)
  refine jr (lb 2 zn [] (⟨uw,rv.1.Number,rv.1.Wire⟩:zm) (lb 0 zg [] vY.1 (rms (C1:=[]) (D:=[]) 0 [] 2 [0] wv.met (⟨uw,rv.1.Number,rv.1.Wire⟩:zm) vY.1 [0] zCQ (zcL rfl) (zcL rfl) rf))) (jr (lb 0 zaM [] rv.1 rf) (jr (lb 0 zg [] (⟨rv.1,vY.1.Field,vY.1.Run⟩:ze) rf) ?_));cases h;exact zfG (lks [14] [(14,3)] lw)
 refine jr (lb 0 zaM [] rv.1 rf) (jr (lb 0 zg [] (⟨rv.1,((mget wv.met (⟨uw,rv.1.Number,rv.1.Wire⟩:zm)).getD (⟨(⟨0,0,0,0,0⟩:zq),0,false⟩:ze)).Field,((mget wv.met (⟨uw,rv.1.Number,rv.1.Wire⟩:zm)).getD (⟨(⟨0,0,0,0,0⟩:zq),0,false⟩:ze)).Run⟩:ze) rf) ?_);cases h;exact zfG (lks [14] [(14,3)] lw)
theorem zyq (h:zlS k b=some r):vW 215 [kI k,.sl Rp.byte [0] b] [kI r.1,k8 r.2]:=by
 refine zww (E:=⟨[(4,.ptr 2 0),(5,.ptr 3 0)],[⟨2,3,[kI r.1]⟩,⟨3,36,[k8 r.2]⟩]⟩) 20 func215 rfl rfl rfl ⟨⟨_,_,rfl,rfl,rfl,rfl⟩,⟨_,_,rfl,rfl,rfl,rfl⟩,trivial⟩ rfl rfl (fun Xt=>?_);refine zbR ?_;unfold zlS at h;refine jq [13,14] (jq [15] (jb h fun rv uu h=>jr (rl 2 [0] 0 call208 (zpf uu) rf) (zw (jb h fun q uA h=>znq (E':=⟨[(4,.ptr 13 0),(5,.ptr 14 0),(6,.ptr 15 0),(11,.fv 223 [.bp vU 3 922300 [] rv.1,.bp (Rp.list Rp.byte) 35 922301 [0] rv.2])],[⟨13,3,[kI 0]⟩,⟨14,36,[k8 0]⟩,⟨15,3,[kI 0]⟩]⟩) ?_ ?_))))
 · exact lzz
 refine zzx (it:=fun {σ:Type} (kf:Rnd σ ((List UInt8)×Int)) (sg:σ)=>zdW rv.1 rv.2 kf sg) (zmK rv.1 rv.2) [922300,922301] [4,5,6] [13,14,15] [(4,.ptr 13 0),(5,.ptr 14 0),(6,.ptr 15 0)] (fun s:Int=>[⟨13,3,[kI 0]⟩,⟨14,36,[k8 0]⟩,⟨15,3,[kI s]⟩]) (fun o:(Int×Int)=>[⟨13,3,[kI 0]⟩,⟨14,36,[k8 o.1]⟩,⟨15,3,[kI o.2]⟩]) (fun o:(Int×Int)=> .ret) (fun (s:Int) (x:((List UInt8)×Int))=>zeL s x.1 x.2) (fun (s:Int) (x:((List UInt8)×Int))=>⟨[(4,.ptr 13 0),(5,.ptr 14 0),(6,.ptr 15 0),(8,k8 x.2)],[⟨13,3,[kI 0]⟩,⟨14,36,[k8 0]⟩,⟨15,3,[kI s]⟩]⟩) rfl rfl call223 rfl rfl rfl rfl rfl rfl (fun _=>rfl) (fun o=>rfl) rfl rfl (fun _=>rfl) ?_ (fun _ _=>⟨rfl,rfl⟩) ?_ uA ?_
 ·clear h;intro Xr old f x;obtain ⟨x,x2⟩:=x;exact zbR (znq (E':=⟨[(13,k8 x2),(12,.sl Rp.byte [0] x),(4,.ptr 13 0),(5,.ptr 14 0),(6,.ptr 15 0)],[⟨13,3,[kI 0]⟩,⟨14,36,[k8 0]⟩,⟨15,3,[kI f]⟩]⟩) (fun _ _ _ hs=>hs) jy)
 ·clear h;intro Xr old f x o h;obtain ⟨x,x2⟩:=x;refine zbR (znq (E':=⟨[(4,.ptr 13 0),(5,.ptr 14 0),(6,.ptr 15 0),(8,k8 x2)],[⟨13,3,[kI 0]⟩,⟨14,36,[k8 0]⟩,⟨15,3,[kI f]⟩]⟩) (fun _ _ _ hs=>hs) ?_);replace h:zeL f x x2=some o:=h;unfold zeL at h;refine zw (jp (jI h ?_ ?_))<;>intro ur h
  ·refine jp ?_;cases h;exact zCv lzz
  refine jp (zal ?_);cases h;exact zaT lzz
 rcases q with u| j
 ·refine znq (E':=⟨[(4,.ptr 13 0),(5,.ptr 14 0),(6,.ptr 15 0)],[⟨13,3,[kI 0]⟩,⟨14,36,[k8 0]⟩,⟨15,3,[kI u]⟩]⟩) (fun _ _ _ hs=>hs) (zal (jp ?_));cases h;exact zH (lks [13,14] [(13,2),(14,3)] lzz)
 refine znq (E':=⟨[(4,.ptr 13 0),(5,.ptr 14 0),(6,.ptr 15 0)],[⟨13,3,[kI 0]⟩,⟨14,36,[k8 j.1]⟩,⟨15,3,[kI j.2]⟩]⟩) (fun _ _ _ hs=>hs) ?_;cases h;exact zH (lks [13,14] [(13,2),(14,3)] lzz)
theorem zyr (h:zlT k b=some r):vW 169 [kI k,.sl Rp.byte [0] b] [.own vV 72 3 [] r.1,k8 r.2]:=by
 refine zww (E:=⟨[(4,.ptr 2 0),(5,.ptr 4 0)],[⟨2,48,[.own vV 72 3 [] r.1]⟩,⟨4,36,[k8 r.2]⟩]⟩) 30 func169 rfl rfl rfl ⟨⟨_,_,rfl,rfl,rfl,rfl⟩,⟨_,_,rfl,rfl,rfl,rfl⟩,trivial⟩ rfl rfl (fun Xt=>?_);refine zbR ?_;unfold zlT at h;refine jq [18,19,20] (jq [21] (jb h fun rv uu h=>jr (rl 2 [0] 0 call208 (zpf uu) rf) (zw (jb h fun q uA h=>znq (E':=⟨[(2,.ptr 18 0),(4,.ptr 19 0),(5,.ptr 20 0),(6,.ptr 21 0),(13,.fv 223 [.bp vU 3 922300 [] rv.1,.bp (Rp.list Rp.byte) 35 922301 [0] rv.2])],[⟨18,3,[kI k]⟩,⟨19,48,[kN]⟩,⟨20,36,[k8 0]⟩,⟨21,48,[.own vV 72 24 [] []]⟩]⟩) ?_ ?_))))
 · exact lw
 refine zzx (it:=fun {σ:Type} (kf:Rnd σ ((List UInt8)×Int)) (sg:σ)=>zdW rv.1 rv.2 kf sg) (zmK rv.1 rv.2) [922300,922301] [2,4,5,6] [18,19,20,21] [(2,.ptr 18 0),(4,.ptr 19 0),(5,.ptr 20 0),(6,.ptr 21 0)] (fun s:(List Int)=>[⟨18,3,[kI k]⟩,⟨19,48,[kN]⟩,⟨20,36,[k8 0]⟩,⟨21,48,[.own vV 72 24 [] s]⟩]) (fun o:(Int×(List Int))=>[⟨18,3,[kI k]⟩,⟨19,48,[kN]⟩,⟨20,36,[k8 o.1]⟩,⟨21,48,[.own vV 72 24 [] o.2]⟩]) (fun o:(Int×(List Int))=> .ret) (fun (s:(List Int)) (x:((List UInt8)×Int))=>zdp k s x.1 x.2) (fun (s:(List Int)) (x:((List UInt8)×Int))=>⟨[(2,.ptr 18 0),(4,.ptr 19 0),(5,.ptr 20 0),(6,.ptr 21 0),(7,.sl Rp.byte [0] x.1),(8,k8 x.2)],[⟨18,3,[kI k]⟩,⟨19,48,[kN]⟩,⟨20,36,[k8 0]⟩,⟨21,48,[.own vV 72 24 [] s]⟩]⟩) rfl rfl call223 rfl rfl rfl rfl rfl rfl (fun _=>rfl) (fun o=>rfl) rfl rfl (fun _=>rfl) ?_ (fun _ _=>⟨rfl,rfl⟩) ?_ uA ?_
 ·clear h;intro Xr old f x;obtain ⟨x,x2⟩:=x;exact zbR (znq (E':=⟨[(15,k8 x2),(14,.sl Rp.byte [0] x),(2,.ptr 18 0),(4,.ptr 19 0),(5,.ptr 20 0),(6,.ptr 21 0)],[⟨18,3,[kI k]⟩,⟨19,48,[kN]⟩,⟨20,36,[k8 0]⟩,⟨21,48,[.own vV 72 24 [] f]⟩]⟩) (fun _ _ _ hs=>hs) (jp jy))
 ·clear h;intro Xr old f x o h;obtain ⟨x,x2⟩:=x;refine zbR (znq (E':=⟨[(2,.ptr 18 0),(4,.ptr 19 0),(5,.ptr 20 0),(6,.ptr 21 0),(7,.sl Rp.byte [0] x),(8,k8 x2)],[⟨18,3,[kI k]⟩,⟨19,48,[kN]⟩,⟨20,36,[k8 0]⟩,⟨21,48,[.own vV 72 24 [] f]⟩]⟩) (fun _ _ _ hs=>hs) ?_);replace h:zdp k f x x2=some o:=h;unfold zdp at h;refine zw (jp (jI h ?_ ?_))<;>intro ur h
  ·refine jp ?_;cases h;exact zCv lzz
  refine jb h fun vY uz h=>jr (rl 2 [0] 23 call209 (zuZ uz) rf) (jb h fun v uK h=>jr (rc 2 rfl (zjl [kU vY.1] 25 [] ([vY.1]:(List Int)) rfl zsK rfl rfl rfl rfl) (rc 0 rfl (lao 24 [] 72 25 [] [] zsK.el uK (.inl (zwY _))) rf)) (zal ?_));cases h;exact zaT lzz
 rcases q with u| j
 ·refine znq (E':=⟨[(2,.ptr 18 0),(4,.ptr 19 0),(5,.ptr 20 0),(6,.ptr 21 0)],[⟨18,3,[kI k]⟩,⟨19,48,[kN]⟩,⟨20,36,[k8 0]⟩,⟨21,48,[.own vV 72 24 [] u]⟩]⟩) (fun _ _ _ hs=>hs) (zal (jp ?_));cases h;exact zH (lks [19,20] [(19,2),(20,4),(24,3)] lzz)
 refine znq (E':=⟨[(2,.ptr 18 0),(4,.ptr 19 0),(5,.ptr 20 0),(6,.ptr 21 0)],[⟨18,3,[kI k]⟩,⟨19,48,[kN]⟩,⟨20,36,[k8 j.1]⟩,⟨21,48,[.own vV 72 24 [] j.2]⟩]⟩) (fun _ _ _ hs=>hs) ?_;cases h;exact zH (lks [19,20] [(19,2),(20,4)] lw)
end Go.Proofs.YtkgohoggipdokaaGreat

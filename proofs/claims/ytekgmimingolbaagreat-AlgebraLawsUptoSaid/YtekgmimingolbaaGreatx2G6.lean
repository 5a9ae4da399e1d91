/-
  The Go functions do what the plain functions say. No condition.
-/
import Derived.Test.YtekgmimingolbaaGreatx2G3
set_option autoImplicit true
set_option relaxedAutoImplicit true
namespace Go.Proofs.YtekgmimingolbaaGreat
open Go Go.RowKit
set_option linter.unusedVariables false
set_option maxRecDepth 100000
set_option maxHeartbeats 3200000
theorem zuM (vq:∀{av:zb} {b:zb} {r:Bool},xe av b=some r->FnOk Tryz.prog 66 [.rc zd [0] av,.rc zd [0] b] [kB r]) (vr:∀{v:za} {wv:za} {r:Bool},xf v wv=some r->FnOk Tryz.prog 99 [.rc zc [0] v,.rc zc [0] wv] [kB r]) (vt:∀{s1:(List za)} {s2:(List za)} {r:Bool},xm s1 s2=some r->FnOk Tryz.prog 98 [.sl zc [0] s1,.sl zc [0] s2,.lf (.val (.func (.func 99) #[] #[]))] [kB r]) (vu:∀{s1:(List zb)} {s2:(List zb)} {r:Bool},xn s1 s2=some r->FnOk Tryz.prog 133 [.sl zd [0] s1,.sl zd [0] s2,.lf (.val (.func (.func 66) #[] #[]))] [kB r]) (h:zjW xe xf xm xn av b=some r):FnOk Tryz.prog 66 [.rc zd [0] av,.rc zd [0] b] [kB r]:=by
 refine zz (E:=⟨[(4,kB r)],[]⟩) 17 Tryz.func66 rfl rfl rfl ⟨rfl,trivial⟩ (fun Xt=>?_);refine zq ?_;unfold zjW at h;refine jr (ra 0 [.rc zd [0] av] rfl (zbw 11 (zj [0] av) [0] rfl rfl rfl (by rw [zn]<;>rfl) rfl) rfl (ra 0 [.rc zd [0] b] rfl (zbw 12 (zj [0] b) [0] rfl rfl rfl (by rw [zn]<;>rfl) rfl) rfl rf)) (jb h fun g uz h=>zaG ⟨[(4,kB g)],[]⟩ ?_ ?_)
 ·refine jb uz fun rv uC uz=>(rl 4 [0] 11 Tryz.call98 (vt uC) (rsl 1 [] 10 rv (fun uA=>?_) (fun uA=>?_)))
  ·replace uz:=iteT uz uA;refine jb uz fun rv2 uJ uz=>?_;cases uz;exact (rl 4 [0] 11 Tryz.call100 (zfK uJ) rgg)
  replace uz:=iteF uz uA;cases uz;exact rgg
 obtain rfl:=(sj h);exact zA lzz
theorem zqa (vq:∀{av:zb} {b:zb} {r:Bool},xe av b=some r->FnOk Tryz.prog 66 [.rc zd [0] av,.rc zd [0] b] [kB r]) (vr:∀{v:za} {wv:za} {r:Bool},xf v wv=some r->FnOk Tryz.prog 99 [.rc zc [0] v,.rc zc [0] wv] [kB r]) (vt:∀{s1:(List za)} {s2:(List za)} {r:Bool},xm s1 s2=some r->FnOk Tryz.prog 98 [.sl zc [0] s1,.sl zc [0] s2,.lf (.val (.func (.func 99) #[] #[]))] [kB r]) (vu:∀{s1:(List zb)} {s2:(List zb)} {r:Bool},xn s1 s2=some r->FnOk Tryz.prog 133 [.sl zd [0] s1,.sl zd [0] s2,.lf (.val (.func (.func 66) #[] #[]))] [kB r]) (h:zgs xe xf xm xn v wv=some r):FnOk Tryz.prog 99 [.rc zc [0] v,.rc zc [0] wv] [kB r]:=by
 refine zz (E:=⟨[(4,kB r)],[]⟩) 31 Tryz.func99 rfl rfl rfl ⟨rfl,trivial⟩ (fun Xt=>?_);refine zq ?_;unfold zgs at h;refine jr (ra 0 [.rc zc [0] v] rfl (zbw 11 (zk [0] v) [0] rfl rfl rfl (by rw [zv]<;>rfl) rfl) rfl (ra 0 [.rc zc [0] wv] rfl (zbw 12 (zk [0] wv) [0] rfl rfl rfl (by rw [zv]<;>rfl) rfl) rfl rf)) (jb h fun g uz h=>zaG ⟨[(4,kB g)],[]⟩ ?_ ?_)
 ·refine (rsl 6 [] 10 (v.Number==wv.Number) (fun uA=>?_) (fun uA=>?_))
  ·replace uz:=iteT uz uA;refine jb uz fun rv uC uz=>(rl 4 [0] 11 Tryz.call132 (ziN uC) (rsl 2 [] 17 rv (fun uB=>?_) (fun uB=>?_)))
   ·replace uz:=iteT uz uB;refine jb uz fun rv2 uJ uz=>(rl 4 [0] 11 Tryz.call100 (zfK uJ) (rsl 2 [] 24 rv2 (fun uE=>?_) (fun uE=>?_)))
    ·replace uz:=iteT uz uE;refine jb uz fun rv3 uO uz=>?_;cases uz;exact (rl 4 [0] 11 Tryz.call133 (vu uO) rgg)
    replace uz:=iteF uz uE;cases uz;exact rgg
   replace uz:=iteF uz uB;cases uz;exact rgg
  replace uz:=iteF uz uA;cases uz;exact rgg
 obtain rfl:=(sj h);exact zA lzz
theorem zcp (vq:∀{av:zb} {b:zb} {r:Bool},xe av b=some r->FnOk Tryz.prog 66 [.rc zd [0] av,.rc zd [0] b] [kB r]) (vr:∀{v:za} {wv:za} {r:Bool},xf v wv=some r->FnOk Tryz.prog 99 [.rc zc [0] v,.rc zc [0] wv] [kB r]) (vt:∀{s1:(List za)} {s2:(List za)} {r:Bool},xm s1 s2=some r->FnOk Tryz.prog 98 [.sl zc [0] s1,.sl zc [0] s2,.lf (.val (.func (.func 99) #[] #[]))] [kB r]) (vu:∀{s1:(List zb)} {s2:(List zb)} {r:Bool},xn s1 s2=some r->FnOk Tryz.prog 133 [.sl zd [0] s1,.sl zd [0] s2,.lf (.val (.func (.func 66) #[] #[]))] [kB r]) (h:zN xe xf xm xn s1 s2=some r):FnOk Tryz.prog 98 [.sl zc [0] s1,.sl zc [0] s2,.lf (.val (.func (.func 99) #[] #[]))] [kB r]:=by
 refine zz (E:=⟨[(6,kB r)],[]⟩) 32 Tryz.func98 rfl rfl rfl ⟨rfl,trivial⟩ (fun Xt=>?_);refine zq ?_;unfold zN at h;refine jp (jp (jI h (fun uA h=>?_) fun uA h=>?_))
 ·refine jp ?_;obtain rfl:=(sj h);exact zA lzz
 refine jp (zB (jb h fun q uF h=>zaH (fun s:Int=>zt xf s1 s2 s) (fun s=>⟨[(1,.sl zc [0] s2),(2,.lf (.val (.func (.func 99) #[] #[]))),(15,.sl zc [0] s1),(16,kI (s1.length:Int)),(17,kI s)],[]⟩) (fun o e a w=>match o with| (.inl v_)=>e= .exit 0/\Sx ⟨⟨32,[]⟩,Xt,false,#[]⟩ ⟨[],[]⟩ a w| (.inr v_)=>e= .ret/\Sx ⟨⟨32,[]⟩,Xt,false,#[]⟩ ⟨[(6,kB false)],[]⟩ a w) ?_ uF lzz ?_))
 ·clear h;intro v o h;refine zq ?_;replace h:zt xf s1 s2 v=some o:=h;unfold zt at h;refine jp (jI h (fun uB h=>?_) fun uB h=>?_)
  ·refine zB (jb h fun x uI h=>jr (ra 1 [.sl zc [0] s1,kI v] rfl (zbt rfl zgO.el (zV _ _ _) uI) rfl (ra 0 [.ep zc [0] x 0] rfl (zeT rfl ⟨Tryz.isAgg57,Tryz.sizeOf57⟩) rfl (ral 2 [12] [.ptr 12 0,.rc zc [0] x] rfl (zfy (r:=zc) (b:=⟨12,57,[kI 0,kN,kN,kN]⟩) (off:=0) (zk [0] x) rfl Tryz.sizeOf57 rfl rfl (by rw [zv]<;>rfl) rfl) rfl rf))) (jb h fun x2 uL h=>jr (ra 2 [.sl zc [0] s2,kI v] rfl (zbt rfl zgO.el (zV _ _ _) uL) rfl (ra 0 [.ep zc [0] x2 0] rfl (zeT rfl ⟨Tryz.isAgg57,Tryz.sizeOf57⟩) rfl (ral 1 [13] [.ptr 13 0,.rc zc [0] x2] rfl (zfy (r:=zc) (b:=⟨13,57,[kI 0,kN,kN,kN]⟩) (off:=0) (zk [0] x2) rfl Tryz.sizeOf57 rfl rfl (by rw [zv]<;>rfl) rfl) rfl rf))) (jb h fun rv uC h=>jr (rc 3 rfl (zy.le (ins':=[(.tmp 26,.lf (.val (.func (.func 99) #[] #[]))),(.tmp 27,.ag (zk [0] x)),(.tmp 28,.ag (zk [0] x2))]) (zqw (args:=[.tmp 27,.tmp 28]) [.rc zc [0] x,.rc zc [0] x2] [0] 12 rfl (zxN _) Tryz.call99 (vr uC) rfl rfl rfl rfl rfl) ⟨⟨rfl,wC _⟩,⟨rfl,zan [0] x⟩,⟨rfl,zan [0] x2⟩,trivial⟩) rf) (jI h (fun uE h=>?_) fun uE h=>?_))))
   ·refine jp ?_;cases h;exact zcA lzz
   refine zas (jp ?_);cases h;exact zal lzz
  cases h;exact zaF rfl lzz
 rcases q with u| u2
 ·refine zbj _ rfl (jp ?_);obtain rfl:=(sj h);exact zA lzz
 obtain rfl:=(sj h);exact zfb lzz
theorem zcS (vq:∀{av:zb} {b:zb} {r:Bool},xe av b=some r->FnOk Tryz.prog 66 [.rc zd [0] av,.rc zd [0] b] [kB r]) (vr:∀{v:za} {wv:za} {r:Bool},xf v wv=some r->FnOk Tryz.prog 99 [.rc zc [0] v,.rc zc [0] wv] [kB r]) (vt:∀{s1:(List za)} {s2:(List za)} {r:Bool},xm s1 s2=some r->FnOk Tryz.prog 98 [.sl zc [0] s1,.sl zc [0] s2,.lf (.val (.func (.func 99) #[] #[]))] [kB r]) (vu:∀{s1:(List zb)} {s2:(List zb)} {r:Bool},xn s1 s2=some r->FnOk Tryz.prog 133 [.sl zd [0] s1,.sl zd [0] s2,.lf (.val (.func (.func 66) #[] #[]))] [kB r]) (h:zac xe xf xm xn s1 s2=some r):FnOk Tryz.prog 133 [.sl zd [0] s1,.sl zd [0] s2,.lf (.val (.func (.func 66) #[] #[]))] [kB r]:=by
 refine zz (E:=⟨[(6,kB r)],[]⟩) 32 Tryz.func133 rfl rfl rfl ⟨rfl,trivial⟩ (fun Xt=>?_);refine zq ?_;unfold zac at h;refine jp (jp (jI h (fun uA h=>?_) fun uA h=>?_))
 ·refine jp ?_;obtain rfl:=(sj h);exact zA lzz
 refine jp (zB (jb h fun q uF h=>zaH (fun s:Int=>zw xe s1 s2 s) (fun s=>⟨[(1,.sl zd [0] s2),(2,.lf (.val (.func (.func 66) #[] #[]))),(15,.sl zd [0] s1),(16,kI (s1.length:Int)),(17,kI s)],[]⟩) (fun o e a w=>match o with| (.inl v_)=>e= .exit 0/\Sx ⟨⟨32,[]⟩,Xt,false,#[]⟩ ⟨[],[]⟩ a w| (.inr v_)=>e= .ret/\Sx ⟨⟨32,[]⟩,Xt,false,#[]⟩ ⟨[(6,kB false)],[]⟩ a w) ?_ uF lzz ?_))
 ·clear h;intro v o h;refine zq ?_;replace h:zw xe s1 s2 v=some o:=h;unfold zw at h;refine jp (jI h (fun uB h=>?_) fun uB h=>?_)
  ·refine zB (jb h fun x uI h=>jr (ra 1 [.sl zd [0] s1,kI v] rfl (zbt rfl zgP.el (zV _ _ _) uI) rfl (ra 0 [.ep zd [0] x 0] rfl (zeT rfl ⟨Tryz.isAgg27,Tryz.sizeOf27⟩) rfl (ral 2 [12] [.ptr 12 0,.rc zd [0] x] rfl (zfy (r:=zd) (b:=⟨12,27,[kN,kN]⟩) (off:=0) (zj [0] x) rfl Tryz.sizeOf27 rfl rfl (by rw [zn]<;>rfl) rfl) rfl rf))) (jb h fun x2 uL h=>jr (ra 2 [.sl zd [0] s2,kI v] rfl (zbt rfl zgP.el (zV _ _ _) uL) rfl (ra 0 [.ep zd [0] x2 0] rfl (zeT rfl ⟨Tryz.isAgg27,Tryz.sizeOf27⟩) rfl (ral 1 [13] [.ptr 13 0,.rc zd [0] x2] rfl (zfy (r:=zd) (b:=⟨13,27,[kN,kN]⟩) (off:=0) (zj [0] x2) rfl Tryz.sizeOf27 rfl rfl (by rw [zn]<;>rfl) rfl) rfl rf))) (jb h fun rv uC h=>jr (rc 3 rfl (zy.le (ins':=[(.tmp 26,.lf (.val (.func (.func 66) #[] #[]))),(.tmp 27,.ag (zj [0] x)),(.tmp 28,.ag (zj [0] x2))]) (zqw (args:=[.tmp 27,.tmp 28]) [.rc zd [0] x,.rc zd [0] x2] [0] 12 rfl (zxN _) Tryz.call66 (vq uC) rfl rfl rfl rfl rfl) ⟨⟨rfl,wC _⟩,⟨rfl,zx [0] x⟩,⟨rfl,zx [0] x2⟩,trivial⟩) rf) (jI h (fun uE h=>?_) fun uE h=>?_))))
   ·refine jp ?_;cases h;exact zcA lzz
   refine zas (jp ?_);cases h;exact zal lzz
  cases h;exact zaF rfl lzz
 rcases q with u| u2
 ·refine zbj _ rfl (jp ?_);obtain rfl:=(sj h);exact zA lzz
 obtain rfl:=(sj h);exact zfb lzz
theorem ziV (uH:Nat):(∀{av:zb} {b:zb} {r:Bool},zgr uH av b=some r->FnOk Tryz.prog 66 [.rc zd [0] av,.rc zd [0] b] [kB r])/\(∀{v:za} {wv:za} {r:Bool},zdL uH v wv=some r->FnOk Tryz.prog 99 [.rc zc [0] v,.rc zc [0] wv] [kB r])/\(∀{s1:(List za)} {s2:(List za)} {r:Bool},zJ uH s1 s2=some r->FnOk Tryz.prog 98 [.sl zc [0] s1,.sl zc [0] s2,.lf (.val (.func (.func 99) #[] #[]))] [kB r])/\(∀{s1:(List zb)} {s2:(List zb)} {r:Bool},zS uH s1 s2=some r->FnOk Tryz.prog 133 [.sl zd [0] s1,.sl zd [0] s2,.lf (.val (.func (.func 66) #[] #[]))] [kB r]):=by
  induction uH with
  | zero=>exact ⟨fun h=>absurd h nofun,fun h=>absurd h nofun,fun h=>absurd h nofun,fun h=>absurd h nofun⟩
  | succ uH ih=>exact ⟨fun h=>zuM (fun hh=>ih.1 hh) (fun hh=>ih.2.1 hh) (fun hh=>ih.2.2.1 hh) (fun hh=>ih.2.2.2 hh) h,fun h=>zqa (fun hh=>ih.1 hh) (fun hh=>ih.2.1 hh) (fun hh=>ih.2.2.1 hh) (fun hh=>ih.2.2.2 hh) h,fun h=>zcp (fun hh=>ih.1 hh) (fun hh=>ih.2.1 hh) (fun hh=>ih.2.2.1 hh) (fun hh=>ih.2.2.2 hh) h,fun h=>zcS (fun hh=>ih.1 hh) (fun hh=>ih.2.1 hh) (fun hh=>ih.2.2.1 hh) (fun hh=>ih.2.2.2 hh) h⟩
theorem zwZ (h:zgr uH av b=some r):FnOk Tryz.prog 66 [.rc zd [0] av,.rc zd [0] b] [kB r]:=(ziV uH).1 h
end Go.Proofs.YtekgmimingolbaaGreat

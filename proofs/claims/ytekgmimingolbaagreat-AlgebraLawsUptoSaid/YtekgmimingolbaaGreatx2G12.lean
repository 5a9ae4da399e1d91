/-
  The Go functions do what the plain functions say. No condition.
-/
import Derived.Test.YtekgmimingolbaaGreatx2G11
set_option autoImplicit true
set_option relaxedAutoImplicit true
namespace Go.Proofs.YtekgmimingolbaaGreat
open Go Go.RowKit
set_option linter.unusedVariables false
set_option maxRecDepth 100000
set_option maxHeartbeats 3200000
theorem znj (h:zhB sv=some r):FnOk Tryz.prog 77 [.sl zi [0] sv] [kB r]:=by
 refine zz (E:=⟨[(2,kB r)],[]⟩) 12 Tryz.func77 rfl rfl rfl ⟨rfl,trivial⟩ (fun Xt=>?_);refine zq ?_;unfold zhB at h;refine jp (jb h fun rv uC h=>jr (rl 1 [0] 9 Tryz.call108 (zsm uC) (rfl' [11])) (jp ?_));cases h;exact zA lzz
theorem zot (vz:∀{sv:(List zf)} {uD:Int} {l:(List zb)} {r:Bool},xo sv uD l=some r->FnOk Tryz.prog 125 [.sl zi [0] sv,kI uD,.sl zd [0] l] [kB r]) (vA:∀{f:ze} {sv:(List zf)} {v:za} {r:Bool},xg f sv v=some r->FnOk Tryz.prog 88 [.rc zg [0] f,.sl zi [0] sv,.rc zc [0] v] [kB r]) (vB:∀{sv:(List zf)} {uD:Int} {x:zb} {r:Bool},xh sv uD x=some r->FnOk Tryz.prog 65 [.sl zi [0] sv,kI uD,.rc zd [0] x] [kB r]) (h:zfs xo xg xh sv uD l=some r):FnOk Tryz.prog 125 [.sl zi [0] sv,kI uD,.sl zd [0] l] [kB r]:=by
 refine zz (E:=⟨[(6,kB r)],[]⟩) 29 Tryz.func125 rfl rfl rfl ⟨rfl,trivial⟩ (fun Xt=>?_);refine zq ?_;unfold zfs at h;refine jp (zaG ⟨[(0,.sl zi [0] sv),(1,kI uD),(2,.sl zd [0] l),(16,kB ((decide (uD<0))|| (decide (uD>=(sv.length:Int)))))],[]⟩ ?_ ?_)
 ·refine (rsl 3 [] 11 (decide (uD<0)) (fun uA=>?_) (fun uA=>?_))
  · exact (rbl [] 16 true rfl (by rw [uA]<;>rfl))
  exact (rbl [] 16 (decide (uD>=(sv.length:Int))) rfl (by rw [uA]<;>rfl))
 refine jI h (fun uB h=>?_) fun uB h=>?_
 ·refine jp ?_;obtain rfl:=(sj h);exact zA lzz
 refine jp (zB (jb h fun q uF h=>zaH (fun s:Int=>zbu l uD xh sv s) (fun s=>⟨[(0,.sl zi [0] sv),(1,kI uD),(17,.sl zd [0] l),(18,kI (l.length:Int)),(19,kI s)],[]⟩) (fun o e a w=>match o with| (.inl v_)=>e= .exit 0/\Sx ⟨⟨29,[]⟩,Xt,false,#[]⟩ ⟨[],[]⟩ a w| (.inr v_)=>e= .ret/\Sx ⟨⟨29,[]⟩,Xt,false,#[]⟩ ⟨[(6,kB false)],[]⟩ a w) ?_ uF lzz ?_))
 ·clear h;intro v2 o h;refine zq ?_;replace h:zbu l uD xh sv v2=some o:=h;unfold zbu at h;refine jp (jI h (fun uE h=>?_) fun uE h=>?_)
  ·refine zB (jb h fun x uI h=>jr (ra 0 [.sl zd [0] l,kI v2] rfl (zbt rfl zgP.el (zV _ _ _) uI) rfl (ra 0 [.ep zd [0] x 0] rfl (zeT rfl ⟨Tryz.isAgg27,Tryz.sizeOf27⟩) rfl (ral 1 [12] [.ptr 12 0,.rc zd [0] x] rfl (zfy (r:=zd) (b:=⟨12,27,[kN,kN]⟩) (off:=0) (zj [0] x) rfl Tryz.sizeOf27 rfl rfl (by rw [zn]<;>rfl) rfl) rfl rf))) (jb h fun rv uC h=>jr (rc 3 rfl (zy.le (ins':=[(.tmp 23,.sl zi [0] sv),(.tmp 24,kI uD),(.tmp 25,.ag (zj [0] x))]) (zU (args:=[.tmp 23,.tmp 24,.tmp 25]) [.sl zi [0] sv,kI uD,.rc zd [0] x] [0] 11 rfl Tryz.call65 (vB uC) rfl rfl rfl rfl rfl) ⟨⟨rfl,wC _⟩,⟨rfl,wC _⟩,⟨rfl,zx [0] x⟩,trivial⟩) rf) (jI h (fun uK h=>?_) fun uK h=>?_)))
   ·refine jp ?_;cases h;exact zcA lzz
   refine zas (jp ?_);cases h;exact zal lzz
  cases h;exact zaF rfl lzz
 rcases q with u| u2
 ·refine zbj _ rfl (jp ?_);obtain rfl:=(sj h);exact zA lzz
 obtain rfl:=(sj h);exact zfb lzz
theorem zuL (vz:∀{sv:(List zf)} {uD:Int} {l:(List zb)} {r:Bool},xo sv uD l=some r->FnOk Tryz.prog 125 [.sl zi [0] sv,kI uD,.sl zd [0] l] [kB r]) (vA:∀{f:ze} {sv:(List zf)} {v:za} {r:Bool},xg f sv v=some r->FnOk Tryz.prog 88 [.rc zg [0] f,.sl zi [0] sv,.rc zc [0] v] [kB r]) (vB:∀{sv:(List zf)} {uD:Int} {x:zb} {r:Bool},xh sv uD x=some r->FnOk Tryz.prog 65 [.sl zi [0] sv,kI uD,.rc zd [0] x] [kB r]) (h:zjV xo xg xh f sv v=some r):FnOk Tryz.prog 88 [.rc zg [0] f,.sl zi [0] sv,.rc zc [0] v] [kB r]:=by
 refine zz (E:=⟨[(6,kB r)],[]⟩) 69 Tryz.func88 rfl rfl rfl ⟨rfl,trivial⟩ (fun Xt=>?_);refine zq ?_;unfold zjV at h;refine jr (ral 1 [11] [.rc zc [0] v] rfl (zbw 12 (zk [0] v) [0] rfl rfl rfl (by rw [zv]<;>rfl) rfl) rfl rf) (jb h fun rv uC h=>jr (rc 1 rfl (zy.le (ins':=[(.tmp 8,.ag (zk [0] v))]) (zU (args:=[.tmp 8]) [.rc zc [0] v] [0] 11 rfl Tryz.call123 (zor uC) rfl rfl rfl rfl rfl) ⟨⟨rfl,zan [0] v⟩,trivial⟩) rf) (zaG ⟨[(1,.sl zi [0] sv),(3,.ptr 11 0),(5,.ptr 12 0),(7,kI rv),(20,kB ((rv==0)|| ((decide (rv>1))&&(!f.Repeated))))],[⟨11,65,(zaO f)⟩,⟨12,57,(zk [0] v)⟩]⟩ ?_ ?_))
 ·refine (rsl 3 [] 12 (rv==0) (fun uA=>?_) (fun uA=>?_))
  · exact (rbl [] 20 true rfl (by rw [uA]<;>rfl))
  refine (rsl 3 [] 15 (decide (rv>1)) (fun uB=>?_) (fun uB=>?_))
  · exact (rbl [] 20 (!f.Repeated) rfl (by rw [uA,uB]<;>rfl))
  exact (rbl [] 20 false rfl (by rw [uA,uB]<;>rfl))
 refine jI h (fun uE h=>?_) fun uE h=>?_
 ·refine jp ?_;obtain rfl:=(sj h);exact zA lzz
 refine jp (zB (jp (jI h (fun uK h=>?_) fun uK h=>?_)))
 ·refine jb h fun g uz h=>zaG ⟨[(6,kB g)],[]⟩ ?_ ?_
  ·refine (rsl 6 [] 30 ((v.Texts.length:Int)==rv) (fun uN=>?_) (fun uN=>?_))
   ·replace uz:=iteT uz uN;refine jb uz fun rv2 uJ uz=>?_;cases uz;exact (rl 2 [0] 11 Tryz.call124 (zrI uJ) rgg)
   replace uz:=iteF uz uN;cases uz;exact rgg
  obtain rfl:=(sj h);exact zA lzz
 refine jp (jI h (fun uQ h=>?_) fun uQ h=>?_)
 ·refine jp ?_;cases h;exact zA lzz
 refine jp (jI h (fun va h=>?_) fun va h=>?_)
 ·refine jb h fun g2 uM h=>zaG ⟨[(6,kB g2)],[]⟩ ?_ ?_
  ·refine (rsl 6 [] 49 ((v.Subs.length:Int)==rv) (fun uZ=>?_) (fun uZ=>?_))
   ·replace uM:=iteT uM uZ;refine jb uM fun rv3 uO uM=>?_;cases uM;exact (rl 5 [0] 11 Tryz.call125 (vz uO) rgg)
   replace uM:=iteF uM uZ;cases uM;exact rgg
  obtain rfl:=(sj h);exact zA lzz
 refine zas (jb h fun g3 uP h=>zaG ⟨[(6,kB g3)],[]⟩ ?_ ?_)
 ·refine (rsl 6 [] 62 ((v.Words.length:Int)==rv) (fun vd=>?_) (fun vd=>?_))
  ·replace uP:=iteT uP vd;refine jb uP fun rv4 uS uP=>?_;cases uP;exact (rl 4 [0] 11 Tryz.call126 (zos uS) rgg)
  replace uP:=iteF uP vd;cases uP;exact rgg
 obtain rfl:=(sj h);exact zA lzz
theorem zpZ (vz:∀{sv:(List zf)} {uD:Int} {l:(List zb)} {r:Bool},xo sv uD l=some r->FnOk Tryz.prog 125 [.sl zi [0] sv,kI uD,.sl zd [0] l] [kB r]) (vA:∀{f:ze} {sv:(List zf)} {v:za} {r:Bool},xg f sv v=some r->FnOk Tryz.prog 88 [.rc zg [0] f,.sl zi [0] sv,.rc zc [0] v] [kB r]) (vB:∀{sv:(List zf)} {uD:Int} {x:zb} {r:Bool},xh sv uD x=some r->FnOk Tryz.prog 65 [.sl zi [0] sv,kI uD,.rc zd [0] x] [kB r]) (h:zgq xo xg xh sv uD x=some r):FnOk Tryz.prog 65 [.sl zi [0] sv,kI uD,.rc zd [0] x] [kB r]:=by
 refine zz (E:=⟨[(6,kB r)],[]⟩) 67 Tryz.func65 rfl rfl rfl ⟨rfl,trivial⟩ (fun Xt=>?_);refine zq ?_;unfold zgq at h;refine jr (ra 0 [.rc zd [0] x] rfl (zbw 11 (zj [0] x) [0] rfl rfl rfl (by rw [zn]<;>rfl) rfl) rfl rf) (jb h fun x2 uL h=>jr (ra 2 [.sl zi [0] sv,kI uD] rfl (zbt rfl zqX.el (zV _ _ _) uL) rfl (ra 0 [.ep zi [0] x2 0] rfl (zeT rfl ⟨Tryz.isAgg82,Tryz.sizeOf82⟩) rfl (ral 1 [12] [.ptr 12 0,.rc zi [0] x2] rfl (zfy (r:=zi) (b:=⟨12,82,[kS [],kN]⟩) (off:=0) (zaT [0] x2) rfl Tryz.sizeOf82 rfl rfl rfl rfl) rfl rf))) (jp (jp (zB (jb h fun q uF h=>zaH (fun s:(Int×Int)=>zbV xg sv x x2 s.1 s.2) (fun s=>⟨[(0,.sl zi [0] sv),(5,.ptr 11 0),(7,.ptr 12 0),(8,kI s.1),(20,.sl zc [0] x.Values),(21,kI (x.Values.length:Int)),(22,kI s.2)],[⟨11,27,(zj [0] x)⟩,⟨12,82,(zaT [0] x2)⟩]⟩) (fun o e a w=>match o with| (.inl v_)=>e= .exit 0/\Sx ⟨⟨67,[]⟩,Xt,false,#[]⟩ ⟨[(5,.ptr 11 0),(7,.ptr 12 0)],[⟨11,27,(zj [0] x)⟩,⟨12,82,(zaT [0] x2)⟩]⟩ a w| (.inr v_)=>e= .ret/\Sx ⟨⟨67,[]⟩,Xt,false,#[]⟩ ⟨[(6,kB false)],[]⟩ a w) ?_ uF lzz ?_)))))
 ·clear h;intro s o h;obtain ⟨last,v⟩:=s;refine zq ?_;replace h:zbV xg sv x x2 last v=some o:=h;unfold zbV at h;refine jp (jI h (fun uA h=>?_) fun uA h=>?_)
  ·refine zB (jb h fun x3 uU h=>jr (ra 0 [.sl zc [0] x.Values,kI v] rfl (zbt rfl zgO.el (zV _ _ _) uU) rfl (ra 0 [.ep zc [0] x3 0] rfl (zeT rfl ⟨Tryz.isAgg57,Tryz.sizeOf57⟩) rfl (ral 1 [14] [.ptr 14 0,.rc zc [0] x3] rfl (zfy (r:=zc) (b:=⟨14,57,[kI 0,kN,kN,kN]⟩) (off:=0) (zk [0] x3) rfl Tryz.sizeOf57 rfl rfl (by rw [zv]<;>rfl) rfl) rfl rf))) (jb h fun rv uC h=>jr (rl 3 [0] 13 Tryz.call96 (zik uC) rf) (jb h fun g uz h=>zlp (R:=fun e a w=>e= .normal/\Sx ⟨⟨67,[]⟩,Xt,false,#[]⟩ ⟨[(0,.sl zi [0] sv),(5,.ptr 11 0),(7,.ptr 12 0),(10,.ptr 14 0),(20,.sl zc [0] x.Values),(21,kI (x.Values.length:Int)),(22,kI v),(51,kB g)],[⟨11,27,(zj [0] x)⟩,⟨12,82,(zaT [0] x2)⟩,⟨14,57,(zk [0] x3)⟩]⟩ a w) ?_ (zpB ?_))))
   ·refine zq ?_;rcases qr (!rv.2) with uB| uB
    ·replace uz:=iteT uz uB;cases uz;exact jd [0,5,7,10,20,21,22,51] [11,12,14] zes (by exact (lw_e (lw_e (lx (zgA ⟨[(34,kB (!rv.2))],[]⟩ (by kernel_rfl) uB) l0)))) (zal lzz)
    replace uz:=iteF uz uB;rcases qr (decide (x3.Number<=last)) with uE| uE
    ·replace uz:=iteT uz uE;cases uz;exact jd [0,5,7,10,20,21,22,51] [11,12,14] zes (by exact (lw_e (lw_e (lx (zgA ⟨[(34,kB (!rv.2))],[]⟩ (by kernel_rfl) uB) (lw_e (lw_e (lw_e (lw_e (lw_e (lx (zgA ⟨[(40,kB (decide (x3.Number<=last)))],[]⟩ (by kernel_rfl) uE) l0)))))))))) (zal lzz)
    replace uz:=iteF uz uE;refine jb uz fun x4 vf uz=>jb uz fun rv2 uJ uz=>?_;cases uz;exact jd [0,5,7,10,20,21,22,51] [11,12,14] zes (by exact (lw_e (lw_e (lx (zgA ⟨[(34,kB (!rv.2))],[]⟩ (by kernel_rfl) uB) (lw_e (lw_e (lw_e (lw_e (lw_e (lx (zgA ⟨[(40,kB (decide (x3.Number<=last)))],[]⟩ (by kernel_rfl) uE) (lw_e (lw_e (lw_e (ly [.sl zg [0] x2.Fields,kI rv.1] (zbt rfl zvV.el (zV _ _ _) vf) rfl (ly [.ep zg [0] x4 0] (zeT rfl ⟨Tryz.isAgg65,Tryz.sizeOf65⟩) rfl (lw_e (ly [.ptr 14 0] (zcX (b:=⟨14,57,(zk [0] x3)⟩) (zk [0] x3) rfl ⟨Tryz.isAgg57,Tryz.sizeOf57⟩ rfl rfl) rfl (lx (lf1 88 (zy.le (ins':=[(.tmp 46,.rc zg [0] x4),(.tmp 47,.sl zi [0] sv),(.tmp 48,.ag (zk [0] x3))]) (zU (args:=[.tmp 46,.tmp 47,.tmp 48]) [.rc zg [0] x4,.sl zi [0] sv,.rc zc [0] x3] [0] 13 rfl Tryz.call88 (vA uJ) rfl rfl rfl rfl rfl) ⟨⟨rfl,wC _⟩,⟨rfl,wC _⟩,⟨rfl,zan [0] x3⟩,trivial⟩)) l0)))))))))))))))))) (zal lzz)
   refine jI h (fun uK h=>?_) fun uK h=>?_
   ·refine jp ?_;cases h;exact zcA lzz
   refine jp (zas (jp ?_));cases h;exact zal lzz
  cases h;exact zaF rfl lzz
 rcases q with u| u4
 ·refine zbj _ rfl (jp (zB (jb h fun q2 uT h=>zaH (fun s:Int=>zbW x x2 s) (fun s=>⟨[(7,.ptr 12 0),(56,.sl Rp.str [0] x.Unknown),(57,kI (x.Unknown.length:Int)),(58,kI s)],[⟨12,82,(zaT [0] x2)⟩]⟩) (fun o e a w=>match o with| (.inl v_)=>e= .exit 2/\Sx ⟨⟨67,[]⟩,Xt,false,#[]⟩ ⟨[],[]⟩ a w| (.inr v_)=>e= .ret/\Sx ⟨⟨67,[]⟩,Xt,false,#[]⟩ ⟨[(6,kB false)],[]⟩ a w) ?_ uT lzz ?_)))
  ·clear h;intro v3 o h;refine zq ?_;replace h:zbW x x2 v3=some o:=h;unfold zbW at h;refine jp (jI h (fun uN h=>?_) fun uN h=>?_)
   ·refine zB (jb h fun x5 vC h=>jr (ra 0 [.sl Rp.str [0] x.Unknown,kI v3] rfl (zbt rfl zmz.el (zV _ _ _) vC) rfl rf) (jb h fun rv3 uO h=>jr (rl 2 [0] 14 Tryz.call97 (zqR uO) rf) (jI h (fun uQ h=>?_) fun uQ h=>?_)))
    ·refine jp ?_;cases h;exact zcA lzz
    refine zas (jp ?_);cases h;exact zal lzz
   cases h;exact zaF rfl lzz
  rcases q2 with u2| u3
  ·refine zbj _ rfl (jp ?_);obtain rfl:=(sj h);exact zA lzz
  obtain rfl:=(sj h);exact zfb lzz
 obtain rfl:=(sj h);exact zfb lzz
theorem ziC (uH:Nat):(∀{sv:(List zf)} {uD:Int} {l:(List zb)} {r:Bool},zgo uH sv uD l=some r->FnOk Tryz.prog 125 [.sl zi [0] sv,kI uD,.sl zd [0] l] [kB r])/\(∀{f:ze} {sv:(List zf)} {v:za} {r:Bool},ziA uH f sv v=some r->FnOk Tryz.prog 88 [.rc zg [0] f,.sl zi [0] sv,.rc zc [0] v] [kB r])/\(∀{sv:(List zf)} {uD:Int} {x:zb} {r:Bool},zdK uH sv uD x=some r->FnOk Tryz.prog 65 [.sl zi [0] sv,kI uD,.rc zd [0] x] [kB r]):=by
  induction uH with
  | zero=>exact ⟨fun h=>absurd h nofun,fun h=>absurd h nofun,fun h=>absurd h nofun⟩
  | succ uH ih=>exact ⟨fun h=>zot (fun hh=>ih.1 hh) (fun hh=>ih.2.1 hh) (fun hh=>ih.2.2 hh) h,fun h=>zuL (fun hh=>ih.1 hh) (fun hh=>ih.2.1 hh) (fun hh=>ih.2.2 hh) h,fun h=>zpZ (fun hh=>ih.1 hh) (fun hh=>ih.2.1 hh) (fun hh=>ih.2.2 hh) h⟩
theorem zqQ (h:zdK uH sv uD x=some r):FnOk Tryz.prog 65 [.sl zi [0] sv,kI uD,.rc zd [0] x] [kB r]:=(ziC uH).2.2 h
end Go.Proofs.YtekgmimingolbaaGreat

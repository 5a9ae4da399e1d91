/-
  The Go functions do what the plain functions say. No condition.
-/
import Derived.Test.YtekgmimingolbaaGreatx1G11
set_option autoImplicit true
set_option relaxedAutoImplicit true
namespace Go.Proofs.YtekgmimingolbaaGreat
open Go Go.RowKit
set_option linter.unusedVariables false
set_option maxRecDepth 100000
set_option maxHeartbeats 3200000
theorem zpW (h:zjm sv=some r):FnOk Tryz.prog 77 [.sl zj [0] sv] [kB r]:=by
 refine zy (E:=⟨[(2,kB r)],[]⟩) 12 Tryz.func77 rfl rfl rfl ⟨rfl,trivial⟩ (fun Xt=>?_);refine zm ?_;unfold zjm at h;refine jp (jb h fun rv uZ h=>jr (rl 1 [0] 9 Tryz.call108 (zvE uZ) (rfl' [11])) (jp ?_));cases h;exact zw lzz
theorem zrB (wh:∀{sv:(List zf)} {va:Int} {l:(List zc)} {r:Bool},xr sv va l=some r->FnOk Tryz.prog 125 [.sl zj [0] sv,kI va,.sl zd [0] l] [kB r]) (wj:∀{f:ze} {sv:(List zf)} {v:za} {r:Bool},xe f sv v=some r->FnOk Tryz.prog 88 [.rc zg [0] f,.sl zj [0] sv,.rc zb [0] v] [kB r]) (wl:∀{sv:(List zf)} {va:Int} {x:zc} {r:Bool},xf sv va x=some r->FnOk Tryz.prog 65 [.sl zj [0] sv,kI va,.rc zd [0] x] [kB r]) (h:zgM xr xe xf sv va l=some r):FnOk Tryz.prog 125 [.sl zj [0] sv,kI va,.sl zd [0] l] [kB r]:=by
 refine zy (E:=⟨[(6,kB r)],[]⟩) 29 Tryz.func125 rfl rfl rfl ⟨rfl,trivial⟩ (fun Xt=>?_);refine zm ?_;unfold zgM at h;refine jp (zab ⟨[(0,.sl zj [0] sv),(1,kI va),(2,.sl zd [0] l),(16,kB ((decide (va<0))|| (decide (va>=(sv.length:Int)))))],[]⟩ ?_ ?_)
 ·refine (rsl 3 [] 11 (decide (va<0)) (fun uW=>?_) (fun uW=>?_))
  · exact (rbl [] 16 true rfl (by rw [uW]<;>rfl))
  exact (rbl [] 16 (decide (va>=(sv.length:Int))) rfl (by rw [uW]<;>rfl))
 refine jI h (fun uY h=>?_) fun uY h=>?_
 ·refine jp ?_;obtain rfl:=(sj h);exact zw lzz
 refine jp (zv (jb h fun q vc h=>zac (fun s:Int=>zbJ l va xf sv s) (fun s=>⟨[(0,.sl zj [0] sv),(1,kI va),(17,.sl zd [0] l),(18,kI (l.length:Int)),(19,kI s)],[]⟩) (fun o e a w=>match o with| (.inl v_)=>e= .exit 0/\Sx ⟨⟨29,[]⟩,Xt,false,#[]⟩ ⟨[],[]⟩ a w| (.inr v_)=>e= .ret/\Sx ⟨⟨29,[]⟩,Xt,false,#[]⟩ ⟨[(6,kB false)],[]⟩ a w) ?_ vc lzz ?_))
 ·clear h;intro v2 o h;refine zm ?_;replace h:zbJ l va xf sv v2=some o:=h;unfold zbJ at h;refine jp (jI h (fun u9 h=>?_) fun u9 h=>?_)
  ·refine zv (jb h fun x vg h=>jr (ra 0 [.sl zd [0] l,kI v2] rfl (zai rfl zjg.el (zC _ _ _) vg) rfl (ra 0 [.ep zd [0] x 0] rfl (zcr rfl ⟨Tryz.isAgg27,Tryz.sizeOf27⟩) rfl (ral 1 [12] [.ptr 12 0,.rc zd [0] x] rfl (zgU (r:=zd) (b:=⟨12,27,[kN,kN]⟩) (off:=0) (zh [0] x) rfl Tryz.sizeOf27 rfl rfl (by rw [zk]<;>rfl) rfl) rfl rf))) (jb h fun rv uZ h=>jr (rc 3 rfl (zA.le (ins':=[(.tmp 23,.sl zj [0] sv),(.tmp 24,kI va),(.tmp 25,.ag (zh [0] x))]) (zQ (args:=[.tmp 23,.tmp 24,.tmp 25]) [.sl zj [0] sv,kI va,.rc zd [0] x] [0] 11 rfl Tryz.call65 (wl uZ) rfl rfl rfl rfl rfl) ⟨⟨rfl,ky _⟩,⟨rfl,ky _⟩,⟨rfl,zM [0] x⟩,trivial⟩) rf) (jI h (fun vd h=>?_) fun vd h=>?_)))
   ·refine jp ?_;cases h;exact zbf lzz
   refine zX (jp ?_);cases h;exact zH lzz
  cases h;exact zad rfl lzz
 rcases q with u| u2
 ·refine zas _ rfl (jp ?_);obtain rfl:=(sj h);exact zw lzz
 obtain rfl:=(sj h);exact zdj lzz
theorem zym (wh:∀{sv:(List zf)} {va:Int} {l:(List zc)} {r:Bool},xr sv va l=some r->FnOk Tryz.prog 125 [.sl zj [0] sv,kI va,.sl zd [0] l] [kB r]) (wj:∀{f:ze} {sv:(List zf)} {v:za} {r:Bool},xe f sv v=some r->FnOk Tryz.prog 88 [.rc zg [0] f,.sl zj [0] sv,.rc zb [0] v] [kB r]) (wl:∀{sv:(List zf)} {va:Int} {x:zc} {r:Bool},xf sv va x=some r->FnOk Tryz.prog 65 [.sl zj [0] sv,kI va,.rc zd [0] x] [kB r]) (h:zlM xr xe xf f sv v=some r):FnOk Tryz.prog 88 [.rc zg [0] f,.sl zj [0] sv,.rc zb [0] v] [kB r]:=by
 refine zy (E:=⟨[(6,kB r)],[]⟩) 69 Tryz.func88 rfl rfl rfl ⟨rfl,trivial⟩ (fun Xt=>?_);refine zm ?_;unfold zlM at h;refine jr (ral 1 [11] [.rc zb [0] v] rfl (zbc 12 (zi [0] v) [0] rfl rfl rfl (by rw [zn]<;>rfl) rfl) rfl rf) (jb h fun rv uZ h=>jr (rc 1 rfl (zA.le (ins':=[(.tmp 8,.ag (zi [0] v))]) (zQ (args:=[.tmp 8]) [.rc zb [0] v] [0] 11 rfl Tryz.call123 (zrz uZ) rfl rfl rfl rfl rfl) ⟨⟨rfl,zV [0] v⟩,trivial⟩) rf) (zab ⟨[(1,.sl zj [0] sv),(3,.ptr 11 0),(5,.ptr 12 0),(7,kI rv),(20,kB ((rv==0)|| ((decide (rv>1))&&(!f.Repeated))))],[⟨11,65,(zB f)⟩,⟨12,57,(zi [0] v)⟩]⟩ ?_ ?_))
 ·refine (rsl 3 [] 12 (rv==0) (fun uW=>?_) (fun uW=>?_))
  · exact (rbl [] 20 true rfl (by rw [uW]<;>rfl))
  refine (rsl 3 [] 15 (decide (rv>1)) (fun uY=>?_) (fun uY=>?_))
  · exact (rbl [] 20 (!f.Repeated) rfl (by rw [uW,uY]<;>rfl))
  exact (rbl [] 20 false rfl (by rw [uW,uY]<;>rfl))
 refine jI h (fun u9 h=>?_) fun u9 h=>?_
 ·refine jp ?_;obtain rfl:=(sj h);exact zw lzz
 refine jp (zv (jp (jI h (fun vd h=>?_) fun vd h=>?_)))
 ·refine jb h fun g uX h=>zab ⟨[(6,kB g)],[]⟩ ?_ ?_
  ·refine (rsl 6 [] 30 ((v.Texts.length:Int)==rv) (fun vh=>?_) (fun vh=>?_))
   ·replace uX:=iteT uX vh;refine jb uX fun rv2 vj uX=>?_;cases uX;exact (rl 2 [0] 11 Tryz.call124 (zuZ vj) rgg)
   replace uX:=iteF uX vh;cases uX;exact rgg
  obtain rfl:=(sj h);exact zw lzz
 refine jp (jI h (fun vi h=>?_) fun vi h=>?_)
 ·refine jp ?_;cases h;exact zw lzz
 refine jp (jI h (fun vm h=>?_) fun vm h=>?_)
 ·refine jb h fun g2 vb h=>zab ⟨[(6,kB g2)],[]⟩ ?_ ?_
  ·refine (rsl 6 [] 49 ((v.Subs.length:Int)==rv) (fun vp=>?_) (fun vp=>?_))
   ·replace vb:=iteT vb vp;refine jb vb fun rv3 vl vb=>?_;cases vb;exact (rl 5 [0] 11 Tryz.call125 (wh vl) rgg)
   replace vb:=iteF vb vp;cases vb;exact rgg
  obtain rfl:=(sj h);exact zw lzz
 refine zX (jb h fun g3 vn h=>zab ⟨[(6,kB g3)],[]⟩ ?_ ?_)
 ·refine (rsl 6 [] 62 ((v.Words.length:Int)==rv) (fun vq=>?_) (fun vq=>?_))
  ·replace vn:=iteT vn vq;refine jb vn fun rv4 vx vn=>?_;cases vn;exact (rl 4 [0] 11 Tryz.call126 (zrA vx) rgg)
  replace vn:=iteF vn vq;cases vn;exact rgg
 obtain rfl:=(sj h);exact zw lzz
theorem ztl (wh:∀{sv:(List zf)} {va:Int} {l:(List zc)} {r:Bool},xr sv va l=some r->FnOk Tryz.prog 125 [.sl zj [0] sv,kI va,.sl zd [0] l] [kB r]) (wj:∀{f:ze} {sv:(List zf)} {v:za} {r:Bool},xe f sv v=some r->FnOk Tryz.prog 88 [.rc zg [0] f,.sl zj [0] sv,.rc zb [0] v] [kB r]) (wl:∀{sv:(List zf)} {va:Int} {x:zc} {r:Bool},xf sv va x=some r->FnOk Tryz.prog 65 [.sl zj [0] sv,kI va,.rc zd [0] x] [kB r]) (h:zhU xr xe xf sv va x=some r):FnOk Tryz.prog 65 [.sl zj [0] sv,kI va,.rc zd [0] x] [kB r]:=by
 refine zy (E:=⟨[(6,kB r)],[]⟩) 67 Tryz.func65 rfl rfl rfl ⟨rfl,trivial⟩ (fun Xt=>?_);refine zm ?_;unfold zhU at h;refine jr (ra 0 [.rc zd [0] x] rfl (zbc 11 (zh [0] x) [0] rfl rfl rfl (by rw [zk]<;>rfl) rfl) rfl rf) (jb h fun x2 vk h=>jr (ra 2 [.sl zj [0] sv,kI va] rfl (zai rfl zjf.el (zC _ _ _) vk) rfl (ra 0 [.ep zj [0] x2 0] rfl (zcr rfl ⟨Tryz.isAgg82,Tryz.sizeOf82⟩) rfl (ral 1 [12] [.ptr 12 0,.rc zj [0] x2] rfl (zgU (r:=zj) (b:=⟨12,82,[kS [],kN]⟩) (off:=0) (zaK [0] x2) rfl Tryz.sizeOf82 rfl rfl rfl rfl) rfl rf))) (jp (jp (zv (jb h fun q vc h=>zac (fun s:(Int×Int)=>zcu xe sv x x2 s.1 s.2) (fun s=>⟨[(0,.sl zj [0] sv),(5,.ptr 11 0),(7,.ptr 12 0),(8,kI s.1),(20,.sl zb [0] x.Values),(21,kI (x.Values.length:Int)),(22,kI s.2)],[⟨11,27,(zh [0] x)⟩,⟨12,82,(zaK [0] x2)⟩]⟩) (fun o e a w=>match o with| (.inl v_)=>e= .exit 0/\Sx ⟨⟨67,[]⟩,Xt,false,#[]⟩ ⟨[(5,.ptr 11 0),(7,.ptr 12 0)],[⟨11,27,(zh [0] x)⟩,⟨12,82,(zaK [0] x2)⟩]⟩ a w| (.inr v_)=>e= .ret/\Sx ⟨⟨67,[]⟩,Xt,false,#[]⟩ ⟨[(6,kB false)],[]⟩ a w) ?_ vc lzz ?_)))))
 ·clear h;intro s o h;obtain ⟨last,v⟩:=s;refine zm ?_;replace h:zcu xe sv x x2 last v=some o:=h;unfold zcu at h;refine jp (jI h (fun uW h=>?_) fun uW h=>?_)
  ·refine zv (jb h fun x3 vo h=>jr (ra 0 [.sl zb [0] x.Values,kI v] rfl (zai rfl zjz.el (zC _ _ _) vo) rfl (ra 0 [.ep zb [0] x3 0] rfl (zcr rfl ⟨Tryz.isAgg57,Tryz.sizeOf57⟩) rfl (ral 1 [14] [.ptr 14 0,.rc zb [0] x3] rfl (zgU (r:=zb) (b:=⟨14,57,[kI 0,kN,kN,kN]⟩) (off:=0) (zi [0] x3) rfl Tryz.sizeOf57 rfl rfl (by rw [zn]<;>rfl) rfl) rfl rf))) (jb h fun rv uZ h=>jr (rl 3 [0] 13 Tryz.call96 (zkf uZ) rf) (jb h fun g uX h=>zeg (R:=fun e a w=>e= .normal/\Sx ⟨⟨67,[]⟩,Xt,false,#[]⟩ ⟨[(0,.sl zj [0] sv),(5,.ptr 11 0),(7,.ptr 12 0),(10,.ptr 14 0),(20,.sl zb [0] x.Values),(21,kI (x.Values.length:Int)),(22,kI v),(51,kB g)],[⟨11,27,(zh [0] x)⟩,⟨12,82,(zaK [0] x2)⟩,⟨14,57,(zi [0] x3)⟩]⟩ a w) ?_ (zgp ?_))))
   ·refine zm ?_;rcases yu (!rv.2) with uY| uY
    ·replace uX:=iteT uX uY;cases uX;exact jd [0,5,7,10,20,21,22,51] [11,12,14] zbh (by exact (lw_e (lw_e (lx (zbE ⟨[(34,kB (!rv.2))],[]⟩ (by kernel_rfl) uY) l0)))) (zH lzz)
    replace uX:=iteF uX uY;rcases yu (decide (x3.Number<=last)) with u9| u9
    ·replace uX:=iteT uX u9;cases uX;exact jd [0,5,7,10,20,21,22,51] [11,12,14] zbh (by exact (lw_e (lw_e (lx (zbE ⟨[(34,kB (!rv.2))],[]⟩ (by kernel_rfl) uY) (lw_e (lw_e (lw_e (lw_e (lw_e (lx (zbE ⟨[(40,kB (decide (x3.Number<=last)))],[]⟩ (by kernel_rfl) u9) l0)))))))))) (zH lzz)
    replace uX:=iteF uX u9;refine jb uX fun x4 vC uX=>jb uX fun rv2 vj uX=>?_;cases uX;exact jd [0,5,7,10,20,21,22,51] [11,12,14] zbh (by exact (lw_e (lw_e (lx (zbE ⟨[(34,kB (!rv.2))],[]⟩ (by kernel_rfl) uY) (lw_e (lw_e (lw_e (lw_e (lw_e (lx (zbE ⟨[(40,kB (decide (x3.Number<=last)))],[]⟩ (by kernel_rfl) u9) (lw_e (lw_e (lw_e (ly [.sl zg [0] x2.Fields,kI rv.1] (zai rfl zpi.el (zC _ _ _) vC) rfl (ly [.ep zg [0] x4 0] (zcr rfl ⟨Tryz.isAgg65,Tryz.sizeOf65⟩) rfl (lw_e (ly [.ptr 14 0] (zdg (b:=⟨14,57,(zi [0] x3)⟩) (zi [0] x3) rfl ⟨Tryz.isAgg57,Tryz.sizeOf57⟩ rfl rfl) rfl (lx (lf1 88 (zA.le (ins':=[(.tmp 46,.rc zg [0] x4),(.tmp 47,.sl zj [0] sv),(.tmp 48,.ag (zi [0] x3))]) (zQ (args:=[.tmp 46,.tmp 47,.tmp 48]) [.rc zg [0] x4,.sl zj [0] sv,.rc zb [0] x3] [0] 13 rfl Tryz.call88 (wj vj) rfl rfl rfl rfl rfl) ⟨⟨rfl,ky _⟩,⟨rfl,ky _⟩,⟨rfl,zV [0] x3⟩,trivial⟩)) l0)))))))))))))))))) (zH lzz)
   refine jI h (fun vd h=>?_) fun vd h=>?_
   ·refine jp ?_;cases h;exact zbf lzz
   refine jp (zX (jp ?_));cases h;exact zH lzz
  cases h;exact zad rfl lzz
 rcases q with u| u4
 ·refine zas _ rfl (jp (zv (jb h fun q2 vu h=>zac (fun s:Int=>zcv x x2 s) (fun s=>⟨[(7,.ptr 12 0),(56,.sl Rp.str [0] x.Unknown),(57,kI (x.Unknown.length:Int)),(58,kI s)],[⟨12,82,(zaK [0] x2)⟩]⟩) (fun o e a w=>match o with| (.inl v_)=>e= .exit 2/\Sx ⟨⟨67,[]⟩,Xt,false,#[]⟩ ⟨[],[]⟩ a w| (.inr v_)=>e= .ret/\Sx ⟨⟨67,[]⟩,Xt,false,#[]⟩ ⟨[(6,kB false)],[]⟩ a w) ?_ vu lzz ?_)))
  ·clear h;intro v3 o h;refine zm ?_;replace h:zcv x x2 v3=some o:=h;unfold zcv at h;refine jp (jI h (fun vh h=>?_) fun vh h=>?_)
   ·refine zv (jb h fun x5 vK h=>jr (ra 0 [.sl Rp.str [0] x.Unknown,kI v3] rfl (zai rfl zhX.el (zC _ _ _) vK) rfl rf) (jb h fun rv3 vl h=>jr (rl 2 [0] 14 Tryz.call97 (zuj vl) rf) (jI h (fun vi h=>?_) fun vi h=>?_)))
    ·refine jp ?_;cases h;exact zbf lzz
    refine zX (jp ?_);cases h;exact zH lzz
   cases h;exact zad rfl lzz
  rcases q2 with u2| u3
  ·refine zas _ rfl (jp ?_);obtain rfl:=(sj h);exact zw lzz
  obtain rfl:=(sj h);exact zdj lzz
 obtain rfl:=(sj h);exact zdj lzz
theorem zkB (vf:Nat):(∀{sv:(List zf)} {va:Int} {l:(List zc)} {r:Bool},zhS vf sv va l=some r->FnOk Tryz.prog 125 [.sl zj [0] sv,kI va,.sl zd [0] l] [kB r])/\(∀{f:ze} {sv:(List zf)} {v:za} {r:Bool},zkz vf f sv v=some r->FnOk Tryz.prog 88 [.rc zg [0] f,.sl zj [0] sv,.rc zb [0] v] [kB r])/\(∀{sv:(List zf)} {va:Int} {x:zc} {r:Bool},zeW vf sv va x=some r->FnOk Tryz.prog 65 [.sl zj [0] sv,kI va,.rc zd [0] x] [kB r]):=by
  induction vf with
  | zero=>exact ⟨fun h=>absurd h nofun,fun h=>absurd h nofun,fun h=>absurd h nofun⟩
  | succ vf ih=>exact ⟨fun h=>zrB (fun hh=>ih.1 hh) (fun hh=>ih.2.1 hh) (fun hh=>ih.2.2 hh) h,fun h=>zym (fun hh=>ih.1 hh) (fun hh=>ih.2.1 hh) (fun hh=>ih.2.2 hh) h,fun h=>ztl (fun hh=>ih.1 hh) (fun hh=>ih.2.1 hh) (fun hh=>ih.2.2 hh) h⟩
theorem zui (h:zeW vf sv va x=some r):FnOk Tryz.prog 65 [.sl zj [0] sv,kI va,.rc zd [0] x] [kB r]:=(zkB vf).2.2 h
end Go.Proofs.YtekgmimingolbaaGreat

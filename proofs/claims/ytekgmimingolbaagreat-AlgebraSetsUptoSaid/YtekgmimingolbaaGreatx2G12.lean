/-
  The Go functions do what the plain functions say. No condition.
-/
import Derived.Test.YtekgmimingolbaaGreatx2G11
set_option autoImplicit true
set_option relaxedAutoImplicit true
namespace Go.Proofs.YtekgmimingolbaaGreat
open Go Go.RowKit
set_option linter.unusedVariables false
set_option maxRecDepth 100000
set_option maxHeartbeats 3200000
theorem ziY (h:zgE sv=some r):FnOk Tryz.prog 77 [.sl zh [0] sv] [kB r]:=by
 refine zu (E:=⟨[(2,kB r)],[]⟩) 12 Tryz.func77 rfl rfl rfl ⟨rfl,trivial⟩ (fun Xt=>?_);refine zk ?_;unfold zgE at h;refine jp ?_;obtain ⟨rv,uS,h⟩:=bnd h;refine jr (rl 1 [0] 9 Tryz.call108 (zxe uS) (rfl' [11])) (jp ?_);cases h;exact zo lzz
theorem zsH (vT:∀{sv:(List zg)} {uV:Int} {l:(List zd)} {r:Bool},xp sv uV l=some r->FnOk Tryz.prog 125 [.sl zh [0] sv,kI uV,.sl zc [0] l] [kB r]) (vU:∀{f:ze} {sv:(List zg)} {v:zb} {r:Bool},xb f sv v=some r->FnOk Tryz.prog 88 [.rc zf [0] f,.sl zh [0] sv,.rc za [0] v] [kB r]) (vV:∀{sv:(List zg)} {uV:Int} {x:zd} {r:Bool},xc sv uV x=some r->FnOk Tryz.prog 65 [.sl zh [0] sv,kI uV,.rc zc [0] x] [kB r]) (h:zhf xp xb xc sv uV l=some r):FnOk Tryz.prog 125 [.sl zh [0] sv,kI uV,.sl zc [0] l] [kB r]:=by
 refine zu (E:=⟨[(6,kB r)],[]⟩) 29 Tryz.func125 rfl rfl rfl ⟨rfl,trivial⟩ (fun Xt=>?_);refine zk ?_;unfold zhf at h;refine jp (zU ⟨[(0,.sl zh [0] sv),(1,kI uV),(2,.sl zc [0] l),(16,kB ((decide (uV<0))|| (decide (uV>=(sv.length:Int)))))],[]⟩ ?_ ?_)
 ·refine (rsl 3 [] 11 (decide (uV<0)) (fun uQ=>?_) (fun uQ=>?_))
  · exact (rbl [] 16 true rfl (by rw [uQ]<;>rfl))
  exact (rbl [] 16 (decide (uV>=(sv.length:Int))) rfl (by rw [uQ]<;>rfl))
 refine jI h (fun uR h=>?_) fun uR h=>?_
 ·refine jp ?_;obtain rfl:=(sj h);exact zo lzz
 refine jp (zp ?_);obtain ⟨q,uU,h⟩:=bnd h;refine zab (fun s:Int=>zbK l uV xc sv s) (fun s=>⟨[(0,.sl zh [0] sv),(1,kI uV),(17,.sl zc [0] l),(18,kI (l.length:Int)),(19,kI s)],[]⟩) (fun o e a w=>match o with| (.inl v_)=>e= .exit 0/\Sx ⟨⟨29,[]⟩,Xt,false,#[]⟩ ⟨[],[]⟩ a w| (.inr v_)=>e= .ret/\Sx ⟨⟨29,[]⟩,Xt,false,#[]⟩ ⟨[(6,kB false)],[]⟩ a w) ?_ uU lzz ?_
 ·clear h;intro v2 o h;refine zk ?_;replace h:zbK l uV xc sv v2=some o:=h;unfold zbK at h;refine jp (jI h (fun uT h=>?_) fun uT h=>?_)
  ·refine zp ?_;obtain ⟨x,u0,h⟩:=bnd h;refine jr (ra 0 [.sl zc [0] l,kI v2] rfl (zW rfl zli.el (zy _ _ _) u0) rfl (ra 0 [.ep zc [0] x 0] rfl (zbM rfl ⟨Tryz.isAgg27,Tryz.sizeOf27⟩) rfl (ral 1 [12] [.ptr 12 0,.rc zc [0] x] rfl (zhb (r:=zc) (b:=⟨12,27,[kN,kN]⟩) (off:=0) [.sl za [0] x.Values,.sl Rp.str [0] x.Unknown] rfl Tryz.sizeOf27 rfl rfl (by rw [zj]<;>rfl) rfl) rfl rf))) ?_;obtain ⟨rv,uS,h⟩:=bnd h;refine jr (rc 3 rfl (zw.le (ins':=[(.tmp 23,.sl zh [0] sv),(.tmp 24,kI uV),(.tmp 25,.ag [.sl za [0] x.Values,.sl Rp.str [0] x.Unknown])]) (zL (args:=[.tmp 23,.tmp 24,.tmp 25]) [.sl zh [0] sv,kI uV,.rc zc [0] x] [0] 11 rfl Tryz.call65 (vV uS) rfl rfl rfl rfl rfl) ⟨⟨rfl,AV.le_refl _⟩,⟨rfl,AV.le_refl _⟩,⟨rfl,zK zc [0] x [.sl za [0] x.Values,.sl Rp.str [0] x.Unknown] (by rw [zj]<;>rfl) rfl⟩,trivial⟩) rf) (jI h (fun uX h=>?_) fun uX h=>?_)
   ·refine jp ?_;cases h;exact zaN lzz
   refine zV (jp ?_);cases h;exact zD lzz
  cases h;exact zaa rfl lzz
 rcases q with u| u2
 ·refine zan _ rfl (jp ?_);obtain rfl:=(sj h);exact zo lzz
 obtain rfl:=(sj h);exact zcJ lzz
theorem zzS (vT:∀{sv:(List zg)} {uV:Int} {l:(List zd)} {r:Bool},xp sv uV l=some r->FnOk Tryz.prog 125 [.sl zh [0] sv,kI uV,.sl zc [0] l] [kB r]) (vU:∀{f:ze} {sv:(List zg)} {v:zb} {r:Bool},xb f sv v=some r->FnOk Tryz.prog 88 [.rc zf [0] f,.sl zh [0] sv,.rc za [0] v] [kB r]) (vV:∀{sv:(List zg)} {uV:Int} {x:zd} {r:Bool},xc sv uV x=some r->FnOk Tryz.prog 65 [.sl zh [0] sv,kI uV,.rc zc [0] x] [kB r]) (h:zmM xp xb xc f sv v=some r):FnOk Tryz.prog 88 [.rc zf [0] f,.sl zh [0] sv,.rc za [0] v] [kB r]:=by
 refine zu (E:=⟨[(6,kB r)],[]⟩) 69 Tryz.func88 rfl rfl rfl ⟨rfl,trivial⟩ (fun Xt=>?_);refine zk ?_;unfold zmM at h;refine jr (ral 1 [11] [.rc za [0] v] rfl (zaR 12 [kI v.Number,.sl (Rp.int .u64) [0] v.Words,.sl Rp.str [0] v.Texts,.sl zc [0] v.Subs] [0] rfl rfl rfl (by rw [zi]<;>rfl) rfl) rfl rf) ?_;obtain ⟨rv,uS,h⟩:=bnd h;refine jr (rc 1 rfl (zw.le (ins':=[(.tmp 8,.ag [kI v.Number,.sl (Rp.int .u64) [0] v.Words,.sl Rp.str [0] v.Texts,.sl zc [0] v.Subs])]) (zL (args:=[.tmp 8]) [.rc za [0] v] [0] 11 rfl Tryz.call123 (zsF uS) rfl rfl rfl rfl rfl) ⟨⟨rfl,zK za [0] v [kI v.Number,.sl (Rp.int .u64) [0] v.Words,.sl Rp.str [0] v.Texts,.sl zc [0] v.Subs] (by rw [zi]<;>rfl) rfl⟩,trivial⟩) rf) (zU ⟨[(1,.sl zh [0] sv),(3,.ptr 11 0),(5,.ptr 12 0),(7,kI rv),(20,kB ((rv==0)|| ((decide (rv>1))&&(!f.Repeated))))],[⟨11,65,[kS f.Name,kI f.Number,kI f.Kind,kB f.Repeated,kB f.Packed,kI f.Of]⟩,⟨12,57,[kI v.Number,.sl (Rp.int .u64) [0] v.Words,.sl Rp.str [0] v.Texts,.sl zc [0] v.Subs]⟩]⟩ ?_ ?_)
 ·refine (rsl 3 [] 12 (rv==0) (fun uQ=>?_) (fun uQ=>?_))
  · exact (rbl [] 20 true rfl (by rw [uQ]<;>rfl))
  refine (rsl 3 [] 15 (decide (rv>1)) (fun uR=>?_) (fun uR=>?_))
  · exact (rbl [] 20 (!f.Repeated) rfl (by rw [uQ,uR]<;>rfl))
  exact (rbl [] 20 false rfl (by rw [uQ,uR]<;>rfl))
 refine jI h (fun uT h=>?_) fun uT h=>?_
 ·refine jp ?_;obtain rfl:=(sj h);exact zo lzz
 refine jp (zp (jp (jI h (fun uX h=>?_) fun uX h=>?_)))
 ·obtain ⟨g,uP,h⟩:=bnd h;refine zU ⟨[(6,kB g)],[]⟩ ?_ ?_
  ·refine (rsl 6 [] 30 ((v.Texts.length:Int)==rv) (fun vb=>?_) (fun vb=>?_))
   ·replace uP:=iteT uP vb;obtain ⟨rv2,u9,uP⟩:=bnd uP;cases uP;exact (rl 2 [0] 11 Tryz.call124 (zwr u9) rgg)
   replace uP:=iteF uP vb;cases uP;exact rgg
  obtain rfl:=(sj h);exact zo lzz
 refine jp (jI h (fun vc h=>?_) fun vc h=>?_)
 ·refine jp ?_;cases h;exact zo lzz
 refine jp (jI h (fun vh h=>?_) fun vh h=>?_)
 ·obtain ⟨g2,uZ,h⟩:=bnd h;refine zU ⟨[(6,kB g2)],[]⟩ ?_ ?_
  ·refine (rsl 6 [] 49 ((v.Subs.length:Int)==rv) (fun vk=>?_) (fun vk=>?_))
   ·replace uZ:=iteT uZ vk;obtain ⟨rv3,ve,uZ⟩:=bnd uZ;cases uZ;exact (rl 5 [0] 11 Tryz.call125 (vT ve) rgg)
   replace uZ:=iteF uZ vk;cases uZ;exact rgg
  obtain rfl:=(sj h);exact zo lzz
 refine zV ?_;obtain ⟨g3,vd,h⟩:=bnd h;refine zU ⟨[(6,kB g3)],[]⟩ ?_ ?_
 ·refine (rsl 6 [] 62 ((v.Words.length:Int)==rv) (fun vj=>?_) (fun vj=>?_))
  ·replace vd:=iteT vd vj;obtain ⟨rv4,vm,vd⟩:=bnd vd;cases vd;exact (rl 4 [0] 11 Tryz.call126 (zsG vm) rgg)
  replace vd:=iteF vd vj;cases vd;exact rgg
 obtain rfl:=(sj h);exact zo lzz
theorem zut (vT:∀{sv:(List zg)} {uV:Int} {l:(List zd)} {r:Bool},xp sv uV l=some r->FnOk Tryz.prog 125 [.sl zh [0] sv,kI uV,.sl zc [0] l] [kB r]) (vU:∀{f:ze} {sv:(List zg)} {v:zb} {r:Bool},xb f sv v=some r->FnOk Tryz.prog 88 [.rc zf [0] f,.sl zh [0] sv,.rc za [0] v] [kB r]) (vV:∀{sv:(List zg)} {uV:Int} {x:zd} {r:Bool},xc sv uV x=some r->FnOk Tryz.prog 65 [.sl zh [0] sv,kI uV,.rc zc [0] x] [kB r]) (h:ziy xp xb xc sv uV x=some r):FnOk Tryz.prog 65 [.sl zh [0] sv,kI uV,.rc zc [0] x] [kB r]:=by
 refine zu (E:=⟨[(6,kB r)],[]⟩) 67 Tryz.func65 rfl rfl rfl ⟨rfl,trivial⟩ (fun Xt=>?_);refine zk ?_;unfold ziy at h;refine jr (ra 0 [.rc zc [0] x] rfl (zaR 11 [.sl za [0] x.Values,.sl Rp.str [0] x.Unknown] [0] rfl rfl rfl (by rw [zj]<;>rfl) rfl) rfl rf) ?_;obtain ⟨x2,va,h⟩:=bnd h;refine jr (ra 2 [.sl zh [0] sv,kI uV] rfl (zW rfl zhT.el (zy _ _ _) va) rfl (ra 0 [.ep zh [0] x2 0] rfl (zbM rfl ⟨Tryz.isAgg82,Tryz.sizeOf82⟩) rfl (ral 1 [12] [.ptr 12 0,.rc zh [0] x2] rfl (zhb (r:=zh) (b:=⟨12,82,[kS [],kN]⟩) (off:=0) [kS x2.Name,.sl zf [0] x2.Fields] rfl Tryz.sizeOf82 rfl rfl rfl rfl) rfl rf))) (jp (jp (zp ?_)));obtain ⟨q,uU,h⟩:=bnd h;refine zab (fun s:(Int×Int)=>zcz xb sv x x2 s.1 s.2) (fun s=>⟨[(0,.sl zh [0] sv),(5,.ptr 11 0),(7,.ptr 12 0),(8,kI s.1),(20,.sl za [0] x.Values),(21,kI (x.Values.length:Int)),(22,kI s.2)],[⟨11,27,[.sl za [0] x.Values,.sl Rp.str [0] x.Unknown]⟩,⟨12,82,[kS x2.Name,.sl zf [0] x2.Fields]⟩]⟩) (fun o e a w=>match o with| (.inl v_)=>e= .exit 0/\Sx ⟨⟨67,[]⟩,Xt,false,#[]⟩ ⟨[(5,.ptr 11 0),(7,.ptr 12 0)],[⟨11,27,[.sl za [0] x.Values,.sl Rp.str [0] x.Unknown]⟩,⟨12,82,[kS x2.Name,.sl zf [0] x2.Fields]⟩]⟩ a w| (.inr v_)=>e= .ret/\Sx ⟨⟨67,[]⟩,Xt,false,#[]⟩ ⟨[(6,kB false)],[]⟩ a w) ?_ uU lzz ?_
 ·clear h;intro s o h;obtain ⟨last,v⟩:=s;refine zk ?_;replace h:zcz xb sv x x2 last v=some o:=h;unfold zcz at h;refine jp (jI h (fun uQ h=>?_) fun uQ h=>?_)
  ·refine zp ?_;obtain ⟨x3,vg,h⟩:=bnd h;refine jr (ra 0 [.sl za [0] x.Values,kI v] rfl (zW rfl zjx.el (zy _ _ _) vg) rfl (ra 0 [.ep za [0] x3 0] rfl (zbM rfl ⟨Tryz.isAgg57,Tryz.sizeOf57⟩) rfl (ral 1 [14] [.ptr 14 0,.rc za [0] x3] rfl (zhb (r:=za) (b:=⟨14,57,[kI 0,kN,kN,kN]⟩) (off:=0) [kI x3.Number,.sl (Rp.int .u64) [0] x3.Words,.sl Rp.str [0] x3.Texts,.sl zc [0] x3.Subs] rfl Tryz.sizeOf57 rfl rfl (by rw [zi]<;>rfl) rfl) rfl rf))) ?_;obtain ⟨rv,uS,h⟩:=bnd h;refine jr (rl 3 [0] 13 Tryz.call96 (ziU uS) rf) ?_;obtain ⟨g,uP,h⟩:=bnd h;refine zdb (R:=fun e a w=>e= .normal/\Sx ⟨⟨67,[]⟩,Xt,false,#[]⟩ ⟨[(0,.sl zh [0] sv),(5,.ptr 11 0),(7,.ptr 12 0),(10,.ptr 14 0),(20,.sl za [0] x.Values),(21,kI (x.Values.length:Int)),(22,kI v),(51,kB g)],[⟨11,27,[.sl za [0] x.Values,.sl Rp.str [0] x.Unknown]⟩,⟨12,82,[kS x2.Name,.sl zf [0] x2.Fields]⟩,⟨14,57,[kI x3.Number,.sl (Rp.int .u64) [0] x3.Words,.sl Rp.str [0] x3.Texts,.sl zc [0] x3.Subs]⟩]⟩ a w) ?_ (zeQ ?_)
   ·refine zk ?_;rcases yv (!rv.2) with uR| uR
    ·replace uP:=iteT uP uR;cases uP;exact jd [0,5,7,10,20,21,22,51] [11,12,14] zaU (by exact (lw_e (lw_e (lx (zcv ⟨[(34,kB (!rv.2))],[]⟩ (by kernel_rfl) uR) l0)))) (zD lzz)
    replace uP:=iteF uP uR;rcases yv (decide (x3.Number<=last)) with uT| uT
    ·replace uP:=iteT uP uT;cases uP;exact jd [0,5,7,10,20,21,22,51] [11,12,14] zaU (by exact (lw_e (lw_e (lx (zcv ⟨[(34,kB (!rv.2))],[]⟩ (by kernel_rfl) uR) (lw_e (lw_e (lw_e (lw_e (lw_e (lx (zcv ⟨[(40,kB (decide (x3.Number<=last)))],[]⟩ (by kernel_rfl) uT) l0)))))))))) (zD lzz)
    replace uP:=iteF uP uT;obtain ⟨x4,vo,uP⟩:=bnd uP;obtain ⟨rv2,u9,uP⟩:=bnd uP;cases uP;exact jd [0,5,7,10,20,21,22,51] [11,12,14] zaU (by exact (lw_e (lw_e (lx (zcv ⟨[(34,kB (!rv.2))],[]⟩ (by kernel_rfl) uR) (lw_e (lw_e (lw_e (lw_e (lw_e (lx (zcv ⟨[(40,kB (decide (x3.Number<=last)))],[]⟩ (by kernel_rfl) uT) (lw_e (lw_e (lw_e (ly [.sl zf [0] x2.Fields,kI rv.1] (zW rfl zlP.el (zy _ _ _) vo) rfl (ly [.ep zf [0] x4 0] (zbM rfl ⟨Tryz.isAgg65,Tryz.sizeOf65⟩) rfl (lw_e (ly [.ptr 14 0] (zdi (b:=⟨14,57,[kI x3.Number,.sl (Rp.int .u64) [0] x3.Words,.sl Rp.str [0] x3.Texts,.sl zc [0] x3.Subs]⟩) [kI x3.Number,.sl (Rp.int .u64) [0] x3.Words,.sl Rp.str [0] x3.Texts,.sl zc [0] x3.Subs] rfl ⟨Tryz.isAgg57,Tryz.sizeOf57⟩ rfl rfl) rfl (lx (lf1 88 (zw.le (ins':=[(.tmp 46,.rc zf [0] x4),(.tmp 47,.sl zh [0] sv),(.tmp 48,.ag [kI x3.Number,.sl (Rp.int .u64) [0] x3.Words,.sl Rp.str [0] x3.Texts,.sl zc [0] x3.Subs])]) (zL (args:=[.tmp 46,.tmp 47,.tmp 48]) [.rc zf [0] x4,.sl zh [0] sv,.rc za [0] x3] [0] 13 rfl Tryz.call88 (vU u9) rfl rfl rfl rfl rfl) ⟨⟨rfl,AV.le_refl _⟩,⟨rfl,AV.le_refl _⟩,⟨rfl,zK za [0] x3 [kI x3.Number,.sl (Rp.int .u64) [0] x3.Words,.sl Rp.str [0] x3.Texts,.sl zc [0] x3.Subs] (by rw [zi]<;>rfl) rfl⟩,trivial⟩)) l0)))))))))))))))))) (zD lzz)
   refine jI h (fun uX h=>?_) fun uX h=>?_
   ·refine jp ?_;cases h;exact zaN lzz
   refine jp (zV (jp ?_));cases h;exact zD lzz
  cases h;exact zaa rfl lzz
 rcases q with u| u4
 ·refine zan _ rfl (jp (zp ?_));obtain ⟨q2,vn,h⟩:=bnd h;refine zab (fun s:Int=>zcA x x2 s) (fun s=>⟨[(7,.ptr 12 0),(56,.sl Rp.str [0] x.Unknown),(57,kI (x.Unknown.length:Int)),(58,kI s)],[⟨12,82,[kS x2.Name,.sl zf [0] x2.Fields]⟩]⟩) (fun o e a w=>match o with| (.inl v_)=>e= .exit 2/\Sx ⟨⟨67,[]⟩,Xt,false,#[]⟩ ⟨[],[]⟩ a w| (.inr v_)=>e= .ret/\Sx ⟨⟨67,[]⟩,Xt,false,#[]⟩ ⟨[(6,kB false)],[]⟩ a w) ?_ vn lzz ?_
  ·clear h;intro v3 o h;refine zk ?_;replace h:zcA x x2 v3=some o:=h;unfold zcA at h;refine jp (jI h (fun vb h=>?_) fun vb h=>?_)
   ·refine zp ?_;obtain ⟨x5,vC,h⟩:=bnd h;refine jr (ra 0 [.sl Rp.str [0] x.Unknown,kI v3] rfl (zW rfl zgI.el (zy _ _ _) vC) rfl rf) ?_;obtain ⟨rv3,ve,h⟩:=bnd h;refine jr (rl 2 [0] 14 Tryz.call97 (zvx ve) rf) (jI h (fun vc h=>?_) fun vc h=>?_)
    ·refine jp ?_;cases h;exact zaN lzz
    refine zV (jp ?_);cases h;exact zD lzz
   cases h;exact zaa rfl lzz
  rcases q2 with u2| u3
  ·refine zan _ rfl (jp ?_);obtain rfl:=(sj h);exact zo lzz
  obtain rfl:=(sj h);exact zcJ lzz
 obtain rfl:=(sj h);exact zcJ lzz
theorem zhn (uY:Nat):(∀{sv:(List zg)} {uV:Int} {l:(List zd)} {r:Bool},ziw uY sv uV l=some r->FnOk Tryz.prog 125 [.sl zh [0] sv,kI uV,.sl zc [0] l] [kB r])/\(∀{f:ze} {sv:(List zg)} {v:zb} {r:Bool},zjn uY f sv v=some r->FnOk Tryz.prog 88 [.rc zf [0] f,.sl zh [0] sv,.rc za [0] v] [kB r])/\(∀{sv:(List zg)} {uV:Int} {x:zd} {r:Bool},zfi uY sv uV x=some r->FnOk Tryz.prog 65 [.sl zh [0] sv,kI uV,.rc zc [0] x] [kB r]):=by
  induction uY with
  | zero=>exact ⟨fun h=>absurd h nofun,fun h=>absurd h nofun,fun h=>absurd h nofun⟩
  | succ uY ih=>exact ⟨fun h=>zsH (fun hh=>ih.1 hh) (fun hh=>ih.2.1 hh) (fun hh=>ih.2.2 hh) h,fun h=>zzS (fun hh=>ih.1 hh) (fun hh=>ih.2.1 hh) (fun hh=>ih.2.2 hh) h,fun h=>zut (fun hh=>ih.1 hh) (fun hh=>ih.2.1 hh) (fun hh=>ih.2.2 hh) h⟩
theorem zCt (h:zjn uY f sv v=some r):FnOk Tryz.prog 88 [.rc zf [0] f,.sl zh [0] sv,.rc za [0] v] [kB r]:=(zhn uY).2.1 h
theorem zvw (h:zfi uY sv uV x=some r):FnOk Tryz.prog 65 [.sl zh [0] sv,kI uV,.rc zc [0] x] [kB r]:=(zhn uY).2.2 h
end Go.Proofs.YtekgmimingolbaaGreat

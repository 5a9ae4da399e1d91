/-
  The Go functions do what the plain functions say. No condition.
-/
import Derived.Test.YtekgmimingolbaaGreatx1G11
set_option autoImplicit true
set_option relaxedAutoImplicit true
namespace Go.Proofs.YtekgmimingolbaaGreat
open Go Go.RowKit
set_option linter.unusedVariables false
set_option maxRecDepth 100000
set_option maxHeartbeats 3200000
theorem zpv (h:ziS sv=some r):FnOk Tryz.prog 77 [.sl zh [0] sv] [kB r]:=by
 refine zu (E:=⟨[(2,kB r)],[]⟩) 12 Tryz.func77 rfl rfl rfl ⟨rfl,trivial⟩ (fun Xt=>?_);refine zj ?_;unfold ziS at h;refine jp ?_;obtain ⟨rv,uF,h⟩:=bnd h;refine jr (rl 1 [0] 9 Tryz.call108 (zuQ uF) (rfl' [11])) (jp ?_);cases h;exact zt lzz
theorem zqT (vH:∀{sv:(List zg)} {uG:Int} {l:(List zc)} {r:Bool},xq sv uG l=some r->FnOk Tryz.prog 125 [.sl zh [0] sv,kI uG,.sl zd [0] l] [kB r]) (vI:∀{f:ze} {sv:(List zg)} {v:zb} {r:Bool},xb f sv v=some r->FnOk Tryz.prog 88 [.rc zf [0] f,.sl zh [0] sv,.rc za [0] v] [kB r]) (vJ:∀{sv:(List zg)} {uG:Int} {x:zc} {r:Bool},xc sv uG x=some r->FnOk Tryz.prog 65 [.sl zh [0] sv,kI uG,.rc zd [0] x] [kB r]) (h:zgr xq xb xc sv uG l=some r):FnOk Tryz.prog 125 [.sl zh [0] sv,kI uG,.sl zd [0] l] [kB r]:=by
 refine zu (E:=⟨[(6,kB r)],[]⟩) 29 Tryz.func125 rfl rfl rfl ⟨rfl,trivial⟩ (fun Xt=>?_);refine zj ?_;unfold zgr at h;refine jp (zO ⟨[(0,.sl zh [0] sv),(1,kI uG),(2,.sl zd [0] l),(16,kB ((decide (uG<0))|| (decide (uG>=(sv.length:Int)))))],[]⟩ ?_ ?_)
 ·refine (rsl 3 [] 11 (decide (uG<0)) (fun uC=>?_) (fun uC=>?_))
  · exact (rbl [] 16 true rfl (by rw [uC]<;>rfl))
  exact (rbl [] 16 (decide (uG>=(sv.length:Int))) rfl (by rw [uC]<;>rfl))
 refine jI h (fun uD h=>?_) fun uD h=>?_
 ·refine jp ?_;obtain rfl:=(sj h);exact zt lzz
 refine jp (zq ?_);obtain ⟨q,uJ,h⟩:=bnd h;refine zW (fun s:Int=>zbt l uG xc sv s) (fun s=>⟨[(0,.sl zh [0] sv),(1,kI uG),(17,.sl zd [0] l),(18,kI (l.length:Int)),(19,kI s)],[]⟩) (fun o e a w=>match o with| (.inl v_)=>e= .exit 0/\Sx ⟨⟨29,[]⟩,Xt,false,#[]⟩ ⟨[],[]⟩ a w| (.inr v_)=>e= .ret/\Sx ⟨⟨29,[]⟩,Xt,false,#[]⟩ ⟨[(6,kB false)],[]⟩ a w) ?_ uJ lzz ?_
 ·clear h;intro v2 o h;refine zj ?_;replace h:zbt l uG xc sv v2=some o:=h;unfold zbt at h;refine jp (jI h (fun uE h=>?_) fun uE h=>?_)
  ·refine zq ?_;obtain ⟨x,uM,h⟩:=bnd h;refine jr (ra 0 [.sl zd [0] l,kI v2] rfl (zP rfl zkk.el (zw _ _ _) uM) rfl (ra 0 [.ep zd [0] x 0] rfl (zcM rfl ⟨Tryz.isAgg27,Tryz.sizeOf27⟩) rfl (ral 1 [12] [.ptr 12 0,.rc zd [0] x] rfl (zio (r:=zd) (b:=⟨12,27,[kN,kN]⟩) (off:=0) [.sl za [0] x.Values,.sl Rp.str [0] x.Unknown] rfl Tryz.sizeOf27 rfl rfl (by rw [zi]<;>rfl) rfl) rfl rf))) ?_;obtain ⟨rv,uF,h⟩:=bnd h;refine jr (rc 3 rfl (zx.le (ins':=[(.tmp 23,.sl zh [0] sv),(.tmp 24,kI uG),(.tmp 25,.ag [.sl za [0] x.Values,.sl Rp.str [0] x.Unknown])]) (zR (args:=[.tmp 23,.tmp 24,.tmp 25]) [.sl zh [0] sv,kI uG,.rc zd [0] x] [0] 11 rfl Tryz.call65 (vJ uF) rfl rfl rfl rfl rfl) ⟨⟨rfl,AV.le_refl _⟩,⟨rfl,AV.le_refl _⟩,⟨rfl,zT zd [0] x [.sl za [0] x.Values,.sl Rp.str [0] x.Unknown] (by rw [zi]<;>rfl) rfl⟩,trivial⟩) rf) (jI h (fun uI h=>?_) fun uI h=>?_)
   ·refine jp ?_;cases h;exact zaK lzz
   refine zQ (jp ?_);cases h;exact zD lzz
  cases h;exact zX rfl lzz
 rcases q with u| u2
 ·refine zaj _ rfl (jp ?_);obtain rfl:=(sj h);exact zt lzz
 obtain rfl:=(sj h);exact zcN lzz
theorem zxr (vH:∀{sv:(List zg)} {uG:Int} {l:(List zc)} {r:Bool},xq sv uG l=some r->FnOk Tryz.prog 125 [.sl zh [0] sv,kI uG,.sl zd [0] l] [kB r]) (vI:∀{f:ze} {sv:(List zg)} {v:zb} {r:Bool},xb f sv v=some r->FnOk Tryz.prog 88 [.rc zf [0] f,.sl zh [0] sv,.rc za [0] v] [kB r]) (vJ:∀{sv:(List zg)} {uG:Int} {x:zc} {r:Bool},xc sv uG x=some r->FnOk Tryz.prog 65 [.sl zh [0] sv,kI uG,.rc zd [0] x] [kB r]) (h:zlq xq xb xc f sv v=some r):FnOk Tryz.prog 88 [.rc zf [0] f,.sl zh [0] sv,.rc za [0] v] [kB r]:=by
 refine zu (E:=⟨[(6,kB r)],[]⟩) 69 Tryz.func88 rfl rfl rfl ⟨rfl,trivial⟩ (fun Xt=>?_);refine zj ?_;unfold zlq at h;refine jr (ral 1 [11] [.rc za [0] v] rfl (zbL 12 [kI v.Number,.sl (Rp.int .u64) [0] v.Words,.sl Rp.str [0] v.Texts,.sl zd [0] v.Subs] [0] rfl rfl rfl (by rw [zk]<;>rfl) rfl) rfl rf) ?_;obtain ⟨rv,uF,h⟩:=bnd h;refine jr (rc 1 rfl (zx.le (ins':=[(.tmp 8,.ag [kI v.Number,.sl (Rp.int .u64) [0] v.Words,.sl Rp.str [0] v.Texts,.sl zd [0] v.Subs])]) (zR (args:=[.tmp 8]) [.rc za [0] v] [0] 11 rfl Tryz.call123 (zqR uF) rfl rfl rfl rfl rfl) ⟨⟨rfl,zT za [0] v [kI v.Number,.sl (Rp.int .u64) [0] v.Words,.sl Rp.str [0] v.Texts,.sl zd [0] v.Subs] (by rw [zk]<;>rfl) rfl⟩,trivial⟩) rf) (zO ⟨[(1,.sl zh [0] sv),(3,.ptr 11 0),(5,.ptr 12 0),(7,kI rv),(20,kB ((rv==0)|| ((decide (rv>1))&&(!f.Repeated))))],[⟨11,65,[kS f.Name,kI f.Number,kI f.Kind,kB f.Repeated,kB f.Packed,kI f.Of]⟩,⟨12,57,[kI v.Number,.sl (Rp.int .u64) [0] v.Words,.sl Rp.str [0] v.Texts,.sl zd [0] v.Subs]⟩]⟩ ?_ ?_)
 ·refine (rsl 3 [] 12 (rv==0) (fun uC=>?_) (fun uC=>?_))
  · exact (rbl [] 20 true rfl (by rw [uC]<;>rfl))
  refine (rsl 3 [] 15 (decide (rv>1)) (fun uD=>?_) (fun uD=>?_))
  · exact (rbl [] 20 (!f.Repeated) rfl (by rw [uC,uD]<;>rfl))
  exact (rbl [] 20 false rfl (by rw [uC,uD]<;>rfl))
 refine jI h (fun uE h=>?_) fun uE h=>?_
 ·refine jp ?_;obtain rfl:=(sj h);exact zt lzz
 refine jp (zq (jp (jI h (fun uI h=>?_) fun uI h=>?_)))
 ·obtain ⟨g,uB,h⟩:=bnd h;refine zO ⟨[(6,kB g)],[]⟩ ?_ ?_
  ·refine (rsl 6 [] 30 ((v.Texts.length:Int)==rv) (fun uL=>?_) (fun uL=>?_))
   ·replace uB:=iteT uB uL;obtain ⟨rv2,uQ,uB⟩:=bnd uB;cases uB;exact (rl 2 [0] 11 Tryz.call124 (zuk uQ) rgg)
   replace uB:=iteF uB uL;cases uB;exact rgg
  obtain rfl:=(sj h);exact zt lzz
 refine jp (jI h (fun uN h=>?_) fun uN h=>?_)
 ·refine jp ?_;cases h;exact zt lzz
 refine jp (jI h (fun uS h=>?_) fun uS h=>?_)
 ·obtain ⟨g2,uH,h⟩:=bnd h;refine zO ⟨[(6,kB g2)],[]⟩ ?_ ?_
  ·refine (rsl 6 [] 49 ((v.Subs.length:Int)==rv) (fun uX=>?_) (fun uX=>?_))
   ·replace uH:=iteT uH uX;obtain ⟨rv3,uT,uH⟩:=bnd uH;cases uH;exact (rl 5 [0] 11 Tryz.call125 (vH uT) rgg)
   replace uH:=iteF uH uX;cases uH;exact rgg
  obtain rfl:=(sj h);exact zt lzz
 refine zQ ?_;obtain ⟨g3,uR,h⟩:=bnd h;refine zO ⟨[(6,kB g3)],[]⟩ ?_ ?_
 ·refine (rsl 6 [] 62 ((v.Words.length:Int)==rv) (fun uU=>?_) (fun uU=>?_))
  ·replace uR:=iteT uR uU;obtain ⟨rv4,vb,uR⟩:=bnd uR;cases uR;exact (rl 4 [0] 11 Tryz.call126 (zqS vb) rgg)
  replace uR:=iteF uR uU;cases uR;exact rgg
 obtain rfl:=(sj h);exact zt lzz
theorem zsx (vH:∀{sv:(List zg)} {uG:Int} {l:(List zc)} {r:Bool},xq sv uG l=some r->FnOk Tryz.prog 125 [.sl zh [0] sv,kI uG,.sl zd [0] l] [kB r]) (vI:∀{f:ze} {sv:(List zg)} {v:zb} {r:Bool},xb f sv v=some r->FnOk Tryz.prog 88 [.rc zf [0] f,.sl zh [0] sv,.rc za [0] v] [kB r]) (vJ:∀{sv:(List zg)} {uG:Int} {x:zc} {r:Bool},xc sv uG x=some r->FnOk Tryz.prog 65 [.sl zh [0] sv,kI uG,.rc zd [0] x] [kB r]) (h:zhx xq xb xc sv uG x=some r):FnOk Tryz.prog 65 [.sl zh [0] sv,kI uG,.rc zd [0] x] [kB r]:=by
 refine zu (E:=⟨[(6,kB r)],[]⟩) 67 Tryz.func65 rfl rfl rfl ⟨rfl,trivial⟩ (fun Xt=>?_);refine zj ?_;unfold zhx at h;refine jr (ra 0 [.rc zd [0] x] rfl (zbL 11 [.sl za [0] x.Values,.sl Rp.str [0] x.Unknown] [0] rfl rfl rfl (by rw [zi]<;>rfl) rfl) rfl rf) ?_;obtain ⟨x2,uP,h⟩:=bnd h;refine jr (ra 2 [.sl zh [0] sv,kI uG] rfl (zP rfl ziM.el (zw _ _ _) uP) rfl (ra 0 [.ep zh [0] x2 0] rfl (zcM rfl ⟨Tryz.isAgg82,Tryz.sizeOf82⟩) rfl (ral 1 [12] [.ptr 12 0,.rc zh [0] x2] rfl (zio (r:=zh) (b:=⟨12,82,[kS [],kN]⟩) (off:=0) [kS x2.Name,.sl zf [0] x2.Fields] rfl Tryz.sizeOf82 rfl rfl rfl rfl) rfl rf))) (jp (jp (zq ?_)));obtain ⟨q,uJ,h⟩:=bnd h;refine zW (fun s:(Int×Int)=>zcg xb sv x x2 s.1 s.2) (fun s=>⟨[(0,.sl zh [0] sv),(5,.ptr 11 0),(7,.ptr 12 0),(8,kI s.1),(20,.sl za [0] x.Values),(21,kI (x.Values.length:Int)),(22,kI s.2)],[⟨11,27,[.sl za [0] x.Values,.sl Rp.str [0] x.Unknown]⟩,⟨12,82,[kS x2.Name,.sl zf [0] x2.Fields]⟩]⟩) (fun o e a w=>match o with| (.inl v_)=>e= .exit 0/\Sx ⟨⟨67,[]⟩,Xt,false,#[]⟩ ⟨[(5,.ptr 11 0),(7,.ptr 12 0)],[⟨11,27,[.sl za [0] x.Values,.sl Rp.str [0] x.Unknown]⟩,⟨12,82,[kS x2.Name,.sl zf [0] x2.Fields]⟩]⟩ a w| (.inr v_)=>e= .ret/\Sx ⟨⟨67,[]⟩,Xt,false,#[]⟩ ⟨[(6,kB false)],[]⟩ a w) ?_ uJ lzz ?_
 ·clear h;intro s o h;obtain ⟨last,v⟩:=s;refine zj ?_;replace h:zcg xb sv x x2 last v=some o:=h;unfold zcg at h;refine jp (jI h (fun uC h=>?_) fun uC h=>?_)
  ·refine zq ?_;obtain ⟨x3,uW,h⟩:=bnd h;refine jr (ra 0 [.sl za [0] x.Values,kI v] rfl (zP rfl zkj.el (zw _ _ _) uW) rfl (ra 0 [.ep za [0] x3 0] rfl (zcM rfl ⟨Tryz.isAgg57,Tryz.sizeOf57⟩) rfl (ral 1 [14] [.ptr 14 0,.rc za [0] x3] rfl (zio (r:=za) (b:=⟨14,57,[kI 0,kN,kN,kN]⟩) (off:=0) [kI x3.Number,.sl (Rp.int .u64) [0] x3.Words,.sl Rp.str [0] x3.Texts,.sl zd [0] x3.Subs] rfl Tryz.sizeOf57 rfl rfl (by rw [zk]<;>rfl) rfl) rfl rf))) ?_;obtain ⟨rv,uF,h⟩:=bnd h;refine jr (rl 3 [0] 13 Tryz.call96 (zjE uF) rf) ?_;obtain ⟨g,uB,h⟩:=bnd h;refine zek (R:=fun e a w=>e= .normal/\Sx ⟨⟨67,[]⟩,Xt,false,#[]⟩ ⟨[(0,.sl zh [0] sv),(5,.ptr 11 0),(7,.ptr 12 0),(10,.ptr 14 0),(20,.sl za [0] x.Values),(21,kI (x.Values.length:Int)),(22,kI v),(51,kB g)],[⟨11,27,[.sl za [0] x.Values,.sl Rp.str [0] x.Unknown]⟩,⟨12,82,[kS x2.Name,.sl zf [0] x2.Fields]⟩,⟨14,57,[kI x3.Number,.sl (Rp.int .u64) [0] x3.Words,.sl Rp.str [0] x3.Texts,.sl zd [0] x3.Subs]⟩]⟩ a w) ?_ (zgm ?_)
   ·refine zj ?_;rcases yi (!rv.2) with uD| uD
    ·replace uB:=iteT uB uD;cases uB;exact jd [0,5,7,10,20,21,22,51] [11,12,14] zbq (by exact (lw_e (lw_e (lx (zaT ⟨[(34,kB (!rv.2))],[]⟩ (by kernel_rfl) uD) l0)))) (zD lzz)
    replace uB:=iteF uB uD;rcases yi (decide (x3.Number<=last)) with uE| uE
    ·replace uB:=iteT uB uE;cases uB;exact jd [0,5,7,10,20,21,22,51] [11,12,14] zbq (by exact (lw_e (lw_e (lx (zaT ⟨[(34,kB (!rv.2))],[]⟩ (by kernel_rfl) uD) (lw_e (lw_e (lw_e (lw_e (lw_e (lx (zaT ⟨[(40,kB (decide (x3.Number<=last)))],[]⟩ (by kernel_rfl) uE) l0)))))))))) (zD lzz)
    replace uB:=iteF uB uE;obtain ⟨x4,va,uB⟩:=bnd uB;obtain ⟨rv2,uQ,uB⟩:=bnd uB;cases uB;exact jd [0,5,7,10,20,21,22,51] [11,12,14] zbq (by exact (lw_e (lw_e (lx (zaT ⟨[(34,kB (!rv.2))],[]⟩ (by kernel_rfl) uD) (lw_e (lw_e (lw_e (lw_e (lw_e (lx (zaT ⟨[(40,kB (decide (x3.Number<=last)))],[]⟩ (by kernel_rfl) uE) (lw_e (lw_e (lw_e (ly [.sl zf [0] x2.Fields,kI rv.1] (zP rfl zoF.el (zw _ _ _) va) rfl (ly [.ep zf [0] x4 0] (zcM rfl ⟨Tryz.isAgg65,Tryz.sizeOf65⟩) rfl (lw_e (ly [.ptr 14 0] (zgR (b:=⟨14,57,[kI x3.Number,.sl (Rp.int .u64) [0] x3.Words,.sl Rp.str [0] x3.Texts,.sl zd [0] x3.Subs]⟩) [kI x3.Number,.sl (Rp.int .u64) [0] x3.Words,.sl Rp.str [0] x3.Texts,.sl zd [0] x3.Subs] rfl ⟨Tryz.isAgg57,Tryz.sizeOf57⟩ rfl rfl) rfl (lx (lf1 88 (zx.le (ins':=[(.tmp 46,.rc zf [0] x4),(.tmp 47,.sl zh [0] sv),(.tmp 48,.ag [kI x3.Number,.sl (Rp.int .u64) [0] x3.Words,.sl Rp.str [0] x3.Texts,.sl zd [0] x3.Subs])]) (zR (args:=[.tmp 46,.tmp 47,.tmp 48]) [.rc zf [0] x4,.sl zh [0] sv,.rc za [0] x3] [0] 13 rfl Tryz.call88 (vI uQ) rfl rfl rfl rfl rfl) ⟨⟨rfl,AV.le_refl _⟩,⟨rfl,AV.le_refl _⟩,⟨rfl,zT za [0] x3 [kI x3.Number,.sl (Rp.int .u64) [0] x3.Words,.sl Rp.str [0] x3.Texts,.sl zd [0] x3.Subs] (by rw [zk]<;>rfl) rfl⟩,trivial⟩)) l0)))))))))))))))))) (zD lzz)
   refine jI h (fun uI h=>?_) fun uI h=>?_
   ·refine jp ?_;cases h;exact zaK lzz
   refine jp (zQ (jp ?_));cases h;exact zD lzz
  cases h;exact zX rfl lzz
 rcases q with u| u4
 ·refine zaj _ rfl (jp (zq ?_));obtain ⟨q2,u0,h⟩:=bnd h;refine zW (fun s:Int=>zch x x2 s) (fun s=>⟨[(7,.ptr 12 0),(56,.sl Rp.str [0] x.Unknown),(57,kI (x.Unknown.length:Int)),(58,kI s)],[⟨12,82,[kS x2.Name,.sl zf [0] x2.Fields]⟩]⟩) (fun o e a w=>match o with| (.inl v_)=>e= .exit 2/\Sx ⟨⟨67,[]⟩,Xt,false,#[]⟩ ⟨[],[]⟩ a w| (.inr v_)=>e= .ret/\Sx ⟨⟨67,[]⟩,Xt,false,#[]⟩ ⟨[(6,kB false)],[]⟩ a w) ?_ u0 lzz ?_
  ·clear h;intro v3 o h;refine zj ?_;replace h:zch x x2 v3=some o:=h;unfold zch at h;refine jp (jI h (fun uL h=>?_) fun uL h=>?_)
   ·refine zq ?_;obtain ⟨x5,vi,h⟩:=bnd h;refine jr (ra 0 [.sl Rp.str [0] x.Unknown,kI v3] rfl (zP rfl zjA.el (zw _ _ _) vi) rfl rf) ?_;obtain ⟨rv3,uT,h⟩:=bnd h;refine jr (rl 2 [0] 14 Tryz.call97 (ztu uT) rf) (jI h (fun uN h=>?_) fun uN h=>?_)
    ·refine jp ?_;cases h;exact zaK lzz
    refine zQ (jp ?_);cases h;exact zD lzz
   cases h;exact zX rfl lzz
  rcases q2 with u2| u3
  ·refine zaj _ rfl (jp ?_);obtain rfl:=(sj h);exact zt lzz
  obtain rfl:=(sj h);exact zcN lzz
 obtain rfl:=(sj h);exact zcN lzz
theorem zjS (uO:Nat):(∀{sv:(List zg)} {uG:Int} {l:(List zc)} {r:Bool},zhv uO sv uG l=some r->FnOk Tryz.prog 125 [.sl zh [0] sv,kI uG,.sl zd [0] l] [kB r])/\(∀{f:ze} {sv:(List zg)} {v:zb} {r:Bool},zjQ uO f sv v=some r->FnOk Tryz.prog 88 [.rc zf [0] f,.sl zh [0] sv,.rc za [0] v] [kB r])/\(∀{sv:(List zg)} {uG:Int} {x:zc} {r:Bool},zex uO sv uG x=some r->FnOk Tryz.prog 65 [.sl zh [0] sv,kI uG,.rc zd [0] x] [kB r]):=by
  induction uO with
  | zero=>exact ⟨fun h=>absurd h nofun,fun h=>absurd h nofun,fun h=>absurd h nofun⟩
  | succ uO ih=>exact ⟨fun h=>zqT (fun hh=>ih.1 hh) (fun hh=>ih.2.1 hh) (fun hh=>ih.2.2 hh) h,fun h=>zxr (fun hh=>ih.1 hh) (fun hh=>ih.2.1 hh) (fun hh=>ih.2.2 hh) h,fun h=>zsx (fun hh=>ih.1 hh) (fun hh=>ih.2.1 hh) (fun hh=>ih.2.2 hh) h⟩
theorem ztt (h:zex uO sv uG x=some r):FnOk Tryz.prog 65 [.sl zh [0] sv,kI uG,.rc zd [0] x] [kB r]:=(zjS uO).2.2 h
end Go.Proofs.YtekgmimingolbaaGreat

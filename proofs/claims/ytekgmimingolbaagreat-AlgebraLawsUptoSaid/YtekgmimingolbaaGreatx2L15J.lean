/-
  The laws as plain functions. No condition.
-/
import Derived.Test.YtekgmimingolbaaGreatx2L15
namespace Go.Proofs.YtekgmimingolbaaGreat
open Go
set_option linter.unusedVariables false
theorem zqZ {fuel:Nat} (a0:List Mes) (a1:Int) (a2 a3 a4:Msg) (a5:List zE) (w0:WS a0) (w2:bdM a2) (s2:smM a2) (w3:bdM a3) (s3:smM a3) (w4:bdM a4) (s4:smM a4) (w5':UW a5) (h2:szM a2<fuel) (h3:szM a3<fuel) (h4:szM a4<fuel) (hf:200000<=fuel):zdf fuel a0 a1 a2 a3 a4 a5=some true:=by
 unfold zdf;have w5:=w5'.ww;rw [zBq hf,sb,itF (by rfl)];obtain ⟨b0,hb0⟩:=zGp w0;rw [hb0,sb];cases b0 with
 | false=>rfl
 | true=>
  obtain ⟨r,hr,hr2⟩:=zGm (fuel:=fuel) (l:=[a2,a3,a4]) (fun x hx=>by
   simp only [xw,xA,xB] at hx;rcases hx with rfl| rfl| rfl
   ·exact ⟨h2,w2⟩
   ·exact ⟨h3,w3⟩
   ·exact ⟨h4,w4⟩) (by simp)
  rw [itF (by rfl),hr,sb];cases r with
  | true=>rfl
  | false=>
   obtain ⟨m,hm⟩:=zBX (l:=a5) (by have:=w5.1;omega);rw [itF (by rfl),hm,sb];cases m with
   | true=>rfl
   | false=>
    have o2:Ok15 fuel a2:=ok15 w2 (hr2 rfl a2 (by simp) s2) (by omega) hf;have o3:Ok15 fuel a3:=ok15 w3 (hr2 rfl a3 (by simp) s3) (by omega) hf;have o4:Ok15 fuel a4:=ok15 w4 (hr2 rfl a4 (by simp) s4) (by omega) hf;rw [itF (by rfl),o2.right w0 a1,sb];by_cases g2:(zfp a0&&zaw a0 a2 a1)=true
    ·rw [itF (by rw [g2];rfl),o3.right w0 a1,sb];by_cases g3:(zfp a0&&zaw a0 a3 a1)=true
     ·rw [itF (by rw [g3];rfl),o4.right w0 a1,sb,sb];by_cases g4:(zfp a0&&zaw a0 a4 a1)=true
      ·rw [itF (by rw [g4];rfl)];rw [xy] at g2 g3 g4;obtain ⟨hs,r2⟩:=g2;obtain ⟨_,r3⟩:=g3;obtain ⟨_,r4⟩:=g4;obtain ⟨k0,k1,_⟩:=zaV r2;have A:Gd a0 a1 2000 a2:=⟨r2,w2,hr2 rfl a2 (by simp) s2⟩;have B:Gd a0 a1 2000 a3:=⟨r3,w3,hr2 rfl a3 (by simp) s3⟩;have C:Gd a0 a1 2000 a4:=⟨r4,w4,hr2 rfl a4 (by simp) s4⟩;have Z:Gd a0 a1 2000 ⟨[],[]⟩:=⟨zvL k0 k1,zEN,by rw [zjq];simp [wgVs]⟩;have hok:∀l:List Msg,(∀x∈l,zaw a0 x a1=true)->zfG a0 a1 l=0:=fun l h=>ztF hs ⟨k0,k1⟩ h
       have hok15:∀{n:Nat} {x:Msg},Gd a0 a1 n x->n<=10000->Ok15 fuel x:=fun {n x} hx hn=>ok15 hx.b hx.w (by omega) hf
       have hjo:∀{n m:Nat} {x y:Msg},Gd a0 a1 n x->Gd a0 a1 m y->n<=10000->m<=10000->zcQ fuel a0 a1 x y=some (zbX a0 y x a1,0):=fun {n m x y} hx hy hn hm=>by
        rw [zxj a1 w0 (hok15 hx hn) (hok15 hy hm) (fun _=>zAF hx.r hy.r (Nat.add_le_add hx.w hy.w) (by omega) hf),xr (hok _ fun q hq=>by
         simp only [xw,xA,xB] at hq;rcases hq with rfl| rfl
         ·exact hx.r
         ·exact hy.r)]
       have hpl:∀{n:Nat} {x:Msg},Gd a0 a1 n x->n<=10000->zfO fuel a0 a1 x=some (zgi x,0):=fun {n x} hx hn=>by
        rw [zBs a1 w0 (hok15 hx hn),xr (hok _ fun q hq=>by rw [xR.1 hq];exact hx.r)]
       have hsa:∀{n m:Nat} {x y:Msg},Gd a0 a1 n x->Gd a0 a1 m y->n<=10000->m<=10000->zhJ fuel x y=some (zni x y):=fun {n m x y} hx hy hn hm=>zyG y (hok15 hx hn).z hx.b (hok15 hx hn).dm
       have hri:∀{n:Nat} {x:Msg},Gd a0 a1 n x->n<=10000->zeq fuel a0 a1 x=some true:=fun {n x} hx hn=>by
        rw [(hok15 hx hn).right w0 a1,hs,hx.r];rfl
       have AB:=A.join B (by omega) (by omega);have BC:=B.join C (by omega) (by omega);have X:=AB.join C (by omega) (by omega);have hass:=zts _ a4 a3 a2 a1 (xx _) r2 r3 r4;have K:=A.part (ofW a5) true;have L:=A.part (ofW a5) false;have J:=K.join L (by omega) (by omega);obtain ⟨p1,p2,_,_⟩:=zvF _ a2 a1 (ofW a5) (xx _) r2;have hz4:IntKind.i64.wrap (IntKind.i64.wrap 0+IntKind.i64.wrap 0)=0:=by decide
       rw [hjo A B (by omega) (by omega),sb,hjo B C (by omega) (by omega),sb];simp only;rw [hjo AB C (by omega) (by omega),sb,hjo A BC (by omega) (by omega),sb,hjo A Z (by omega) (by omega),sb,hjo Z A (by omega) (by omega),sb];simp only;rw [hass,ztt,zuF r2];rw [itF (by decide),hsa X X (by omega) (by omega),sb,itF (by rw [zfj.2 rfl];rfl),hsa A A (by omega) (by omega),sb,itF (by rw [zfj.2 rfl];rfl),sb,itF (by rw [zfj.2 rfl];rfl),hri X (by omega),sb,sb,itF (by rfl)];have hwo:WW (ofW a5):=⟨ye (zwH _) w5.1,fun w hm=>w5.2 w (zid.1 hm).1⟩;have h1a:zfG a0 a1 [a2]=0:=hok _ fun q hq=>by rw [xR.1 hq];exact r2
       have PZ:Gd a0 a1 4000 (zbX a0 (zey a0 a2 a1 (ofW a5) false) (zey a0 a2 a1 (ofW a5) true) a1):=J;have bz:=(zym _ a2 (xx _) w2);have hsz:=A.z (show 2000<fuel by omega);have hpm:smM (zgi a2):=zBl _ _ (xx _) (by have:=zyn _ a2 (xx _);have:=A.w;omega);have hpE:(⟨(zgi a2).Values,[]⟩:Msg)=zgi a2:=by rw [zkv]
       rw [zzL w5'.sw,sb,zCF a1 w0 o2 w5'.of,sb,zuR a1 w0 o2 w5'.of,sb,xr h1a,xr h1a,zFz];simp only;rw [hjo K L (by omega) (by omega),sb];simp only;rw [hpl PZ (by omega),sb,hpl A (by omega),sb];simp only;rw [itT (by decide),hri K (by omega),sb,itT (by rfl),hri L (by omega),sb,itT (by rfl),p1,hpE,zyG _ (by have:=o2.z;omega) bz.1 (by have:=zxA (zgi a2);have:=o2.d;omega),sb,itT (zfj.2 rfl),zna fuel _ (PZ.z (by omega)) PZ.b,sb,zna fuel _ hsz w2,sb,p2,sb];simp
      ·rw [itT (by rw [Bool.eq_false_iff.2 g4];rfl)]
     ·rw [itT (by rw [Bool.eq_false_iff.2 g3];rfl),sb,itT (by rfl)]
    ·rw [itT (by rw [Bool.eq_false_iff.2 g2];rfl),sb,itT (by rfl)]
theorem znv (a0:(List zf)) (a1:Int) (a2:zb) (a3:zb) (a4:zb) (a5:(List (List Int))) (w0:a0.length*40<=140737488351232/\a0.length<=1048576/\∀a0'∈a0,ziD a0') (w1:(Lit.int .i64 a1).wf=true) (w2:zbC a2) (w3:zbC a3) (w4:zbC a4) (w5:a5.length*24<=140737488351232/\a5.length<=1048576/\∀a5'∈a5,(a5'.length*8<=140737488351232/\a5'.length<=1048576/\∀a5_'∈a5',(Lit.int .i64 a5_').wf=true)):∃fuel,zdf fuel a0 a1 a2 a3 a4 a5=some true:=by
 obtain ⟨p1,p2⟩:=(zAm (szM a2)).1 a2 (xx _) w2;obtain ⟨q1,q2⟩:=(zAm (szM a3)).1 a3 (xx _) w3;obtain ⟨r1,r2⟩:=(zAm (szM a4)).1 a4 (xx _) w4;exact ⟨2*szM a2+2*szM a3+2*szM a4+200000,zqZ a0 a1 a2 a3 a4 a5 (zHI w0) p1 p2 q1 q2 r1 r2 (uw15 w5) (by omega) (by omega) (by omega) (by omega)⟩
end Go.Proofs.YtekgmimingolbaaGreat

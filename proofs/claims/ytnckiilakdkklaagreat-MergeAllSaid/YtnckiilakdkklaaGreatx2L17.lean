/-
  The laws as plain functions. No condition.
-/
import Derived.Test.YtnckiilakdkklaaGreatx2P1
import Derived.Test.YtnckiilakdkklaaGreatx2P2
import Derived.Test.YtnckiilakdkklaaGreatx2O
namespace Go.Proofs.YtnckiilakdkklaaGreat
open Go
set_option linter.unusedVariables false
theorem zyS {l:List (List UInt8)} (hb:l.length<=1152921504606846976):∀(m j:Nat) (z:Int),j+m=l.length->∃q,zar l z j=some q:=by
 intro m
 induction m with
 | zero=>
  intro j z hj;refine ⟨z,zdJ ?_⟩;unfold zW;rw [py]
 | succ m ih=>
  intro j z hj;have hjl:j<l.length:=by omega
  obtain ⟨q,hq⟩:=ih (j+1) (IntKind.i64.wrap (z+l[j].length)) (by omega);refine ⟨q,(zdI (n':=IntKind.i64.wrap (z+l[j].length)) (i':=((j+1:Nat):Int)) ?_).trans hq⟩;unfold zW;rw [px,zX rfl hjl,sb,zm (x:=(j:Int)+1) (by omega)];rfl
theorem zwm {l:List (List UInt8)} (h12:l.length<=12) (hy:∀y∈l,y.length<=140737488351232):∀(n i:Nat) (x:Int),0<=x->i+n=l.length->x<=281474976710656+140737488351232*i->∃q,zar l x i=some q/\x<=q/\∀y∈l.drop i,(y.length:Int)<=q
 | 0,i,x,hx,hi,_=>by
  refine ⟨x,?_,Int.le_refl _,fun y hy=>?_⟩
  ·refine zdJ ?_;unfold zW;rw [py]
  ·rw [yo (by omega)] at hy;cases hy
 | n+1,i,x,hx,hi,hxi=>by
  have hil:i<l.length:=by omega
  have h1:=hy _ (xF hil);obtain ⟨q,hq,k1,k2⟩:=zwm h12 hy n (i+1) (x+l[i].length) (by omega) (by omega) (by omega);refine ⟨q,?_,by omega,fun y hy=>?_⟩
  ·refine (zdI (n':=x+l[i].length) (i':=((i+1:Nat):Int)) ?_).trans hq;unfold zW;rw [px,zX rfl hil,sb,pz,pz];rfl
  ·rw [xZ hil] at hy;rcases xj.1 hy with rfl| hy
   ·omega
   ·exact k2 y hy
theorem zoX {n:Nat}:∀{l:List (List UInt8)},(∀x∈l,x.length<=n)->l.flatten.length<=l.length*n
 | [],_=>xm _
 | x::l,h=>by
  have:=zoX fun y hy=>h y (xg _ hy)
  have:=h x xf;simp only [yG,xE,xx,yA];omega
theorem zuT {ve:Nat} (hf:130<=ve):zcz ve=some true:=by
 have hw:WS [(⟨[109],[⟨[97],1,3,false,false,0⟩]⟩:Mes)]:=by
  refine ⟨by simp,fun m hm=>?_⟩;rw [xQ.1 hm];exact ⟨by simp,by simp,fun f hf=>by rw [xQ.1 hf];simp⟩
 have r1:rec5 [(8:UInt8),(1:UInt8)]= .inr (1,0,1,2):=by decide
 have r2:rec5 [(8:UInt8),(2:UInt8)]= .inr (1,0,1,2):=by decide
 have s1:spl 0 [(8:UInt8),(1:UInt8)]=([⟨1,0,0,1,2⟩],none):=by
  rw [zcp (by simp) r1];have e:([(8:UInt8),(1:UInt8)]:List UInt8).drop 2=[]:=rfl;rw [e,zdj];rfl
 have s2:spl 0 [(8:UInt8),(2:UInt8)]=([⟨1,0,0,1,2⟩],none):=by
  rw [zcp (by simp) r2];have e:([(8:UInt8),(2:UInt8)]:List UInt8).drop 2=[]:=rfl;rw [e,zdj];rfl
 have f1:zJ [⟨[109],[⟨[97],1,3,false,false,0⟩]⟩] 0 0 [(8:UInt8),(1:UInt8)]=none:=by
  show zaN _ none _ (spl 0 _)=_;rw [s1];rfl
 have f2:zJ [⟨[109],[⟨[97],1,3,false,false,0⟩]⟩] 0 0 [(8:UInt8),(2:UInt8)]=none:=by
  show zaN _ none _ (spl 0 _)=_;rw [s2];rfl
 have c1:=zlp (s:=[⟨[109],[⟨[97],1,3,false,false,0⟩]⟩]) (root:=0) (d:=0) (by decide) f1;have c2:=zlp (s:=[⟨[109],[⟨[97],1,3,false,false,0⟩]⟩]) (root:=0) (d:=0) (by decide) f2;have ho:ziZ (zx [⟨[109],[⟨[97],1,3,false,false,0⟩]⟩] 0) [(8:UInt8),(1:UInt8)] [(8:UInt8),(2:UInt8)]=1:=by
  unfold ziZ zaC;rw [s1,s2];rfl
 have hall:zed [⟨[109],[⟨[97],1,3,false,false,0⟩]⟩] 0 [[(8:UInt8),(1:UInt8)],[(8:UInt8),(2:UInt8)]] 0=([8,1,8,2],0,0):=by
  rw [zyV,xd (fun h=>h c1),xd (fun h=>h c2)];rfl
 have m1:=zzT (ve:=ve) (s:=[⟨[109],[⟨[97],1,3,false,false,0⟩]⟩]) 0 (a:=[(8:UInt8),(1:UInt8)]) (b:=[(8:UInt8),(2:UInt8)]) 0 hf hw (by simp) (by simp);have m2:=ztB (ve:=ve) (s:=[⟨[109],[⟨[97],1,3,false,false,0⟩]⟩]) 0 (a:=[(8:UInt8),(1:UInt8)]) (b:=[(8:UInt8),(2:UInt8)]) 0 hf hw (by simp) (by simp);rw [hall] at m1 m2;rw [ho] at m2;have m2':zeK ve [⟨[109],[⟨[97],1,3,false,false,0⟩]⟩] 0 [(8:UInt8),(1:UInt8)] [(8:UInt8),(2:UInt8)] 0=some (1,0):=m2;unfold zcz;rw [m1,sb,m2',sb,itT (by decide),itT (by decide),zpR,sb];rfl
theorem zqn {ve:Nat} (a0:List Mes) (a1:Int) (a2:List (List UInt8)) (a3 a4:List UInt8) (a5:Int) (w0:WS a0) (w2:a2.length<=140737488351232/\∀x∈a2,x.length<=140737488351232) (w3:a3.length<=140737488351232) (w4:a4.length<=140737488351232) (hf:20000<=ve):zbP ve a0 a1 a2 a3 a4 a5=some true:=by
 unfold zbP;rw [zuT (by omega),sb,pw,zm (x:=(a3.length:Int)+a4.length) (by omega)];obtain ⟨q,hq⟩:=zyS (l:=a2) (by omega) a2.length 0 ((a3.length:Int)+a4.length) (xy _);have hq':zar a2 ((a3.length:Int)+a4.length) 0=some q:=hq;obtain ⟨b0,hb0⟩:=zBb w0;rw [hq',sb,hb0,sb];cases b0 with
 | false=>rfl
 | true=>
  by_cases hl:12<a2.length\/2000<q
  ·rw [itT (by
    rcases hl with h| h
    ·have:decide ((a2.length:Int)>12)=true:=xN (by omega);rw [this];rfl
    ·have:decide (q>2000)=true:=xN h;rw [this];simp)]
  ·have h12:a2.length<=12:=by omega
   have hq2:q<=2000:=by omega
   obtain ⟨q',hq2',e1,e2⟩:=zwm h12 w2.2 a2.length 0 ((a3.length:Int)+a4.length) (by omega) (xy _) (by omega);rw [hq] at hq2';obtain rfl:=yi hq2';rw [py];rw [yp] at e2;have hx:∀x∈a2,x.length<=2000:=fun x hx=>by have:=e2 x hx;omega
   have hnn:(a3.length:Int)+a4.length<=q:=e1;rw [zzR a1 a5 (by omega) w0 (by omega) (by have:=zoX hx;omega),sb,znM w0 a1 (by omega) (fun x h=>by have:=hx x h;omega) a5 (by omega),sb,zpR,sb];have ca:=zoD a0 a1 a2 a5;rw [itF (by rw [pz];simp),ztB a1 a5 (by omega) w0 (by omega) (by omega),sb,znM w0 a1 (by simp) (fun x h=>by
    simp only [xj,xA,xB] at h;rcases h with rfl| rfl<;>omega) a5 (by omega),sb]
   have cb:=zoD a0 a1 [a3,a4] a5;by_cases h0:(zed a0 a1 [a3,a4] a5).2.2=0
   ·have harg:argS a0 a1 a5=0:=by
     by_cases h:argS a0 a1 a5=0
     ·exact h
     ·unfold zed at h0;rw [xe h] at h0;exact absurd h0 h
    obtain ⟨g1,g2,g3,g4,g5⟩:=zii harg;obtain ⟨k,rfl⟩:∃k:Nat,a1=k:=⟨a1.toNat,by omega⟩;have hk:k<a0.length:=by omega
    have eO:(if (zed a0 k [a3,a4] a5).2.2≠0 then ((0:Int),(zed a0 k [a3,a4] a5).2.2) else (((ziZ (zx a0 k) a3 a4:Nat):Int),0))=(((ziZ (zx a0 k) a3 a4:Nat):Int),0):=xd (fun h=>h h0);rw [eO,itF (by simpa using h0),zss hk (by rw [zdL hk];have:=g1.few _ (xF hk);omega) (by omega) (by omega)];simp only [sb];rw [pv];simp
   ·have eO:(if (zed a0 a1 [a3,a4] a5).2.2≠0 then ((0:Int),(zed a0 a1 [a3,a4] a5).2.2) else (((ziZ (zx a0 a1) a3 a4:Nat):Int),0))=(0,(zed a0 a1 [a3,a4] a5).2.2):=xe h0;rw [eO,itT (by simpa using h0)];simp only;rw [pz];simp
theorem ws17 {s:List Mes} (w:s.length*40<=140737488351232/\∀m∈s,zfQ m):WS s:=
 ⟨by omega,fun m hm=>⟨(w.2 m hm).1,by have:=(w.2 m hm).2.1;omega,fun f hf=>((w.2 m hm).2.2 f hf).1⟩⟩
theorem zqo (a0:(List zc)) (a1:Int) (a2:(List (List UInt8))) (a3:(List UInt8)) (a4:(List UInt8)) (a5:Int) (w0:a0.length*40<=140737488351232/\∀a0'∈a0,zfQ a0') (w1:(Lit.int .i64 a1).wf=true) (w2:a2.length*24<=140737488351232/\∀a2'∈a2,(a2'.length*1<=140737488351232/\∀a2_'∈a2',True)) (w3:a3.length*1<=140737488351232/\∀a3'∈a3,True) (w4:a4.length*1<=140737488351232/\∀a4'∈a4,True) (w5:(Lit.int .i64 a5).wf=true):∃ve,zbP ve a0 a1 a2 a3 a4 a5=some true:=
 ⟨20000,zqn a0 a1 a2 a3 a4 a5 (ws17 w0) ⟨by omega,fun x hx=>by have:=(w2.2 x hx).1;omega⟩ (by omega) (by omega) (xi _)⟩
end Go.Proofs.YtnckiilakdkklaaGreat

/-
  The laws as plain functions. No condition.
-/
import Derived.Test.YtnckiilakdkklaaGreatx3P1
import Derived.Test.YtnckiilakdkklaaGreatx3P2
import Derived.Test.YtnckiilakdkklaaGreatx3O
namespace Go.Proofs.YtnckiilakdkklaaGreat
open Go
set_option linter.unusedVariables false
theorem ztG {uZ:Nat} {s:List Mes} {root:Int} {b:List UInt8} {d:Int} (hw:WS s) (hb:b.length<=300) (ha:argS s root d=0) (hf:64<uZ):∀(n base:Nat) (want:List Int),base+n=b.length->want.length<=base+1->zK s d.toNat root (b.drop base)=none->
  zau uZ b d root s want base=some (want++(spl base (b.drop base)).1.map (·.To)):=by
 intro n
 induction n using Nat.strongRecOn with
 | ind n ih=>
  intro base want hn hwl hv;by_cases h0:n=0
  ·have e:b.drop base=[]:=yp (by omega);rw [e,zcI];refine zfj ?_;unfold zab;rw [pw];simp
  ·have hlt:base<b.length:=by omega
   have hne:b.drop base≠[]:=fun e=>by have:=congrArg List.length e;simp at this;omega
   have hsp:=zqy s _ root hv;rcases zfH (b.drop base) with ⟨c,hc,_⟩| ⟨n',w,_,a,t,hrec,_,_,_,_,_,g1,g2,g3,_⟩
   ·rw [zel hne hc] at hsp;cases hsp
   ·simp only [xx] at g3
    -- shorter ones aren't valid, the record is
    have hrv:zK s d.toNat root ((b.drop base).take t)=none:=by
     refine zoG s _ root (z:=(b.drop base).drop t) ?_ (by rw [xZ];exact hv);have hne2:(b.drop base).take t≠[]:=fun e=>by have:=congrArg List.length e;simp at this;omega
     rw [zbE hne2 (zqZ hrec)];have:((b.drop base).take t).drop t=[]:=yp (by simp;omega);simp [this,zcI]
    have hrest:zK s d.toNat root (b.drop (base+t))=none:=by
     rw [<-xP];refine (zeX s _ root _ hrv).1 ?_;rw [xZ];exact hv
    have hno:∀m,0<m->m<t->is11 s root ((b.drop base).take m) d=false:=fun m hm hmt=>by
     cases hi:is11 s root ((b.drop base).take m) d with
     | false=>rfl
     | true=>
      exfalso;have hs2:=zqy s _ root (zlQ.1 hi).2;have hne3:(b.drop base).take m≠[]:=fun e=>by have:=congrArg List.length e;simp at this;omega
      rcases zfH ((b.drop base).take m) with ⟨c,hc,_⟩| ⟨n2,w2,_,a2,t2,hrec2,_,_,_,_,_,k1,k2,k3,_⟩
      ·rw [zel hne3 hc] at hs2;cases hs2
      ·have:=zkd _ ((b.drop base).drop m) hrec2;rw [xZ,hrec] at this;simp only [xK,xx] at k3;cases this;omega
    have hinner:∀(m j:Nat),j+m=t->0<j->zav uZ b d root s base ((base+j:Nat):Int)=some ((base+t:Nat):Int):=by
     intro m
     induction m with
     | zero=>
      intro j hj hj0;have hcut:cut b (base:Int) ((base+j:Nat):Int)=some ((b.drop base).take j):=by
       rw [zes rfl rfl (by omega) (by omega),q9]
      refine zfl ?_;unfold zac zdg;have hj':j=t:=by omega
      subst hj';rw [hcut,sb,zpr hw root (by simp;omega) d hf,sb,sb,itT (zlQ.2 ⟨ha,hrv⟩)]
     | succ m ihm=>
      intro j hj hj0;have hcut:cut b (base:Int) ((base+j:Nat):Int)=some ((b.drop base).take j):=by
       rw [zes rfl rfl (by omega) (by omega),q9]
      refine (zfk (atv2':=(base:Int)) (tov':=((base+(j+1):Nat):Int)) ?_).trans (ihm (j+1) (by omega) (by omega));unfold zac zdg;rw [hcut,sb,zpr hw root (by simp;omega) d hf,sb,sb,itF (hno j hj0 (by omega)),px];congr 3
    have hin:=hinner (t - 1) 1 (by omega) (by omega);rw [zbE hne hrec];refine (zfi (want':=want++[((base+t:Nat):Int)]) (atv':=((base+t:Nat):Int)) ?_).trans ?_
    ·unfold zab;rw [pv,px];have hin':zav uZ b d root s base ((base:Int)+1)=some ((base+t:Nat):Int):=hin;rw [hin',sb,zjv (by simp;omega),sb]
    ·rw [ih (n - t) (by omega) (base+t) _ (by omega) (by simp;omega) hrest];simp [List.drop_drop]
theorem zuE {uZ:Nat} (hf:130<=uZ):zcv uZ=some true:=by
 have hw:WS [(⟨[109],[⟨[97],1,3,false,false,0⟩]⟩:Mes)]:=by
  refine ⟨by simp,fun m hm=>?_⟩;rw [xQ.1 hm];exact ⟨by simp,by simp,fun f hf=>by rw [xQ.1 hf];simp⟩
 have r1:rec5 [(8:UInt8),(1:UInt8)]= .inr (1,0,1,2):=by decide
 have r2:rec5 [(8:UInt8),(2:UInt8)]= .inr (1,0,1,2):=by decide
 have s1:spl 0 [(8:UInt8),(1:UInt8)]=([⟨1,0,0,1,2⟩],none):=by
  rw [zbE (by simp) r1];have e:([(8:UInt8),(1:UInt8)]:List UInt8).drop 2=[]:=rfl;rw [e,zcI];rfl
 have s2:spl 0 [(8:UInt8),(2:UInt8)]=([⟨1,0,0,1,2⟩],none):=by
  rw [zbE (by simp) r2];have e:([(8:UInt8),(2:UInt8)]:List UInt8).drop 2=[]:=rfl;rw [e,zcI];rfl
 have f1:zK [⟨[109],[⟨[97],1,3,false,false,0⟩]⟩] 0 0 [(8:UInt8),(1:UInt8)]=none:=by
  show zaN _ none _ (spl 0 _)=_;rw [s1];rfl
 have f2:zK [⟨[109],[⟨[97],1,3,false,false,0⟩]⟩] 0 0 [(8:UInt8),(2:UInt8)]=none:=by
  show zaN _ none _ (spl 0 _)=_;rw [s2];rfl
 have c1:=ziB (s:=[⟨[109],[⟨[97],1,3,false,false,0⟩]⟩]) (root:=0) (d:=0) (by decide) f1;have c2:=ziB (s:=[⟨[109],[⟨[97],1,3,false,false,0⟩]⟩]) (root:=0) (d:=0) (by decide) f2;have ho:zrV (zB [⟨[109],[⟨[97],1,3,false,false,0⟩]⟩] 0) [(8:UInt8),(1:UInt8)] [(8:UInt8),(2:UInt8)]=1:=by
  unfold zrV zaD;rw [s1,s2];rfl
 have hall:zkQ [⟨[109],[⟨[97],1,3,false,false,0⟩]⟩] 0 [[(8:UInt8),(1:UInt8)],[(8:UInt8),(2:UInt8)]] 0=([8,1,8,2],0,0):=by
  rw [zwf,xd (fun h=>h c1),xd (fun h=>h c2)];rfl
 have m1:=zvP (uZ:=uZ) (s:=[⟨[109],[⟨[97],1,3,false,false,0⟩]⟩]) 0 (a:=[(8:UInt8),(1:UInt8)]) (b:=[(8:UInt8),(2:UInt8)]) 0 hf hw (by simp) (by simp);have m2:=zyh (uZ:=uZ) (s:=[⟨[109],[⟨[97],1,3,false,false,0⟩]⟩]) 0 (a:=[(8:UInt8),(1:UInt8)]) (b:=[(8:UInt8),(2:UInt8)]) 0 hf hw (by simp) (by simp);rw [hall] at m1 m2;rw [ho] at m2;have m2':zfD uZ [⟨[109],[⟨[97],1,3,false,false,0⟩]⟩] 0 [(8:UInt8),(1:UInt8)] [(8:UInt8),(2:UInt8)] 0=some (1,0):=m2;unfold zcv;rw [m1,sb,m2',sb,itT (by decide),itT (by decide),zpB,sb];rfl
theorem zmH {uZ:Nat} (a0:List Mes) (a1:Int) (a2:List UInt8) (a3:Int) (w0:WS a0) (w2:a2.length<=140737488351232) (hf:20000<=uZ):zbk uZ a0 a1 a2 a3=some true:=by
 unfold zbk;rw [zuE (by omega),sb,pu];obtain ⟨b0,hb0⟩:=zAN w0;rw [hb0,sb];cases b0 with
 | false=>rfl
 | true=>
  by_cases hl:300<a2.length
  ·rw [pv]
  ·have cc:=zpY a0 a1 a2 a3;rw [pw,zuF a1 a3 (by omega) w0 (by omega),sb,zkY w0 a1 (by omega) a3 (by omega),sb];by_cases h0:(zam a0 a1 a2 a3).2=0
   ·obtain ⟨ha,hfi⟩:=zkS h0;have eO:(if (zam a0 a1 a2 a3).2≠0 then (([]:List Int),(zam a0 a1 a2 a3).2) else (zda a2,0))=(zda a2,0):=xd (fun h=>h h0);rw [eO,itF (by simpa using h0)];have hls:(spl 0 a2).1.length<=a2.length:=zwc 0 a2;have h1:=ztG (uZ:=uZ) (b:=a2) w0 (by omega) ha (by omega) a2.length 0 [0] (by simp) (by simp) (by simpa using hfi);have h1':zau uZ a2 a3 a1 a0 [0] 0=_:=h1;rw [h1',sb,yN];simp only;have hsame:zbj (zda a2) ([0]++(spl 0 a2).1.map (·.To))=some true:=by
     rw [zuN (by unfold zda;simp;omega)];simp [zda]
    rw [itF (by decide),hsame,sb,sb,pu];have h3:∀(n i:Nat),i+n=(zda a2).length->zaw uZ a2 a3 a1 (zda a2,0) a0 i=some (.inl ()):=by
     intro n
     induction n with
     | zero=>
      intro i hi;refine zfn ?_;unfold zat;rw [pw]
     | succ n ih=>
      intro i hi;have hil:i<(zda a2).length:=by omega
      have hll:(zda a2).length=(spl 0 a2).1.length+1:=by simp [zda]
      obtain ⟨x,hx,hxl,v1,v2⟩:=zsh hfi _ (xM hil);refine (zfm (i':=((i+1:Nat):Int)) ?_).trans (ih (i+1) (by omega));unfold zat;have c1:cut a2 0 (x:Int)=some (a2.take x):=by
       rw [zes (i:=0) (j:=x) rfl rfl (xm _) hxl];simp
      have c2:cut a2 (x:Int) (a2.length:Int)=some (a2.drop x):=by
       rw [zes rfl rfl hxl (xi _),<-xx,List.take_length]
      have hc1:=ziB ha v1;have hc2:=ziB ha v2;rw [pv,zad rfl hil,hx,sb,c1,sb,sb,c2,sb,zvP a1 a3 (by omega) w0 (by simp;omega) (by simp;omega),zwf,xd (fun h=>h hc1),xd (fun h=>h hc2),sb];simp only;rw [itF (by decide),xZ,zpB,sb];rw [sb,itF (by simp),px];rfl
    have h3':zaw uZ a2 a3 a1 (zda a2,0) a0 0=some (.inl ()):=h3 _ 0 (xL _);rw [h3',sb]
   ·have eO:(if (zam a0 a1 a2 a3).2≠0 then (([]:List Int),(zam a0 a1 a2 a3).2) else (zda a2,0))=([],(zam a0 a1 a2 a3).2):=xe h0;rw [eO,itT (by simpa using h0)];simp only;rw [px];simp
theorem ws17 {s:List Mes} (w:s.length*40<=140737488351232/\∀m∈s,zfL m):WS s:=
 ⟨by omega,fun m hm=>⟨(w.2 m hm).1,by have:=(w.2 m hm).2.1;omega,fun f hf=>((w.2 m hm).2.2 f hf).1⟩⟩
theorem zmI (a0:(List zc)) (a1:Int) (a2:(List UInt8)) (a3:Int) (w0:a0.length*40<=140737488351232/\∀a0'∈a0,zfL a0') (w1:(Lit.int .i64 a1).wf=true) (w2:a2.length*1<=140737488351232/\∀a2'∈a2,True) (w3:(Lit.int .i64 a3).wf=true):∃uZ,zbk uZ a0 a1 a2 a3=some true:=
 ⟨20000,zmH a0 a1 a2 a3 (ws17 w0) (by omega) (xi _)⟩
end Go.Proofs.YtnckiilakdkklaaGreat

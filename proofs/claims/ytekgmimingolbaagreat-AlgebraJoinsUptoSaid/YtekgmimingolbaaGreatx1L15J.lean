/-
  The laws as plain functions. No condition.
-/
import Derived.Test.YtekgmimingolbaaGreatx1L15
namespace Go.Proofs.YtekgmimingolbaaGreat
open Go
set_option linter.unusedVariables false
theorem ztn {fuel:Nat} (a0:List Mes) (a1:Int) (a2 a3:Msg) (w0:WS a0) (w2:bdM a2) (s2:smM a2) (w3:bdM a3) (s3:smM a3) (h2:szM a2<fuel) (h3:szM a3<fuel) (hf:200000<=fuel):zdC fuel a0 a1 a2 a3=some true:=by
 unfold zdC;rw [zER hf,sb,itF (by rfl)];obtain ⟨b0,hb0⟩:=zJW w0;rw [hb0,sb];cases b0 with
 | false=>rfl
 | true=>
  obtain ⟨r,hr,hr2⟩:=zJT (fuel:=fuel) (l:=[a2,a3]) (fun x hx=>by
   simp only [xz,xF,xG] at hx;rcases hx with rfl| rfl
   ·exact ⟨h2,w2⟩
   ·exact ⟨h3,w3⟩) (by simp)
  rw [itF (by rfl),hr,sb,sb];cases r with
  | true=>rfl
  | false=>
   have hm2:=zvu w0 a1 (l:=[a2,a3]) (by simp) (fuel:=fuel) (fun x hx=>by
    simp only [xz,xF,xG] at hx;rcases hx with rfl| rfl
    ·exact ⟨h2,w2⟩
    ·exact ⟨h3,w3⟩)
   have hm1:=zvu w0 a1 (l:=[a2]) (by simp) (fuel:=fuel) (fun x hx=>by
    simp only [xz,xF,xG] at hx;subst hx;exact ⟨h2,w2⟩)
   obtain ⟨pb,psz⟩:=zBI _ a2 (xB _) w2;have hz:=zIu;have g2:=hr2 rfl a2 (by simp) s2;have g3:=hr2 rfl a3 (by simp) s3;have o2:Ok15 fuel a2:=ok15 w2 g2 (by omega) hf;have o3:Ok15 fuel a3:=ok15 w3 g3 (by omega) hf;have hjz:zdF a0 a1 [a2,a3]=0->szM (zhz a0 a3 a2 a1)<fuel/\szM (zhz a0 a3 a2 a1)<=131072:=fun h0=>by
    obtain ⟨_,_,_,q4⟩:=zpE h0;exact zEj (q4 a2 (by simp)) (q4 a3 (by simp)) (n:=4000) (by omega) (by omega) hf
   rw [itF (by rfl),zpA h2 w2,sb,zpA h3 w3,sb,zAF a1 w0 o2 o3 hjz,sb,zEU a1 w0 o2,sb,hm2,sb]
   -- what is joined
   have hJ:∃j:Msg,(if zdF a0 a1 [a2,a3]=0 then (zhz a0 a3 a2 a1,(0:Int)) else (znP,zdF a0 a1 [a2,a3]))=(j,zdF a0 a1 [a2,a3])/\bdM j/\szM j<fuel/\
     (if (zdF a0 a1 [a2,a3]==0)=true then zdK fuel a0 a1 a2 a3>>=fun rv9=>some (rv9.Values,rv9.Unknown) else some ([],[]))=some (j.Values,j.Unknown):=by
    by_cases h0:zdF a0 a1 [a2,a3]=0
    ·obtain ⟨g1,g2,g3,g4⟩:=zpE h0;refine ⟨zhz a0 a3 a2 a1,by rw [xw h0,h0],zvP _ a3 a2 a1 (xB _) (g4 a2 (by simp)) (g4 a3 (by simp)) w2 w3 s2 s3,(hjz h0).1,?_⟩;rw [itT (by simpa using h0),ztT g1 fuel a3 a2 a1 h3 s2 s3 (g4 a2 (by simp)) (g4 a3 (by simp)),sb]
    ·exact ⟨znP,by rw [xu h0],zCu,by omega,by rw [itF (by simpa using h0)];rfl⟩
   have hP:∃p:Msg,(if zdF a0 a1 [a2]=0 then (zjE a2,(0:Int)) else (znP,zdF a0 a1 [a2]))=(p,zdF a0 a1 [a2])/\bdM p/\szM p<fuel/\p.Unknown=[]/\
     (if (zdF a0 a1 [a2]==0)=true then zcz fuel a2>>=fun rv11=>some rv11.Values else some [])=some p.Values:=by
    by_cases h0:zdF a0 a1 [a2]=0
    ·refine ⟨zjE a2,by rw [xw h0,h0],pb,by omega,by rw [zoS],?_⟩;rw [itT (by simpa using h0),zsx fuel a2 h2 w2,sb]
    ·exact ⟨znP,by rw [xu h0],zCu,by omega,rfl,by rw [itF (by simpa using h0)];rfl⟩
   obtain ⟨j,e1,e2,e3,e4⟩:=hJ;obtain ⟨p,f1,f2,f3,f4,f5⟩:=hP;have c1:=zxc a0 a1 [a2,a3];have c2:=zxc a0 a1 [a2];have hjE:(⟨j.Values,j.Unknown⟩:Msg)=j:=by cases j;rfl
   have hpE:(⟨p.Values,[]⟩:Msg)=p:=by cases p;simp only at f4;subst f4;rfl
   rw [e1,f1,e4,sb,hm1,sb,f5,sb];simp only;rw [zx (x:=zdF a0 a1 [a2,a3]) (by omega),itT (by simp),zpA e3 e2,sb,zpK _ e3 e2,sb,hjE,itT (zgv.2 rfl),zx (x:=zdF a0 a1 [a2]) (by omega),itT (by simp),hpE,zpA f3 f2,sb,zpK _ f3 f2,sb,itT (zgv.2 rfl),sb,zpK _ h2 w2,sb,sb];exact congrArg some (zgv.2 rfl)
theorem zpZ (a0:(List zf)) (a1:Int) (a2:zc) (a3:zc) (w0:a0.length*40<=140737488351232/\a0.length<=1048576/\∀a0'∈a0,zkC a0') (w1:(Lit.int .i64 a1).wf=true) (w2:zco a2) (w3:zco a3):∃fuel,zdC fuel a0 a1 a2 a3=some true:=by
 obtain ⟨p1,p2⟩:=(zGi (szM a2)).1 a2 (xB _) w2;obtain ⟨q1,q2⟩:=(zGi (szM a3)).1 a3 (xB _) w3;exact ⟨2*szM a2+2*szM a3+200000,ztn a0 a1 a2 a3 (zLn w0) p1 p2 q1 q2 (by omega) (by omega) (by omega)⟩
end Go.Proofs.YtekgmimingolbaaGreat

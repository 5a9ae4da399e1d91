/-
  The laws as plain functions. No condition.
-/
import Derived.Test.YtekgmimingolbaaGreatx1P1
import Derived.Test.YtekgmimingolbaaGreatx1P2
import Derived.Test.YtekgmimingolbaaGreatx1T
import Derived.Test.YtekgmimingolbaaGreatx1K1
import Derived.KernelRfl
import Derived.Test.YtekgmimingolbaaGreatx1Bulk
namespace Go.Proofs.YtekgmimingolbaaGreat
open Go
set_option linter.unusedVariables false
theorem ok15 {fuel n:Nat} {x:Msg} (hb:bdM x) (hw:wgM x<=n) (hn:n<=60000) (hf:200000<=fuel):Ok15 fuel x:=
 ⟨hb,zGW _ x (xA _) (by omega),by have:=zBu _ x (xA _);omega,by have:=zBu _ x (xA _);omega⟩
theorem zHx {s:List Mes} {root:Int} {a b:Msg} {n fuel:Nat} (ra:zat s a root=true) (rb:zat s b root=true) (h:wgM a+wgM b<=n) (hn:n<=60000) (hf:200000<=fuel):szM (zje s b a root)<fuel/\szM (zje s b a root)<=131072:=by
 have h1:=zyS _ b a root (xA _) ra rb;have h2:=zBu _ (zje s b a root) (xA _);omega
theorem zDM {fuel:Nat} (hf:200000<=fuel):zgc fuel=some true:=by
 obtain ⟨S,hS⟩:∃S:List Mes,S=[(⟨[109],[⟨[97],1,3,false,false,0⟩]⟩:Mes)]:=⟨_,rfl⟩;obtain ⟨X,hX⟩:∃X:Msg,X=(⟨[⟨1,[5],[],[]⟩],[[16,1]]⟩:Msg):=⟨_,rfl⟩;have hw:WS S:=by
  rw [hS];refine ⟨by simp,fun m hm=>?_⟩;rw [yc.1 hm];exact ⟨by simp,by simp,fun f hf=>by rw [yc.1 hf];simp⟩
 have hbX:bdM X:=by
  rw [hX];refine (zhK _).2 ⟨by simp,⟨by simp,fun t ht=>by rw [yc.1 ht];simp⟩,zdO.2 fun v hv=>?_⟩;rw [yc.1 hv];exact (zhk _).2 ⟨by decide,⟨by simp,fun t ht=>by rw [yc.1 ht];omega⟩,⟨by simp,by simp⟩,by simp,by simp [bdMs]⟩
 have hgX:wgM X<=100:=by rw [hX,znW];simp [wgVs,zlz,wgMs]
 have oX:Ok15 fuel X:=ok15 hbX hgX (by omega) hf;have hrs:zgo S=true:=by rw [hS];decide
 have hrt:zat S X 0=true:=by rw [hS,hX];decide
 have h1:zfP S 0 [X]=0:=zAF hrs ⟨by omega,by rw [hS];decide⟩ fun x hx=>by rw [yc.1 hx];exact hrt
 have hof:ofW [[1]]=[([1]:zB)]:=by decide
 have hU:UW [([1]:zB)]:=⟨by simp,fun x hx=>by rw [yc.1 hx];simp⟩;obtain ⟨Y,hY⟩:∃Y,Y=zlD S X 0 [([1]:zB)] false:=⟨_,rfl⟩;have hYv:Y=⟨[],[[16,1]]⟩:=by
  rw [hY,hX,zoq];simp only [zdg,zmt];rw [xt (by simp [zey]),xt (by simp [zey])];rfl
 have hYb:bdM Y:=by rw [hY];exact (zro _ X 0 _ false (xA _) hbX).1
 have hYg:wgM Y<=100:=by rw [hY];exact yg (zzi _ X 0 _ false (xA _)) hgX
 have hYr:zat S Y 0=true:=by rw [hY];exact zqD _ X 0 _ false (xA _) hrt
 have h2:zfP S 0 [Y,X]=0:=zAF hrs ⟨by omega,by rw [hS];decide⟩ fun x hx=>by
  simp only [xz,xM,xN] at hx;rcases hx with rfl| rfl
  ·exact hYr
  ·exact hrt
 have hJ:=zEU (fuel:=fuel) 0 hw (ok15 hYb hYg (by omega) hf) oX fun _=>zHx hYr hrt (n:=200) (by omega) (by omega) hf
 rw [xu h2] at hJ;have hL:=zxx (fuel:=fuel) 0 hw oX hU;rw [xu h1,hof,<-hY] at hL;have hj:∃j,zje S X Y 0=j/\j.Values.length=1/\j.Unknown.length=2:=by
  refine ⟨_,rfl,?_⟩;rw [hYv,hX,zmm];constructor
  ·simp only [zka,zlf,look,List.find?_nil,putM,zgS];rfl
  ·rfl
 obtain ⟨j,hj1,hj2,hj3⟩:=hj;rw [hj1] at hJ;have hm:=zGj hU.sw;rw [hof] at hm;unfold zgc;rw [hm,sb];rw [<-hS,<-hX,hL,sb];simp only;rw [hJ,sb];simp only;rw [hYv,hj2,hj3];rfl
theorem zsz {fuel:Nat} (a0:List Mes) (a1:Int) (a2:Msg) (a3:List zB) (w0:WS a0) (w2:bdM a2) (s2:smM a2) (w3':UW a3) (h2:szM a2<fuel) (hf:200000<=fuel):zdi fuel a0 a1 a2 a3=some true:=by
 unfold zdi;have w3:=w3'.ww;rw [zDM hf,sb,itF (by rfl)];obtain ⟨b0,hb0⟩:=zIz w0;rw [hb0,sb];cases b0 with
 | false=>rfl
 | true=>
  have hx:∀x∈[a2],szM x<fuel/\bdM x:=fun x hx=>by
   simp only [xz,xM,xN] at hx;subst hx;exact ⟨h2,w2⟩
  obtain ⟨r,hr,hr2⟩:=zIx (fuel:=fuel) (l:=[a2]) hx (by simp);rw [itF (by rfl),hr,sb];cases r with
  | true=>rfl
  | false=>
   obtain ⟨m,hm⟩:=zEp (l:=a3) (by have:=w3.1;omega);rw [itF (by rfl),hm,sb,sb];cases m with
   | true=>rfl
   | false=>
    have hm1:=zAQ w0 a1 (l:=[a2]) (by simp) (fuel:=fuel) hx;have hz:=zHa;have c1:=zCk a0 a1 [a2];have o2:Ok15 fuel a2:=ok15 w2 (hr2 rfl a2 (by simp) s2) (by omega) hf;rw [itF (by rfl),zpa h2 w2,sb,zEV a1 w0 o2 w3',sb,zxx a1 w0 o2 w3',sb,hm1,sb];by_cases h0:zfP a0 a1 [a2]=0
    ·obtain ⟨g1,g2,g3,g4⟩:=zsg h0;have hrt:=g4 a2 (by simp);obtain ⟨t1,t2⟩:=zro (s:=a0) _ a2 a1 (ofW a3) true (xA _) w2;obtain ⟨f1,f2⟩:=zro (s:=a0) _ a2 a1 (ofW a3) false (xA _) w2;have hwo:WW (ofW a3):=⟨yg (zzh _) w3.1,fun w hm=>w3.2 w (zkP.1 hm).1⟩;rw [itF (by simpa using h0),xu h0,xu h0,zCu w3,sb];simp only;rw [itT (show (IntKind.i64.wrap ((IntKind.i64.wrap (0:Int))+(IntKind.i64.wrap (0:Int)))==0)=true by decide),zpa (by omega) t1,sb,zpj g1 fuel a2 a1 (ofW a3) true h2 w2 hrt hwo,sb,zlO _ (by omega) t1,sb,itT (zfx.2 rfl),zpa (by omega) f1,sb,zpj g1 fuel a2 a1 (ofW a3) false h2 w2 hrt hwo,sb,zlO _ (by omega) f1,sb,sb];exact congrArg some (zfx.2 rfl)
    ·rw [itT (by simpa using h0),xt h0,xt h0];simp only;rw [zr (x:=zfP a0 a1 [a2]) (by omega),itT (by simp),itT (by simp),zpa (by omega) zxc,sb,zlO _ (by omega) zxc,sb,itT (show zlm zqY ⟨[],[]⟩=true from zfx.2 rfl),sb,zlO _ (by omega) zxc,sb,sb];exact congrArg some (zfx.2 rfl)
theorem uw15 {ways:List zB} (w:ways.length*24<=140737488351232/\ways.length<=1048576/\∀x∈ways,x.length*8<=140737488351232/\x.length<=1048576/\∀y∈x,(Lit.int .i64 y).wf=true):UW ways:=⟨by omega,fun x hx=>by have:=(w.2.2 x hx).2.1;omega⟩
theorem zpA (a0:(List zg)) (a1:Int) (a2:zc) (a3:(List (List Int))) (w0:a0.length*40<=140737488351232/\a0.length<=1048576/\∀a0'∈a0,zjT a0') (w1:(Lit.int .i64 a1).wf=true) (w2:zcA a2) (w3:a3.length*24<=140737488351232/\a3.length<=1048576/\∀a3'∈a3,(a3'.length*8<=140737488351232/\a3'.length<=1048576/\∀a3_'∈a3',(Lit.int .i64 a3_').wf=true)):∃fuel,zdi fuel a0 a1 a2 a3=some true:=by
 obtain ⟨p1,p2⟩:=(zIg (szM a2)).1 a2 (xA _) w2;exact ⟨2*szM a2+200000,zsz a0 a1 a2 a3 (zJR w0) p1 p2 (uw15 w3) (by omega) (by omega)⟩
end Go.Proofs.YtekgmimingolbaaGreat

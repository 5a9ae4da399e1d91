/-
  The laws as plain functions. No condition.
-/
import Derived.Test.YtekgmimingolbaaGreatx1P1
import Derived.Test.YtekgmimingolbaaGreatx1P2
import Derived.Test.YtekgmimingolbaaGreatx1T
import Derived.Test.YtekgmimingolbaaGreatx1K1
import Derived.KernelRfl
import Derived.Test.YtekgmimingolbaaGreatx1Bulk
namespace Go.Proofs.YtekgmimingolbaaGreat
open Go
set_option linter.unusedVariables false
theorem ok15 {fuel n:Nat} {x:Msg} (hb:bdM x) (hw:wgM x<=n) (hn:n<=60000) (hf:200000<=fuel):Ok15 fuel x:=
 ⟨hb,zIs _ x (xB _) (by omega),by have:=zCr _ x (xB _);omega,by have:=zCr _ x (xB _);omega⟩
theorem zEj {s:List Mes} {root:Int} {a b:Msg} {n fuel:Nat} (ra:zaw s a root=true) (rb:zaw s b root=true) (h:wgM a+wgM b<=n) (hn:n<=60000) (hf:200000<=fuel):szM (zhz s b a root)<fuel/\szM (zhz s b a root)<=131072:=by
 have h1:=zzN _ b a root (xB _) ra rb;have h2:=zCr _ (zhz s b a root) (xB _);omega
theorem zER {fuel:Nat} (hf:200000<=fuel):zgz fuel=some true:=by
 obtain ⟨S,hS⟩:∃S:List Mes,S=[(⟨[109],[⟨[97],1,3,false,false,0⟩]⟩:Mes)]:=⟨_,rfl⟩;obtain ⟨X,hX⟩:∃X:Msg,X=(⟨[⟨1,[5],[],[]⟩],[[16,1]]⟩:Msg):=⟨_,rfl⟩;have hw:WS S:=by
  rw [hS];refine ⟨by simp,fun m hm=>?_⟩;rw [yf.1 hm];exact ⟨by simp,by simp,fun f hf=>by rw [yf.1 hf];simp⟩
 have hbX:bdM X:=by
  rw [hX];refine (zhr _).2 ⟨by simp,⟨by simp,fun t ht=>by rw [yf.1 ht];simp⟩,zdB.2 fun v hv=>?_⟩;rw [yf.1 hv];exact (zgS _).2 ⟨by decide,⟨by simp,fun t ht=>by rw [yf.1 ht];omega⟩,⟨by simp,by simp⟩,by simp,by simp [bdMs]⟩
 have hgX:wgM X<=100:=by rw [hX,zov];simp [wgVs,zlY,wgMs]
 have oX:Ok15 fuel X:=ok15 hbX hgX (by omega) hf;have hrs:zgI S=true:=by rw [hS];decide
 have hrt:zaw S X 0=true:=by rw [hS,hX];decide
 have h1:zdF S 0 [X]=0:=zBB hrs ⟨by omega,by rw [hS];decide⟩ fun x hx=>by rw [yf.1 hx];exact hrt
 have hof:ofW [[1]]=[([1]:zI)]:=by decide
 have hU:UW [([1]:zI)]:=⟨by simp,fun x hx=>by rw [yf.1 hx];simp⟩;obtain ⟨Y,hY⟩:∃Y,Y=znF S X 0 [([1]:zI)] false:=⟨_,rfl⟩;have hYv:Y=⟨[],[[16,1]]⟩:=by
  rw [hY,hX,zrh];simp only [zek,zoR];rw [xu (by simp [zhW]),xu (by simp [zhW])];rfl
 have hYb:bdM Y:=by rw [hY];exact (zwa _ X 0 _ false (xB _) hbX).1
 have hYg:wgM Y<=100:=by rw [hY];exact yi (zAe _ X 0 _ false (xB _)) hgX
 have hYr:zaw S Y 0=true:=by rw [hY];exact zri _ X 0 _ false (xB _) hrt
 have h2:zdF S 0 [Y,X]=0:=zBB hrs ⟨by omega,by rw [hS];decide⟩ fun x hx=>by
  simp only [xz,xF,xG] at hx;rcases hx with rfl| rfl
  ·exact hYr
  ·exact hrt
 have hJ:=zAF (fuel:=fuel) 0 hw (ok15 hYb hYg (by omega) hf) oX fun _=>zEj hYr hrt (n:=200) (by omega) (by omega) hf
 rw [xw h2] at hJ;have hL:=zES (fuel:=fuel) 0 hw oX hU;rw [xw h1,hof,<-hY] at hL;have hj:∃j,zhz S X Y 0=j/\j.Values.length=1/\j.Unknown.length=2:=by
  refine ⟨_,rfl,?_⟩;rw [hYv,hX,zlC];constructor
  ·simp only [ziV,zjQ,look,List.find?_nil,putM,zfM];rfl
  ·rfl
 obtain ⟨j,hj1,hj2,hj3⟩:=hj;rw [hj1] at hJ;have hm:=zHD hU.sw;rw [hof] at hm;unfold zgz;rw [hm,sb];rw [<-hS,<-hX,hL,sb];simp only;rw [hJ,sb];simp only;rw [hYv,hj2,hj3];rfl
end Go.Proofs.YtekgmimingolbaaGreat

/-
  The laws as plain functions. No condition.
-/
import Derived.Test.YtekgmimingolbaaGreatx2P1
import Derived.Test.YtekgmimingolbaaGreatx2P2
import Derived.Test.YtekgmimingolbaaGreatx2T
import Derived.Test.YtekgmimingolbaaGreatx2K1
import Derived.KernelRfl
import Derived.Test.YtekgmimingolbaaGreatx2Bulk
namespace Go.Proofs.YtekgmimingolbaaGreat
open Go
set_option linter.unusedVariables false
theorem ok15 {fuel n:Nat} {x:Msg} (hb:bdM x) (hw:wgM x<=n) (hn:n<=60000) (hf:200000<=fuel):Ok15 fuel x:=
 ⟨hb,zBl _ x (xx _) (by omega),by have:=zyP _ x (xx _);omega,by have:=zyP _ x (xx _);omega⟩
theorem zAF {s:List Mes} {root:Int} {a b:Msg} {n fuel:Nat} (ra:zaw s a root=true) (rb:zaw s b root=true) (h:wgM a+wgM b<=n) (hn:n<=60000) (hf:200000<=fuel):szM (zbX s b a root)<fuel/\szM (zbX s b a root)<=131072:=by
 have h1:=zwt _ b a root (xx _) ra rb;have h2:=zyP _ (zbX s b a root) (xx _);omega
theorem zBq {fuel:Nat} (hf:200000<=fuel):zfn fuel=some true:=by
 obtain ⟨S,hS⟩:∃S:List Mes,S=[(⟨[109],[⟨[97],1,3,false,false,0⟩]⟩:Mes)]:=⟨_,rfl⟩;obtain ⟨X,hX⟩:∃X:Msg,X=(⟨[⟨1,[5],[],[]⟩],[[16,1]]⟩:Msg):=⟨_,rfl⟩;have hw:WS S:=by
  rw [hS];refine ⟨by simp,fun m hm=>?_⟩;rw [xR.1 hm];exact ⟨by simp,by simp,fun f hf=>by rw [xR.1 hf];simp⟩
 have hbX:bdM X:=by
  rw [hX];refine (zfR _).2 ⟨by simp,⟨by simp,fun t ht=>by rw [xR.1 ht];simp⟩,zcT.2 fun v hv=>?_⟩;rw [xR.1 hv];exact (zfx _).2 ⟨by decide,⟨by simp,fun t ht=>by rw [xR.1 ht];omega⟩,⟨by simp,by simp⟩,by simp,by simp [bdMs]⟩
 have hgX:wgM X<=100:=by rw [hX,zjq];simp [wgVs,ziR,wgMs]
 have oX:Ok15 fuel X:=ok15 hbX hgX (by omega) hf;have hrs:zfp S=true:=by rw [hS];decide
 have hrt:zaw S X 0=true:=by rw [hS,hX];decide
 have h1:zfG S 0 [X]=0:=ztF hrs ⟨by omega,by rw [hS];decide⟩ fun x hx=>by rw [xR.1 hx];exact hrt
 have hof:ofW [[1]]=[([1]:zE)]:=by decide
 have hU:UW [([1]:zE)]:=⟨by simp,fun x hx=>by rw [xR.1 hx];simp⟩;obtain ⟨Y,hY⟩:∃Y,Y=zey S X 0 [([1]:zE)] false:=⟨_,rfl⟩;have hYv:Y=⟨[],[[16,1]]⟩:=by
  rw [hY,hX,ziJ];simp only [zdl,zmi];rw [xq (by simp [zfW]),xq (by simp [zfW])];rfl
 have hYb:bdM Y:=by rw [hY];exact (zsF _ X 0 _ false (xx _) hbX).1
 have hYg:wgM Y<=100:=by rw [hY];exact ye (zwI _ X 0 _ false (xx _)) hgX
 have hYr:zaw S Y 0=true:=by rw [hY];exact zjM _ X 0 _ false (xx _) hrt
 have h2:zfG S 0 [Y,X]=0:=ztF hrs ⟨by omega,by rw [hS];decide⟩ fun x hx=>by
  simp only [xw,xA,xB] at hx;rcases hx with rfl| rfl
  ·exact hYr
  ·exact hrt
 have hJ:=zxj (fuel:=fuel) 0 hw (ok15 hYb hYg (by omega) hf) oX fun _=>zAF hYr hrt (n:=200) (by omega) (by omega) hf
 rw [xr h2] at hJ;have hL:=zuR (fuel:=fuel) 0 hw oX hU;rw [xr h1,hof,<-hY] at hL;have hj:∃j,zbX S X Y 0=j/\j.Values.length=1/\j.Unknown.length=2:=by
  refine ⟨_,rfl,?_⟩;rw [hYv,hX,zhj];constructor
  ·simp only [zig,zeg,look,List.find?_nil,putM,zgJ];rfl
  ·rfl
 obtain ⟨j,hj1,hj2,hj3⟩:=hj;rw [hj1] at hJ;have hm:=zzL hU.sw;rw [hof] at hm;unfold zfn;rw [hm,sb];rw [<-hS,<-hX,hL,sb];simp only;rw [hJ,sb];simp only;rw [hYv,hj2,hj3];rfl
theorem uw15 {ways:List zE} (w:ways.length*24<=140737488351232/\ways.length<=1048576/\∀x∈ways,x.length*8<=140737488351232/\x.length<=1048576/\∀y∈x,(Lit.int .i64 y).wf=true):UW ways:=⟨by omega,fun x hx=>by have:=(w.2.2 x hx).2.1;omega⟩
end Go.Proofs.YtekgmimingolbaaGreat

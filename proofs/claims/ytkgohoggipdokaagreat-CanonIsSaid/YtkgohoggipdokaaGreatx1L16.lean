/-
  The laws as plain functions. No condition.
-/
import Derived.Test.YtkgohoggipdokaaGreatx1P2
import Derived.Test.YtkgohoggipdokaaGreatx1P3
import Derived.Test.YtkgohoggipdokaaGreatx1O
import Derived.Test.YtkgohoggipdokaaGreatx1P1
import Derived.Test.YtkgohoggipdokaaGreatx1T
import Derived.Test.YtkgohoggipdokaaGreatx1OpenU
import Derived.KernelRfl
namespace Go.Proofs.YtkgohoggipdokaaGreat
open Go
set_option linter.unusedVariables false
theorem ok16 {fuel n:Nat} {x:Msg} (hb:bdM x) (hw:wgM x<=n) (hn:n<=30000) (hf:200000<=fuel):Ok16 fuel x:=
 ⟨hb,zKV _ x (xC _) (by omega),by have:=zzc _ x (xC _);omega,by omega⟩
theorem Ok16.same {fuel:Nat} {x:Msg} (h:Ok16 fuel x) (y:Msg):zvo fuel x y=some (zpN x y):=zKM y h.z h.b (by have:=zzc _ x (xC _);have:=zGf x;have:=h.w;omega)
theorem Ok16.depth {fuel:Nat} {x:Msg} (h:Ok16 fuel x):zky fuel x=some ((dM x:Nat):Int):=zAP (by have:=h.z;omega) h.b (by have:=zzc _ x (xC _);have:=zGf x;have:=h.w;omega)
theorem zEU {fuel:Nat} (hf:200000<=fuel):zfK fuel=some true:=by
 obtain ⟨S,hS⟩:∃S:List Mes,S=[(⟨[109],[⟨[97],1,3,true,false,0⟩]⟩:Mes)]:=⟨_,rfl⟩;obtain ⟨X,hX⟩:∃X:Msg,X=(⟨[⟨1,[1,300],[],[]⟩],[]⟩:Msg):=⟨_,rfl⟩;have hw:WS S:=by
  rw [hS];refine ⟨by simp,fun m hm=>?_⟩;rw [yf.1 hm];exact ⟨by simp,by simp,fun f hf=>by rw [yf.1 hf];simp⟩
 have hbX:bdM X:=by
  rw [hX];refine (zke _).2 ⟨by simp,⟨by simp,fun t ht=>absurd ht (by simp)⟩,zfG.2 fun v hv=>?_⟩;rw [yf.1 hv];exact (ziR _).2 ⟨by decide,⟨by simp,fun t ht=>by simp at ht;omega⟩,⟨by simp,by simp⟩,by simp,by simp [bdMs]⟩
 have hgX:wgM X<=100:=by rw [hX,zjR];simp [wgVs,ziX,wgMs]
 have hrs:zhT S=true:=by rw [hS];decide
 have hrt:zaP S X 0=true:=by rw [hS,hX];decide
 have h1:zsy S 0 [X]=0:=zJM hrs ⟨by omega,by rw [hS];decide⟩ fun x hx=>by rw [yf.1 hx];exact hrt
 have hE:encM S X 0=[10,3,1,172,2]:=by
  have e1:encV S ⟨1,[1,300],[],[]⟩ ⟨[97],1,3,true,false,0⟩=[10,3,1,172,2]:=by
   have c1:sPut 3 1=[1]:=by
    show enc (zbE 3 1).toNat=[1];rw [show (zbE 3 1).toNat=1 by decide,zmu (by omega)];rfl
   have c2:sPut 3 300=[172,2]:=by
    show enc (zbE 3 300).toNat=[172,2];rw [show (zbE 3 300).toNat=300 by decide,zuK (by omega),zmu (by omega)];rfl
   rw [zww,xy (by rfl),xy (by rfl)];simp only [xU,uf,c1,c2];unfold put5;rw [xy rfl,show tW 1 2=10 by decide,zmu (by omega),zmu (by simp)];rfl
  have e2:zE (zK S 0) (fldI (zK S 0) 1)=⟨[97],1,3,true,false,0⟩:=by rw [hS];decide
  rw [hX,zwv,zms,zms,e2,e1];rfl
 unfold zfK;rw [<-hS,<-hX,zET 0 (ok16 hbX hgX (by omega) hf) hw,sb];unfold zBn;rw [xy h1,hE];simp only;rw [itT (by decide),zyA,sb];simp
theorem zBb {fuel:Nat} (a0:List Mes) (a1:Int) (a2:List UInt8) (w0:WS a0) (h2:200000<=fuel):zeM fuel a0 a1 a2=some true:=by
 unfold zeM;rw [zEU (by omega),sb,uN];obtain ⟨b0,hb0⟩:=zNj w0;rw [hb0,sb];cases b0 with
 | false=>rfl
 | true=>
  by_cases hl:1500<a2.length
  ·rw [uP]
  ·have hwg:=zNG a0 _ a2 a1 rfl;have ko:=zzc _ (ofM a0 a1 a2) (xC _);rw [uQ,zFA w0 a1 (by omega) 64 (by omega),sb,zNh a1 (by omega) w0 (by omega) (fun _=>⟨by omega,by omega⟩)];unfold zBD;by_cases hi:is11 a0 a1 a2 64=true
   ·obtain ⟨hz,hf⟩:=zxF.1 hi;obtain ⟨g1,g2,g3,_,_⟩:=zlM hz;obtain ⟨k,rfl⟩:∃k:Nat,a1=k:=⟨a1.toNat,by omega⟩;obtain ⟨hbd,hsm⟩:=zJR g1 a2.length a2 k rfl (by omega) (by omega);obtain ⟨hr,hd⟩:=zAs g1 a2.length a2 _ k rfl (by omega) hf;rw [itT hi,zFD g1 (by omega) (by omega) (by omega),sb,zyn g1 (by omega) hbd (by omega) hr,sb,zyA,sb,sb,sb,hi];simp
   ·have hi':is11 a0 a1 a2 64=false:=by simpa using hi
    rw [itF hi',sb,sb,hi'];rfl
theorem ws16 {s:List Mes} (w:s.length*40<=140737488351232/\∀m∈s,zkE m):WS s:=
 ⟨by omega,fun m hm=>⟨(w.2 m hm).1,by have:=(w.2 m hm).2.1;omega,fun f hf=>((w.2 m hm).2.2 f hf).1⟩⟩
theorem zBc (a0:(List zc)) (a1:Int) (a2:(List UInt8)) (w0:a0.length*40<=140737488351232/\∀a0'∈a0,zkE a0') (w1:(Lit.int .i64 a1).wf=true) (w2:a2.length*1<=140737488351232/\∀a2'∈a2,True):∃fuel,zeM fuel a0 a1 a2=some true:=
 ⟨200000,zBb a0 a1 a2 (ws16 w0) (by omega)⟩
end Go.Proofs.YtkgohoggipdokaaGreat

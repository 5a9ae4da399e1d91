/-
  The laws as plain functions. No condition.
-/
import Derived.Test.YtkgohoggipdokaaGreatx2P1
import Derived.Test.YtkgohoggipdokaaGreatx2P2
import Derived.Test.YtkgohoggipdokaaGreatx2T
import Derived.Test.YtkgohoggipdokaaGreatx2K1
import Derived.KernelRfl
import Derived.Test.YtkgohoggipdokaaGreatx2Bulk
namespace Go.Proofs.YtkgohoggipdokaaGreat
open Go
set_option linter.unusedVariables false
theorem zyh {s:List Mes} {root:Int} {l:List Msg} (h:zgI s root l=0):zfX s=true:=by
 cases hr:zfX s with
 | true=>rfl
 | false=>
  have ha:zgO s root=9:=by unfold zgO;rw [xu hr]
  unfold zgI at h;rw [ha,xu (by decide)] at h;cases h
theorem ok16 {fuel n:Nat} {x:Msg} (hb:bdM x) (hw:wgM x<=n) (hn:n<=30000) (hf:200000<=fuel):Ok16 fuel x:=
 ⟨hb,zGT _ x (xA _) (by omega),by have:=zxs _ x (xA _);omega,by omega⟩
theorem Ok16.same {fuel:Nat} {x:Msg} (h:Ok16 fuel x) (y:Msg):ziy fuel x y=some (zkA x y):=zGL y h.z h.b (by have:=zxs _ x (xA _);have:=zCm x;have:=h.w;omega)
theorem Ok16.depth {fuel:Nat} {x:Msg} (h:Ok16 fuel x):zgj fuel x=some ((dM x:Nat):Int):=zxm (by have:=h.z;omega) h.b (by have:=zxs _ x (xA _);have:=zCm x;have:=h.w;omega)
theorem zBd {fuel:Nat} (hf:200000<=fuel):zek fuel=some true:=by
 obtain ⟨S,hS⟩:∃S:List Mes,S=[(⟨[109],[⟨[97],1,3,true,false,0⟩]⟩:Mes)]:=⟨_,rfl⟩;obtain ⟨X,hX⟩:∃X:Msg,X=(⟨[⟨1,[1,300],[],[]⟩],[]⟩:Msg):=⟨_,rfl⟩;have hw:WS S:=by
  rw [hS];refine ⟨by simp,fun m hm=>?_⟩;rw [xT.1 hm];exact ⟨by simp,by simp,fun f hf=>by rw [xT.1 hf];simp⟩
 have hbX:bdM X:=by
  rw [hX];refine (zgP _).2 ⟨by simp,⟨by simp,fun t ht=>absurd ht (by simp)⟩,zdi.2 fun v hv=>?_⟩;rw [xT.1 hv];exact (zfT _).2 ⟨by decide,⟨by simp,fun t ht=>by simp at ht;omega⟩,⟨by simp,by simp⟩,by simp,by simp [bdMs]⟩
 have hgX:wgM X<=100:=by rw [hX,zhR];simp [wgVs,zgW,wgMs]
 have hrs:zfX S=true:=by rw [hS];decide
 have hrt:zaN S X 0=true:=by rw [hS,hX];decide
 have h1:zgI S 0 [X]=0:=zFS hrs ⟨by omega,by rw [hS];decide⟩ fun x hx=>by rw [xT.1 hx];exact hrt
 have hE:encM S X 0=[10,3,1,172,2]:=by
  have e1:encV S ⟨1,[1,300],[],[]⟩ ⟨[97],1,3,true,false,0⟩=[10,3,1,172,2]:=by
   have c1:sPut 3 1=[1]:=by
    show enc (zbB 3 1).toNat=[1];rw [show (zbB 3 1).toNat=1 by decide,zmm (by omega)];rfl
   have c2:sPut 3 300=[172,2]:=by
    show enc (zbB 3 300).toNat=[172,2];rw [show (zbB 3 300).toNat=300 by decide,ztV (by omega),zmm (by omega)];rfl
   rw [ztg,xu (by rfl),xu (by rfl)];simp only [xS,pW,c1,c2];unfold put5;rw [xu rfl,show tW 1 2=10 by decide,zmm (by omega),zmm (by simp)];rfl
  have e2:zE (zx S 0) (fldI (zx S 0) 1)=⟨[97],1,3,true,false,0⟩:=by rw [hS];decide
  rw [hX,ztf,zlE,zlE,e2,e1];rfl
 unfold zek;rw [<-hS,<-hX,zpq 0 (ok16 hbX hgX (by omega) hf) hw,sb];unfold ztb;rw [xu h1,hE];simp only;rw [itT (by decide),zuY,sb];simp
theorem zsM {fuel:Nat} (a0:List Mes) (a1:Int) (a2 a3:Msg) (w0:WS a0) (w2:bdM a2) (s2:smM a2) (w3:bdM a3) (s3:smM a3) (h2:szM a2+100<=fuel) (h3:szM a3+100<=fuel) (hf:200000<=fuel):zcA fuel a0 a1 a2 a3=some true:=by
 unfold zcA;rw [zBd (by omega),sb,uk];obtain ⟨b0,hb0⟩:=zJj w0;rw [hb0,sb];cases b0 with
 | false=>rfl
 | true=>
  obtain ⟨r2,z2,q2⟩:=(zBM fuel).1 a2 70 (by omega) w2 (by omega) (by omega);obtain ⟨r3,z3,q3⟩:=(zBM fuel).1 a3 70 (by omega) w3 (by omega) (by omega);rw [uk,z2,sb];by_cases hl:r2>2000
  ·rw [itT (by simpa using hl),sb,uj]
  ·rw [itF (by simpa using hl),z3,sb];by_cases hl3:r3>2000
   ·rw [itT (by simpa using hl3),sb,uj]
   ·have k2:=(q2 s2).2.2 (by omega);have k3:=(q3 s3).2.2 (by omega);have o2:Ok16 fuel a2:=ok16 w2 (n:=3000) (by omega) (by omega) hf;have o3:Ok16 fuel a3:=ok16 w3 (n:=3000) (by omega) (by omega) hf;have hd2:=o2.depth;have hd3':=o3.depth;rw [itF (by simpa using hl3),hd2,sb,sb];by_cases hd:64<dM a2
    ·rw [uo]
    ·rw [up,zpq a1 o2 w0,sb,zpq a1 o3 w0,sb];have c2:=zuz a0 a1 [a2];have c3:=zuz a0 a1 [a3];unfold ztb;by_cases h0:zgI a0 a1 [a2]=0
     ·by_cases h1:zgI a0 a1 [a3]=0
      ·obtain ⟨g1,g2,g3,g4⟩:=zpy h0;obtain ⟨_,_,_,g5⟩:=zpy h1;have hrs:=zyh h0;have hr2:=g4 a2 (by simp);have hr3:=g5 a3 (by simp);obtain ⟨m1,m2⟩:=zni g1 _ a2 a1 (dM a2) (xA _) w2 (by omega) hr2 (xA _);obtain ⟨n1,n2⟩:=zni g1 _ a3 a1 (dM a3) (xA _) w3 (by omega) hr3 (xA _);have wb:=(zjM g1 _).1 a2 a1 (xA _) w2 (by omega) hr2;have hds:(zeD a0 a1 (encM a0 a2 a1) (dM a2:Nat)).2=0:=by
        have h:=(zql (s:=a0) (root:=a1) (b:=encM a0 a2 a1) (d:=((dM a2:Nat):Int))).2 ⟨zCe hrs ⟨g2,g3⟩ (by omega),by simpa using m1⟩;unfold is11 at h;simpa using h
       have hto:znX a0 a1 (encM a0 a2 a1) (dM a2:Nat)=(a2,0):=by
        unfold znX;rw [xt (fun h=>h hds),m2]
       have hi64:is11 a0 a1 (encM a0 a2 a1) 64=true:=zql.2 ⟨zCe hrs ⟨g2,g3⟩ (by omega),zFl a0 (by simpa using hd) a1 _ m1⟩;have hic:ztl a0 a1 (encM a0 a2 a1)=true:=by
        unfold ztl;rw [hi64,m2];simp
       rw [xu h0,xu h1];simp only;rw [itF (by decide),sb,zGI a1 _ (by omega) w0 (by omega),sb,hto];simp only;rw [itT (by decide),o2.same,sb,itT (zev.2 rfl),zJh a1 (by omega) w0 (by omega) (fun _=>by rw [m2];exact ⟨o2.z,o2.w⟩),sb,hic,uj,zuY,sb,o2.same,sb,sb];congr 1;by_cases he:a2=a3
       ·subst he;rw [show zkA a2 a2=true from zev.2 rfl];simp
       ·have hne:encM a0 a2 a1≠encM a0 a3 a1:=fun hh=>he (by rw [<-m2,<-n2,hh])
        have hs:zkA a2 a3=false:=by
         cases hb:zkA a2 a3 with
         | false=>rfl
         | true=>exact absurd (zev.1 hb) he
        rw [hs];simpa using hne
      ·rw [xu h0,xt h1];simp only;rw [zJ (x:=zgI a0 a1 [a3]) (by omega),itT (by simp [h1])]
     ·rw [xt h0];simp only;rw [zJ (x:=zgI a0 a1 [a2]) (by omega),itT (by simp [h0])]
theorem zoP (a0:(List zd)) (a1:Int) (a2:zc) (a3:zc) (w0:a0.length*40<=140737488351232/\a0.length<=1048576/\∀a0'∈a0,zhv a0') (w1:(Lit.int .i64 a1).wf=true) (w2:zbp a2) (w3:zbp a3):∃fuel,zcA fuel a0 a1 a2 a3=some true:=by
 obtain ⟨p1,p2⟩:=(zER (szM a2)).1 a2 (xA _) w2;obtain ⟨q1,q2⟩:=(zER (szM a3)).1 a3 (xA _) w3;exact ⟨szM a2+szM a3+200000,zsM a0 a1 a2 a3 (zKJ w0) p1 p2 q1 q2 (by omega) (by omega) (by omega)⟩
end Go.Proofs.YtkgohoggipdokaaGreat

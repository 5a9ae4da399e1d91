/-
  The laws as plain functions. No condition.
-/
import Derived.Test.YtkgohoggipdokaaGreatx3P1
import Derived.Test.YtkgohoggipdokaaGreatx3P2
import Derived.Test.YtkgohoggipdokaaGreatx3T
import Derived.Test.YtkgohoggipdokaaGreatx3K1
import Derived.KernelRfl
import Derived.Test.YtkgohoggipdokaaGreatx3Bulk
namespace Go.Proofs.YtkgohoggipdokaaGreat
open Go
set_option linter.unusedVariables false
theorem zBh {s:List Mes} {root:Int} {l:List Msg} (h:zeh s root l=0):zff s=true:=by
 cases hr:zff s with
 | true=>rfl
 | false=>
  have ha:zgr s root=9:=by unfold zgr;rw [xz hr]
  unfold zeh at h;rw [ha,xz (by decide)] at h;cases h
theorem ok16 {fuel n:Nat} {x:Msg} (hb:bdM x) (hw:wgM x<=n) (hn:n<=30000) (hf:200000<=fuel):Ok16 fuel x:=
 ⟨hb,zKs _ x (xE _) (by omega),by have:=zvv _ x (xE _);omega,by omega⟩
theorem zGn {fuel:Nat} {x:Msg} (h:Ok16 fuel x):Ok15 fuel x:=⟨h.b,h.s,h.z,by have:=zvv _ x (xE _);have:=h.w;omega⟩
theorem Ok16.same {fuel:Nat} {x:Msg} (h:Ok16 fuel x) (y:Msg):zlT fuel x y=some (zpj x y):=zKk y h.z h.b (by have:=zvv _ x (xE _);have:=zCi x;have:=h.w;omega)
theorem Ok16.depth {fuel:Nat} {x:Msg} (h:Ok16 fuel x):zhM fuel x=some ((dM x:Nat):Int):=zAh (by have:=h.z;omega) h.b (by have:=zvv _ x (xE _);have:=zCi x;have:=h.w;omega)
theorem zEo {fuel:Nat} (hf:200000<=fuel):zfw fuel=some true:=by
 obtain ⟨S,hS⟩:∃S:List Mes,S=[(⟨[109],[⟨[97],1,3,true,false,0⟩]⟩:Mes)]:=⟨_,rfl⟩;obtain ⟨X,hX⟩:∃X:Msg,X=(⟨[⟨1,[1,300],[],[]⟩],[]⟩:Msg):=⟨_,rfl⟩;have hw:WS S:=by
  rw [hS];refine ⟨by simp,fun m hm=>?_⟩;rw [ya.1 hm];exact ⟨by simp,by simp,fun f hf=>by rw [ya.1 hf];simp⟩
 have hbX:bdM X:=by
  rw [hX];refine (zhD _).2 ⟨by simp,⟨by simp,fun t ht=>absurd ht (by simp)⟩,zdr.2 fun v hv=>?_⟩;rw [ya.1 hv];exact (zgs _).2 ⟨by decide,⟨by simp,fun t ht=>by simp at ht;omega⟩,⟨by simp,by simp⟩,by simp,by simp [bdMs]⟩
 have hgX:wgM X<=100:=by rw [hX,zjN];simp [wgVs,ziQ,wgMs]
 have hrs:zff S=true:=by rw [hS];decide
 have hrt:zaE S X 0=true:=by rw [hS,hX];decide
 have h1:zeh S 0 [X]=0:=zxv hrs ⟨by omega,by rw [hS];decide⟩ fun x hx=>by rw [ya.1 hx];exact hrt
 have hE:encM S X 0=[10,3,1,172,2]:=by
  have e1:encV S ⟨1,[1,300],[],[]⟩ ⟨[97],1,3,true,false,0⟩=[10,3,1,172,2]:=by
   have c1:sPut 3 1=[1]:=by
    show enc (zch 3 1).toNat=[1];rw [show (zch 3 1).toNat=1 by decide,zoE (by omega)];rfl
   have c2:sPut 3 300=[172,2]:=by
    show enc (zch 3 300).toNat=[172,2];rw [show (zch 3 300).toNat=300 by decide,zwN (by omega),zoE (by omega)];rfl
   rw [zkA,xz (by rfl),xz (by rfl)];simp only [xW,pF,c1,c2];unfold put5;rw [xz rfl,show tW 1 2=10 by decide,zoE (by omega),zoE (by simp)];rfl
  have e2:zJ (zz S 0) (fldI (zz S 0) 1)=⟨[97],1,3,true,false,0⟩:=by rw [hS];decide
  rw [hX,zoB,zdH,zdH,e2,e1];rfl
 unfold zfw;rw [<-hS,<-hX,zrX 0 (ok16 hbX hgX (by omega) hf) hw,sb];unfold zvU;rw [xz h1,hE];simp only;rw [itT (by decide),zEY,sb];simp
theorem zvz {fuel:Nat} (a0:List Mes) (a1:Int) (a2 a3:Msg) (w0:WS a0) (w2:bdM a2) (s2:smM a2) (w3:bdM a3) (s3:smM a3) (h2:szM a2+100<=fuel) (h3:szM a3+100<=fuel) (hf:200000<=fuel):zdu fuel a0 a1 a2 a3=some true:=by
 unfold zdu;rw [zEo (by omega),sb,uy];obtain ⟨b0,hb0⟩:=zMB w0;rw [hb0,sb];cases b0 with
 | false=>rfl
 | true=>
  obtain ⟨r2,z2,q2⟩:=(zFa fuel).1 a2 70 (by omega) w2 (by omega) (by omega);obtain ⟨r3,z3,q3⟩:=(zFa fuel).1 a3 70 (by omega) w3 (by omega) (by omega);rw [uy,z2,sb];by_cases hl:r2>1500
  ·rw [itT (by simpa using hl),sb,uw]
  ·rw [itF (by simpa using hl),z3,sb];by_cases hl3:r3>1500
   ·rw [itT (by simpa using hl3),sb,uw]
   ·have k2:=(q2 s2).2.2 (by omega);have k3:=(q3 s3).2.2 (by omega);have o2:Ok16 fuel a2:=ok16 w2 (n:=3000) (by omega) (by omega) hf;have o3:Ok16 fuel a3:=ok16 w3 (n:=3000) (by omega) (by omega) hf;have hd2:=o2.depth;have hd3':=o3.depth;rw [itF (by simpa using hl3),hd2,sb];by_cases hd:64<dM a2
    ·rw [uB,sb,uw]
    ·rw [uC,hd3',sb,sb];by_cases hd3:64<dM a3
     ·rw [uB]
     ·rw [uC,zrX a1 o2 w0,sb,zrX a1 o3 w0,sb];have c2:=zxu a0 a1 [a2];have c3:=zxu a0 a1 [a3];unfold zvU;by_cases h0:zeh a0 a1 [a2]=0
      ·by_cases h1:zeh a0 a1 [a3]=0
       ·obtain ⟨g1,g2,g3,g4⟩:=zml h0;obtain ⟨_,_,_,g5⟩:=zml h1;have hrs:=zBh h0;have hr2:=g4 a2 (by simp);have hr3:=g5 a3 (by simp);obtain ⟨k,rfl⟩:∃k:Nat,a1=k:=⟨a1.toNat,by omega⟩;obtain ⟨m1,m2⟩:=zpG g1 _ a2 k 64 (xE _) w2 (by omega) hr2 (by omega);obtain ⟨n1,n2⟩:=zpG g1 _ a3 k 64 (xE _) w3 (by omega) hr3 (by omega);have hl2:=(zkg g1 _).1 a2 k (xE _) w2 (by omega) hr2;have hl3:=(zkg g1 _).1 a3 k (xE _) w3 (by omega) hr3;have J:Gd a0 k 3000 (zfG a0 a3 a2 k):=Gd.join (n:=1500) (m:=1500) ⟨hr2,w2,by omega⟩ ⟨hr3,w3,by omega⟩ (by omega) (by omega);have oJ:Ok16 fuel (zfG a0 a3 a2 k):=ok16 J.b J.w (by omega) hf;have hje:=zCH _ a3 a2 (k:Int) (xE _) hr2 hr3;have hj2:zeh a0 k [a2,a3]=0:=zxv hrs ⟨g2,g3⟩ fun x hx=>by
         simp only [xD,xR,xS] at hx;rcases hx with rfl| rfl
         ·exact hr2
         ·exact hr3
        have hj1:zeh a0 k [zfG a0 a3 a2 k]=0:=zxv hrs ⟨g2,g3⟩ fun x hx=>by rw [ya.1 hx];exact J.r
        have hda:zav a0 64 k (encM a0 a2 k++encM a0 a3 k)=none:=(zhU a0 64 k _ m1).2 n1;have hds:(zhw a0 k (encM a0 a2 k++encM a0 a3 k) 64).2=0:=by
         have h:=(zCy (s:=a0) (root:=k) (b:=encM a0 a2 k++encM a0 a3 k) (d:=64)).2 ⟨zKE hrs ⟨g2,g3⟩ (by omega),hda⟩;unfold is11 at h;simpa using h
        have hto:zBD a0 k (encM a0 a2 k++encM a0 a3 k) 64=(zfG a0 a3 a2 k,0):=by
         unfold zBD;rw [xy (fun h=>h hds),zEN g1 _ _ _ 64 k rfl (by omega) m1 n1,m2,n2]
        rw [xz h0,xz h1];simp only;rw [itF (by decide),zIl k w0 (zGn o2) (zGn o3) (fun _=>⟨J.z (by omega),by have:=zvv _ _ (xE (szM (zfG a0 a3 a2 k)));have:=J.w;omega⟩),sb,xz hj2];simp only;rw [zIB k oJ w0,sb,zem (by simp;omega),sb,zem (by simp;omega),sb,xK,zNr k 64 (by omega) w0 (by simp;omega),sb,hto];unfold zFb;rw [xz hj1];simp only;rw [itT (by decide),uD,uB,oJ.same,sb,sb];exact congrArg some (zhk.2 rfl)
       ·rw [xz h0,xy h1];simp only;rw [zC (x:=zeh a0 a1 [a3]) (by omega),itT (by simp [h1])]
      ·rw [xy h0];simp only;rw [zC (x:=zeh a0 a1 [a2]) (by omega),itT (by simp [h0])]
theorem zrq (a0:(List ze)) (a1:Int) (a2:zb) (a3:zb) (w0:a0.length*40<=140737488351232/\a0.length<=1048576/\∀a0'∈a0,zju a0') (w1:(Lit.int .i64 a1).wf=true) (w2:zbT a2) (w3:zbT a3):∃fuel,zdu fuel a0 a1 a2 a3=some true:=by
 obtain ⟨p1,p2⟩:=(zIo (szM a2)).1 a2 (xE _) w2;obtain ⟨q1,q2⟩:=(zIo (szM a3)).1 a3 (xE _) w3;exact ⟨szM a2+szM a3+200000,zvz a0 a1 a2 a3 (zOe w0) p1 p2 q1 q2 (by omega) (by omega) (by omega)⟩
end Go.Proofs.YtkgohoggipdokaaGreat

/-
  The laws as plain functions. No condition.
-/
import Derived.Test.Ytnckiilakdkklaax1P1
import Derived.Test.Ytnckiilakdkklaax1O
namespace Go.Proofs.Ytnckiilakdkklaa
open Go
set_option linter.unusedVariables false
theorem zrj {uw:Nat} (hf:130<=uw):zbw uw=some true:=by
 have hw:WS [(⟨[109],[⟨[97],1,3,false,false,0⟩]⟩:Mes)]:=by
  refine ⟨by simp,fun m hm=>?_⟩;rw [xL.1 hm];exact ⟨by simp,by simp,fun f hf=>by rw [xL.1 hf];simp⟩
 have r1:rec5 [(8:UInt8),(1:UInt8)]= .inr (1,0,1,2):=by decide
 have r2:rec5 [(8:UInt8),(2:UInt8)]= .inr (1,0,1,2):=by decide
 have s1:spl 0 [(8:UInt8),(1:UInt8)]=([⟨1,0,0,1,2⟩],none):=by
  rw [zbS (by simp) r1];have e:([(8:UInt8),(1:UInt8)]:List UInt8).drop 2=[]:=rfl;rw [e,zcM];rfl
 have s2:spl 0 [(8:UInt8),(2:UInt8)]=([⟨1,0,0,1,2⟩],none):=by
  rw [zbS (by simp) r2];have e:([(8:UInt8),(2:UInt8)]:List UInt8).drop 2=[]:=rfl;rw [e,zcM];rfl
 have f1:zF [⟨[109],[⟨[97],1,3,false,false,0⟩]⟩] 0 0 [(8:UInt8),(1:UInt8)]=none:=by
  show zaE _ none _ (spl 0 _)=_;rw [s1];rfl
 have f2:zF [⟨[109],[⟨[97],1,3,false,false,0⟩]⟩] 0 0 [(8:UInt8),(2:UInt8)]=none:=by
  show zaE _ none _ (spl 0 _)=_;rw [s2];rfl
 have c1:=zdL (s:=[⟨[109],[⟨[97],1,3,false,false,0⟩]⟩]) (root:=0) (d:=0) (by decide) f1;have c2:=zdL (s:=[⟨[109],[⟨[97],1,3,false,false,0⟩]⟩]) (root:=0) (d:=0) (by decide) f2;have ho:zoS (zw [⟨[109],[⟨[97],1,3,false,false,0⟩]⟩] 0) [(8:UInt8),(1:UInt8)] [(8:UInt8),(2:UInt8)]=1:=by
  unfold zoS zau;rw [s1,s2];rfl
 have hall:zdD [⟨[109],[⟨[97],1,3,false,false,0⟩]⟩] 0 [[(8:UInt8),(1:UInt8)],[(8:UInt8),(2:UInt8)]] 0=([8,1,8,2],0,0):=by
  rw [zsB,xc (fun h=>h c1),xc (fun h=>h c2)];rfl
 have m1:=zsj (uw:=uw) (s:=[⟨[109],[⟨[97],1,3,false,false,0⟩]⟩]) 0 (a:=[(8:UInt8),(1:UInt8)]) (b:=[(8:UInt8),(2:UInt8)]) 0 hf hw (by simp) (by simp);have m2:=zuE (uw:=uw) (s:=[⟨[109],[⟨[97],1,3,false,false,0⟩]⟩]) 0 (a:=[(8:UInt8),(1:UInt8)]) (b:=[(8:UInt8),(2:UInt8)]) 0 hf hw (by simp) (by simp);rw [hall] at m1 m2;rw [ho] at m2;have m2':zdS uw [⟨[109],[⟨[97],1,3,false,false,0⟩]⟩] 0 [(8:UInt8),(1:UInt8)] [(8:UInt8),(2:UInt8)] 0=some (1,0):=m2;unfold zbw;rw [m1,sb,m2',sb,itT (by decide),itT (by decide),zfc,sb];rfl
theorem zkT {uw:Nat} (a0:List Mes) (a1:Int) (a2 a3 a4:List UInt8) (a5:Int) (w0:WS a0) (w2:a2.length<=140737488351232) (w3:a3.length<=140737488351232) (w4:a4.length<=140737488351232) (hf:20000<=uw):zaC uw a0 a1 a2 a3 a4 a5=some true:=by
 unfold zaC;rw [zrj (by omega),sb,q9];obtain ⟨b0,hb0⟩:=zxo w0;rw [hb0,sb,zH (x:=(a2.length:Int)+a3.length) (by omega),pg];cases b0 with
 | false=>rfl
 | true=>
  by_cases hl:1500<a2.length+a3.length+a4.length
  ·rw [pd]
  ·rw [pf,zwg a1 a5 (by omega) w0 (by simp) (by simp;omega),sb];rcases zwy a0 a1 a2 a3 a4 a5 with ⟨he,h2,h3,h4⟩| ⟨h0,he,hc⟩
   ·obtain ⟨ha,f2⟩:=zdY h2;obtain ⟨_,f3⟩:=zdY h3;obtain ⟨_,f4⟩:=zdY h4;have k23:=zdL ha ((zbY a0 _ a1 _ f2).2 f3);have k34:=zdL ha ((zbY a0 _ a1 _ f3).2 f4);have k0:(zW a0 a1 [] a5).2=0:=zdL ha ((zbY a0 _ a1 [] f2).1 (by simpa using f2));have hT:∀{x y:List UInt8},x.length<=5000->y.length<=5000->(zW a0 a1 x a5).2=0->(zW a0 a1 y a5).2=0->zbE uw a0 a1 x y a5=some (x++y,0):=fun {x y} hx hy h1 h2=>by
     rw [zsj a1 a5 (by omega) w0 (by omega) (by omega),zsB,xc (fun h=>h h1),xc (fun h=>h h2)]
    rw [he];simp only;rw [itF (by decide),hT (by omega) (by omega) h2 h3,sb,hT (by omega) (by omega) h3 h4,sb];simp only;rw [hT (by simp;omega) (by omega) k23 h4,sb,hT (by omega) (by simp;omega) h2 k34,sb,hT (by omega) (by simp) h2 k0,sb,hT (by simp) (by omega) k0 h2,sb];simp only;rw [itT (by decide),zfc,sb,itT (by simp),zfc,sb,itT (by simp),zfc,sb,itT (by simp),zfc,sb,sb];simp
   ·rw [pg,itT (by simpa using h0),he];rfl
theorem ws17 {s:List Mes} (w:s.length*40<=140737488351232/\∀m∈s,zdX m):WS s:=
 ⟨by omega,fun m hm=>⟨(w.2 m hm).1,by have:=(w.2 m hm).2.1;omega,fun f hf=>((w.2 m hm).2.2 f hf).1⟩⟩
theorem zkU (a0:(List zh)) (a1:Int) (a2:(List UInt8)) (a3:(List UInt8)) (a4:(List UInt8)) (a5:Int) (w0:a0.length*40<=140737488351232/\∀a0'∈a0,zdX a0') (w1:(Lit.int .i64 a1).wf=true) (w2:a2.length*1<=140737488351232/\∀a2'∈a2,True) (w3:a3.length*1<=140737488351232/\∀a3'∈a3,True) (w4:a4.length*1<=140737488351232/\∀a4'∈a4,True) (w5:(Lit.int .i64 a5).wf=true):∃uw,zaC uw a0 a1 a2 a3 a4 a5=some true:=
 ⟨20000,zkT a0 a1 a2 a3 a4 a5 (ws17 w0) (by omega) (by omega) (by omega) (xh _)⟩
end Go.Proofs.Ytnckiilakdkklaa

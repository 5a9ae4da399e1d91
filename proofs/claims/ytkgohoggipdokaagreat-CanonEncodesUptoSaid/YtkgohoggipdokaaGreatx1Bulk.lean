/-
  The laws as plain functions. No condition.
-/
import Derived.Test.YtkgohoggipdokaaGreatx1P1
import Derived.Test.YtkgohoggipdokaaGreatx1OU
namespace Go.Proofs.YtkgohoggipdokaaGreat
open Go
set_option linter.unusedVariables false
theorem zHw {s:List Mes} (w:s.length*40<=140737488351232/\s.length<=1048576/\∀m∈s,zhO m):WS s:=
  ⟨by omega,fun m hm=>⟨(w.2.2 m hm).1.1,by have:=(w.2.2 m hm).2.1;omega,fun f hf=>((w.2.2 m hm).2.2.2 f hf).1.1⟩⟩
theorem zFr:∀n:Nat,(∀x:Msg,szM x<=n->zbF x->bdM x/\smM x)/\∀v:Vlu,szV v<=n->zaz v->bdV v/\smV v
  | 0=>⟨fun x h=>by rw [zcc] at h;omega,fun v h=>by rw [zee] at h;omega⟩
  | n+1=>by
    obtain ⟨i1,i2⟩:=zFr n;refine ⟨fun x h w=>?_,fun v h w=>?_⟩
    · rw [zcc] at h;obtain ⟨⟨a1,a2,a3⟩,b1,b2,b3⟩:=(zjS x).1 w;have hv:∀v∈x.Values,bdV v/\smV v:=fun v hv=>i2 v (by have:=zdw hv;omega) ((zel _).1 a3 v hv)
      exact ⟨(zgY x).2 ⟨a1,⟨b1,fun t ht=>(b3 t ht).1⟩,zdL.2 fun v h=>(hv v h).1⟩,(zrw x).2 ⟨a2,⟨b2,fun t ht=>(b3 t ht).2⟩,zjf.2 fun v h=>(hv v h).2⟩⟩
    · rw [zee] at h;obtain ⟨a0,⟨b1,b2,b3⟩,⟨c1,c2,c3⟩,d1,d2,d3⟩:=(zgv v).1 w;have hx:∀x∈v.Subs,bdM x/\smM x:=fun x hx=>i1 x (by have:=zdv hx;omega) ((zgW _).1 d3 x hx)
      exact ⟨(zgp v).2 ⟨a0,⟨b1,fun t ht=>zFW (b3 t ht)⟩,⟨c1,fun t ht=>(c3 t ht).1⟩,d1,zdK.2 fun x h=>(hx x h).1⟩,(zrx v).2 ⟨b2,⟨c2,fun t ht=>(c3 t ht).2⟩,d2,zje.2 fun x h=>(hx x h).2⟩⟩
end Go.Proofs.YtkgohoggipdokaaGreat

/-
  The laws as plain functions. No condition.
-/
import Derived.Test.YtkgohoggipdokaaGreatx2P1
import Derived.Test.YtkgohoggipdokaaGreatx2OU
namespace Go.Proofs.YtkgohoggipdokaaGreat
open Go
set_option linter.unusedVariables false
theorem zKJ {s:List Mes} (w:s.length*40<=140737488351232/\s.length<=1048576/\∀m∈s,zhv m):WS s:=
  ⟨by omega,fun m hm=>⟨(w.2.2 m hm).1.1,by have:=(w.2.2 m hm).2.1;omega,fun f hf=>((w.2.2 m hm).2.2.2 f hf).1.1⟩⟩
theorem zER:∀n:Nat,(∀x:Msg,szM x<=n->zbp x->bdM x/\smM x)/\∀v:Vlu,szV v<=n->zaS v->bdV v/\smV v
  | 0=>⟨fun x h=>by rw [zcg] at h;omega,fun v h=>by rw [zdX] at h;omega⟩
  | n+1=>by
    obtain ⟨i1,i2⟩:=zER n;refine ⟨fun x h w=>?_,fun v h w=>?_⟩
    · rw [zcg] at h;obtain ⟨⟨a1,a2,a3⟩,b1,b2,b3⟩:=(zkb x).1 w;have hv:∀v∈x.Values,bdV v/\smV v:=fun v hv=>i2 v (by have:=zdB hv;omega) ((zdL _).1 a3 v hv)
      exact ⟨(zgP x).2 ⟨a1,⟨b1,fun t ht=>(b3 t ht).1⟩,zdi.2 fun v h=>(hv v h).1⟩,(zpJ x).2 ⟨a2,⟨b2,fun t ht=>(b3 t ht).2⟩,zhM.2 fun v h=>(hv v h).2⟩⟩
    · rw [zdX] at h;obtain ⟨a0,⟨b1,b2,b3⟩,⟨c1,c2,c3⟩,d1,d2,d3⟩:=(zfZ v).1 w;have hx:∀x∈v.Subs,bdM x/\smM x:=fun x hx=>i1 x (by have:=zdA hx;omega) ((zgy _).1 d3 x hx)
      exact ⟨(zfT v).2 ⟨a0,⟨b1,fun t ht=>zJg (b3 t ht)⟩,⟨c1,fun t ht=>(c3 t ht).1⟩,d1,zdO.2 fun x h=>(hx x h).1⟩,(zpK v).2 ⟨b2,⟨c2,fun t ht=>(c3 t ht).2⟩,d2,zhL.2 fun x h=>(hx x h).2⟩⟩
end Go.Proofs.YtkgohoggipdokaaGreat

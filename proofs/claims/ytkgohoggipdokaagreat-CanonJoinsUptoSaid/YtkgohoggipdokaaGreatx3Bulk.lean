/-
  The laws as plain functions. No condition.
-/
import Derived.Test.YtkgohoggipdokaaGreatx3P1
import Derived.Test.YtkgohoggipdokaaGreatx3OU
namespace Go.Proofs.YtkgohoggipdokaaGreat
open Go
set_option linter.unusedVariables false
theorem zOe {s:List Mes} (w:s.length*40<=140737488351232/\s.length<=1048576/\∀m∈s,zju m):WS s:=
  ⟨by omega,fun m hm=>⟨(w.2.2 m hm).1.1,by have:=(w.2.2 m hm).2.1;omega,fun f hf=>((w.2.2 m hm).2.2.2 f hf).1.1⟩⟩
theorem zIo:∀n:Nat,(∀x:Msg,szM x<=n->zbT x->bdM x/\smM x)/\∀v:Vlu,szV v<=n->zbh v->bdV v/\smV v
  | 0=>⟨fun x h=>by rw [zcA] at h;omega,fun v h=>by rw [zeq] at h;omega⟩
  | n+1=>by
    obtain ⟨i1,i2⟩:=zIo n;refine ⟨fun x h w=>?_,fun v h w=>?_⟩
    · rw [zcA] at h;obtain ⟨⟨a1,a2,a3⟩,b1,b2,b3⟩:=(zlW x).1 w;have hv:∀v∈x.Values,bdV v/\smV v:=fun v hv=>i2 v (by have:=zdA hv;omega) ((zeV _).1 a3 v hv)
      exact ⟨(zhD x).2 ⟨a1,⟨b1,fun t ht=>(b3 t ht).1⟩,zdr.2 fun v h=>(hv v h).1⟩,(znt x).2 ⟨a2,⟨b2,fun t ht=>(b3 t ht).2⟩,ziy.2 fun v h=>(hv v h).2⟩⟩
    · rw [zeq] at h;obtain ⟨a0,⟨b1,b2,b3⟩,⟨c1,c2,c3⟩,d1,d2,d3⟩:=(zhv v).1 w;have hx:∀x∈v.Subs,bdM x/\smM x:=fun x hx=>i1 x (by have:=zdP hx;omega) ((zih _).1 d3 x hx)
      exact ⟨(zgs v).2 ⟨a0,⟨b1,fun t ht=>zMz (b3 t ht)⟩,⟨c1,fun t ht=>(c3 t ht).1⟩,d1,zeg.2 fun x h=>(hx x h).1⟩,(zqv v).2 ⟨b2,⟨c2,fun t ht=>(c3 t ht).2⟩,d2,zix.2 fun x h=>(hx x h).2⟩⟩
end Go.Proofs.YtkgohoggipdokaaGreat

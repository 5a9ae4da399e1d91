/-
  The laws as plain functions. No condition.
-/
import Derived.Test.YtcbkcblkecmjnaaGreatx3P1
import Derived.Test.YtcbkcblkecmjnaaGreatx3P2
import Derived.Test.YtcbkcblkecmjnaaGreatx3T
import Derived.Test.YtcbkcblkecmjnaaGreatx3K1
import Derived.KernelRfl
import Derived.Test.YtcbkcblkecmjnaaGreatx3OU
namespace Go.Proofs.YtcbkcblkecmjnaaGreat
open Go
set_option linter.unusedVariables false
theorem zyR {fuel:Nat} (hf:300≤fuel):zdY fuel=some true:=by
 have go:∀(rp:Bool) (ws:List Int),(∃s:List Mes,s=[(⟨[109],[⟨[97],1,3,rp,false,0⟩]⟩:Mes)]∧zjv s=true∧zaC s 0 0 [(8:UInt8),(1:UInt8),(8:UInt8),(2:UInt8)]=none∧ofM s 0 [(8:UInt8),(1:UInt8),(8:UInt8),(2:UInt8)]=⟨[⟨1,ws,[],[]⟩],[]⟩)→
   zki fuel [(⟨[109],[⟨[97],1,3,rp,false,0⟩]⟩:Mes)] 0 [(8:UInt8),(1:UInt8),(8:UInt8),(2:UInt8)] 0=some (⟨[⟨1,ws,[],[]⟩],[]⟩,0):=fun rp ws ⟨s,hs,h1,h2,h3⟩=>by
  have hw:WS [(⟨[109],[⟨[97],1,3,rp,false,0⟩]⟩:Mes)]:=by
   refine ⟨by simp,fun m hm=>?_⟩
   rw [List.mem_singleton.1 hm]
   exact ⟨by simp,by simp,fun f hf=>by rw [List.mem_singleton.1 hf];simp⟩
  rw [←hs] at hw⊢
  have hlen:s.length=1:=by rw [hs];rfl
  have ha:argS s 0 0=0:=by unfold argS;rw [if_neg (by rw [h1];simp),if_neg (by omega)]
  have his:is11 s 0 [(8:UInt8),(1:UInt8),(8:UInt8),(2:UInt8)] 0=true:=zwO.2 ⟨ha,h2⟩
  have hc:(zfK s 0 [(8:UInt8),(1:UInt8),(8:UInt8),(2:UInt8)] 0).2=0:=by unfold is11 at his;simpa using his
  rw [zFo 0 0 hf hw (by simp)]
  unfold zyS
  rw [if_neg (fun h=>h hc),h3]
 have e1:=go false [2] ⟨_,rfl,by decide,by rw [zpR];rfl,by rw [zzF];rfl⟩
 have e2:=go true [1,2] ⟨_,rfl,by decide,by rw [zpR];rfl,by rw [zzF];rfl⟩
 unfold zdY
 rw [e1,sb,show idx ([(⟨[97],1,3,false,false,0⟩:Fld)]:List Fld) 0=some ⟨[97],1,3,false,false,0⟩ from rfl,sb]
 have e2':zki fuel [(⟨[109],([(⟨[97],1,3,false,false,0⟩:Fld)]:List Fld).set (Int.toNat 0) ⟨[97],1,3,true,false,0⟩⟩:Mes)] 0 [(8:UInt8),(1:UInt8),(8:UInt8),(2:UInt8)] 0=_:=e2
 rw [e2',sb]
 have s1:zbZ (⟨1,[2],[],[]⟩:Vlu).Words ([2]:List Int)=some true:=zzP [2] [2] (by decide)
 have s2:zbZ (⟨1,[1,2],[],[]⟩:Vlu).Words ([1,2]:List Int)=some true:=zzP [1,2] [1,2] (by decide)
 rw [itT (by decide),itT (by decide),show idx ([⟨1,[2],[],[]⟩]:List Vlu) 0=some ⟨1,[2],[],[]⟩ from rfl,sb,s1,sb,itT rfl,itT (by decide),show idx ([⟨1,[1,2],[],[]⟩]:List Vlu) 0=some ⟨1,[1,2],[],[]⟩ from rfl,sb,s2,sb,sb]
theorem ztq {fuel:Nat} (a0:List Mes) (a1:Fld) (a2:Vlu) (w0:WS a0) (w2:bdV a2) (s2:smV a2) (hf:2*szV a2+2<fuel) (hf2:300≤fuel):zdd fuel a0 a1 a2=some true:=by
 unfold zdd
 rw [zyR hf2,sb,itF (by rfl)]
 obtain ⟨b0,hb0⟩:=zEI w0
 rw [hb0,sb]
 cases b0 with
 | false=>rfl
 | true=>
  rw [itF (by rfl),ztw w0,sb]
  cases hr:zjv a0 with
  | false=>rfl
  | true=>
   obtain ⟨r,hsz,q⟩:=(zCA fuel).2 a2 70 (by omega) w2 (by omega) (by omega)
   rw [itF (by rfl),hsz,sb,sb]
   by_cases hl:r>3000
   ·rw [itT (by simpa using hl)]
   ·have hd:dV a2≤70:=by have:=(q s2).2.2 (by omega);omega
    rw [itF (by simpa using hl),zCO a1 hf w0 hr w2 s2 (by omega),sb,zxd (by omega) w2,sb,zvI (zqn hr) a1 (by omega) w2,sb]
    simp
theorem zFZ {s:List Mes} (w:s.length*40≤140737488351232∧s.length≤1048576∧∀m∈s,zhh m):WS s:=
 ⟨by omega,fun m hm=>⟨(w.2.2 m hm).1.1,by have:=(w.2.2 m hm).2.1;omega,fun f hf=>((w.2.2 m hm).2.2.2 f hf).1.1⟩⟩
theorem zEq:∀n:Nat,(∀x:Msg,szM x≤n→zbY x→bdM x∧smM x)∧∀v:Vlu,szV v≤n→zaq v→bdV v∧smV v
 | 0=>⟨fun x h=>by rw [znd] at h;omega,fun v h=>by rw [zoz] at h;omega⟩
 | n+1=>by
  obtain ⟨i1,i2⟩:=zEq n
  refine ⟨fun x h w=>?_,fun v h w=>?_⟩
  ·rw [znd] at h
   obtain ⟨⟨a1,a2,a3⟩,b1,b2,b3⟩:=(zja x).1 w
   have hv:∀v∈x.Values,bdV v∧smV v:=fun v hv=>i2 v (by have:=zjA hv;omega) ((zdE _).1 a3 v hv)
   exact ⟨(zod x).2 ⟨a1,⟨b1,fun t ht=>(b3 t ht).1⟩,zjf.2 fun v h=>(hv v h).1⟩,(zyJ x).2 ⟨a2,⟨b2,fun t ht=>(b3 t ht).2⟩,znc.2 fun v h=>(hv v h).2⟩⟩
  ·rw [zoz] at h
   obtain ⟨a0,⟨b1,b2,b3⟩,⟨c1,c2,c3⟩,d1,d2,d3⟩:=(zfJ v).1 w
   have hx:∀x∈v.Subs,bdM x∧smM x:=fun x hx=>i1 x (by have:=zjz hx;omega) ((zgt _).1 d3 x hx)
   exact ⟨(zpI v).2 ⟨a0,⟨b1,fun t ht=>zEE (b3 t ht)⟩,⟨c1,fun t ht=>(c3 t ht).1⟩,d1,zje.2 fun x h=>(hx x h).1⟩,(zyK v).2 ⟨b2,⟨c2,fun t ht=>(c3 t ht).2⟩,d2,znb.2 fun x h=>(hx x h).2⟩⟩
theorem zoF (a0:(List zg)) (a1:za) (a2:zc) (w0:a0.length*40≤140737488351232∧a0.length≤1048576∧∀a0'∈a0,zhh a0') (w1:zav a1) (w2:zaq a2):∃fuel,zdd fuel a0 a1 a2=some true:=by
 obtain ⟨p1,p2⟩:=(zEq (szV a2)).2 a2 (Nat.le_refl _) w2
 exact ⟨2*szV a2+300,ztq a0 a1 a2 (zFZ w0) p1 p2 (by omega) (by omega)⟩
end Go.Proofs.YtcbkcblkecmjnaaGreat

/-
  The laws as plain functions. No condition.
-/
import Derived.Test.YtcbkcblkecmjnaaGreatx2P1
import Derived.Test.YtcbkcblkecmjnaaGreatx2P2
import Derived.Test.YtcbkcblkecmjnaaGreatx2T
import Derived.Test.YtcbkcblkecmjnaaGreatx2K1
import Derived.KernelRfl
import Derived.Test.YtcbkcblkecmjnaaGreatx2OU
namespace Go.Proofs.YtcbkcblkecmjnaaGreat
open Go
set_option linter.unusedVariables false
theorem zBZ {fuel:Nat} (hf:300≤fuel):zfu fuel=some true:=by
 have go:∀(rp:Bool) (ws:List Int),(∃s:List Mes,s=[(⟨[109],[⟨[97],1,3,rp,false,0⟩]⟩:Mes)]∧zhK s=true∧zaT s 0 0 [(8:UInt8),(1:UInt8),(8:UInt8),(2:UInt8)]=none∧ofM s 0 [(8:UInt8),(1:UInt8),(8:UInt8),(2:UInt8)]=⟨[⟨1,ws,[],[]⟩],[]⟩)→
   zmA fuel [(⟨[109],[⟨[97],1,3,rp,false,0⟩]⟩:Mes)] 0 [(8:UInt8),(1:UInt8),(8:UInt8),(2:UInt8)] 0=some (⟨[⟨1,ws,[],[]⟩],[]⟩,0):=fun rp ws ⟨s,hs,h1,h2,h3⟩=>by
  have hw:WS [(⟨[109],[⟨[97],1,3,rp,false,0⟩]⟩:Mes)]:=by
   refine ⟨by simp,fun m hm=>?_⟩
   rw [List.mem_singleton.1 hm]
   exact ⟨by simp,by simp,fun f hf=>by rw [List.mem_singleton.1 hf];simp⟩
  rw [←hs] at hw⊢
  have hlen:s.length=1:=by rw [hs];rfl
  have ha:argS s 0 0=0:=by unfold argS;rw [if_neg (by rw [h1];simp),if_neg (by omega)]
  have his:is11 s 0 [(8:UInt8),(1:UInt8),(8:UInt8),(2:UInt8)] 0=true:=zzN.2 ⟨ha,h2⟩
  have hc:(zhv s 0 [(8:UInt8),(1:UInt8),(8:UInt8),(2:UInt8)] 0).2=0:=by unfold is11 at his;simpa using his
  rw [zIy 0 0 hf hw (by simp)]
  unfold zCa
  rw [if_neg (fun h=>h hc),h3]
 have e1:=go false [2] ⟨_,rfl,by decide,by rw [zsF];rfl,by rw [zCM];rfl⟩
 have e2:=go true [1,2] ⟨_,rfl,by decide,by rw [zsF];rfl,by rw [zCM];rfl⟩
 unfold zfu
 rw [e1,sb,show idx ([(⟨[97],1,3,false,false,0⟩:Fld)]:List Fld) 0=some ⟨[97],1,3,false,false,0⟩ from rfl,sb]
 have e2':zmA fuel [(⟨[109],([(⟨[97],1,3,false,false,0⟩:Fld)]:List Fld).set (Int.toNat 0) ⟨[97],1,3,true,false,0⟩⟩:Mes)] 0 [(8:UInt8),(1:UInt8),(8:UInt8),(2:UInt8)] 0=_:=e2
 rw [e2',sb]
 have s1:zcY (⟨1,[2],[],[]⟩:Vlu).Words ([2]:List Int)=some true:=zCW [2] [2] (by decide)
 have s2:zcY (⟨1,[1,2],[],[]⟩:Vlu).Words ([1,2]:List Int)=some true:=zCW [1,2] [1,2] (by decide)
 rw [itT (by decide),itT (by decide),show idx ([⟨1,[2],[],[]⟩]:List Vlu) 0=some ⟨1,[2],[],[]⟩ from rfl,sb,s1,sb,itT rfl,itT (by decide),show idx ([⟨1,[1,2],[],[]⟩]:List Vlu) 0=some ⟨1,[1,2],[],[]⟩ from rfl,sb,s2,sb,sb]
theorem zuA {fuel:Nat} (a0:List Mes) (a1:Int) (a2 a3:Msg) (a4:Int) (w0:WS a0) (w2:bdM a2) (s2:smM a2) (w3:bdM a3) (s3:smM a3) (h2:2*szM a2<fuel) (h3:2*szM a3<fuel) (hf:300≤fuel):zdV fuel a0 a1 a2 a3 a4=some true:=by
 unfold zdV
 rw [zBZ hf,sb,itF (by rfl)]
 obtain ⟨b0,hb0⟩:=zHT w0
 rw [hb0,sb]
 cases b0 with
 | false=>rfl
 | true=>
  obtain ⟨r2,z2,q2⟩:=(zBP fuel).1 a2 70 (by omega) w2 (by omega) (by omega)
  obtain ⟨r3,z3,q3⟩:=(zBP fuel).1 a3 70 (by omega) w3 (by omega) (by omega)
  rw [itF (by rfl),z2,sb]
  by_cases hl:r2>3000
  ·rw [itT (by simpa using hl),sb,itT (by rfl)]
  ·rw [itF (by simpa using hl),z3,sb,sb]
   by_cases hl3:r3>3000
   ·rw [itT (by simpa using hl3)]
   ·have hd:dM a2≤70:=by have:=(q2 s2).2.2 (by omega);omega
    obtain ⟨b1,_,b4⟩:=(zjL a2).1 w2
    rw [itF (by simpa using hl3),zqP (by omega) w2,sb,zqP (by omega) w3,sb,zwr w0,sb]
    have hg:(if zhK a0=true then zch fuel a0 a1 a2>>=fun rv8=>some rv8 else some false)=some (zhK a0&&zgC a0 a2 a1):=by
     cases hr:zhK a0 with
     | false=>rfl
     | true=>rw [itT (by rfl),zws (zxu hr) a1 (by omega) w2,sb];rfl
    rw [hg,sb,zHm a4 (by omega) w2 (by omega),sb,zDR (by omega) a4,sb]
    have hv:∀v:Vlu,(⟨v.Number,v.Words,v.Texts,v.Subs⟩:Vlu)=v:=fun v=>by cases v;rfl
    have hrest:∀(p:Int×List Int×List Str×List zc),(zkT a2 a4).2=decide (getM a2 a4≥0)→(zkT a2 a4).1=⟨p.1,p.2.1,p.2.2.1,p.2.2.2⟩→szV (zkT a2 a4).1<fuel→bdV (zkT a2 a4).1→
      (zkc fuel a0 a1 a2>>=fun rv11=>if (rv11==(zhK a0&&zgC a0 a2 a1))=true then zlt fuel a2 a3>>=fun rv12=>zbl fuel a2 a3>>=fun rv13=>if (rv12==rv13)=true then if ((zkT a2 a4).2==(decide (getM a2 a4≥0)))=true then zbD fuel (zkT a2 a4).1>>=fun rv14=>zaO fuel rv14 (⟨p.1,p.2.1,p.2.2.1,p.2.2.2⟩:zb)>>=fun rv15=>if rv15=true then ziN fuel a2>>=fun rv16=>zcg fuel a2>>=fun rv17=>if (rv16==rv17)=true then ziW fuel a2>>=fun rv18=>zcm fuel rv18>>=fun rv19=>zbl fuel rv19 a2>>=fun rv20=>some rv20 else some false else some false else some false else some false else some false)=some true:=by
     intro p e1 e2 e3 e4
     rw [zCb a1 h2 w0 w2 s2 (by omega),sb,itT (by simp),zGd a3 h2 w2 (by omega),sb,zrT _ (by omega) w2,sb,itT (by simp),itT (by rw [e1];simp),zAd e3 e4,sb,zwt _ e3 e4,sb,itT (by rw [←e2];exact zcH.2 rfl),zxA (by omega) w2 (by omega),sb,zqD _ _ (by omega) w2 (by omega),sb,itT (by simp),zAC (by omega) w2 (by omega),sb,zqP (by omega) w2,sb,zrT _ (by omega) w2,sb]
     exact congrArg some (zcH.2 rfl)
    rcases zGD a2 a4 with hgm| ⟨j,hj,hgm⟩
    ·have hgv:zkT a2 a4=(⟨0,[],[],[]⟩,false):=by unfold zkT;rw [hgm];rfl
     rw [itF (by rw [hgm];rfl),sb]
     have:=hrest (0,[],[],[]) (by rw [hgv,hgm];rfl) (by rw [hgv]) (by rw [hgv,zkW];simp only [szMs];omega) (by rw [hgv,zlz];exact ⟨by decide,⟨by simp,by simp⟩,⟨by simp,by simp⟩,⟨by simp,by rw [bdMs];trivial⟩⟩)
     rw [this];rfl
    ·have hgv:zkT a2 a4=(a2.Values[j],true):=by unfold zkT;rw [hgm,if_neg (by omega)];simp [List.getD_eq_getElem?_getD,hj]
     have hmem:a2.Values[j]∈a2.Values:=List.getElem_mem hj
     have hz:=zgF hmem
     have hze:=zjw a2
     rw [itT (by rw [hgm];simp),hgm,zR rfl hj,sb,sb,←hgm]
     have:=hrest (a2.Values[j].Number,a2.Values[j].Words,a2.Values[j].Texts,a2.Values[j].Subs) (by rw [hgv,hgm];simp) (by rw [hgv];exact (hv _).symm) (by rw [hgv];simp only;omega) (by rw [hgv];exact zgu.1 b4 _ hmem)
     rw [this];rfl
theorem zJh {s:List Mes} (w:s.length*40≤140737488351232∧s.length≤1048576∧∀m∈s,zjk m):WS s:=
 ⟨by omega,fun m hm=>⟨(w.2.2 m hm).1.1,by have:=(w.2.2 m hm).2.1;omega,fun f hf=>((w.2.2 m hm).2.2.2 f hf).1.1⟩⟩
theorem zEx:∀n:Nat,(∀x:Msg,szM x≤n→zbY x→bdM x∧smM x)∧∀v:Vlu,szV v≤n→zbf v→bdV v∧smV v
 | 0=>⟨fun x h=>by rw [zjw] at h;omega,fun v h=>by rw [zkW] at h;omega⟩
 | n+1=>by
  obtain ⟨i1,i2⟩:=zEx n
  refine ⟨fun x h w=>?_,fun v h w=>?_⟩
  ·rw [zjw] at h
   obtain ⟨⟨a1,a2,a3⟩,b1,b2,b3⟩:=(zlw x).1 w
   have hv:∀v∈x.Values,bdV v∧smV v:=fun v hv=>i2 v (by have:=zgF hv;omega) ((zeV _).1 a3 v hv)
   exact ⟨(zjL x).2 ⟨a1,⟨b1,fun t ht=>(b3 t ht).1⟩,zgu.2 fun v h=>(hv v h).1⟩,(zBQ x).2 ⟨a2,⟨b2,fun t ht=>(b3 t ht).2⟩,zpG.2 fun v h=>(hv v h).2⟩⟩
  ·rw [zkW] at h
   obtain ⟨a0,⟨b1,b2,b3⟩,⟨c1,c2,c3⟩,d1,d2,d3⟩:=(zhu v).1 w
   have hx:∀x∈v.Subs,bdM x∧smM x:=fun x hx=>i1 x (by have:=zhN hx;omega) ((zih _).1 d3 x hx)
   exact ⟨(zlz v).2 ⟨a0,⟨b1,fun t ht=>zHP (b3 t ht)⟩,⟨c1,fun t ht=>(c3 t ht).1⟩,d1,zhB.2 fun x h=>(hx x h).1⟩,(zBR v).2 ⟨b2,⟨c2,fun t ht=>(c3 t ht).2⟩,d2,zpF.2 fun x h=>(hx x h).2⟩⟩
theorem zqI (a0:(List zh)) (a1:Int) (a2:zc) (a3:zc) (a4:Int) (w0:a0.length*40≤140737488351232∧a0.length≤1048576∧∀a0'∈a0,zjk a0') (w1:(Lit.int .i64 a1).wf=true) (w2:zbY a2) (w3:zbY a3) (w4:(Lit.int .i64 a4).wf=true):∃fuel,zdV fuel a0 a1 a2 a3 a4=some true:=by
 obtain ⟨p1,p2⟩:=(zEx (szM a2)).1 a2 (Nat.le_refl _) w2
 obtain ⟨q1,q2⟩:=(zEx (szM a3)).1 a3 (Nat.le_refl _) w3
 exact ⟨2*szM a2+2*szM a3+300,zuA a0 a1 a2 a3 a4 (zJh w0) p1 p2 q1 q2 (by omega) (by omega) (by omega)⟩
end Go.Proofs.YtcbkcblkecmjnaaGreat

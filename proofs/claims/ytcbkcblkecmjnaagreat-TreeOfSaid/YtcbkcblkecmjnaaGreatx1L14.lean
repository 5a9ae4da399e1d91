/-
  The laws as plain functions. No condition.
-/
import Derived.Test.YtcbkcblkecmjnaaGreatx1P1
import Derived.Test.YtcbkcblkecmjnaaGreatx1P2
import Derived.Test.YtcbkcblkecmjnaaGreatx1O
import Derived.Test.YtcbkcblkecmjnaaGreatx1T
import Derived.Test.YtcbkcblkecmjnaaGreatx1OpenU
import Derived.KernelRfl
namespace Go.Proofs.YtcbkcblkecmjnaaGreat
open Go
set_option linter.unusedVariables false
theorem zzr {fuel:Nat} (hf:300≤fuel):zek fuel=some true:=by
 have go:∀(rp:Bool) (ws:List Int),(∃s:List Mes,s=[(⟨[109],[⟨[97],1,3,rp,false,0⟩]⟩:Mes)]∧zkK s=true∧zaf s 0 0 [(8:UInt8),(1:UInt8),(8:UInt8),(2:UInt8)]=none∧ofM s 0 [(8:UInt8),(1:UInt8),(8:UInt8),(2:UInt8)]=⟨[⟨1,ws,[],[]⟩],[]⟩)→
   ziY fuel [(⟨[109],[⟨[97],1,3,rp,false,0⟩]⟩:Mes)] 0 [(8:UInt8),(1:UInt8),(8:UInt8),(2:UInt8)] 0=some (⟨[⟨1,ws,[],[]⟩],[]⟩,0):=fun rp ws ⟨s,hs,h1,h2,h3⟩=>by
  have hw:WS [(⟨[109],[⟨[97],1,3,rp,false,0⟩]⟩:Mes)]:=by
   refine ⟨by simp,fun m hm=>?_⟩
   rw [List.mem_singleton.1 hm]
   exact ⟨by simp,by simp,fun f hf=>by rw [List.mem_singleton.1 hf];simp⟩
  rw [←hs] at hw⊢
  have hlen:s.length=1:=by rw [hs];rfl
  have ha:argS s 0 0=0:=by unfold argS;rw [if_neg (by rw [h1];simp),if_neg (by omega)]
  have his:is11 s 0 [(8:UInt8),(1:UInt8),(8:UInt8),(2:UInt8)] 0=true:=zsw.2 ⟨ha,h2⟩
  have hc:(zdB s 0 [(8:UInt8),(1:UInt8),(8:UInt8),(2:UInt8)] 0).2=0:=by unfold is11 at his;simpa using his
  rw [zDA 0 0 hf hw (by simp)]
  unfold treeOf
  rw [if_neg (fun h=>h hc),h3]
 have e1:=go false [2] ⟨_,rfl,by decide,by rw [zqc];rfl,by rw [zAi];rfl⟩
 have e2:=go true [1,2] ⟨_,rfl,by decide,by rw [zqc];rfl,by rw [zAi];rfl⟩
 unfold zek
 rw [e1,sb,show idx ([(⟨[97],1,3,false,false,0⟩:Fld)]:List Fld) 0=some ⟨[97],1,3,false,false,0⟩ from rfl,sb]
 have e2':ziY fuel [(⟨[109],([(⟨[97],1,3,false,false,0⟩:Fld)]:List Fld).set (Int.toNat 0) ⟨[97],1,3,true,false,0⟩⟩:Mes)] 0 [(8:UInt8),(1:UInt8),(8:UInt8),(2:UInt8)] 0=_:=e2
 rw [e2',sb]
 have s1:zci (⟨1,[2],[],[]⟩:Vlu).Words ([2]:List Int)=some true:=zAq [2] [2] (by decide)
 have s2:zci (⟨1,[1,2],[],[]⟩:Vlu).Words ([1,2]:List Int)=some true:=zAq [1,2] [1,2] (by decide)
 rw [itT (by decide),itT (by decide),show idx ([⟨1,[2],[],[]⟩]:List Vlu) 0=some ⟨1,[2],[],[]⟩ from rfl,sb,s1,sb,itT rfl,itT (by decide),show idx ([⟨1,[1,2],[],[]⟩]:List Vlu) 0=some ⟨1,[1,2],[],[]⟩ from rfl,sb,s2,sb,sb]
theorem zwA {fuel:Nat} (a0:List Mes) (a1:Int) (a2:List UInt8) (a3:Int) (w0:WS a0) (hf:1600≤fuel) (hf2:2*szM (ofM a0 a1 a2)<fuel):zdT fuel a0 a1 a2 a3=some true:=by
 unfold zdT
 rw [zzr (by omega),sb,itF (by rfl)]
 obtain ⟨b0,hb0⟩:=zFs w0
 rw [hb0,sb]
 cases b0 with
 | false=>rfl
 | true=>
  by_cases hl:1500<a2.length
  ·rw [itT (by simp;omega)]
  ·rw [itF (by simp;omega),zDA a1 a3 (by omega) w0 (by omega),sb,ztR w0 a1 (by omega) a3 (by omega),sb]
   have hc:=zvo a0 a1 a2 a3
   unfold treeOf
   by_cases h0:(zdB a0 a1 a2 a3).2=0
   ·have h0':¬(zdB a0 a1 a2 a3).2≠0:=fun h=>h h0
    obtain ⟨hr,g1,g2,g3,g4⟩:=znq (zoR h0)
    obtain ⟨k,rfl⟩:∃k:Nat,a1=k:=⟨a1.toNat,by omega⟩
    obtain ⟨hbd,hsm⟩:=zFG hr a2.length a2 k rfl (by omega) (by omega)
    have hd:dM (ofM a0 k a2)≤64:=by
     have hfi:zaf a0 a3.toNat k a2=none:=(zsw.1 (by unfold is11;simpa using h0)).2
     have:=(zAY hr a2.length a2 a3.toNat k rfl (by omega) hfi).2
     omega
    rw [itF (by simpa using h0),if_neg h0',zzf hr (by omega) (by omega) (by omega),sb,itT (show (IntKind.i64.wrap (0:Int)==0)=true by decide),zsB (by omega) hbd,sb,zpr _ (by omega) hbd,sb,itT (zeG.2 rfl),zBv (by omega) hbd (by omega),sb,zoj _ _ (by omega) hbd (by omega),sb,sb]
    simp
   ·rw [itT (by simpa using h0),if_pos h0]
    simp only
    have hz:szM (⟨[],[]⟩:Msg)<fuel:=by rw [ztq];simp only [szVs];omega
    have hzb:bdM (⟨[],[]⟩:Msg):=(zpS _).2 ⟨by simp,⟨by simp,by simp⟩,by rw [bdVs];trivial⟩
    rw [zz (by omega),itT (by simp),zsB hz hzb,sb,zpr _ hz hzb,sb,sb]
    exact congrArg some (zeG.2 rfl)
theorem ws14 {s:List Mes} (w:s.length*40≤140737488351232∧∀m∈s,zhX m):WS s:=
 ⟨by omega,fun m hm=>⟨(w.2 m hm).1,by have:=(w.2 m hm).2.1;omega,fun f hf=>((w.2 m hm).2.2 f hf).1⟩⟩
theorem zwB (a0:(List zh)) (a1:Int) (a2:(List UInt8)) (a3:Int) (w0:a0.length*40≤140737488351232∧∀a0'∈a0,zhX a0') (w1:(Lit.int .i64 a1).wf=true) (w2:a2.length*1≤140737488351232∧∀a2'∈a2,True) (w3:(Lit.int .i64 a3).wf=true):∃fuel,zdT fuel a0 a1 a2 a3=some true:=
 ⟨2*szM (ofM a0 a1 a2)+1600,zwA a0 a1 a2 a3 (ws14 w0) (by omega) (by omega)⟩
end Go.Proofs.YtcbkcblkecmjnaaGreat

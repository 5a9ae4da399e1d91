/-
  The laws as plain functions. No condition.
-/
import Derived.Test.YtcbkcblkecmjnaaGreatx4P1
import Derived.Test.YtcbkcblkecmjnaaGreatx4P2
import Derived.Test.YtcbkcblkecmjnaaGreatx4O
import Derived.Test.YtcbkcblkecmjnaaGreatx4T
import Derived.Test.YtcbkcblkecmjnaaGreatx4OpenU
import Derived.KernelRfl
namespace Go.Proofs.YtcbkcblkecmjnaaGreat
open Go
set_option linter.unusedVariables false
theorem zxP {fuel:Nat} (hf:300≤fuel):zdq fuel=some true:=by
 have go:∀(rp:Bool) (ws:List Int),(∃s:List Mes,s=[(⟨[109],[⟨[97],1,3,rp,false,0⟩]⟩:Mes)]∧zgV s=true∧zaf s 0 0 [(8:UInt8),(1:UInt8),(8:UInt8),(2:UInt8)]=none∧ofM s 0 [(8:UInt8),(1:UInt8),(8:UInt8),(2:UInt8)]=⟨[⟨1,ws,[],[]⟩],[]⟩)→
   zhj fuel [(⟨[109],[⟨[97],1,3,rp,false,0⟩]⟩:Mes)] 0 [(8:UInt8),(1:UInt8),(8:UInt8),(2:UInt8)] 0=some (⟨[⟨1,ws,[],[]⟩],[]⟩,0):=fun rp ws ⟨s,hs,h1,h2,h3⟩=>by
  have hw:WS [(⟨[109],[⟨[97],1,3,rp,false,0⟩]⟩:Mes)]:=by
   refine ⟨by simp,fun m hm=>?_⟩
   rw [List.mem_singleton.1 hm]
   exact ⟨by simp,by simp,fun f hf=>by rw [List.mem_singleton.1 hf];simp⟩
  rw [←hs] at hw⊢
  have hlen:s.length=1:=by rw [hs];rfl
  have ha:argS s 0 0=0:=by unfold argS;rw [if_neg (by rw [h1];simp),if_neg (by omega)]
  have his:is11 s 0 [(8:UInt8),(1:UInt8),(8:UInt8),(2:UInt8)] 0=true:=zfy.2 ⟨ha,h2⟩
  have hc:(zbO s 0 [(8:UInt8),(1:UInt8),(8:UInt8),(2:UInt8)] 0).2=0:=by unfold is11 at his;simpa using his
  rw [zxN 0 0 hf hw (by simp)]
  unfold zku
  rw [if_neg (fun h=>h hc),h3]
 have e1:=go false [2] ⟨_,rfl,by decide,by rw [zoF];rfl,by rw [zyI];rfl⟩
 have e2:=go true [1,2] ⟨_,rfl,by decide,by rw [zoF];rfl,by rw [zyI];rfl⟩
 unfold zdq
 rw [e1,sb,show idx ([(⟨[97],1,3,false,false,0⟩:Fld)]:List Fld) 0=some ⟨[97],1,3,false,false,0⟩ from rfl,sb]
 have e2':zhj fuel [(⟨[109],([(⟨[97],1,3,false,false,0⟩:Fld)]:List Fld).set (Int.toNat 0) ⟨[97],1,3,true,false,0⟩⟩:Mes)] 0 [(8:UInt8),(1:UInt8),(8:UInt8),(2:UInt8)] 0=_:=e2
 rw [e2',sb]
 have s1:zbP (⟨1,[2],[],[]⟩:Vlu).Words ([2]:List Int)=some true:=zyR [2] [2] (by decide)
 have s2:zbP (⟨1,[1,2],[],[]⟩:Vlu).Words ([1,2]:List Int)=some true:=zyR [1,2] [1,2] (by decide)
 rw [itT (by decide),itT (by decide),show idx ([⟨1,[2],[],[]⟩]:List Vlu) 0=some ⟨1,[2],[],[]⟩ from rfl,sb,s1,sb,itT rfl,itT (by decide),show idx ([⟨1,[1,2],[],[]⟩]:List Vlu) 0=some ⟨1,[1,2],[],[]⟩ from rfl,sb,s2,sb,sb]
def zmh (v:Vlu):Vlu:=⟨v.Number,[],[],[]⟩
theorem zmM:∀(l:List Vlu) (n:Int),look (l.map zmh) n=if (look l n).isSome then some ⟨n,[],[],[]⟩ else none
 | [],n=>rfl
 | v::l,n=>by
  rw [List.map_cons,zbX,zbX]
  by_cases h:v.Number=n
  ·rw [if_pos h,if_pos (show (zmh v).Number=n from h)]
   subst h;rfl
  ·rw [if_neg h,if_neg (show ¬(zmh v).Number=n from h)]
   exact zmM l n
theorem znS {l:List Vlu} (h:zdX l):zdX (l.map zmh):=by
 unfold zdX at h⊢
 rw [List.pairwise_map]
 exact h
theorem zzF {l m:List Vlu} (hl:zdX l) (hm:zdX m) (h:∀n,(look l n).isSome=(look m n).isSome):l.map (·.Number)=m.map (·.Number):=by
 have e:l.map zmh=m.map zmh:=zrk (znS hl) (znS hm) fun n=>by rw [zmM,zmM,h n]
 have:=congrArg (List.map (fun v:Vlu=>v.Number)) e
 rw [List.map_map,List.map_map] at this
 exact this
theorem zzt {s:List Mes} {x:Msg} {k:Int} (h:zcG s x k=true):(ziq s x x k).Values.map (·.Number)=x.Values.map (·.Number)∧(ziq s x x k).Unknown=x.Unknown++x.Unknown:=by
 obtain ⟨j1,j2⟩:=ztk h h
 obtain ⟨_,_,r,_,_⟩:=zfZ h
 refine ⟨zzF j1 r fun n=>?_,by rw [zrf]⟩
 rw [j2]
 cases look x.Values n<;>rfl
theorem zxu {x y:Msg} {c e:Int} (h:y.Values.map (·.Number)=x.Values.map (·.Number)) (hl:x.Values.length≤1048576):∀(d i:Nat),i+d=x.Values.length→zbw (y,c) (x,e) i=some (.inl ()):=by
 have hlen:y.Values.length=x.Values.length:=by have:=congrArg List.length h;simpa using this
 intro d
 induction d with
 | zero=>
  intro i hi
  refine zhp ?_
  unfold zar
  rw [itF (by simp;omega)]
 | succ d ih=>
  intro i hi
  have hlt:i<x.Values.length:=by omega
  have hn:(y.Values[i]).Number=(x.Values[i]).Number:=by
   have h1:(y.Values.map (·.Number))[i]? =(x.Values.map (·.Number))[i]? :=by rw [h]
   rw [List.getElem?_map,List.getElem?_map,List.getElem?_eq_getElem hlt,List.getElem?_eq_getElem (by omega)] at h1
   simpa using h1
  have hstep:zar (y,c) (x,e) i=some (.inl ((i+1:Nat):Int)):=by
   unfold zar
   rw [itT (by simp;omega),zan rfl (show i<y.Values.length by omega),sb,zan rfl hlt,sb,hn,itF (by simp),zW (by omega)]
   rfl
  rw [zho hstep]
  exact ih (i+1) (by omega)
theorem zqB {fuel:Nat} (a0:List Mes) (a1:Int) (a2:List UInt8) (a3:Int) (w0:WS a0) (hf:1600≤fuel) (hf2:2*szM (ofM a0 a1 a2)<fuel):zcm fuel a0 a1 a2 a3=some true:=by
 unfold zcm
 rw [zxP (by omega),sb,itF (by rfl)]
 obtain ⟨b0,hb0⟩:=zDW w0
 rw [hb0,sb]
 cases b0 with
 | false=>rfl
 | true=>
  by_cases hl:1500<a2.length
  ·rw [itT (by simp;omega)]
  ·have hc:=ztY a0 a1 a2 a3
   rw [itF (by simp;omega),zxN a1 a3 (by omega) w0 (by omega),sb]
   by_cases h0:(zbO a0 a1 a2 a3).2=0
   ·have ht:zku a0 a1 a2 a3=(ofM a0 a1 a2,0):=by unfold zku;rw [if_neg (show ¬(zbO a0 a1 a2 a3).2≠0 from fun h=>h h0)]
    have his:is11 a0 a1 a2 a3=true:=by unfold is11;simpa using h0
    obtain ⟨hz,hfi⟩:=zfy.1 his
    obtain ⟨hr,g1,g2,g3,g4⟩:=zlQ hz
    obtain ⟨k,rfl⟩:∃k:Nat,a1=k:=⟨a1.toNat,by omega⟩
    obtain ⟨hbd,hsm⟩:=zEk hr a2.length a2 k rfl (by omega) (by omega)
    obtain ⟨hrt,hd⟩:=zif hr a2.length a2 a3.toNat k rfl (by omega) hfi
    have hrs:zgV a0=true:=by
     unfold argS at hz
     cases h:zgV a0 with
     | true=>rfl
     | false=>rw [h,if_pos rfl] at hz;cases hz
    have h64:zaf a0 64 k a2=none:=zvx a0 (by omega) k a2 hfi
    have hz64:argS a0 k 64=0:=by unfold argS;rw [if_neg (by rw [hrs];simp),if_neg (by omega)]
    have his64:is11 a0 k a2 64=true:=zfy.2 ⟨hz64,h64⟩
    have hle64:zhg a0 k a2≤64:=(ziP his64 (d:=64) (by omega)).1 his64
    have hat:=(zfy.1 ((ziP his64 hle64).2 (Nat.le_refl _))).2
    rw [Int.toNat_natCast] at hat
    have hdep:dM (ofM a0 k a2)≤zhg a0 k a2:=(zif hr a2.length a2 (zhg a0 k a2) k rfl (by omega) hat).2
    have hfi2:zaf a0 a3.toNat k (a2++a2)=none:=(zgn a0 a3.toNat k a2 hfi).2 hfi
    have his2:is11 a0 k (a2++a2) a3=true:=zfy.2 ⟨hz,hfi2⟩
    have hc2:(zbO a0 k (a2++a2) a3).2=0:=by unfold is11 at his2;simpa using his2
    have ht2:zku a0 k (a2++a2) a3=(ziq a0 (ofM a0 k a2) (ofM a0 k a2) k,0):=by
     unfold zku
     rw [if_neg (show ¬(zbO a0 k (a2++a2) a3).2≠0 from fun h=>h hc2),zxx hr _ a2 a2 a3.toNat k rfl (by omega) hfi hfi]
    obtain ⟨q1,q2⟩:=zzt hrt
    have hlenV:(ziq a0 (ofM a0 k a2) (ofM a0 k a2) k).Values.length=(ofM a0 k a2).Values.length:=by have:=congrArg List.length q1;simpa using this
    obtain ⟨b1,b2,b3⟩:=(zou _).1 hbd
    have hvl:(ofM a0 k a2).Values.length≤1048576:=((zuL _).1 hsm).1
    have hul:(ofM a0 k a2).Unknown.length≤1048576:=((zuL _).1 hsm).2.1.1
    have hloop:=zxu (c:=0) (e:=0) q1 hvl (ofM a0 k a2).Values.length 0 (by omega)
    have hloop':zbw (ziq a0 (ofM a0 k a2) (ofM a0 k a2) k,0) (ofM a0 k a2,0) 0=_:=hloop
    rw [ht]
    simp only
    rw [itF (show (IntKind.i64.wrap (0:Int) !=0)=false by decide),zAi w0 k (by omega) (by omega),sb,zAF his64]
    simp only
    rw [itF (show (IntKind.i64.wrap (0:Int) !=0)=false by decide),zxQ k hf2 w0 hbd hsm (by omega),sb,hrs,hrt,itF (by rfl),ztE (by omega) hbd (by omega),sb,itF (by simp;omega),zCe (by omega) hbd (by omega),sb,zCj _ hf2 hbd (by omega),sb,zeI.2 rfl,sb,itF (by rfl),zgm (by simp;omega),sb,List.nil_append,zgm (by omega),sb,zxN k a3 (by omega) w0 (by simp;omega),sb,ht2]
    simp only
    rw [itF (by rw [hlenV,q2,zW (x:=2*_) (by omega)];simp [zW];omega),hloop',sb]
   ·have hne:is11 a0 a1 a2 a3=false:=by unfold is11;simpa using h0
    have ht:zku a0 a1 a2 a3=(⟨[],[]⟩,(zbO a0 a1 a2 a3).2):=by unfold zku;rw [if_pos h0]
    rw [ht]
    simp only
    rw [zW (by omega),itT (by simpa using h0),zEC w0 a1 (by omega) a3 (by omega),sb,hne]
    rfl
theorem ws14 {s:List Mes} (w:s.length*40≤140737488351232∧∀m∈s,zhf m):WS s:=
 ⟨by omega,fun m hm=>⟨(w.2 m hm).1,by have:=(w.2 m hm).2.1;omega,fun f hf=>((w.2 m hm).2.2 f hf).1⟩⟩
theorem zqC (a0:(List zi)) (a1:Int) (a2:(List UInt8)) (a3:Int) (w0:a0.length*40≤140737488351232∧∀a0'∈a0,zhf a0') (w1:(Lit.int .i64 a1).wf=true) (w2:a2.length*1≤140737488351232∧∀a2'∈a2,True) (w3:(Lit.int .i64 a3).wf=true):∃fuel,zcm fuel a0 a1 a2 a3=some true:=
 ⟨2*szM (ofM a0 a1 a2)+1600,zqB a0 a1 a2 a3 (ws14 w0) (by omega) (by omega)⟩
end Go.Proofs.YtcbkcblkecmjnaaGreat

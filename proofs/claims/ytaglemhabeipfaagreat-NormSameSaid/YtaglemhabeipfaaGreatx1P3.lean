/-
  What the plain functions are. No condition.
-/
import Derived.Test.YtaglemhabeipfaaGreatx1P2
namespace Go.Proofs.YtaglemhabeipfaaGreat
open Go
set_option linter.unusedVariables false
theorem zMO {k:Int} (h:kNum k=true):(sPut k 0).length=if 12<=k then 8 else if 9<=k then 4 else 1:=by
 have hc:zbk k 0=0:=by
  unfold zbk;simp [zoO,sgnS]
 unfold sPut zkD;rw [hc];split
 ·rfl
 ·split
  ·rfl
  ·rw [show (0:Int).toNat=0 from rfl,zwr (by omega)];rfl
theorem zzo (k:Int):zgO k=some (kNum k):=by
 unfold zgO;rw [zxQ (by omega),sb];cases h:kNum k with
 | false=>rfl
 | true=>
  have:=zMO h;simp only [yo];congr 1;rw [this];split
  ·rfl
  ·split<;>rfl
theorem zJD {k:Int} (h:kNum k=true):zkW k=some (zaa k):=by
 have hs:=zMO h;unfold zkW;rw [zxQ (by omega),sb,h,xq rfl,hs];clear hs;have hk:1<=k/\k<=14:=yq h;unfold zaa;by_cases h1:12<=k
 ·simp [h1,show ¬(15<=k) by omega]
 ·by_cases h2:9<=k
  ·simp [h1,h2,show ¬(15<=k) by omega]
  ·simp [h1,h2,show ¬(15<=k) by omega]
theorem zAQ {out v:List UInt8} {n w:Int} (ho:out.length<=70368744177664) (hv:v.length<=1048576) (hr:zbx n w=true) (hf:zbu w v=true):zlw out n w v=some (out++put5 n w v):=by
 have hp:=zCU hr hv;unfold zlw;rw [zGC (by simp) hv,sb,xq ⟨hr,hf⟩,xG,zcF (by simp only;omega),sb]
theorem zHA {n:Int} (hr:zbx n 2=true) {z:Nat} (hz:z<=70368744177664):zlv n (z:Int)=some (enc (tW n 2)++enc z):=by
 obtain ⟨_,wS⟩:=zvc hr;have h1:=zkx (v:=tW n 2) (by omega);have h2:=zkx (v:=z) (by omega);unfold zlv;have e0:put5 n 2 []=enc (tW n 2)++[0]:=by
  unfold put5;rw [xq rfl,xY,yz,zwr (v:=0) (by omega)];rfl
 have hw:IntKind.u64.wrap (z:Int)=(z:Int):=by rw [wrap_u64,yL (by omega) (by omega)]
 rw [zLX (by simp) (by simp),sb,xq hr,xG,hw,zGH (by omega),sb,e0];rw [show (0:Int)=((0:Nat):Int) from rfl,zgv (a:=0) (b:=(enc (tW n 2)).length) rfl (by simp only [xy,qk];rw [uL];omega) (xC _) (by simp),sb];have e1:((enc (tW n 2)++[0]).drop 0).take ((enc (tW n 2)).length - 0)=enc (tW n 2):=by simp
 rw [e1];have hk:kNum 4=true:=rfl;rw [hk,xq rfl];have e2:sPut 4 (z:Int)=enc z:=rfl;rw [e2,zcF (by simp only;omega),sb]
abbrev zhz:=List (zh×Int)
def zhA (s:List Mes) (met:zhz):Prop:=∀(M n i:Int),mget met ⟨M,n⟩=some i->i=fldI (zo s M) n
def zjf (a b:zhz):Prop:=∀(q:zh) (i:Int),mget a q=some i->mget b q=some i
theorem zjf.refl (a:zhz):zjf a a:=fun _ _ h=>h
theorem zjf.trans {a b c:zhz} (h:zjf a b) (k:zjf b c):zjf a c:=fun q i hq=>k q i (h q i hq)
theorem zCL {m:Mes} {b:List UInt8} {p:Int} {v:Vw} (h:zcn m b p=(v,0)):zbJ b p=(v.R,0)/\v.Field=fldI m v.R.Number:=by
 unfold zcn at h;split at h
 ·rename_i hc;simp only [yr] at h;exact absurd h.2 hc
 ·rename_i hc;have h0:(zbJ b p).2=0:=by simpa using hc
  have hn:zbJ b p=((zbJ b p).1,0):=by rw [<-h0]
  split at h
  ·rename_i c hv;simp only [yr] at h;rcases zel m (zbJ b p).1.Number (zbJ b p).1.Wire with h1| ⟨h1,_⟩| ⟨i,run,h1,_⟩
   ·rw [hv] at h1;cases h1;omega
   ·rw [hv] at h1;cases h1
   ·rw [hv] at h1;cases h1
  ·rename_i i run hv;simp only [yr,qn] at h;subst h;refine ⟨hn,?_⟩;rcases zel m (zbJ b p).1.Number (zbJ b p).1.Wire with h1| ⟨h1,h2⟩| ⟨j,run',h1,h2,_⟩
   ·rw [hv] at h1;cases h1
   ·rw [hv] at h1;cases h1;exact h2.symm
   ·rw [hv] at h1;cases h1;exact h2.symm
theorem zJA {s:List Mes} (hs:zdA s) {k:Nat} (hk:k<s.length) {b:List UInt8} (hb:b.length<=1048576) {p:Int} {v:Vw} (h:zcn (zo s k) b p=(v,0)) {met:zhz} (hm:zhA s met):
  ∃wZ,zhg ⟨s,met⟩ k b p=some (v.R,v.Field,wZ)/\zhA s wZ/\zjf met wZ/\mget wZ ⟨k,v.R.Number⟩=some v.Field:=by
 obtain ⟨hn,hf⟩:=zCL h;have hmm:zo s (k:Int)∈s:=by rw [zcg hk];exact xB hk
 have hfew:=hs.few _ hmm;unfold zhg;rw [zsN hb,hn,sb];cases hg:mget met ⟨(k:Int),v.R.Number⟩ with
 | some i=>
  have hi:=hm _ _ _ hg;refine ⟨met,?_,hm,.refl _,by rw [hg,hf,hi]⟩;simp only [Option.isSome_some,Bool.not_true,pd];rw [itF rfl,hf,hi]
 | none=>
  refine ⟨mput met ⟨k,v.R.Number⟩ v.Field,?_,fun M n i hi=>?_,fun q i hq=>?_,by rw [zft,xq rfl]⟩
  ·simp only [Option.isSome_none,Bool.not_false,yo];rw [zK rfl hk,sb,<-zcg hk,zDL (by omega) hb,sb,h];rfl
  ·rw [zft] at hi;split at hi
   ·rename_i e;cases e;cases hi;exact hf
   ·exact hm M n i hi
  ·rw [zft];split
   ·rename_i e;rw [e,hg] at hq;cases hq
   ·exact hq
def pc18 (f:Fld) (t:Th):List UInt8:=if f.Repeated=true/\kNum f.Kind=false then t.raw else t.val
def gat1 (f:Fld) (a:List UInt8) (t:Th):List UInt8:=if f.Repeated=false/\f.Kind≠17 then pc18 f t else a++pc18 f t
theorem zEM {f:Fld} {a b:List UInt8} {v:Vw} (ha:a.length<=70368744177664) (h:0<=v.R.From/\v.R.From<v.R.At/\v.R.At<=v.R.To/\v.R.To<=b.length) (hb:b.length<=70368744177664):zkh f a b v.R=some (gat1 f a (thOf b v)):=by
 obtain ⟨h1,h2,h3,h4⟩:=h;have hL:At14 b [v]:=fun t ht=>by rw [yg.1 ht];exact ⟨h1,h2,h3,h4⟩
 have hc1:=zKZ hL (yg.2 rfl);have hc2:=zFG hL (yg.2 rfl);have hpl:(pc18 f (thOf b v)).length<=b.length:=by
  unfold pc18;have e1:(thOf b v).raw=rawB b v.R:=rfl;have e2:(thOf b v).val=valB b v.R:=rfl;split
  ·rw [e1];exact zDb b _
  ·rw [e2];unfold valB;rw [xO,xW];omega
 have hp:cut b (if f.Repeated=true/\kNum f.Kind=false then v.R.From else v.R.At) v.R.To=some (pc18 f (thOf b v)):=by
  unfold pc18;split
  ·exact hc2
  ·exact hc1
 unfold zkh gat1;rw [zzo,sb];have e1:(if f.Repeated=true then some (!kNum f.Kind) else some false)=some (decide (f.Repeated=true/\kNum f.Kind=false)):=by
  cases f.Repeated<;>cases kNum f.Kind<;>rfl
 rw [e1,sb];have e2:(if decide (f.Repeated=true/\kNum f.Kind=false)=true then some v.R.From else some v.R.At)=some (if f.Repeated=true/\kNum f.Kind=false then v.R.From else v.R.At):=by
  by_cases h:f.Repeated=true/\kNum f.Kind=false
  ·rw [xq h,xq (by simpa using h)]
  ·rw [xp h,xp (by simpa using h)]
 rw [e2,sb,hp,sb,sb];by_cases hl:f.Repeated=false/\f.Kind≠17
 ·rw [xq hl,itT (by simp [hl.1,hl.2])]
 ·rw [xp hl];by_cases h0:a=[]
  ·subst h0;rw [itT (by simp),xG]
  ·have kl:a.length≠0:=fun e=>h0 (yA e)
   have hc:((!f.Repeated&&(f.Kind !=17))|| ((a.length:Int)==0))=false:=by
    have g1:(!f.Repeated&&(f.Kind !=17))=false:=by
     cases hr:f.Repeated
     ·have:f.Kind=17:=ul fun h=>hl ⟨hr,h⟩
      simp [this]
     ·rfl
    rw [g1,q9];simpa using kl
   rw [itF hc,zcF (by omega),sb]
theorem zNY {s:List Mes} {d:Nat} {k:Int} {b:List UInt8} (h:zN s d k b=none):∀t∈ths (zo s k) b,∃(n w:Int) (a:Nat),rec5 t.raw= .inr (n,w,a,t.raw.length)/\t.val=t.raw.drop a/\1<=a/\a<=t.raw.length:=by
 intro t ht;rw [zmZ h] at ht;obtain ⟨r,hr,rfl⟩:=xz.1 ht;obtain ⟨n,w,f,a,u,hre,hrec,h1,h2,h3⟩:=zGG b 0 b rfl (xC _) r hr;have hrl:((b.drop f).take u).length=u:=by simp;omega
 have hraw:rawB b r=(b.drop f).take u:=by
  unfold rawB;rw [hre];simp only [xD];rw [show f+u - f=u by omega]
 have hval:valB b r=((b.drop f).take u).drop a:=by
  unfold valB;rw [hre];simp only [xD];rw [qI,yh,show f+u - (f+a)=u - a by omega]
 refine ⟨n,w,a,?_,?_,h1,?_⟩
 ·show rec5 (rawB b r)= .inr (n,w,a,(rawB b r).length);rw [hraw,hrl];exact zui hrec
 ·show valB b r=(rawB b r).drop a;rw [hraw,hval]
 ·show a<=(rawB b r).length;rw [hraw,hrl];exact h2
def encT (s:List Mes) (f:Fld) (T:List Th):List UInt8:=if 0<zaq (valT (ofM s) f T) then encV s (valT (ofM s) f T) f else []
theorem zvF {f:Fld} (h:¬(f.Repeated=false/\f.Kind≠17)):∀(T:List Th) (a:List UInt8),T.foldl (gat1 f) a=a++T.flatMap (pc18 f)
 | [],a=>by simp
 | t::T,a=>by
  rw [yc,zvF h T,xI];unfold gat1;rw [xp h,yk]
theorem zwI {f:Fld} (h:f.Repeated=false/\f.Kind≠17):∀(T:List Th) (a:List UInt8),T≠[]->T.foldl (gat1 f) a=(zco f T).flatMap (·.val)
 | [],_,hT=>absurd rfl hT
 | [t],a,_=>by
  have hp:zco f [t]=[t]:=by unfold zco;simp
  rw [hp,yc,pU];unfold gat1 pc18;rw [xq h,xp (by rw [h.1];simp)];simp
 | t::u::T,a,_=>by
  rw [yc,zwI h (u::T) _ (by simp),zue,xp (by rw [h.1];simp)]
theorem ztA {k:Int} (hk:kNum k=true):∀(T:List Th),(∀t∈T,(zai k t.val).2=0)->zai k (T.flatMap (·.val))=(T.flatMap (fun t=>(zai k t.val).1),0)
 | [],_=>by
  rw [qm,qm,zqY hk (by rw [ziQ]),ziQ];rfl
 | t::T,h=>by
  have ih:=ztA hk T fun u hu=>h u (xt _ hu)
  obtain ⟨h1,h2⟩:=zBA (k:=k) (a:=t.val) (b:=T.flatMap (·.val)) (h t xr);rw [ih] at h1 h2;rw [xI,xI];exact pm (h2 rfl) h1
theorem zFw {k:Int} {g:List UInt8} (h:(zai k g).2=0) (h1:(zai k g).1=[]):g=[]:=by
 obtain ⟨_,h3,h4⟩:=zku h;rw [h1] at h4;have h5:=zxr k g h3;rw [List.map_eq_nil_iff.1 h4.symm] at h5;exact h5.symm
theorem zHE {f:Fld} (hk:kNum f.Kind=true) {n1:1<=f.Number} {n2:f.Number<=536870911} {out g:List UInt8} (ho:out.length<=70368744177664) (hg:g.length<=520000) {ws:List Int} (hw:zai f.Kind g=(ws,0)) (h1:f.Repeated=false->ws.length<=1):
  zlx out f g=some (out++if ws=[] then [] else if f.Repeated=true then put5 f.Number 2 (ws.flatMap (sPut f.Kind)) else put5 f.Number (zaa f.Kind) (sPut f.Kind (ws.headD 0))):=by
 have hwl:=zyg f.Kind g;have hbd:=zDS f.Kind g;have htw:=zvg hk g;rw [hw] at hwl hbd htw;simp only at hwl hbd htw;have hr2:zbx f.Number 2=true:=zeC.2 ⟨n1,n2,by omega⟩;have hrw:zbx f.Number (zaa f.Kind)=true:=zuH (by
  have:1<=f.Kind/\f.Kind<=14:=yq hk;exact xQ (by omega)) n1 n2
 unfold zlx;by_cases h0:g=[]
 ·subst h0;have:ws=[]:=by
   have:=zyg f.Kind [];rw [hw] at this;exact yA (by simpa using this)
  rw [itT (by simp),xq this,xY]
 ·have kl:ws≠[]:=fun e=>h0 (zFw (k:=f.Kind) (by rw [hw]) (by rw [hw];exact e))
  rw [itF (by simp;exact h0),zHR _ (by omega),sb,hw,zJX _ hbd (by omega),sb,xq hk,xp kl];cases hr:f.Repeated with
  | true=>rw [itT rfl,zAQ ho (by simp only;omega) hr2 rfl,sb,xq rfl]
  | false=>
   have hl:ws.length=1:=by
    have:=h1 hr;have:ws.length≠0:=fun e=>kl (yA e)
    omega
   obtain ⟨x,rfl⟩:=pR.1 hl;have hx:=hbd x xr;have hpl:=zkm (k:=f.Kind) hx;have hfit:zbu (zaa f.Kind) (sPut f.Kind x)=true:=by
    have:=zsV hk [x] (fun w hw=>by rw [yg.1 hw];exact hx);refine (zsU hk (([x]:List Int).flatMap (sPut f.Kind)) _ ?_).1;rw [this];simp
   have hnw:zkW f.Kind=some (zaa f.Kind):=zJD hk;rw [itF rfl,hnw,sb];simp only [pS,pk];rw [zAQ ho (by omega) hrw hfit,sb,xp (by simp)]
abbrev RecM:=zP->List UInt8->Int->List UInt8->Option (List UInt8×zhz)
abbrev RecF:=zP->List UInt8->Fld->List UInt8->Option (List UInt8×zhz)
def zFy (s:List Mes) (e:Nat) (rec:RecM):Prop:=∀(k:Nat) (v out:List UInt8) (met:zhz),k<s.length->v.length<=520000->out.length+(e+1)*4194304<=35184372088832->zN s e k v=none->zhA s met->
 ∃wZ,rec ⟨s,met⟩ out k v=some (out++zcl s k v,wZ)/\zhA s wZ/\zjf met wZ
theorem zHD {s:List Mes} (hs:zdA s) {d:Nat} {r1 r3:RecF} {r2:RecM} {f:Fld} (n1:1<=f.Number) (n2:f.Number<=536870911) {v out:List UInt8} (hv:v.length<=520000) (ho:out.length+d*4194304<=35184372088832)
  (wT:f.Kind=17->0<=f.Of/\f.Of<s.length/\∃e,d=e+1/\zFy s e r2/\zN s e f.Of v=none) {met:zhz} (hm:zhA s met):
  ∃wZ,zet r1 r2 r3 ⟨s,met⟩ out f v=some (out++put5 f.Number 2 (if f.Kind=17 then zcl s f.Of v else v),wZ)/\zhA s wZ/\zjf met wZ:=by
 have hr2:zbx f.Number 2=true:=zeC.2 ⟨n1,n2,by omega⟩;unfold zet;by_cases hk:f.Kind=17
 ·obtain ⟨o1,o2,e,hd,hrec,hf⟩:=wT hk;obtain ⟨k,hk'⟩:∃k:Nat,f.Of=k:=⟨f.Of.toNat,by omega⟩;rw [hk'] at hf o2;have hkl:k<s.length:=by omega
  subst hd;obtain ⟨wZ,h1,h2,h3⟩:=hrec k v out met hkl hv ho hf hm;have htw:=zrM hs _ v e k rfl hkl hf;refine ⟨wZ,?_,h2,h3⟩;have wY:IntKind.i64.wrap (((out++zcl s k v).length:Int) - (out.length:Int))=((zcl s k v).length:Int):=by
   rw [xy,uL];omega
  have hin:insO (out++zcl s k v) (out.length:Int) (enc (tW f.Number 2)++enc (zcl s k v).length)=some (out++put5 f.Number 2 (zcl s k v)):=by
   obtain ⟨_,wS⟩:=zvc hr2;have g1:=zkx (v:=tW f.Number 2) (by omega);have g2:=zkx (v:=(zcl s k v).length) (by omega);unfold insO;rw [xq ⟨by omega,by simp only [xy];omega,by simp only [xy];omega⟩,xD,qf,pN];unfold put5;rw [xq rfl];simp only [yk]
  rw [itF (by simp [hk]),xq hk,hk',h1,sb];simp only;rw [wY,zHA hr2 (by omega),sb,hin,sb]
 ·refine ⟨met,?_,hm,.refl _⟩;rw [itT (by simp [hk]),xp hk,zAQ (by omega) (by omega) hr2 rfl,sb]
def zpR (s:List Mes) (f:Fld) (v:List UInt8):List UInt8:=put5 f.Number 2 (if f.Kind=17 then zcl s f.Of v else v)
theorem ziI {α β:Type} {f g:α->List β}:∀{l:List α},(∀t∈l,f t=g t)->l.flatMap f=l.flatMap g
 | [],_=>rfl
 | t::l,h=>by rw [xI,xI,h t xr,ziI fun u hu=>h u (xt _ hu)]
theorem zuM {s:List Mes} {d:Nat} {r3:RecF} {f:Fld} {T:List Th} (hraw:∀t∈T,∃(n w:Int) (a:Nat),rec5 t.raw= .inr (n,w,a,t.raw.length)/\t.val=t.raw.drop a/\1<=a/\a<=t.raw.length) (hb:(T.flatMap (·.raw)).length<=520000)
  (h3:∀t∈T,∀(out:List UInt8) (met:zhz),out.length+d*4194304<=35184372088832->zhA s met->∃wZ,r3 ⟨s,met⟩ out f t.val=some (out++zpR s f t.val,wZ)/\zhA s wZ/\zjf met wZ) (m0:zhz):
  ∀(post pre:List Th) (out:List UInt8) (met:zhz),T=pre++post->out.length+(post.flatMap fun t=>zpR s f t.val).length+d*4194304<=35184372088832->zhA s met->
   ∃wZ,zdR (T.flatMap (·.raw)) f r3 ⟨s,m0⟩ met out ((pre.flatMap (·.raw)).length:Nat)=some (wZ,out++post.flatMap fun t=>zpR s f t.val)/\zhA s wZ/\zjf met wZ
 | [],pre,out,met,e,ho,hm=>by
  refine ⟨met,?_,hm,.refl _⟩;rw [xY] at e;subst e;refine zoq ?_;unfold zcH;rw [uI];simp
 | t::post,pre,out,met,e,ho,hm=>by
  have ht:t∈T:=by rw [e];simp
  obtain ⟨n,w,a,hrec,hval,ha1,ha2⟩:=hraw t ht;rw [xI,xy] at ho;obtain ⟨met1,g1,g2,g3⟩:=h3 t ht out met (by omega) hm;obtain ⟨met2,k1,k2,k3⟩:=zuM hraw hb h3 m0 post (pre++[t]) (out++zpR s f t.val) met1 (by rw [e];simp) (by rw [xy];omega) g2;refine ⟨met2,?_,k2,g3.trans k3⟩;have hB:T.flatMap (·.raw)=pre.flatMap (·.raw)++(t.raw++post.flatMap (·.raw)):=by rw [e];simp
  have wY:(T.flatMap (·.raw)).length=(pre.flatMap (·.raw)).length+(t.raw.length+(post.flatMap (·.raw)).length):=by rw [hB];simp
  have hto:((pre++[t]).flatMap (·.raw)).length=(pre.flatMap (·.raw)).length+t.raw.length:=by simp
  have hdrop:(T.flatMap (·.raw)).drop (pre.flatMap (·.raw)).length=t.raw++post.flatMap (·.raw):=by rw [hB,pN]
  rw [hto] at k1
  generalize T.flatMap (·.raw)=B at hb wY hdrop k1|-
  generalize (pre.flatMap (·.raw)).length=p at wY hdrop k1|-
  have hnx:zbJ B (p:Int)=(⟨n,w,(p:Int),((p+a:Nat):Int),((p+t.raw.length:Nat):Int)⟩,0):=by
   unfold zbJ;rw [xp (by omega),xD,hdrop,zuP _ _ hrec];push_cast;rfl
  have hcut:cut B ((p+a:Nat):Int) ((p+t.raw.length:Nat):Int)=some t.val:=by
   rw [zgv rfl rfl (by omega) (by omega),<-yh,hdrop,pI ha2,hval,show p+t.raw.length - (p+a)=(t.raw.drop a).length by rw [xW];omega,qf]
  rw [xI,<-yk];refine (zop (wv2':=met1) (out2':=out++zpR s f t.val) (fromv':=((p+t.raw.length:Nat):Int)) ?_).trans k1;unfold zcH;rw [uJ,zsN (by omega),hnx,sb];simp only;rw [hcut,sb,g1,sb]
def zOh (s:List Mes) (d:Nat) (f:Fld) (rec:RecF):Prop:=∀(v out:List UInt8) (met:zhz),v.length<=520000->out.length+d*4194304<=35184372088832->(f.Kind=17->∃e,d=e+1/\zN s e f.Of v=none)->zhA s met->
 ∃wZ,rec ⟨s,met⟩ out f v=some (out++zpR s f v,wZ)/\zhA s wZ/\zjf met wZ
theorem zLL {s:List Mes} {d:Nat} {r1 r3:RecF} {r2:RecM} {f:Fld} (n1:1<=f.Number) (n2:f.Number<=536870911) (hkr:zaY f.Kind=true) {T:List Th} (hT:T≠[]) (w6:∀t∈T,OkF f t) (hw:kNum f.Kind=true->∀t∈T,(zai f.Kind t.val).2=0)
  (hraw:∀t∈T,∃(n w:Int) (a:Nat),rec5 t.raw= .inr (n,w,a,t.raw.length)/\t.val=t.raw.drop a/\1<=a/\a<=t.raw.length) (hb1:(T.flatMap (·.raw)).length<=520000) (hb2:(T.flatMap (·.val)).length<=520000)
  (h3:zOh s d f r3) (wT:f.Kind=17->(∀t∈T,∃e,d=e+1/\zN s e f.Of t.val=none)) {out:List UInt8} (ho:out.length+(encT s f T).length+d*4194304<=35184372088832) {met:zhz} (hm:zhA s met):
  ∃wZ,zes r1 r2 r3 ⟨s,met⟩ out f (T.foldl (gat1 f) [])=some (out++encT s f T,wZ)/\zhA s wZ/\zjf met wZ:=by
 have hmul:∀t∈T,t.val.length<=(T.flatMap (·.val)).length:=fun t ht=>by
  obtain ⟨x,y,rfl⟩:=List.append_of_mem ht;simp only [yE,xI,xy];omega
 have hlast:f.Repeated=false->∃t,t∈T/\zco f T=[t]:=fun hr=>by
  unfold zco;rw [xp (by rw [hr];simp)];have hl:T.length≠0:=fun e=>hT (yA e)
  refine ⟨T[T.length - 1],xB _,?_⟩;rw [yl (by omega),yy (by omega)]
 unfold zes;rw [zzo,sb];cases hk:kNum f.Kind with
 | true=>
  have h17':f.Kind≠17:=fun e=>by rw [e] at hk;cases hk
  have hx:¬(f.Kind=15\/f.Kind=16):=fun e=>by rcases e with e| e<;>rw [e] at hk<;>cases hk
  have hg:T.foldl (gat1 f) []=(zco f T).flatMap (·.val):=by
   cases hr:f.Repeated with
   | true=>
    rw [zvF (by rw [hr];simp),xG];have:zco f T=T:=by unfold zco;rw [xq hr]
    rw [this];refine ziI fun t _=>?_
    unfold pc18;rw [xp (by rw [hk];simp)]
   | false=>exact zwI ⟨hr,h17'⟩ T [] hT
  have hps:∀t∈zco f T,t∈T:=fun t ht=>by
   unfold zco at ht;split at ht
   ·exact ht
   ·exact pt ht
  have hws:=ztA hk (zco f T) fun t ht=>hw hk t (hps t ht)
  have hgl:((zco f T).flatMap (·.val)).length<=520000:=by
   cases hr:f.Repeated with
   | true=>
    have:zco f T=T:=by unfold zco;rw [xq hr]
    rw [this];exact hb2
   | false=>
    obtain ⟨t,ht,e⟩:=hlast hr;rw [e];simp only [pS];have:=hmul t ht;omega
  have hone:f.Repeated=false->((zco f T).flatMap fun t=>(zai f.Kind t.val).1).length<=1:=fun hr=>by
   obtain ⟨t,ht,e⟩:=hlast hr;have ka:t.run=false:=by
    cases h:t.run with
    | false=>rfl
    | true=>have:=((w6 t ht).1 h).2;rw [hr] at this;cases this
   rw [e];simp only [pS];rw [zqZ hk ((w6 t ht).2 ka).2];simp
  refine ⟨met,?_,hm,.refl _⟩;rw [itT rfl,hg,zHE hk (n1:=n1) (n2:=n2) (by omega) hgl hws hone,sb];congr 3;unfold encT valT;rw [xp h17',xp hx]
  generalize ((zco f T).flatMap fun t=>(zai f.Kind t.val).1)=ws
  have hmy:zaq (⟨f.Number,ws,[],[]⟩:Vlu)=ws.length:=by unfold zaq;simp
  rw [hmy,encV,xq hk];by_cases h0:ws=[]
  ·rw [xq h0,xp (by rw [h0];simp)]
  ·have hl:ws.length≠0:=fun e=>h0 (yA e)
   rw [xp h0,xq (show 0<ws.length by omega)]
 | false=>
  rw [itF rfl];have hkk:f.Kind=17\/(f.Kind≠17/\(f.Kind=15\/f.Kind=16)):=by
   have h1:1<=f.Kind/\f.Kind<=17:=yq hkr;have h2:¬(1<=f.Kind/\f.Kind<=14):=pT hk;omega
  cases hr:f.Repeated with
  | false=>
   have key:∃g,T.foldl (gat1 f) []=g/\g.length<=520000/\(f.Kind=17->∃e,d=e+1/\zN s e f.Of g=none)/\encT s f T=zpR s f g:=by
    rcases hkk with h| ⟨h,hx⟩
    ·refine ⟨T.flatMap (·.val),?_,hb2,fun _=>?_,?_⟩
     ·rw [zvF (by rw [h];simp),xG];refine ziI fun t _=>?_
      unfold pc18;rw [xp (by rw [hr];simp)]
     ·obtain ⟨t0,r0,e0⟩:=uB hT;obtain ⟨e,he,_⟩:=wT h t0 (by rw [e0];exact xr);refine ⟨e,he,?_⟩;rw [List.flatMap_def];refine zsx _ fun v hv=>?_
      obtain ⟨t,ht,rfl⟩:=xz.1 hv;obtain ⟨e',he',hf⟩:=wT h t ht;have:e'=e:=by omega
      rw [<-this];exact hf
     ·unfold encT valT zpR;rw [xq h,hr,xq h];simp only [yZ,yu];rw [xq (by unfold zaq;simp),encV,xp (by rw [hk];simp),zhD,zhD];simp only [qm,xG,xY];rfl
    ·obtain ⟨t,ht,e⟩:=hlast hr;refine ⟨t.val,?_,by have:=hmul t ht;omega,fun h'=>absurd h' h,?_⟩
     ·rw [zwI ⟨hr,h⟩ T [] hT,e];simp
     ·unfold encT valT zpR;rw [xp h,xq hx,xp h,e];rw [xq (by unfold zaq;simp),encV,xp (by rw [hk];simp),zhD];simp
   obtain ⟨g,h1,h2,h3',h4⟩:=key;obtain ⟨wZ,k1,k2,k3⟩:=h3 g out met h2 (by omega) h3' hm;refine ⟨wZ,?_,k2,k3⟩;rw [uG,h1,k1,sb,h4]
  | true=>
   have hg:T.foldl (gat1 f) []=T.flatMap (·.raw):=by
    rw [zvF (by rw [hr];simp),xG];refine ziI fun t _=>?_
    unfold pc18;rw [xq ⟨hr,hk⟩]
   have hen:encT s f T=T.flatMap fun t=>zpR s f t.val:=by
    have hl:T.length≠0:=fun e=>hT (yA e)
    have hp:zco f T=T:=by unfold zco;rw [xq hr]
    unfold encT valT zpR;rcases hkk with h| ⟨h,hx⟩
    ·rw [xq h,hr,xq rfl,xq (by unfold zaq;simp;omega),encV,xp (by rw [hk];simp),zrI];simp only [qm,xG,q6,h,yo];rfl
    ·rw [xp h,xq hx,hp,xq (by unfold zaq;simp;omega),encV,xp (by rw [hk];simp),zhD];simp only [xY,q6,h,yu]
   rw [hen] at ho;obtain ⟨wZ,k1,k2,k3⟩:=zuM (s:=s) (d:=d) (r3:=r3) (f:=f) hraw hb1 (fun t ht out met ho hm=>h3 t.val out met (by have:=hmul t ht;omega) ho (fun h=>wT h t ht) hm) met T [] out met rfl ho hm;refine ⟨wZ,?_,k2,k3⟩;have k1':zdR (T.flatMap (·.raw)) f r3 ⟨s,met⟩ met out 0=_:=k1;rw [uH,hg,k1',sb,hen]
abbrev zrE:=List (Int×List UInt8)
def kn18 (m:Mes) (b:List UInt8) (acc:zrE) (v:Vw):zrE:=if v.Field= -1 then acc else mput acc v.R.Number (gat1 (zr m v.Field) ((mget acc v.R.Number).getD []) (thOf b v))
theorem zCB (m:Mes) (b:List UInt8) (n:Int):∀(L:List Vw) (acc:zrE),(mget (L.foldl (kn18 m b) acc) n).getD []=(zeV L n).foldl (fun a v=>gat1 (zr m v.Field) a (thOf b v)) ((mget acc n).getD [])
 | [],acc=>by simp [zeV]
 | v::L,acc=>by
  rw [yc,zCB m b n L];unfold zeV;rw [yJ];unfold kn18;by_cases hf:v.Field= -1
  ·rw [xq hf,xp (by simp [hf])]
  ·rw [xp hf,zft];by_cases hn:v.R.Number=n
   ·rw [xq hn.symm,xq (by simp [hf,hn]),yc,hn];rfl
   ·rw [xp (fun e=>hn e.symm),xp (by simp [hn])]
theorem zCd (m:Mes) (b:List UInt8) {i:Int}:∀(L:List Vw) (a:List UInt8),(∀v∈L,v.Field=i)->L.foldl (fun a v=>gat1 (zr m v.Field) a (thOf b v)) a=(L.map (thOf b)).foldl (gat1 (zr m i)) a
 | [],a,_=>rfl
 | v::L,a,h=>by
  rw [yc,xH,yc,h v xr];exact zCd m b L _ fun u hu=>h u (xt _ hu)
theorem zCp {κ α β:Type} [DecidableEq κ]:∀{a:List (κ×α)} {c:List (κ×β)},a.map Prod.fst=c.map Prod.fst->∀k,(mget a k).isSome=(mget c k).isSome
 | [],[],_,_=>rfl
 | [],_::_,h,_=>by simp at h
 | _::_,[],h,_=>by simp at h
 | p::a,q::c,h,k=>by
  simp only [xH,yG] at h;rw [mget,mget,h.1];split
  ·rfl
  ·exact zCp h.2 k
theorem zzh (m:Mes) (b:List UInt8):∀(L:List Vw) (a:zrE) (c:List (Int×List PVw)),a.map Prod.fst=c.map Prod.fst->(L.foldl (kn18 m b) a).map Prod.fst=(L.foldl kn14 c).map Prod.fst
 | [],a,c,h=>h
 | v::L,a,c,h=>by
  rw [yc,yc];refine zzh m b L _ _ ?_;unfold kn18 kn14;split
  ·exact h
  ·rw [zjy,zjy,h];have:=zCp h v.R.Number;cases h1:mget a v.R.Number<;>cases h2:mget c v.R.Number<;>rw [h1,h2] at this<;>first| rfl| cases this
theorem zCx {α β:Type} {a:List (Int×α)} {c:List (Int×β)} (h:a.map Prod.fst=c.map Prod.fst):znt a=znt c:=by
 have h1:(a.all fun p=>(Lit.int .i64 p.1).wf)=(c.all fun p=>(Lit.int .i64 p.1).wf):=by
  have e1:(a.all fun p=>(Lit.int .i64 p.1).wf)=(a.map Prod.fst).all fun n=>(Lit.int .i64 n).wf:=by rw [List.all_map];rfl
  have e2:(c.all fun p=>(Lit.int .i64 p.1).wf)=(c.map Prod.fst).all fun n=>(Lit.int .i64 n).wf:=by rw [List.all_map];rfl
  rw [e1,e2,h]
 have h2:a.length=c.length:=by simpa using congrArg List.length h
 unfold znt;rw [h1,h2,h]
theorem zIP (f:Fld) (a:List UInt8) (t:Th):(gat1 f a t).length<=a.length+max t.raw.length t.val.length:=by
 unfold gat1 pc18;split<;>split<;>(try rw [xy])<;>omega
theorem zJw {m:Mes} {b:List UInt8} {base:Nat} {n w:Int} {a t:Nat} (wS:base<b.length) (h:rec5 (b.drop base)= .inr (n,w,a,t)) {p:Int×Bool} (hv:vw m n w= .inr p):
  zcn m b base=(⟨⟨n,w,(base:Int),((base+a:Nat):Int),((base+t:Nat):Int)⟩,p.1,p.2⟩,0):=by
 have e:zbJ b base=(⟨n,w,base,(base+a:Nat),(base+t:Nat)⟩,0):=by
  unfold zbJ;rw [xp (by omega),xD,h];push_cast;rfl
 unfold zcn;rw [e];simp only [ne_eq,qb,yu,hv]
def vwOf (m:Mes) (r:Rec):Vw:=⟨r,(vwG m r).1,(vwG m r).2⟩
theorem zEN {s:List Mes} (hs:zdA s) {k:Nat} (hk:k<s.length) {b:List UInt8} (hb:b.length<=520000) (m0:zhz):∀(base:Nat) (l:List UInt8),base<=b.length->l=b.drop base->(spl base l).2=none->
  (∀r∈(spl base l).1,∃p,vw (zo s k) r.Number r.Wire= .inr p)->∀(met:zhz) (ko:zrE) (wR:List UInt8),zhA s met->(∀n,((mget ko n).getD []).length<=base)->wR.length<=base->
  ∃wZ,zbW b k ⟨s,m0⟩ (zo s k) met ko wR base=some (wZ,((spl base l).1.map (vwOf (zo s k))).foldl (kn18 (zo s k) b) ko,wR++(unkO (((spl base l).1.map (vwOf (zo s k))).map (thOf b))).flatten)/\
   zhA s wZ/\zjf met wZ/\∀r∈(spl base l).1,mget wZ ⟨k,r.Number⟩=some (vwOf (zo s k) r).Field:=by
 have hmm:zo s (k:Int)∈s:=by rw [zcg hk];exact xB hk
 have hfew:=hs.few _ hmm
 refine zha (fun base l=>base<=b.length->l=b.drop base->(spl base l).2=none->
  (∀r∈(spl base l).1,∃p,vw (zo s k) r.Number r.Wire= .inr p)->∀(met:zhz) (ko:zrE) (wR:List UInt8),zhA s met->(∀n,((mget ko n).getD []).length<=base)->wR.length<=base->
  ∃wZ,zbW b k ⟨s,m0⟩ (zo s k) met ko wR base=some (wZ,((spl base l).1.map (vwOf (zo s k))).foldl (kn18 (zo s k) b) ko,wR++(unkO (((spl base l).1.map (vwOf (zo s k))).map (thOf b))).flatten)/\
   zhA s wZ/\zjf met wZ/\∀r∈(spl base l).1,mget wZ ⟨k,r.Number⟩=some (vwOf (zo s k) r).Field) ?_ ?_ ?_
 ·intro base hbase hl _ _ met ko wR hm _ _;have:b.length<=base:=by have:=congrArg List.length hl;simp at this;omega
  rw [zdZ];refine ⟨met,?_,hm,.refl _,fun r hr=>by cases hr⟩;refine zmU ?_;unfold zbm;rw [uK];simp [unkO]
 ·intro base l c hl h _ _ _ hn;rw [zfY hl h] at hn;cases hn
 ·intro base l n w a t hl h _ g1 g2 g3 ih hbase hld hn hv met ko wR hm hkn hrest;subst hld;simp only [xW] at g3;have wS:base<b.length:=by have:=qr.2 hl;simp at this;omega
  rw [zcz hl h] at hn hv|-;obtain ⟨p,hp⟩:=hv _ xr;have hlook:=zJw wS h hp;obtain ⟨met1,k1,k2,k3,k4⟩:=zJA hs hk (by omega) hlook hm;simp only at k1 k4;have hvw:vwOf (zo s k) ⟨n,w,(base:Int),((base+a:Nat):Int),((base+t:Nat):Int)⟩=⟨⟨n,w,(base:Int),((base+a:Nat):Int),((base+t:Nat):Int)⟩,p.1,p.2⟩:=by
   unfold vwOf vwG;simp only at hp;rw [hp]
  have hfi:=(zCL hlook).2;simp only at hfi;have hat:At14 b [⟨⟨n,w,(base:Int),((base+a:Nat):Int),((base+t:Nat):Int)⟩,p.1,p.2⟩]:=fun v hv=>by
   rw [yg.1 hv];refine ⟨?_,?_,?_,?_⟩<;>simp only<;>omega
  have hcr:=zFG hat (yg.2 rfl);simp only at hcr;have hraw:rawB b ⟨n,w,(base:Int),((base+a:Nat):Int),((base+t:Nat):Int)⟩=(b.drop base).take t:=by
   unfold rawB;simp only [xD];rw [show base+t - base=t by omega]
  have hrl:(rawB b ⟨n,w,(base:Int),((base+a:Nat):Int),((base+t:Nat):Int)⟩).length=t:=by rw [hraw];simp;omega
  have hvl:(valB b ⟨n,w,(base:Int),((base+a:Nat):Int),((base+t:Nat):Int)⟩).length<=t:=by unfold valB;simp only [xD,xO,xW];omega
  have hih:=ih (by omega) (by rw [yh]) hn (fun r hr=>hv r (xt _ hr));rw [xH,xH,yc,hvw];by_cases hf:p.1= -1
  ·obtain ⟨met2,q1,q2,q3,q4⟩:=hih met1 ko (wR++rawB b ⟨n,w,(base:Int),((base+a:Nat):Int),((base+t:Nat):Int)⟩) k2 (fun n=>yi (hkn n) (by omega)) (by rw [xy,hrl];omega);refine ⟨met2,?_,q2,k3.trans q3,fun r hr=>?_⟩
   ·have e1:kn18 (zo s k) b ko ⟨⟨n,w,(base:Int),((base+a:Nat):Int),((base+t:Nat):Int)⟩,p.1,p.2⟩=ko:=by unfold kn18;rw [xq hf]
    have e2:∀X:List Th,(unkO (thOf b ⟨⟨n,w,(base:Int),((base+a:Nat):Int),((base+t:Nat):Int)⟩,p.1,p.2⟩::X)).flatten=rawB b ⟨n,w,(base:Int),((base+a:Nat):Int),((base+t:Nat):Int)⟩++(unkO X).flatten:=fun X=>by
     unfold unkO;rw [yJ,xq (by show decide (p.1<0)=true;rw [hf];rfl),xH,qi];rfl
    rw [e1,e2,<-yk];refine (zhN ?_).trans q1;unfold zbm;rw [uJ,k1,sb,itT (by simp [hf])];simp only;rw [hcr,sb,zcF (by rw [hrl];omega),sb]
   ·cases hr with
    | head=>rw [hvw];exact q3 _ _ k4
    | tail _ hr=>exact q4 r hr
  ·have hnf:0<=p.1/\p.1<(zo s (k:Int)).Fields.length:=by
    rcases zel (zo s (k:Int)) n w with h1| ⟨h1,_⟩| ⟨i,run,h1,_,h2⟩
    ·simp only at hp;rw [hp] at h1;cases h1
    ·simp only at hp;rw [hp] at h1;cases h1;exact absurd rfl hf
    ·simp only at hp;rw [hp] at h1;cases h1;simp only;omega
   have hgat:=zEM (f:=zr (zo s (k:Int)) p.1) (a:=(mget ko n).getD []) (b:=b) (v:=⟨⟨n,w,(base:Int),((base+a:Nat):Int),((base+t:Nat):Int)⟩,p.1,p.2⟩) (by have:=hkn n;omega) (hat _ (yg.2 rfl)) (by omega);have hgl:=zIP (zr (zo s (k:Int)) p.1) ((mget ko n).getD []) (thOf b ⟨⟨n,w,(base:Int),((base+a:Nat):Int),((base+t:Nat):Int)⟩,p.1,p.2⟩);have hgl':(gat1 (zr (zo s (k:Int)) p.1) ((mget ko n).getD []) (thOf b ⟨⟨n,w,(base:Int),((base+a:Nat):Int),((base+t:Nat):Int)⟩,p.1,p.2⟩)).length<=base+t:=by
    have g4:(thOf b ⟨⟨n,w,(base:Int),((base+a:Nat):Int),((base+t:Nat):Int)⟩,p.1,p.2⟩).raw.length=t:=hrl;have g5:(thOf b ⟨⟨n,w,(base:Int),((base+a:Nat):Int),((base+t:Nat):Int)⟩,p.1,p.2⟩).val.length<=t:=hvl;have:=hkn n;omega
   obtain ⟨met2,q1,q2,q3,q4⟩:=hih met1 (mput ko n (gat1 (zr (zo s (k:Int)) p.1) ((mget ko n).getD []) (thOf b ⟨⟨n,w,(base:Int),((base+a:Nat):Int),((base+t:Nat):Int)⟩,p.1,p.2⟩))) wR k2 (fun j=>by
    rw [zft];split
    ·exact hgl'
    ·exact yi (hkn j) (by omega)) (by omega)
   refine ⟨met2,?_,q2,k3.trans q3,fun r hr=>?_⟩
   ·have e1:kn18 (zo s k) b ko ⟨⟨n,w,(base:Int),((base+a:Nat):Int),((base+t:Nat):Int)⟩,p.1,p.2⟩=mput ko n (gat1 (zr (zo s (k:Int)) p.1) ((mget ko n).getD []) (thOf b ⟨⟨n,w,(base:Int),((base+a:Nat):Int),((base+t:Nat):Int)⟩,p.1,p.2⟩)):=by unfold kn18;rw [xp hf]
    have e2:∀X:List Th,unkO (thOf b ⟨⟨n,w,(base:Int),((base+a:Nat):Int),((base+t:Nat):Int)⟩,p.1,p.2⟩::X)=unkO X:=fun X=>by
     unfold unkO;rw [yJ,xp (by show ¬decide (p.1<0)=true;simp;omega)]
    rw [e1,e2];refine (zhN ?_).trans q1;obtain ⟨i,hi⟩:∃i:Nat,p.1=i:=⟨p.1.toNat,by omega⟩;have hix:idx (zo s (k:Int)).Fields p.1=some (zr (zo s (k:Int)) p.1):=by rw [hi,zK rfl (by omega),zbv (by omega)]
    unfold zbm;rw [uJ,k1,sb,itF (by simpa using hf)];simp only;simp only at hgat;rw [hix,sb,hgat,sb]
   ·cases hr with
    | head=>rw [hvw];exact q3 _ _ k4
    | tail _ hr=>exact q4 r hr
theorem zxa {s:List Mes} {k:Nat} {m:Mes} {q:zhz×zrE×List UInt8} {rf:RecF} {ks:List Int} {E:Int->List UInt8} {d:Nat} {m1:zhz} (m0:zhz) (hks:ks.length<=1048576)
  (hrow:∀n∈ks,∃i:Nat,i<m.Fields.length/\mget m1 ⟨k,n⟩=some (i:Int)/\∀(out:List UInt8) (met:zhz),out.length+(E n).length+d*4194304<=35184372088832->zhA s met->
   ∃wZ,rf ⟨s,met⟩ out (zr m (i:Int)) ((mget q.2.1 n).getD [])=some (out++E n,wZ)/\zhA s wZ/\zjf met wZ):
  ∀(c i:Nat) (out:List UInt8) (met:zhz),i+c=ks.length->out.length+((ks.drop i).flatMap E).length+d*4194304<=35184372088832->zhA s met->zjf m1 met->
   ∃wZ,zcX k q rf ks ⟨s,m0⟩ m met out i=some (wZ,out++(ks.drop i).flatMap E)/\zhA s wZ/\zjf met wZ
 | 0,i,out,met,hi,_,hm,_=>by
  have e:ks.drop i=[]:=yy (by omega);refine ⟨met,?_,hm,.refl _⟩;rw [e,qm,xY];refine zmW ?_;unfold zbV;rw [uK]
 | c+1,i,out,met,hi,ho,hm,hle=>by
  have hil:i<ks.length:=by omega
  rw [yl hil,xI,xy] at ho;obtain ⟨j,hj,hmet,hrec⟩:=hrow _ (xB hil);obtain ⟨met1,k1,k2,k3⟩:=hrec out met (by omega) hm;obtain ⟨met2,q1,q2,q3⟩:=zxa m0 hks hrow c (i+1) (out++E ks[i]) met1 (by omega) (by rw [xy];omega) k2 (hle.trans k3);refine ⟨met2,?_,q2,k3.trans q3⟩;have hx:idx ks (i:Int)=some ks[i]:=zK rfl hil;have hw:IntKind.i64.wrap ((i:Int)+1)=((i+1:Nat):Int):=by rw [uL];push_cast;rfl
  have hf:idx m.Fields (j:Int)=some (zr m (j:Int)):=by rw [zK rfl hj,zbv hj]
  rw [yl hil,xI,<-yk];refine (zmV (wv4':=met1) (out2':=out++E ks[i]) (v5':=((i+1:Nat):Int)) ?_).trans q1;unfold zbV;rw [uJ,hx,sb,hle _ _ hmet,pd,hf,sb,k1,sb,hw]
theorem zmR {α β:Type} (p:α->Bool) (g:α->List β):∀l:List α,(l.filter p).flatMap g=l.flatMap fun x=>if p x=true then g x else []
 | []=>rfl
 | x::l=>by
  rw [yJ,xI];split
  ·rw [xI,zmR p g l]
  ·rw [xG,zmR p g l]
theorem zxT {α β:Type} (g:α->List β) {l k:List α} (h:l.Sublist k):(l.flatMap g).length<=(k.flatMap g).length:=by
 induction h with
 | slnil=>exact xw _
 | cons a _ ih=>rw [xI,xy];omega
 | cons_cons a _ ih=>rw [xI,xI,xy,xy];omega
theorem zzp {s:List Mes} (hs:zdA s) {d n:Nat} (hrec:∀e,d=e+1->zFy s e (zbK n)):zFy s d (zbK (n+3)):=by
 intro k b out met hk hb ho hfi hm;have hmi:idx s (k:Int)=some (zo s k):=by rw [zK rfl hk,zcg hk]
 have hmm:zo s (k:Int)∈s:=by rw [zcg hk];exact xB hk
 have hfld:=hs.fld _ hmm;have hall:=zBE hfi;have hL1:(zaC (zo s (k:Int)) b).1=(spl 0 b).1.map (vwOf (zo s k)):=by rw [hall];rfl
 have hths:ths (zo s (k:Int)) b=(zaC (zo s (k:Int)) b).1.map (thOf b):=rfl;have hwt:=zoB (zo s k) b;have hraws:=zNY hfi;have htw:=zrM hs _ b d k rfl hk hfi;have hfrom:=hfi;rw [zfP,zcU] at hfrom;obtain ⟨met1,g1,g2,g3,g4⟩:=zEN hs hk hb met 0 b (xC _) rfl hfrom.2 (fun r hr=>zBl (hfrom.1 r hr)) met [] [] hm (fun n=>by simp [mget]) (by simp);have hvr:∀v∈(zaC (zo s (k:Int)) b).1,mget met1 ⟨k,v.R.Number⟩=some v.Field:=fun v hv=>by
  rw [hL1] at hv;obtain ⟨r,hr,rfl⟩:=xz.1 hv;exact g4 r hr
 rw [<-hL1] at g1;have hLl:(zaC (zo s (k:Int)) b).1.length<=1048576:=yi (zMi _ _) (by omega);have hwf:∀v∈(zaC (zo s (k:Int)) b).1,v.Field≠ -1->(Lit.int .i64 v.R.Number).wf=true:=fun v hv hf=>by
  have h:=(zGP hv).2;rcases zel (zo s (k:Int)) v.R.Number v.R.Wire with h1| ⟨h1,_⟩| ⟨i,run,h1,h2,h3⟩
  ·rw [h] at h1;cases h1
  ·rw [h] at h1;simp only [Sum.inr.injEq,yr] at h1;exact absurd h1.1 hf
  ·rcases zdQ (zo s (k:Int)) v.R.Number with ⟨q1,_⟩| ⟨j,hj,q1,q2,_⟩
   ·omega
   ·have hfo:=hfld _ (xB hj);have:=hfo.lo;have:=hfo.hi;exact zIR (by omega)
 obtain ⟨ks,hks,hkp,hkm⟩:=zCy hwf hLl;obtain ⟨hkn,hvals,hunk⟩:=zHy hs hk hfi hkp hkm;have hkeys:znt ((zaC (zo s (k:Int)) b).1.foldl (kn18 (zo s k) b) [])=some ks:=(zCx (zzh _ b _ [] [] rfl)).trans hks;have hkl:ks.length<=1048576:=by
  have wY:ks.length=((zaC (zo s (k:Int)) b).1.foldl kn14 []).length:=by
   unfold znt at hks;rw [zFk] at hks;split at hks
   ·cases hks;simp
   ·cases hks
  have:=zED (zaC (zo s (k:Int)) b).1 [];simp only [yz] at this;omega
 have hrawl:(((zaC (zo s (k:Int)) b).1.map (thOf b)).flatMap (·.raw)).length<=520000:=by
  have e:=zFj b 0 b rfl (xC _) hfrom.2;rw [hL1,yU,q6];have e2:(spl 0 b).1.flatMap (fun r=>((thOf b∘vwOf (zo s k)) r).raw)=(spl 0 b).1.flatMap (zCZ b):=rfl;rw [e2,e];exact hb
 have hvall:(((zaC (zo s (k:Int)) b).1.map (thOf b)).flatMap (·.val)).length<=520000:=by
  have h1:=zyW ((zaC (zo s (k:Int)) b).1.map (thOf b));rw [hths] at hwt;omega
 -- the form, by numbers
 have hform:zcl s k b=(ks.flatMap fun n=>encT s (zr (zo s (k:Int)) (fldI (zo s (k:Int)) n)) ((zeV (zaC (zo s (k:Int)) b).1 n).map (thOf b)))++(unkO ((zaC (zo s (k:Int)) b).1.map (thOf b))).flatten:=by
  unfold zcl;rw [zmk,hunk,hvals,zrJ,zmR,q6];congr 1;refine ziI fun n hn=>?_
  obtain ⟨i,h1,h2,h3,_⟩:=hkn n hn;have hnum:∀T,(valT (ofM s) (zr (zo s (k:Int)) (i:Int)) T).Number=n:=fun T=>by
   unfold valT;split
   ·exact h2
   ·split<;>exact h2
  rw [h3];unfold encT;rw [hnum,h3];simp only [xP]
 rw [hform,xy] at htw;have hsum:∀n∈ks,(encT s (zr (zo s (k:Int)) (fldI (zo s (k:Int)) n)) ((zeV (zaC (zo s (k:Int)) b).1 n).map (thOf b))).length<=(ks.flatMap fun n=>encT s (zr (zo s (k:Int)) (fldI (zo s (k:Int)) n)) ((zeV (zaC (zo s (k:Int)) b).1 n).map (thOf b))).length:=fun n hn=>by
  obtain ⟨x,y,e⟩:=List.append_of_mem hn;rw [e];simp only [yE,xI,xy];omega
 have hrw:∀n:Int,(mget ((zaC (zo s (k:Int)) b).1.foldl (kn18 (zo s k) b) []) n).getD []=(zeV (zaC (zo s (k:Int)) b).1 n).foldl (fun a v=>gat1 (zr (zo s k) v.Field) a (thOf b v)) []:=fun n=>zCB _ b n _ []
 obtain ⟨met2,q1,q2,q3⟩:=zxa (s:=s) (k:=k) (m:=zo s k) (q:=(met1,(zaC (zo s (k:Int)) b).1.foldl (kn18 (zo s k) b) [],[]++(unkO ((zaC (zo s (k:Int)) b).1.map (thOf b))).flatten)) (rf:=zeA (n+2)) (ks:=ks)
  (E:=fun n=>encT s (zr (zo s (k:Int)) (fldI (zo s (k:Int)) n)) ((zeV (zaC (zo s (k:Int)) b).1 n).map (thOf b))) (d:=d) (m1:=met1) met hkl (fun w hw=>by
   obtain ⟨i,h1,h2,h3,h4,h5,h6⟩:=hkn w hw;have hfm:zr (zo s (k:Int)) (i:Int)∈(zo s (k:Int)).Fields:=by rw [zbv h1];exact xB h1
   have hfo:=hfld _ hfm;refine ⟨i,h1,?_,fun out met hol hmo=>?_⟩
   ·obtain ⟨v,hv,_,hnn⟩:=(hkm w).1 hw;have hb1:=hvr v hv;have hvb:v∈zeV (zaC (zo s (k:Int)) b).1 w:=yb.2 ⟨hv,by
     rename_i hf;simp [hf,hnn]⟩
    rw [hnn,h5 v hvb] at hb1;exact hb1
   ·have hrow:(mget ((zaC (zo s (k:Int)) b).1.foldl (kn18 (zo s k) b) []) w).getD []=((zeV (zaC (zo s (k:Int)) b).1 w).map (thOf b)).foldl (gat1 (zr (zo s (k:Int)) (i:Int))) []:=by
     rw [hrw,zCd _ b _ [] h5]
    have hsub:∀t∈(zeV (zaC (zo s (k:Int)) b).1 w).map (thOf b),t∈ths (zo s (k:Int)) b:=fun t ht=>by
     obtain ⟨v,hv,rfl⟩:=xz.1 ht;exact qF (yb.1 hv).1
    rw [h3] at hol|-;show∃wZ,zeA (n+2) ⟨s,met⟩ out (zr (zo s k) (i:Int)) ((mget ((zaC (zo s (k:Int)) b).1.foldl (kn18 (zo s k) b) []) w).getD [])=_/\_;rw [hrow];show∃wZ,zes (zeA (n+1)) (zbK (n+1)) (zhX (n+1)) ⟨s,met⟩ out (zr (zo s k) (i:Int)) _=_/\_;refine zLL hfo.lo hfo.hi hfo.kind (by simpa using h4) (fun t ht=>(h6 t ht).1) (fun hkk t ht=>?_) (fun t ht=>hraws t (hsub t ht)) ?_ ?_ (fun v out met hvl hol hsub17 hmo=>?_) (fun wT t ht=>?_) hol hmo
    ·obtain ⟨o1,o2,o3⟩:=h6 t ht;cases ka:t.run with
     | false=>rw [zqZ hkk (o1.2 ka).2]
     | true=>
      have:=(o2.run (by omega) ka).2.2;rw [o3] at this;unfold zlp at this;rw [xp (by rw [hkk];simp)] at this;split at this
      ·rename_i h0;rw [zqY hkk h0]
      ·rename_i h0;exact absurd this h0
    ·exact yi (zxT _ (List.Sublist.map (thOf b) (List.filter_sublist (p:=fun v:Vw=>decide (v.Field≠ -1/\v.R.Number=w)) (l:=(zaC (zo s (k:Int)) b).1)))) hrawl
    ·exact yi (zxT _ (List.Sublist.map (thOf b) (List.filter_sublist (p:=fun v:Vw=>decide (v.Field≠ -1/\v.R.Number=w)) (l:=(zaC (zo s (k:Int)) b).1)))) hvall
    ·show∃wZ,zet (zeA n) (zbK n) (zhX n) ⟨s,met⟩ out (zr (zo s k) (i:Int)) v=_/\_;refine zHD hs hfo.lo hfo.hi hvl hol (fun wT=>?_) hmo;have hof:=hfo.sub wT;obtain ⟨e,he,hf⟩:=hsub17 wT;exact ⟨hof.1,hof.2,e,he,hrec e he,hf⟩
    ·obtain ⟨o1,o2,o3⟩:=h6 t ht;have hr:t.run=false:=by
      cases hr:t.run
      ·rfl
      ·have:=(o1.1 hr).1;rw [wT] at this;cases this
     have:=(o2.one (by omega) hr).2.2.2;rw [o3] at this;exact this wT) ks.length 0 out met1 (xL _) (by rw [yd];omega) g2 (.refl _)
 rw [yd] at q1;refine ⟨met2,?_,q2,g3.trans q3⟩;show zeH (zeA (n+2)) (zbK (n+2)) (zhX (n+2)) ⟨s,met⟩ out k b=_;unfold zeH;have g1':zbW b k ⟨s,met⟩ (zo s k) met [] [] 0=_:=g1;have q1':zcX k (met1,(zaC (zo s (k:Int)) b).1.foldl (kn18 (zo s k) b) [],[]++(unkO ((zaC (zo s (k:Int)) b).1.map (thOf b))).flatten) (zeA (n+2)) ks ⟨s,met⟩ (zo s k) met1 out 0=_:=q1;rw [hmi,sb,g1',sb];simp only;rw [hkeys,sb,q1',sb,zcF (by simp only [xy,xG];omega),sb,hform,yk];rfl
theorem zGp {s:List Mes} (hs:zdA s):∀(d fuel:Nat),3*d+3<=fuel->zFy s d (zbK fuel)
 | 0,fuel,hf=>by
  obtain ⟨n,rfl⟩:∃n,fuel=n+3:=⟨fuel - 3,by omega⟩;exact zzp hs fun e he=>by omega
 | d+1,fuel,hf=>by
  obtain ⟨n,rfl⟩:∃n,fuel=n+3:=⟨fuel - 3,by omega⟩;exact zzp hs fun e he=>by
   have:e=d:=by omega
   subst this;exact zGp hs e n (by omega)
theorem zEO {s:List Mes} (hs:zdA s) {fuel d k:Nat} {b:List UInt8} (hf:200<=fuel) (hd:d<=64) (hk:k<s.length) (hb:b.length<=520000) (hv:zN s d k b=none):zki fuel s k b=some (zcl s k b):=by
 obtain ⟨wZ,h,_⟩:=zGp hs d fuel (by omega) k b [] [] hk hb (by simp;omega) hv (fun M n i h=>by cases h);unfold zki;rw [h,sb,xG]
theorem zKY {s:List Mes} {root:Int} {b:List UInt8} {d:Int} (h0:(zaT s root b d).2=0):zdA s/\d.toNat<=64/\∃k:Nat,root=k/\k<s.length/\zN s d.toNat k b=none:=by
 obtain ⟨hr,g1,g2,g3,g4⟩:=zng (zAl h0);obtain ⟨k,rfl⟩:∃k:Nat,root=k:=⟨root.toNat,by omega⟩;exact ⟨hr,by omega,k,rfl,by omega,(zCk.1 (by unfold is11;simpa using h0)).2⟩
theorem zCO {fuel:Nat} {s:List Mes} (root:Int) {b:List UInt8} (d:Int) (hf:300<=fuel) (hw:WS s) (hb:b.length<=520000):zjz fuel s root b d=some (zvE s root b d):=by
 unfold zjz zvE;rw [zIc hw root (by omega) d (by omega),sb];by_cases h0:(zaT s root b d).2=0
 ·have h0':¬(zaT s root b d).2≠0:=fun h=>h h0
  obtain ⟨hr,hd,k,rfl,hk,hv⟩:=zKY h0;rw [itF (by simpa using h0),xp h0',zEO hr (by omega) hd hk hb hv,sb]
 ·rw [itT (by simpa using h0),xq h0]
theorem zJB {fuel:Nat} {s:List Mes} (root:Int) {a b:List UInt8} (d:Int) (hf:300<=fuel) (hw:WS s) (ha:a.length<=520000) (hb:b.length<=520000):znx fuel s root a b d=some (zmu s root a b d):=by
 unfold znx zmu;rw [zCO root d hf hw ha,sb];by_cases h0:(zaT s root a d).2=0
 ·rw [zwG h0,uH,zCO root d hf hw hb,sb];by_cases h1:(zaT s root b d).2=0
  ·rw [zwG h1];simp [zmg,sb,h0,h1]
  ·rw [zuE h1];simp [h0,h1,sb]
 ·rw [zuE h0,xq h0,itT (by simpa using h0)]
end Go.Proofs.YtaglemhabeipfaaGreat

/-
  What the plain functions are. No condition.
-/
import Derived.Test.YtaglemhabeipfaaGreatx2P2
import Derived.Test.YtaglemhabeipfaaGreatx2P1
namespace Go.Proofs.YtaglemhabeipfaaGreat
open Go
set_option linter.unusedVariables false
theorem zMJ {k:Int} (h:kNum k=true):(sPut k 0).length=if 12<=k then 8 else if 9<=k then 4 else 1:=by
 have hc:zbs k 0=0:=by
  unfold zbs;simp [zqX,sgnS]
 unfold sPut ziC;rw [hc];split
 ·rfl
 ·split
  ·rfl
  ·rw [show (0:Int).toNat=0 from rfl,zrh (by omega)];rfl
theorem zzg (k:Int):zgq k=some (kNum k):=by
 unfold zgq;rw [zsH (by omega),sb];cases h:kNum k with
 | false=>rfl
 | true=>
  have:=zMJ h;simp only [yr];congr 1;rw [this];split
  ·rfl
  ·split<;>rfl
theorem zJJ {k:Int} (h:kNum k=true):zkO k=some (zau k):=by
 have hs:=zMJ h;unfold zkO;rw [zsH (by omega),sb,h,xy rfl,hs];clear hs;have hk:1<=k/\k<=14:=yv h;unfold zau;by_cases h1:12<=k
 ·simp [h1,show ¬(15<=k) by omega]
 ·by_cases h2:9<=k
  ·simp [h1,h2,show ¬(15<=k) by omega]
  ·simp [h1,h2,show ¬(15<=k) by omega]
theorem zAM {out v:List UInt8} {n w:Int} (ho:out.length<=70368744177664) (hv:v.length<=1048576) (hr:zbL n w=true) (hf:zbT w v=true):zlr out n w v=some (out++put5 n w v):=by
 have hp:=zCO hr hv;unfold zlr;rw [zAX (by simp) hv,sb,xy ⟨hr,hf⟩,xL,zeD (by simp only;omega),sb]
theorem zHC {n:Int} (hr:zbL n 2=true) {z:Nat} (hz:z<=70368744177664):zlq n (z:Int)=some (enc (tW n 2)++enc z):=by
 obtain ⟨_,wP⟩:=zsJ hr;have h1:=zim (v:=tW n 2) (by omega);have h2:=zim (v:=z) (by omega);unfold zlq;have e0:put5 n 2 []=enc (tW n 2)++[0]:=by
  unfold put5;rw [xy rfl,xW,yB,zrh (v:=0) (by omega)];rfl
 have hw:IntKind.u64.wrap (z:Int)=(z:Int):=by rw [wrap_u64,qh (by omega) (by omega)]
 rw [zGB (by simp) (by simp),sb,xy hr,xL,hw,zBd (by omega),sb,e0];rw [show (0:Int)=((0:Nat):Int) from rfl,zhl (a:=0) (b:=(enc (tW n 2)).length) rfl (by simp only [xD,qH];rw [uO];omega) (xP _) (by simp),sb];have e1:((enc (tW n 2)++[0]).drop 0).take ((enc (tW n 2)).length - 0)=enc (tW n 2):=by simp
 rw [e1];have hk:kNum 4=true:=rfl;rw [hk,xy rfl];have e2:sPut 4 (z:Int)=enc z:=rfl;rw [e2,zeD (by simp only;omega),sb]
abbrev zhi:=List (zi×Int)
def zhj (s:List Mes) (met:zhi):Prop:=∀(M n i:Int),mget met ⟨M,n⟩=some i->i=fldI (zp s M) n
def ziQ (a b:zhi):Prop:=∀(q:zi) (i:Int),mget a q=some i->mget b q=some i
theorem ziQ.refl (a:zhi):ziQ a a:=fun _ _ h=>h
theorem ziQ.trans {a b c:zhi} (h:ziQ a b) (k:ziQ b c):ziQ a c:=fun q i hq=>k q i (h q i hq)
theorem zCD {m:Mes} {b:List UInt8} {p:Int} {v:Vw} (h:zdF m b p=(v,0)):zcJ b p=(v.R,0)/\v.Field=fldI m v.R.Number:=by
 unfold zdF at h;split at h
 ·rename_i hc;simp only [yw] at h;exact absurd h.2 hc
 ·rename_i hc;have h0:(zcJ b p).2=0:=by simpa using hc
  have hn:zcJ b p=((zcJ b p).1,0):=by rw [<-h0]
  split at h
  ·rename_i c hv;simp only [yw] at h;rcases zec m (zcJ b p).1.Number (zcJ b p).1.Wire with h1| ⟨h1,_⟩| ⟨i,run,h1,_⟩
   ·rw [hv] at h1;cases h1;omega
   ·rw [hv] at h1;cases h1
   ·rw [hv] at h1;cases h1
  ·rename_i i run hv;simp only [yw,qJ] at h;subst h;refine ⟨hn,?_⟩;rcases zec m (zcJ b p).1.Number (zcJ b p).1.Wire with h1| ⟨h1,h2⟩| ⟨j,run',h1,h2,_⟩
   ·rw [hv] at h1;cases h1
   ·rw [hv] at h1;cases h1;exact h2.symm
   ·rw [hv] at h1;cases h1;exact h2.symm
theorem zJG {s:List Mes} (hs:zcB s) {k:Nat} (hk:k<s.length) {b:List UInt8} (hb:b.length<=1048576) {p:Int} {v:Vw} (h:zdF (zp s k) b p=(v,0)) {met:zhi} (hm:zhj s met):
  ∃wU,zgI ⟨s,met⟩ k b p=some (v.R,v.Field,wU)/\zhj s wU/\ziQ met wU/\mget wU ⟨k,v.R.Number⟩=some v.Field:=by
 obtain ⟨hn,hf⟩:=zCD h;have hmm:zp s (k:Int)∈s:=by rw [zci hk];exact xH hk
 have hfew:=hs.few _ hmm;unfold zgI;rw [zsl hb,hn,sb];cases hg:mget met ⟨(k:Int),v.R.Number⟩ with
 | some i=>
  have hi:=hm _ _ _ hg;refine ⟨met,?_,hm,.refl _,by rw [hg,hf,hi]⟩;simp only [Option.isSome_some,Bool.not_true,pf];rw [itF rfl,hf,hi]
 | none=>
  refine ⟨mput met ⟨k,v.R.Number⟩ v.Field,?_,fun M n i hi=>?_,fun q i hq=>?_,by rw [zez,xy rfl]⟩
  ·simp only [Option.isSome_none,Bool.not_false,yr];rw [zag rfl hk,sb,<-zci hk,zDz (by omega) hb,sb,h];rfl
  ·rw [zez] at hi;split at hi
   ·rename_i e;cases e;cases hi;exact hf
   ·exact hm M n i hi
  ·rw [zez];split
   ·rename_i e;rw [e,hg] at hq;cases hq
   ·exact hq
def pc18 (f:Fld) (t:Th):List UInt8:=if f.Repeated=true/\kNum f.Kind=false then t.raw else t.val
def gat1 (f:Fld) (a:List UInt8) (t:Th):List UInt8:=if f.Repeated=false/\f.Kind≠17 then pc18 f t else a++pc18 f t
theorem zEF {f:Fld} {a b:List UInt8} {v:Vw} (ha:a.length<=70368744177664) (h:0<=v.R.From/\v.R.From<v.R.At/\v.R.At<=v.R.To/\v.R.To<=b.length) (hb:b.length<=70368744177664):zjN f a b v.R=some (gat1 f a (thOf b v)):=by
 obtain ⟨h1,h2,h3,h4⟩:=h;have hL:At14 b [v]:=fun t ht=>by rw [yl.1 ht];exact ⟨h1,h2,h3,h4⟩
 have hc1:=zve hL (yl.2 rfl);have hc2:=zAp hL (yl.2 rfl);have hpl:(pc18 f (thOf b v)).length<=b.length:=by
  unfold pc18;have e1:(thOf b v).raw=rawB b v.R:=rfl;have e2:(thOf b v).val=valB b v.R:=rfl;split
  ·rw [e1];exact zCV b _
  ·rw [e2];unfold valB;rw [xZ,yi];omega
 have hp:cut b (if f.Repeated=true/\kNum f.Kind=false then v.R.From else v.R.At) v.R.To=some (pc18 f (thOf b v)):=by
  unfold pc18;split
  ·exact hc2
  ·exact hc1
 unfold zjN gat1;rw [zzg,sb];have e1:(if f.Repeated=true then some (!kNum f.Kind) else some false)=some (decide (f.Repeated=true/\kNum f.Kind=false)):=by
  cases f.Repeated<;>cases kNum f.Kind<;>rfl
 rw [e1,sb];have e2:(if decide (f.Repeated=true/\kNum f.Kind=false)=true then some v.R.From else some v.R.At)=some (if f.Repeated=true/\kNum f.Kind=false then v.R.From else v.R.At):=by
  by_cases h:f.Repeated=true/\kNum f.Kind=false
  ·rw [xy h,xy (by simpa using h)]
  ·rw [xx h,xx (by simpa using h)]
 rw [e2,sb,hp,sb,sb];by_cases hl:f.Repeated=false/\f.Kind≠17
 ·rw [xy hl,itT (by simp [hl.1,hl.2])]
 ·rw [xx hl];by_cases h0:a=[]
  ·subst h0;rw [itT (by simp),xL]
  ·have w9:a.length≠0:=fun e=>h0 (yx e)
   have hc:((!f.Repeated&&(f.Kind !=17))|| ((a.length:Int)==0))=false:=by
    have g1:(!f.Repeated&&(f.Kind !=17))=false:=by
     cases hr:f.Repeated
     ·have:f.Kind=17:=up fun h=>hl ⟨hr,h⟩
      simp [this]
     ·rfl
    rw [g1,pU];simpa using w9
   rw [itF hc,zeD (by omega),sb]
theorem zNV {s:List Mes} {d:Nat} {k:Int} {b:List UInt8} (h:zS s d k b=none):∀t∈ths (zp s k) b,∃(n w:Int) (a:Nat),rec5 t.raw= .inr (n,w,a,t.raw.length)/\t.val=t.raw.drop a/\1<=a/\a<=t.raw.length:=by
 intro t ht;rw [zms h] at ht;obtain ⟨r,hr,rfl⟩:=xF.1 ht;obtain ⟨n,w,f,a,u,hre,hrec,h1,h2,h3⟩:=zGE b 0 b rfl (xP _) r hr;have hrl:((b.drop f).take u).length=u:=by simp;omega
 have hraw:rawB b r=(b.drop f).take u:=by
  unfold rawB;rw [hre];simp only [xK];rw [show f+u - f=u by omega]
 have hval:valB b r=((b.drop f).take u).drop a:=by
  unfold valB;rw [hre];simp only [xK];rw [qq,yA,show f+u - (f+a)=u - a by omega]
 refine ⟨n,w,a,?_,?_,h1,?_⟩
 ·show rec5 (rawB b r)= .inr (n,w,a,(rawB b r).length);rw [hraw,hrl];exact ztO hrec
 ·show valB b r=(rawB b r).drop a;rw [hraw,hval]
 ·show a<=(rawB b r).length;rw [hraw,hrl];exact h2
def encT (s:List Mes) (f:Fld) (T:List Th):List UInt8:=if 0<zaM (valT (ofM s) f T) then encV s (valT (ofM s) f T) f else []
theorem zvl {f:Fld} (h:¬(f.Repeated=false/\f.Kind≠17)):∀(T:List Th) (a:List UInt8),T.foldl (gat1 f) a=a++T.flatMap (pc18 f)
 | [],a=>by simp
 | t::T,a=>by
  rw [yd,zvl h T,xM];unfold gat1;rw [xx h,yy]
theorem zwq {f:Fld} (h:f.Repeated=false/\f.Kind≠17):∀(T:List Th) (a:List UInt8),T≠[]->T.foldl (gat1 f) a=(zbK f T).flatMap (·.val)
 | [],_,hT=>absurd rfl hT
 | [t],a,_=>by
  have hp:zbK f [t]=[t]:=by unfold zbK;simp
  rw [hp,yd,q9];unfold gat1 pc18;rw [xy h,xx (by rw [h.1];simp)];simp
 | t::u::T,a,_=>by
  rw [yd,zwq h (u::T) _ (by simp),ztL,xx (by rw [h.1];simp)]
theorem zte {k:Int} (hk:kNum k=true):∀(T:List Th),(∀t∈T,(zas k t.val).2=0)->zas k (T.flatMap (·.val))=(T.flatMap (fun t=>(zas k t.val).1),0)
 | [],_=>by
  rw [qo,qo,zqu hk (by rw [zjA]),zjA];rfl
 | t::T,h=>by
  have ih:=zte hk T fun u hu=>h u (xA _ hu)
  obtain ⟨h1,h2⟩:=zBu (k:=k) (a:=t.val) (b:=T.flatMap (·.val)) (h t xz);rw [ih] at h1 h2;rw [xM,xM];exact pq (h2 rfl) h1
theorem zFl {k:Int} {g:List UInt8} (h:(zas k g).2=0) (h1:(zas k g).1=[]):g=[]:=by
 obtain ⟨_,h3,h4⟩:=zkd h;rw [h1] at h4;have h5:=zCM k g h3;rw [List.map_eq_nil_iff.1 h4.symm] at h5;exact h5.symm
theorem zHF {f:Fld} (hk:kNum f.Kind=true) {n1:1<=f.Number} {n2:f.Number<=536870911} {out g:List UInt8} (ho:out.length<=70368744177664) (hg:g.length<=520000) {ws:List Int} (hw:zas f.Kind g=(ws,0)) (h1:f.Repeated=false->ws.length<=1):
  zls out f g=some (out++if ws=[] then [] else if f.Repeated=true then put5 f.Number 2 (ws.flatMap (sPut f.Kind)) else put5 f.Number (zau f.Kind) (sPut f.Kind (ws.headD 0))):=by
 have hwl:=zxO f.Kind g;have hbd:=zDI f.Kind g;have htw:=zuN hk g;rw [hw] at hwl hbd htw;simp only at hwl hbd htw;have hr2:zbL f.Number 2=true:=zdf.2 ⟨n1,n2,by omega⟩;have hrw:zbL f.Number (zau f.Kind)=true:=zoU (by
  have:1<=f.Kind/\f.Kind<=14:=yv hk;exact xV (by omega)) n1 n2
 unfold zls;by_cases h0:g=[]
 ·subst h0;have:ws=[]:=by
   have:=zxO f.Kind [];rw [hw] at this;exact yx (by simpa using this)
  rw [itT (by simp),xy this,xW]
 ·have w9:ws≠[]:=fun e=>h0 (zFl (k:=f.Kind) (by rw [hw]) (by rw [hw];exact e))
  rw [itF (by simp;exact h0),zzC _ (by omega),sb,hw,zCY _ hbd (by omega),sb,xy hk,xx w9];cases hr:f.Repeated with
  | true=>rw [itT rfl,zAM ho (by simp only;omega) hr2 rfl,sb,xy rfl]
  | false=>
   have hl:ws.length=1:=by
    have:=h1 hr;have:ws.length≠0:=fun e=>w9 (yx e)
    omega
   obtain ⟨x,rfl⟩:=q7.1 hl;have hx:=hbd x xz;have hpl:=ziD (k:=f.Kind) hx;have hfit:zbT (zau f.Kind) (sPut f.Kind x)=true:=by
    have:=zst hk [x] (fun w hw=>by rw [yl.1 hw];exact hx);refine (zxa hk (([x]:List Int).flatMap (sPut f.Kind)) _ ?_).1;rw [this];simp
   have hnw:zkO f.Kind=some (zau f.Kind):=zJJ hk;rw [itF rfl,hnw,sb];simp only [pt,pn];rw [zAM ho (by omega) hrw hfit,sb,xx (by simp)]
abbrev RecM:=zad->List UInt8->Int->List UInt8->Option (List UInt8×zhi)
abbrev RecF:=zad->List UInt8->Fld->List UInt8->Option (List UInt8×zhi)
def zFo (s:List Mes) (e:Nat) (rec:RecM):Prop:=∀(k:Nat) (v out:List UInt8) (met:zhi),k<s.length->v.length<=520000->out.length+(e+1)*4194304<=35184372088832->zS s e k v=none->zhj s met->
 ∃wU,rec ⟨s,met⟩ out k v=some (out++zbn s k v,wU)/\zhj s wU/\ziQ met wU
theorem zHE {s:List Mes} (hs:zcB s) {d:Nat} {r1 r3:RecF} {r2:RecM} {f:Fld} (n1:1<=f.Number) (n2:f.Number<=536870911) {v out:List UInt8} (hv:v.length<=520000) (ho:out.length+d*4194304<=35184372088832)
  (wR:f.Kind=17->0<=f.Of/\f.Of<s.length/\∃e,d=e+1/\zFo s e r2/\zS s e f.Of v=none) {met:zhi} (hm:zhj s met):
  ∃wU,zeg r1 r2 r3 ⟨s,met⟩ out f v=some (out++put5 f.Number 2 (if f.Kind=17 then zbn s f.Of v else v),wU)/\zhj s wU/\ziQ met wU:=by
 have hr2:zbL f.Number 2=true:=zdf.2 ⟨n1,n2,by omega⟩;unfold zeg;by_cases hk:f.Kind=17
 ·obtain ⟨o1,o2,e,hd,hrec,hf⟩:=wR hk;obtain ⟨k,hk'⟩:∃k:Nat,f.Of=k:=⟨f.Of.toNat,by omega⟩;rw [hk'] at hf o2;have hkl:k<s.length:=by omega
  subst hd;obtain ⟨wU,h1,h2,h3⟩:=hrec k v out met hkl hv ho hf hm;have htw:=zrl hs _ v e k rfl hkl hf;refine ⟨wU,?_,h2,h3⟩;have wS:IntKind.i64.wrap (((out++zbn s k v).length:Int) - (out.length:Int))=((zbn s k v).length:Int):=by
   rw [xD,uO];omega
  have hin:insO (out++zbn s k v) (out.length:Int) (enc (tW f.Number 2)++enc (zbn s k v).length)=some (out++put5 f.Number 2 (zbn s k v)):=by
   obtain ⟨_,wP⟩:=zsJ hr2;have g1:=zim (v:=tW f.Number 2) (by omega);have g2:=zim (v:=(zbn s k v).length) (by omega);unfold insO;rw [xy ⟨by omega,by simp only [xD];omega,by simp only [xD];omega⟩,xK,qB,ur];unfold put5;rw [xy rfl];simp only [yy]
  rw [itF (by simp [hk]),xy hk,hk',h1,sb];simp only;rw [wS,zHC hr2 (by omega),sb,hin,sb]
 ·refine ⟨met,?_,hm,.refl _⟩;rw [itT (by simp [hk]),xx hk,zAM (by omega) (by omega) hr2 rfl,sb]
def zpg (s:List Mes) (f:Fld) (v:List UInt8):List UInt8:=put5 f.Number 2 (if f.Kind=17 then zbn s f.Of v else v)
theorem zio {α β:Type} {f g:α->List β}:∀{l:List α},(∀t∈l,f t=g t)->l.flatMap f=l.flatMap g
 | [],_=>rfl
 | t::l,h=>by rw [xM,xM,h t xz,zio fun u hu=>h u (xA _ hu)]
theorem zuz {s:List Mes} {d:Nat} {r3:RecF} {f:Fld} {T:List Th} (hraw:∀t∈T,∃(n w:Int) (a:Nat),rec5 t.raw= .inr (n,w,a,t.raw.length)/\t.val=t.raw.drop a/\1<=a/\a<=t.raw.length) (hb:(T.flatMap (·.raw)).length<=520000)
  (h3:∀t∈T,∀(out:List UInt8) (met:zhi),out.length+d*4194304<=35184372088832->zhj s met->∃wU,r3 ⟨s,met⟩ out f t.val=some (out++zpg s f t.val,wU)/\zhj s wU/\ziQ met wU) (m0:zhi):
  ∀(post pre:List Th) (out:List UInt8) (met:zhi),T=pre++post->out.length+(post.flatMap fun t=>zpg s f t.val).length+d*4194304<=35184372088832->zhj s met->
   ∃wU,zdG (T.flatMap (·.raw)) f r3 ⟨s,m0⟩ met out ((pre.flatMap (·.raw)).length:Nat)=some (wU,out++post.flatMap fun t=>zpg s f t.val)/\zhj s wU/\ziQ met wU
 | [],pre,out,met,e,ho,hm=>by
  refine ⟨met,?_,hm,.refl _⟩;rw [xW] at e;subst e;refine znJ ?_;unfold zcE;rw [uL];simp
 | t::post,pre,out,met,e,ho,hm=>by
  have ht:t∈T:=by rw [e];simp
  obtain ⟨n,w,a,hrec,hval,ha1,ha2⟩:=hraw t ht;rw [xM,xD] at ho;obtain ⟨met1,g1,g2,g3⟩:=h3 t ht out met (by omega) hm;obtain ⟨met2,k1,k2,k3⟩:=zuz hraw hb h3 m0 post (pre++[t]) (out++zpg s f t.val) met1 (by rw [e];simp) (by rw [xD];omega) g2;refine ⟨met2,?_,k2,g3.trans k3⟩;have hB:T.flatMap (·.raw)=pre.flatMap (·.raw)++(t.raw++post.flatMap (·.raw)):=by rw [e];simp
  have wS:(T.flatMap (·.raw)).length=(pre.flatMap (·.raw)).length+(t.raw.length+(post.flatMap (·.raw)).length):=by rw [hB];simp
  have hto:((pre++[t]).flatMap (·.raw)).length=(pre.flatMap (·.raw)).length+t.raw.length:=by simp
  have hdrop:(T.flatMap (·.raw)).drop (pre.flatMap (·.raw)).length=t.raw++post.flatMap (·.raw):=by rw [hB,ur]
  rw [hto] at k1
  generalize T.flatMap (·.raw)=B at hb wS hdrop k1|-
  generalize (pre.flatMap (·.raw)).length=p at wS hdrop k1|-
  have hnx:zcJ B (p:Int)=(⟨n,w,(p:Int),((p+a:Nat):Int),((p+t.raw.length:Nat):Int)⟩,0):=by
   unfold zcJ;rw [xx (by omega),xK,hdrop,zuC _ _ hrec];push_cast;rfl
  have hcut:cut B ((p+a:Nat):Int) ((p+t.raw.length:Nat):Int)=some t.val:=by
   rw [zhl rfl rfl (by omega) (by omega),<-yA,hdrop,pM ha2,hval,show p+t.raw.length - (p+a)=(t.raw.drop a).length by rw [yi];omega,qB]
  rw [xM,<-yy];refine (znI (wv2':=met1) (out2':=out++zpg s f t.val) (fromv':=((p+t.raw.length:Nat):Int)) ?_).trans k1;unfold zcE;rw [uM,zsl (by omega),hnx,sb];simp only;rw [hcut,sb,g1,sb]
def zOf (s:List Mes) (d:Nat) (f:Fld) (rec:RecF):Prop:=∀(v out:List UInt8) (met:zhi),v.length<=520000->out.length+d*4194304<=35184372088832->(f.Kind=17->∃e,d=e+1/\zS s e f.Of v=none)->zhj s met->
 ∃wU,rec ⟨s,met⟩ out f v=some (out++zpg s f v,wU)/\zhj s wU/\ziQ met wU
theorem zLF {s:List Mes} {d:Nat} {r1 r3:RecF} {r2:RecM} {f:Fld} (n1:1<=f.Number) (n2:f.Number<=536870911) (hkr:zbJ f.Kind=true) {T:List Th} (hT:T≠[]) (wV:∀t∈T,OkF f t) (hw:kNum f.Kind=true->∀t∈T,(zas f.Kind t.val).2=0)
  (hraw:∀t∈T,∃(n w:Int) (a:Nat),rec5 t.raw= .inr (n,w,a,t.raw.length)/\t.val=t.raw.drop a/\1<=a/\a<=t.raw.length) (hb1:(T.flatMap (·.raw)).length<=520000) (hb2:(T.flatMap (·.val)).length<=520000)
  (h3:zOf s d f r3) (wR:f.Kind=17->(∀t∈T,∃e,d=e+1/\zS s e f.Of t.val=none)) {out:List UInt8} (ho:out.length+(encT s f T).length+d*4194304<=35184372088832) {met:zhi} (hm:zhj s met):
  ∃wU,zef r1 r2 r3 ⟨s,met⟩ out f (T.foldl (gat1 f) [])=some (out++encT s f T,wU)/\zhj s wU/\ziQ met wU:=by
 have hmul:∀t∈T,t.val.length<=(T.flatMap (·.val)).length:=fun t ht=>by
  obtain ⟨x,y,rfl⟩:=List.append_of_mem ht;simp only [yH,xM,xD];omega
 have hlast:f.Repeated=false->∃t,t∈T/\zbK f T=[t]:=fun hr=>by
  unfold zbK;rw [xx (by rw [hr];simp)];have hl:T.length≠0:=fun e=>hT (yx e)
  refine ⟨T[T.length - 1],xH _,?_⟩;rw [yF (by omega),yK (by omega)]
 unfold zef;rw [zzg,sb];cases hk:kNum f.Kind with
 | true=>
  have h17':f.Kind≠17:=fun e=>by rw [e] at hk;cases hk
  have hx:¬(f.Kind=15\/f.Kind=16):=fun e=>by rcases e with e| e<;>rw [e] at hk<;>cases hk
  have hg:T.foldl (gat1 f) []=(zbK f T).flatMap (·.val):=by
   cases hr:f.Repeated with
   | true=>
    rw [zvl (by rw [hr];simp),xL];have:zbK f T=T:=by unfold zbK;rw [xy hr]
    rw [this];refine zio fun t _=>?_
    unfold pc18;rw [xx (by rw [hk];simp)]
   | false=>exact zwq ⟨hr,h17'⟩ T [] hT
  have hps:∀t∈zbK f T,t∈T:=fun t ht=>by
   unfold zbK at ht;split at ht
   ·exact ht
   ·exact pz ht
  have hws:=zte hk (zbK f T) fun t ht=>hw hk t (hps t ht)
  have hgl:((zbK f T).flatMap (·.val)).length<=520000:=by
   cases hr:f.Repeated with
   | true=>
    have:zbK f T=T:=by unfold zbK;rw [xy hr]
    rw [this];exact hb2
   | false=>
    obtain ⟨t,ht,e⟩:=hlast hr;rw [e];simp only [pt];have:=hmul t ht;omega
  have hone:f.Repeated=false->((zbK f T).flatMap fun t=>(zas f.Kind t.val).1).length<=1:=fun hr=>by
   obtain ⟨t,ht,e⟩:=hlast hr;have w7:t.run=false:=by
    cases h:t.run with
    | false=>rfl
    | true=>have:=((wV t ht).1 h).2;rw [hr] at this;cases this
   rw [e];simp only [pt];rw [zqv hk ((wV t ht).2 w7).2];simp
  refine ⟨met,?_,hm,.refl _⟩;rw [itT rfl,hg,zHF hk (n1:=n1) (n2:=n2) (by omega) hgl hws hone,sb];congr 3;unfold encT valT;rw [xx h17',xx hx]
  generalize ((zbK f T).flatMap fun t=>(zas f.Kind t.val).1)=ws
  have hmy:zaM (⟨f.Number,ws,[],[]⟩:Vlu)=ws.length:=by unfold zaM;simp
  rw [hmy,encV,xy hk];by_cases h0:ws=[]
  ·rw [xy h0,xx (by rw [h0];simp)]
  ·have hl:ws.length≠0:=fun e=>h0 (yx e)
   rw [xx h0,xy (show 0<ws.length by omega)]
 | false=>
  rw [itF rfl];have hkk:f.Kind=17\/(f.Kind≠17/\(f.Kind=15\/f.Kind=16)):=by
   have h1:1<=f.Kind/\f.Kind<=17:=yv hkr;have h2:¬(1<=f.Kind/\f.Kind<=14):=pS hk;omega
  cases hr:f.Repeated with
  | false=>
   have key:∃g,T.foldl (gat1 f) []=g/\g.length<=520000/\(f.Kind=17->∃e,d=e+1/\zS s e f.Of g=none)/\encT s f T=zpg s f g:=by
    rcases hkk with h| ⟨h,hx⟩
    ·refine ⟨T.flatMap (·.val),?_,hb2,fun _=>?_,?_⟩
     ·rw [zvl (by rw [h];simp),xL];refine zio fun t _=>?_
      unfold pc18;rw [xx (by rw [hr];simp)]
     ·obtain ⟨t0,r0,e0⟩:=pv hT;obtain ⟨e,he,_⟩:=wR h t0 (by rw [e0];exact xz);refine ⟨e,he,?_⟩;rw [pJ];refine zny _ fun v hv=>?_
      obtain ⟨t,ht,rfl⟩:=xF.1 hv;obtain ⟨e',he',hf⟩:=wR h t ht;have:e'=e:=by omega
      rw [<-this];exact hf
     ·unfold encT valT zpg;rw [xy h,hr,xy h];simp only [qg,yC];rw [xy (by unfold zaM;simp),encV,xx (by rw [hk];simp),zgh,zgh];simp only [qo,xL,xW];rfl
    ·obtain ⟨t,ht,e⟩:=hlast hr;refine ⟨t.val,?_,by have:=hmul t ht;omega,fun h'=>absurd h' h,?_⟩
     ·rw [zwq ⟨hr,h⟩ T [] hT,e];simp
     ·unfold encT valT zpg;rw [xx h,xy hx,xx h,e];rw [xy (by unfold zaM;simp),encV,xx (by rw [hk];simp),zgh];simp
   obtain ⟨g,h1,h2,h3',h4⟩:=key;obtain ⟨wU,k1,k2,k3⟩:=h3 g out met h2 (by omega) h3' hm;refine ⟨wU,?_,k2,k3⟩;rw [uJ,h1,k1,sb,h4]
  | true=>
   have hg:T.foldl (gat1 f) []=T.flatMap (·.raw):=by
    rw [zvl (by rw [hr];simp),xL];refine zio fun t _=>?_
    unfold pc18;rw [xy ⟨hr,hk⟩]
   have hen:encT s f T=T.flatMap fun t=>zpg s f t.val:=by
    have hl:T.length≠0:=fun e=>hT (yx e)
    have hp:zbK f T=T:=by unfold zbK;rw [xy hr]
    unfold encT valT zpg;rcases hkk with h| ⟨h,hx⟩
    ·rw [xy h,hr,xy rfl,xy (by unfold zaM;simp;omega),encV,xx (by rw [hk];simp),znu];simp only [qo,xL,qw,h,yr];rfl
    ·rw [xx h,xy hx,hp,xy (by unfold zaM;simp;omega),encV,xx (by rw [hk];simp),zgh];simp only [xW,qw,h,yC]
   rw [hen] at ho;obtain ⟨wU,k1,k2,k3⟩:=zuz (s:=s) (d:=d) (r3:=r3) (f:=f) hraw hb1 (fun t ht out met ho hm=>h3 t.val out met (by have:=hmul t ht;omega) ho (fun h=>wR h t ht) hm) met T [] out met rfl ho hm;refine ⟨wU,?_,k2,k3⟩;have k1':zdG (T.flatMap (·.raw)) f r3 ⟨s,met⟩ met out 0=_:=k1;rw [uK,hg,k1',sb,hen]
abbrev zrb:=List (Int×List UInt8)
def kn18 (m:Mes) (b:List UInt8) (acc:zrb) (v:Vw):zrb:=if v.Field= -1 then acc else mput acc v.R.Number (gat1 (zv m v.Field) ((mget acc v.R.Number).getD []) (thOf b v))
theorem zCt (m:Mes) (b:List UInt8) (n:Int):∀(L:List Vw) (acc:zrb),(mget (L.foldl (kn18 m b) acc) n).getD []=(zbp L n).foldl (fun a v=>gat1 (zv m v.Field) a (thOf b v)) ((mget acc n).getD [])
 | [],acc=>by simp [zbp]
 | v::L,acc=>by
  rw [yd,zCt m b n L];unfold zbp;rw [yI];unfold kn18;by_cases hf:v.Field= -1
  ·rw [xy hf,xx (by simp [hf])]
  ·rw [xx hf,zez];by_cases hn:v.R.Number=n
   ·rw [xy hn.symm,xy (by simp [hf,hn]),yd,hn];rfl
   ·rw [xx (fun e=>hn e.symm),xx (by simp [hn])]
theorem zBX (m:Mes) (b:List UInt8) {i:Int}:∀(L:List Vw) (a:List UInt8),(∀v∈L,v.Field=i)->L.foldl (fun a v=>gat1 (zv m v.Field) a (thOf b v)) a=(L.map (thOf b)).foldl (gat1 (zv m i)) a
 | [],a,_=>rfl
 | v::L,a,h=>by
  rw [yd,xQ,yd,h v xz];exact zBX m b L _ fun u hu=>h u (xA _ hu)
theorem zCj {κ α β:Type} [DecidableEq κ]:∀{a:List (κ×α)} {c:List (κ×β)},a.map Prod.fst=c.map Prod.fst->∀k,(mget a k).isSome=(mget c k).isSome
 | [],[],_,_=>rfl
 | [],_::_,h,_=>by simp at h
 | _::_,[],h,_=>by simp at h
 | p::a,q::c,h,k=>by
  simp only [xQ,qf] at h;rw [mget,mget,h.1];split
  ·rfl
  ·exact zCj h.2 k
theorem zza (m:Mes) (b:List UInt8):∀(L:List Vw) (a:zrb) (c:List (Int×List PVw)),a.map Prod.fst=c.map Prod.fst->(L.foldl (kn18 m b) a).map Prod.fst=(L.foldl kn14 c).map Prod.fst
 | [],a,c,h=>h
 | v::L,a,c,h=>by
  rw [yd,yd];refine zza m b L _ _ ?_;unfold kn18 kn14;split
  ·exact h
  ·rw [zjl,zjl,h];have:=zCj h v.R.Number;cases h1:mget a v.R.Number<;>cases h2:mget c v.R.Number<;>rw [h1,h2] at this<;>first| rfl| cases this
theorem zCq {α β:Type} {a:List (Int×α)} {c:List (Int×β)} (h:a.map Prod.fst=c.map Prod.fst):zlm a=zlm c:=by
 have h1:(a.all fun p=>(Lit.int .i64 p.1).wf)=(c.all fun p=>(Lit.int .i64 p.1).wf):=by
  have e1:(a.all fun p=>(Lit.int .i64 p.1).wf)=(a.map Prod.fst).all fun n=>(Lit.int .i64 n).wf:=by rw [List.all_map];rfl
  have e2:(c.all fun p=>(Lit.int .i64 p.1).wf)=(c.map Prod.fst).all fun n=>(Lit.int .i64 n).wf:=by rw [List.all_map];rfl
  rw [e1,e2,h]
 have h2:a.length=c.length:=by simpa using congrArg List.length h
 unfold zlm;rw [h1,h2,h]
theorem zIW (f:Fld) (a:List UInt8) (t:Th):(gat1 f a t).length<=a.length+max t.raw.length t.val.length:=by
 unfold gat1 pc18;split<;>split<;>(try rw [xD])<;>omega
theorem zJB {m:Mes} {b:List UInt8} {base:Nat} {n w:Int} {a t:Nat} (wP:base<b.length) (h:rec5 (b.drop base)= .inr (n,w,a,t)) {p:Int×Bool} (hv:vw m n w= .inr p):
  zdF m b base=(⟨⟨n,w,(base:Int),((base+a:Nat):Int),((base+t:Nat):Int)⟩,p.1,p.2⟩,0):=by
 have e:zcJ b base=(⟨n,w,base,(base+a:Nat),(base+t:Nat)⟩,0):=by
  unfold zcJ;rw [xx (by omega),xK,h];push_cast;rfl
 unfold zdF;rw [e];simp only [ne_eq,qu,yC,hv]
def vwOf (m:Mes) (r:Rec):Vw:=⟨r,(vwG m r).1,(vwG m r).2⟩
theorem zEG {s:List Mes} (hs:zcB s) {k:Nat} (hk:k<s.length) {b:List UInt8} (hb:b.length<=520000) (m0:zhi):∀(base:Nat) (l:List UInt8),base<=b.length->l=b.drop base->(spl base l).2=none->
  (∀r∈(spl base l).1,∃p,vw (zp s k) r.Number r.Wire= .inr p)->∀(met:zhi) (kc:zrb) (wO:List UInt8),zhj s met->(∀n,((mget kc n).getD []).length<=base)->wO.length<=base->
  ∃wU,zca b k ⟨s,m0⟩ (zp s k) met kc wO base=some (wU,((spl base l).1.map (vwOf (zp s k))).foldl (kn18 (zp s k) b) kc,wO++(unkO (((spl base l).1.map (vwOf (zp s k))).map (thOf b))).flatten)/\
   zhj s wU/\ziQ met wU/\∀r∈(spl base l).1,mget wU ⟨k,r.Number⟩=some (vwOf (zp s k) r).Field:=by
 have hmm:zp s (k:Int)∈s:=by rw [zci hk];exact xH hk
 have hfew:=hs.few _ hmm
 refine zhd (fun base l=>base<=b.length->l=b.drop base->(spl base l).2=none->
  (∀r∈(spl base l).1,∃p,vw (zp s k) r.Number r.Wire= .inr p)->∀(met:zhi) (kc:zrb) (wO:List UInt8),zhj s met->(∀n,((mget kc n).getD []).length<=base)->wO.length<=base->
  ∃wU,zca b k ⟨s,m0⟩ (zp s k) met kc wO base=some (wU,((spl base l).1.map (vwOf (zp s k))).foldl (kn18 (zp s k) b) kc,wO++(unkO (((spl base l).1.map (vwOf (zp s k))).map (thOf b))).flatten)/\
   zhj s wU/\ziQ met wU/\∀r∈(spl base l).1,mget wU ⟨k,r.Number⟩=some (vwOf (zp s k) r).Field) ?_ ?_ ?_
 ·intro base hbase hl _ _ met kc wO hm _ _;have:b.length<=base:=by have:=congrArg List.length hl;simp at this;omega
  rw [zei];refine ⟨met,?_,hm,.refl _,fun r hr=>by cases hr⟩;refine zml ?_;unfold zbB;rw [uN];simp [unkO]
 ·intro base l c hl h _ _ _ hn;rw [zgb hl h] at hn;cases hn
 ·intro base l n w a t hl h _ g1 g2 g3 ih hbase hld hn hv met kc wO hm hkn hrest;subst hld;simp only [yi] at g3;have wP:base<b.length:=by have:=qZ.2 hl;simp at this;omega
  rw [zcO hl h] at hn hv|-;obtain ⟨p,hp⟩:=hv _ xz;have hlook:=zJB wP h hp;obtain ⟨met1,k1,k2,k3,k4⟩:=zJG hs hk (by omega) hlook hm;simp only at k1 k4;have hvw:vwOf (zp s k) ⟨n,w,(base:Int),((base+a:Nat):Int),((base+t:Nat):Int)⟩=⟨⟨n,w,(base:Int),((base+a:Nat):Int),((base+t:Nat):Int)⟩,p.1,p.2⟩:=by
   unfold vwOf vwG;simp only at hp;rw [hp]
  have hfi:=(zCD hlook).2;simp only at hfi;have hat:At14 b [⟨⟨n,w,(base:Int),((base+a:Nat):Int),((base+t:Nat):Int)⟩,p.1,p.2⟩]:=fun v hv=>by
   rw [yl.1 hv];refine ⟨?_,?_,?_,?_⟩<;>simp only<;>omega
  have hcr:=zAp hat (yl.2 rfl);simp only at hcr;have hraw:rawB b ⟨n,w,(base:Int),((base+a:Nat):Int),((base+t:Nat):Int)⟩=(b.drop base).take t:=by
   unfold rawB;simp only [xK];rw [show base+t - base=t by omega]
  have hrl:(rawB b ⟨n,w,(base:Int),((base+a:Nat):Int),((base+t:Nat):Int)⟩).length=t:=by rw [hraw];simp;omega
  have hvl:(valB b ⟨n,w,(base:Int),((base+a:Nat):Int),((base+t:Nat):Int)⟩).length<=t:=by unfold valB;simp only [xK,xZ,yi];omega
  have hih:=ih (by omega) (by rw [yA]) hn (fun r hr=>hv r (xA _ hr));rw [xQ,xQ,yd,hvw];by_cases hf:p.1= -1
  ·obtain ⟨met2,q1,q2,q3,q4⟩:=hih met1 kc (wO++rawB b ⟨n,w,(base:Int),((base+a:Nat):Int),((base+t:Nat):Int)⟩) k2 (fun n=>yn (hkn n) (by omega)) (by rw [xD,hrl];omega);refine ⟨met2,?_,q2,k3.trans q3,fun r hr=>?_⟩
   ·have e1:kn18 (zp s k) b kc ⟨⟨n,w,(base:Int),((base+a:Nat):Int),((base+t:Nat):Int)⟩,p.1,p.2⟩=kc:=by unfold kn18;rw [xy hf]
    have e2:∀X:List Th,(unkO (thOf b ⟨⟨n,w,(base:Int),((base+a:Nat):Int),((base+t:Nat):Int)⟩,p.1,p.2⟩::X)).flatten=rawB b ⟨n,w,(base:Int),((base+a:Nat):Int),((base+t:Nat):Int)⟩++(unkO X).flatten:=fun X=>by
     unfold unkO;rw [yI,xy (by show decide (p.1<0)=true;rw [hf];rfl),xQ,qm];rfl
    rw [e1,e2,<-yy];refine (zhw ?_).trans q1;unfold zbB;rw [uM,k1,sb,itT (by simp [hf])];simp only;rw [hcr,sb,zeD (by rw [hrl];omega),sb]
   ·cases hr with
    | head=>rw [hvw];exact q3 _ _ k4
    | tail _ hr=>exact q4 r hr
  ·have hnf:0<=p.1/\p.1<(zp s (k:Int)).Fields.length:=by
    rcases zec (zp s (k:Int)) n w with h1| ⟨h1,_⟩| ⟨i,run,h1,_,h2⟩
    ·simp only at hp;rw [hp] at h1;cases h1
    ·simp only at hp;rw [hp] at h1;cases h1;exact absurd rfl hf
    ·simp only at hp;rw [hp] at h1;cases h1;simp only;omega
   have hgat:=zEF (f:=zv (zp s (k:Int)) p.1) (a:=(mget kc n).getD []) (b:=b) (v:=⟨⟨n,w,(base:Int),((base+a:Nat):Int),((base+t:Nat):Int)⟩,p.1,p.2⟩) (by have:=hkn n;omega) (hat _ (yl.2 rfl)) (by omega);have hgl:=zIW (zv (zp s (k:Int)) p.1) ((mget kc n).getD []) (thOf b ⟨⟨n,w,(base:Int),((base+a:Nat):Int),((base+t:Nat):Int)⟩,p.1,p.2⟩);have hgl':(gat1 (zv (zp s (k:Int)) p.1) ((mget kc n).getD []) (thOf b ⟨⟨n,w,(base:Int),((base+a:Nat):Int),((base+t:Nat):Int)⟩,p.1,p.2⟩)).length<=base+t:=by
    have g4:(thOf b ⟨⟨n,w,(base:Int),((base+a:Nat):Int),((base+t:Nat):Int)⟩,p.1,p.2⟩).raw.length=t:=hrl;have g5:(thOf b ⟨⟨n,w,(base:Int),((base+a:Nat):Int),((base+t:Nat):Int)⟩,p.1,p.2⟩).val.length<=t:=hvl;have:=hkn n;omega
   obtain ⟨met2,q1,q2,q3,q4⟩:=hih met1 (mput kc n (gat1 (zv (zp s (k:Int)) p.1) ((mget kc n).getD []) (thOf b ⟨⟨n,w,(base:Int),((base+a:Nat):Int),((base+t:Nat):Int)⟩,p.1,p.2⟩))) wO k2 (fun j=>by
    rw [zez];split
    ·exact hgl'
    ·exact yn (hkn j) (by omega)) (by omega)
   refine ⟨met2,?_,q2,k3.trans q3,fun r hr=>?_⟩
   ·have e1:kn18 (zp s k) b kc ⟨⟨n,w,(base:Int),((base+a:Nat):Int),((base+t:Nat):Int)⟩,p.1,p.2⟩=mput kc n (gat1 (zv (zp s (k:Int)) p.1) ((mget kc n).getD []) (thOf b ⟨⟨n,w,(base:Int),((base+a:Nat):Int),((base+t:Nat):Int)⟩,p.1,p.2⟩)):=by unfold kn18;rw [xx hf]
    have e2:∀X:List Th,unkO (thOf b ⟨⟨n,w,(base:Int),((base+a:Nat):Int),((base+t:Nat):Int)⟩,p.1,p.2⟩::X)=unkO X:=fun X=>by
     unfold unkO;rw [yI,xx (by show ¬decide (p.1<0)=true;simp;omega)]
    rw [e1,e2];refine (zhw ?_).trans q1;obtain ⟨i,hi⟩:∃i:Nat,p.1=i:=⟨p.1.toNat,by omega⟩;have hix:idx (zp s (k:Int)).Fields p.1=some (zv (zp s (k:Int)) p.1):=by rw [hi,zag rfl (by omega),zby (by omega)]
    unfold zbB;rw [uM,k1,sb,itF (by simpa using hf)];simp only;simp only at hgat;rw [hix,sb,hgat,sb]
   ·cases hr with
    | head=>rw [hvw];exact q3 _ _ k4
    | tail _ hr=>exact q4 r hr
theorem zwJ {s:List Mes} {k:Nat} {m:Mes} {q:zhi×zrb×List UInt8} {rf:RecF} {ks:List Int} {E:Int->List UInt8} {d:Nat} {m1:zhi} (m0:zhi) (hks:ks.length<=1048576)
  (kj:∀n∈ks,∃i:Nat,i<m.Fields.length/\mget m1 ⟨k,n⟩=some (i:Int)/\∀(out:List UInt8) (met:zhi),out.length+(E n).length+d*4194304<=35184372088832->zhj s met->
   ∃wU,rf ⟨s,met⟩ out (zv m (i:Int)) ((mget q.2.1 n).getD [])=some (out++E n,wU)/\zhj s wU/\ziQ met wU):
  ∀(c i:Nat) (out:List UInt8) (met:zhi),i+c=ks.length->out.length+((ks.drop i).flatMap E).length+d*4194304<=35184372088832->zhj s met->ziQ m1 met->
   ∃wU,zcK k q rf ks ⟨s,m0⟩ m met out i=some (wU,out++(ks.drop i).flatMap E)/\zhj s wU/\ziQ met wU
 | 0,i,out,met,hi,_,hm,_=>by
  have e:ks.drop i=[]:=yK (by omega);refine ⟨met,?_,hm,.refl _⟩;rw [e,qo,xW];refine zmn ?_;unfold zbZ;rw [uN]
 | c+1,i,out,met,hi,ho,hm,hle=>by
  have hil:i<ks.length:=by omega
  rw [yF hil,xM,xD] at ho;obtain ⟨j,hj,hmet,hrec⟩:=kj _ (xH hil);obtain ⟨met1,k1,k2,k3⟩:=hrec out met (by omega) hm;obtain ⟨met2,q1,q2,q3⟩:=zwJ m0 hks kj c (i+1) (out++E ks[i]) met1 (by omega) (by rw [xD];omega) k2 (hle.trans k3);refine ⟨met2,?_,q2,k3.trans q3⟩;have hx:idx ks (i:Int)=some ks[i]:=zag rfl hil;have hw:IntKind.i64.wrap ((i:Int)+1)=((i+1:Nat):Int):=by rw [uO];push_cast;rfl
  have hf:idx m.Fields (j:Int)=some (zv m (j:Int)):=by rw [zag rfl hj,zby hj]
  rw [yF hil,xM,<-yy];refine (zmm (wv4':=met1) (out2':=out++E ks[i]) (v5':=((i+1:Nat):Int)) ?_).trans q1;unfold zbZ;rw [uM,hx,sb,hle _ _ hmet,pf,hf,sb,k1,sb,hw]
theorem zmj {α β:Type} (p:α->Bool) (g:α->List β):∀l:List α,(l.filter p).flatMap g=l.flatMap fun x=>if p x=true then g x else []
 | []=>rfl
 | x::l=>by
  rw [yI,xM];split
  ·rw [xM,zmj p g l]
  ·rw [xL,zmj p g l]
theorem zxx {α β:Type} (g:α->List β) {l k:List α} (h:l.Sublist k):(l.flatMap g).length<=(k.flatMap g).length:=by
 induction h with
 | slnil=>exact xE _
 | cons a _ ih=>rw [xM,xD];omega
 | cons_cons a _ ih=>rw [xM,xM,xD,xD];omega
theorem zzh {s:List Mes} (hs:zcB s) {d n:Nat} (hrec:∀e,d=e+1->zFo s e (zbS n)):zFo s d (zbS (n+3)):=by
 intro k b out met hk hb ho hfi hm;have hmi:idx s (k:Int)=some (zp s k):=by rw [zag rfl hk,zci hk]
 have hmm:zp s (k:Int)∈s:=by rw [zci hk];exact xH hk
 have hfld:=hs.fld _ hmm;have hall:=zBy hfi;have hL1:(zaZ (zp s (k:Int)) b).1=(spl 0 b).1.map (vwOf (zp s k)):=by rw [hall];rfl
 have hths:ths (zp s (k:Int)) b=(zaZ (zp s (k:Int)) b).1.map (thOf b):=rfl;have hwt:=znY (zp s k) b;have hraws:=zNV hfi;have htw:=zrl hs _ b d k rfl hk hfi;have hfrom:=hfi;rw [zfm,zct] at hfrom;obtain ⟨met1,g1,g2,g3,g4⟩:=zEG hs hk hb met 0 b (xP _) rfl hfrom.2 (fun r hr=>zBf (hfrom.1 r hr)) met [] [] hm (fun n=>by simp [mget]) (by simp);have hvr:∀v∈(zaZ (zp s (k:Int)) b).1,mget met1 ⟨k,v.R.Number⟩=some v.Field:=fun v hv=>by
  rw [hL1] at hv;obtain ⟨r,hr,rfl⟩:=xF.1 hv;exact g4 r hr
 rw [<-hL1] at g1;have hLl:(zaZ (zp s (k:Int)) b).1.length<=1048576:=yn (zGO _ _) (by omega);have hwf:∀v∈(zaZ (zp s (k:Int)) b).1,v.Field≠ -1->(Lit.int .i64 v.R.Number).wf=true:=fun v hv hf=>by
  have h:=(zBq hv).2;rcases zec (zp s (k:Int)) v.R.Number v.R.Wire with h1| ⟨h1,_⟩| ⟨i,run,h1,h2,h3⟩
  ·rw [h] at h1;cases h1
  ·rw [h] at h1;simp only [uC,yw] at h1;exact absurd h1.1 hf
  ·rcases zcC (zp s (k:Int)) v.R.Number with ⟨q1,_⟩| ⟨j,hj,q1,q2,_⟩
   ·omega
   ·have hfo:=hfld _ (xH hj);have:=hfo.lo;have:=hfo.hi;exact zEo (by omega)
 obtain ⟨ks,hks,hkp,hkm⟩:=zuu hwf hLl;obtain ⟨hkn,hvals,hunk⟩:=zHA hs hk hfi hkp hkm;have hkeys:zlm ((zaZ (zp s (k:Int)) b).1.foldl (kn18 (zp s k) b) [])=some ks:=(zCq (zza _ b _ [] [] rfl)).trans hks;have hkl:ks.length<=1048576:=by
  have wS:ks.length=((zaZ (zp s (k:Int)) b).1.foldl kn14 []).length:=by
   unfold zlm at hks;rw [zBe] at hks;split at hks
   ·cases hks;simp
   ·cases hks
  have:=zAz (zaZ (zp s (k:Int)) b).1 [];simp only [yB] at this;omega
 have hrawl:(((zaZ (zp s (k:Int)) b).1.map (thOf b)).flatMap (·.raw)).length<=520000:=by
  have e:=zEZ b 0 b rfl (xP _) hfrom.2;rw [hL1,yL,qw];have e2:(spl 0 b).1.flatMap (fun r=>((thOf b∘vwOf (zp s k)) r).raw)=(spl 0 b).1.flatMap (zCT b):=rfl;rw [e2,e];exact hb
 have hvall:(((zaZ (zp s (k:Int)) b).1.map (thOf b)).flatMap (·.val)).length<=520000:=by
  have h1:=zpV ((zaZ (zp s (k:Int)) b).1.map (thOf b));rw [hths] at hwt;omega
 -- the form, by numbers
 have hform:zbn s k b=(ks.flatMap fun n=>encT s (zv (zp s (k:Int)) (fldI (zp s (k:Int)) n)) ((zbp (zaZ (zp s (k:Int)) b).1 n).map (thOf b)))++(unkO ((zaZ (zp s (k:Int)) b).1.map (thOf b))).flatten:=by
  unfold zbn;rw [zkz,hunk,hvals,zlf,zmj,qw];congr 1;refine zio fun n hn=>?_
  obtain ⟨i,h1,h2,h3,_⟩:=hkn n hn;have hnum:∀T,(valT (ofM s) (zv (zp s (k:Int)) (i:Int)) T).Number=n:=fun T=>by
   unfold valT;split
   ·exact h2
   ·split<;>exact h2
  rw [h3];unfold encT;rw [hnum,h3];simp only [yc]
 rw [hform,xD] at htw;have hsum:∀n∈ks,(encT s (zv (zp s (k:Int)) (fldI (zp s (k:Int)) n)) ((zbp (zaZ (zp s (k:Int)) b).1 n).map (thOf b))).length<=(ks.flatMap fun n=>encT s (zv (zp s (k:Int)) (fldI (zp s (k:Int)) n)) ((zbp (zaZ (zp s (k:Int)) b).1 n).map (thOf b))).length:=fun n hn=>by
  obtain ⟨x,y,e⟩:=List.append_of_mem hn;rw [e];simp only [yH,xM,xD];omega
 have hrw:∀n:Int,(mget ((zaZ (zp s (k:Int)) b).1.foldl (kn18 (zp s k) b) []) n).getD []=(zbp (zaZ (zp s (k:Int)) b).1 n).foldl (fun a v=>gat1 (zv (zp s k) v.Field) a (thOf b v)) []:=fun n=>zCt _ b n _ []
 obtain ⟨met2,q1,q2,q3⟩:=zwJ (s:=s) (k:=k) (m:=zp s k) (q:=(met1,(zaZ (zp s (k:Int)) b).1.foldl (kn18 (zp s k) b) [],[]++(unkO ((zaZ (zp s (k:Int)) b).1.map (thOf b))).flatten)) (rf:=zem (n+2)) (ks:=ks)
  (E:=fun n=>encT s (zv (zp s (k:Int)) (fldI (zp s (k:Int)) n)) ((zbp (zaZ (zp s (k:Int)) b).1 n).map (thOf b))) (d:=d) (m1:=met1) met hkl (fun w hw=>by
   obtain ⟨i,h1,h2,h3,h4,h5,h6⟩:=hkn w hw;have hfm:zv (zp s (k:Int)) (i:Int)∈(zp s (k:Int)).Fields:=by rw [zby h1];exact xH h1
   have hfo:=hfld _ hfm;refine ⟨i,h1,?_,fun out met hol hmo=>?_⟩
   ·obtain ⟨v,hv,_,hnn⟩:=(hkm w).1 hw;have hb1:=hvr v hv;have hvb:v∈zbp (zaZ (zp s (k:Int)) b).1 w:=xU.2 ⟨hv,by
     rename_i hf;simp [hf,hnn]⟩
    rw [hnn,h5 v hvb] at hb1;exact hb1
   ·have kj:(mget ((zaZ (zp s (k:Int)) b).1.foldl (kn18 (zp s k) b) []) w).getD []=((zbp (zaZ (zp s (k:Int)) b).1 w).map (thOf b)).foldl (gat1 (zv (zp s (k:Int)) (i:Int))) []:=by
     rw [hrw,zBX _ b _ [] h5]
    have hsub:∀t∈(zbp (zaZ (zp s (k:Int)) b).1 w).map (thOf b),t∈ths (zp s (k:Int)) b:=fun t ht=>by
     obtain ⟨v,hv,rfl⟩:=xF.1 ht;exact qe (xU.1 hv).1
    rw [h3] at hol|-;show∃wU,zem (n+2) ⟨s,met⟩ out (zv (zp s k) (i:Int)) ((mget ((zaZ (zp s (k:Int)) b).1.foldl (kn18 (zp s k) b) []) w).getD [])=_/\_;rw [kj];show∃wU,zef (zem (n+1)) (zbS (n+1)) (zhE (n+1)) ⟨s,met⟩ out (zv (zp s k) (i:Int)) _=_/\_;refine zLF hfo.lo hfo.hi hfo.kind (by simpa using h4) (fun t ht=>(h6 t ht).1) (fun hkk t ht=>?_) (fun t ht=>hraws t (hsub t ht)) ?_ ?_ (fun v out met hvl hol hsub17 hmo=>?_) (fun wR t ht=>?_) hol hmo
    ·obtain ⟨o1,o2,o3⟩:=h6 t ht;cases w7:t.run with
     | false=>rw [zqv hkk (o1.2 w7).2]
     | true=>
      have:=(o2.run (by omega) w7).2.2;rw [o3] at this;unfold zof at this;rw [xx (by rw [hkk];simp)] at this;split at this
      ·rename_i h0;rw [zqu hkk h0]
      ·rename_i h0;exact absurd this h0
    ·exact yn (zxx _ (List.Sublist.map (thOf b) (List.filter_sublist (p:=fun v:Vw=>decide (v.Field≠ -1/\v.R.Number=w)) (l:=(zaZ (zp s (k:Int)) b).1)))) hrawl
    ·exact yn (zxx _ (List.Sublist.map (thOf b) (List.filter_sublist (p:=fun v:Vw=>decide (v.Field≠ -1/\v.R.Number=w)) (l:=(zaZ (zp s (k:Int)) b).1)))) hvall
    ·show∃wU,zeg (zem n) (zbS n) (zhE n) ⟨s,met⟩ out (zv (zp s k) (i:Int)) v=_/\_;refine zHE hs hfo.lo hfo.hi hvl hol (fun wR=>?_) hmo;have hof:=hfo.sub wR;obtain ⟨e,he,hf⟩:=hsub17 wR;exact ⟨hof.1,hof.2,e,he,hrec e he,hf⟩
    ·obtain ⟨o1,o2,o3⟩:=h6 t ht;have hr:t.run=false:=by
      cases hr:t.run
      ·rfl
      ·have:=(o1.1 hr).1;rw [wR] at this;cases this
     have:=(o2.one (by omega) hr).2.2.2;rw [o3] at this;exact this wR) ks.length 0 out met1 (xR _) (by rw [ya];omega) g2 (.refl _)
 rw [ya] at q1;refine ⟨met2,?_,q2,g3.trans q3⟩;show zeo (zem (n+2)) (zbS (n+2)) (zhE (n+2)) ⟨s,met⟩ out k b=_;unfold zeo;have g1':zca b k ⟨s,met⟩ (zp s k) met [] [] 0=_:=g1;have q1':zcK k (met1,(zaZ (zp s (k:Int)) b).1.foldl (kn18 (zp s k) b) [],[]++(unkO ((zaZ (zp s (k:Int)) b).1.map (thOf b))).flatten) (zem (n+2)) ks ⟨s,met⟩ (zp s k) met1 out 0=_:=q1;rw [hmi,sb,g1',sb];simp only;rw [hkeys,sb,q1',sb,zeD (by simp only [xD,xL];omega),sb,hform,yy];rfl
theorem zGm {s:List Mes} (hs:zcB s):∀(d fuel:Nat),3*d+3<=fuel->zFo s d (zbS fuel)
 | 0,fuel,hf=>by
  obtain ⟨n,rfl⟩:∃n,fuel=n+3:=⟨fuel - 3,by omega⟩;exact zzh hs fun e he=>by omega
 | d+1,fuel,hf=>by
  obtain ⟨n,rfl⟩:∃n,fuel=n+3:=⟨fuel - 3,by omega⟩;exact zzh hs fun e he=>by
   have:e=d:=by omega
   subst this;exact zGm hs e n (by omega)
theorem zEH {s:List Mes} (hs:zcB s) {fuel d k:Nat} {b:List UInt8} (hf:200<=fuel) (hd:d<=64) (hk:k<s.length) (hb:b.length<=520000) (hv:zS s d k b=none):zjO fuel s k b=some (zbn s k b):=by
 obtain ⟨wU,h,_⟩:=zGm hs d fuel (by omega) k b [] [] hk hb (by simp;omega) hv (fun M n i h=>by cases h);unfold zjO;rw [h,sb,xL]
theorem zKZ {s:List Mes} {root:Int} {b:List UInt8} {d:Int} (h0:(zba s root b d).2=0):zcB s/\d.toNat<=64/\∃k:Nat,root=k/\k<s.length/\zS s d.toNat k b=none:=by
 obtain ⟨hr,g1,g2,g3,g4⟩:=zkG (zrJ h0);obtain ⟨k,rfl⟩:∃k:Nat,root=k:=⟨root.toNat,by omega⟩;exact ⟨hr,by omega,k,rfl,by omega,(zmI.1 (by unfold is11;simpa using h0)).2⟩
theorem zpd {fuel:Nat} {s:List Mes} (root:Int) {b:List UInt8} (d:Int) (hf:300<=fuel) (hw:WS s) (hb:b.length<=520000):zgp fuel s root b d=some (zvk s root b d):=by
 unfold zgp zvk;rw [zug hw root (by omega) d (by omega),sb];by_cases h0:(zba s root b d).2=0
 ·have h0':¬(zba s root b d).2≠0:=fun h=>h h0
  obtain ⟨hr,hd,k,rfl,hk,hv⟩:=zKZ h0;rw [itF (by simpa using h0),xx h0',zEH hr (by omega) hd hk hb hv,sb]
 ·rw [itT (by simpa using h0),xy h0]
theorem zNw {fuel:Nat} {s:List Mes} (root:Int) {b:List UInt8} (d:Int) (hf:300<=fuel) (hw:WS s) (hb:b.length<=520000):zsm fuel s root b d=some (decide ((zba s root b d).2=0)&&(zbn s root b==b)):=by
 unfold zsm;rw [zpd root d hf hw hb,sb];by_cases h0:(zba s root b d).2=0
 ·rw [zlj h0,uJ];simp [h0,zfL,sb]
 ·rw [zjJ h0,itF (by simpa using h0)];simp [h0,sb]
theorem zJH {fuel:Nat} {s:List Mes} (root:Int) {a b:List UInt8} (d:Int) (hf:300<=fuel) (hw:WS s) (ha:a.length<=520000) (hb:b.length<=520000):zmO fuel s root a b d=some (zvF s root a b d):=by
 unfold zmO zvF;rw [zpd root d hf hw ha,sb];by_cases h0:(zba s root a d).2=0
 ·rw [zlj h0,uK,zpd root d hf hw hb,sb];by_cases h1:(zba s root b d).2=0
  ·rw [zlj h1];simp [zfL,sb,h0,h1]
  ·rw [zjJ h1];simp [h0,h1,sb]
 ·rw [zjJ h0,xy h0,itT (by simpa using h0)]
end Go.Proofs.YtaglemhabeipfaaGreat

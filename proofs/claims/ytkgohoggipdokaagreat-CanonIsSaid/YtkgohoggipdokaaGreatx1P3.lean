/-
  What the plain functions are. No condition.
-/
import Derived.Test.YtkgohoggipdokaaGreatx1P2
namespace Go.Proofs.YtkgohoggipdokaaGreat
open Go
set_option linter.unusedVariables false
def Wr (o:Option zi) (p:List Str) (n:Int) (B:Str) (c:Nat):Prop:=∃P:List Str,o=some ⟨p++P,n+(B.length:Int)⟩/\P.flatten=B/\P.length<=c
def Wq (o:Option (List Str×Int)) (p:List Str) (n:Int) (B:Str) (c:Nat):Prop:=∃P:List Str,o=some (p++P,n+(B.length:Int))/\P.flatten=B/\P.length<=c
def Wm (p:List Str) (n:Int) (b c:Nat):Prop:=0<=n/\n+(b:Int)<=1099511627776/\p.length+c<=1099511627776
theorem zFV {p:List Str} {n:Int} {b:Str} (h:Wm p n b.length 1):zcl ⟨p,n⟩ b=some ⟨p++[b],n+(b.length:Int)⟩:=by
 obtain ⟨h1,h2,h3⟩:=h;unfold zcl;rw [zcg (by simp;omega),sb,zr (by simp only;omega)]
theorem zIK {p:List Str} {n:Int} {b:Str} (h:Wm p n b.length 1):Wr (zcl ⟨p,n⟩ b) p n b 1:=⟨[b],zFV h,by simp,by simp⟩
theorem ztm {p:List Str} {n k w:Int} {v:Str} (hr:zcU k w=true) (hf:zdF w v=true) (hv:v.length<=1048576) (h:Wm p n (put5 k w v).length 1):Wr (zcr ⟨p,n⟩ k w v) p n (put5 k w v) 1:=by
 unfold zcr;rw [zHd (by simp) hv,sb,xy ⟨hr,hf⟩,yb];obtain ⟨P,e,h1,h2⟩:=zIK h;exact ⟨P,by rw [e,sb],h1,h2⟩
theorem zIZ {k:Int} (hk:kNum k=true):zmg k=some (zaM k):=by
 have h:=zhC.1 hk;unfold zmg;rw [zEe (by omega),sb,xy hk];have e:zbE k 0=0:=by
  unfold zbE;split
  ·decide
  ·split
   ·decide
   ·split<;>simp
 unfold sPut zkv zaM;rw [e];have h15:¬15<=k:=by omega
 by_cases h1:12<=k
 ·rw [xy h1,xx h15,xy h1];rfl
 ·by_cases h2:9<=k
  ·rw [xx h1,xy h2,xx h15,xx h1,xy h2];rfl
  ·rw [xx h1,xx h2,xx h15,xx h1,xx h2];have e0:enc (Int.toNat 0)=[0]:=zmu (v:=0) (by omega);rw [e0];rfl
theorem zIM {p:List Str} {n:Int} {f:Fld} {l:List Int} (hk:kNum f.Kind=true) (n1:1<=f.Number) (n2:f.Number<=536870911) (hl:∀w∈l,0<=w/\w<=18446744073709551615) (hn:l.length<=30000) (h1:f.Repeated=false->l.length=1)
  (h:Wm p n (if f.Repeated=true then put5 f.Number 2 (l.flatMap (sPut f.Kind)) else put5 f.Number (zaM f.Kind) (sPut f.Kind (l.headD 0))).length 1):
  Wr (zfI ⟨p,n⟩ f l) p n (if f.Repeated=true then put5 f.Number 2 (l.flatMap (sPut f.Kind)) else put5 f.Number (zaM f.Kind) (sPut f.Kind (l.headD 0))) 1:=by
 unfold zfI;have hfl:=ztA (k:=f.Kind) hl;rw [zKk _ hl (by omega),sb,xy hk];by_cases hr:f.Repeated=true
 ·rw [xy hr] at h;rw [xy hr,xy hr];obtain ⟨P,e,g⟩:=ztm (zfe.2 ⟨n1,n2,by omega⟩) (zCU _) (by omega) h;exact ⟨P,by rw [e,sb],g⟩
 ·rw [xx hr] at h;rw [xx hr,xx hr];obtain ⟨w,rfl⟩:∃w,l=[w]:=uG.1 (h1 (by simpa using hr));have hw:=hl w xz;have hs:=zmK (k:=f.Kind) hw;have hc:=ziJ f.Kind hw;obtain ⟨P,e,g⟩:=ztm (zvL (by unfold zbO;have:=zhC.1 hk;simp;omega) n1 n2) (zrk hk (c:=(zbE f.Kind w).toNat) (by omega)) (by show (sPut f.Kind w).length<=_;omega) h;refine ⟨P,?_,g⟩;have ef:[w].flatMap (sPut f.Kind)=sPut f.Kind w:=by simp
  rw [zIZ hk,sb,ef];show (zcr ⟨p,n⟩ f.Number (zaM f.Kind) (zkv f.Kind (zbE f.Kind w).toNat)>>=_)=_;rw [e,sb];rfl
theorem zIU {k:Int} {c:Nat} (n1:1<=k) (n2:k<=536870911) (hc:c<=1048576) {v:Str} (hv:v.length=c):∃b,zmf k (c:Int)=some b/\b++v=put5 k 2 v:=by
 have hr:zcU k 2=true:=zfe.2 ⟨n1,n2,by omega⟩;obtain ⟨_,ka⟩:=zyL hr;have h1:=zlp (v:=tW k 2) (by omega);have e0:enc 0=[0]:=zmu (v:=0) (by omega);have ep:put5 k 2 []=enc (tW k 2)++[0]:=by unfold put5;rw [xy rfl,yR,e0,yA]
 have ew:IntKind.u64.wrap (c:Int)=(c:Int):=by rw [wrap_u64,yJ (by omega) (by omega)]
 have es:sPut 4 (c:Int)=enc c:=by
  unfold sPut zkv zbE;rw [xx (by omega),xx (by omega),xx (by omega),xx (by omega),xx (by omega),xJ]
 have h2:=zlp (v:=c) (by omega);have hcut:cut (enc (tW k 2)++[0]) 0 (IntKind.i64.wrap (((enc (tW k 2)++[0]).length:Int) - 1))=some (enc (tW k 2)):=by
  rw [zr (by simp;omega),zhn (i:=0) (a:=0) (b:=(enc (tW k 2)).length) rfl (by simp) (by omega) (by simp)];simp
 refine ⟨enc (tW k 2)++enc c,?_,?_⟩
 ·unfold zmf;rw [zLX (by simp) (by simp),sb,xy hr,yb,ew,zHh (by omega),sb,xy (by decide),ep,hcut,sb];simp only [es];rw [zcg (by simp;omega),sb]
 ·unfold put5;rw [xy rfl,hv]
theorem zoT {α:Type} (l:List α) (g:α->Str) (c:α->Nat) (F:Int->List Str->Int->Option (List Str×Int)) (h0:∀p n,F (l.length:Int) p n=some (p,n))
  (hs:∀(i:Nat) (h:i<l.length) (p:List Str) (n:Int),Wm p n (g l[i]).length (c l[i])->∃P:List Str,F (i:Int) p n=F ((i+1:Nat):Int) (p++P) (n+((g l[i]).length:Int))/\P.flatten=g l[i]/\P.length<=c l[i]):∀(k i:Nat) (p:List Str) (n:Int),i+k=l.length->Wm p n ((l.drop i).flatMap g).length ((l.drop i).map c).sum->
  Wq (F (i:Int) p n) p n ((l.drop i).flatMap g) ((l.drop i).map c).sum
 | 0,i,p,n,h,_=>by
  have e:l.drop i=[]:=yq (by omega);have hi:i=l.length:=by omega
  rw [e,hi,h0];exact ⟨[],by simp,rfl,by simp⟩
 | k+1,i,p,n,h,hb=>by
  have hil:i<l.length:=by omega
  have hd:l.drop i=l[i]::l.drop (i+1):=yk hil;rw [hd,xU,xL,yE] at hb|-;obtain ⟨b1,b2,b3⟩:=hb;rw [xE] at b2;obtain ⟨P,e,h1,h2⟩:=hs i hil p n ⟨b1,by omega,by omega⟩;obtain ⟨Q,e',h3,h4⟩:=zoT l g c F h0 hs k (i+1) (p++P) (n+((g l[i]).length:Int)) (by omega) ⟨by omega,by omega,by rw [xE];omega⟩;refine ⟨P++Q,?_,by rw [qP,h1,h3],by rw [xE];omega⟩;rw [e,e',yu,xE];congr 2;push_cast;omega
theorem zKG {α:Type} {c d:α->Nat}:∀{l:List α},(∀x∈l,c x<=d x)->(l.map c).sum<=(l.map d).sum
 | [],_=>xC _
 | x::l,h=>by
  have h1:=h x xz;have h2:=zKG (l:=l) fun y hy=>h y (xA _ hy)
  rw [xL,xL,yE,yE];omega
theorem zEy:∀l:List Vlu,wgVs l=(l.map wgV).sum
 | []=>rfl
 | v::l=>by rw [wgVs,zEy l];rfl
theorem zEw:∀l:List Msg,wgMs l=(l.map wgM).sum
 | []=>rfl
 | v::l=>by rw [wgMs,zEw l];rfl
theorem zCt {α:Type} (g:α->Nat):∀l:List α,(l.map fun v=>2*g v).sum=2*(l.map g).sum
 | []=>rfl
 | v::l=>by rw [xL,xL,yE,yE,zCt g l];omega
theorem zGW (l:List Str):(l.map fun _=>1).sum<=(l.map fun t=>1+t.length).sum:=zKG fun x _=>by omega
theorem zHB {m:Mes} {n:Int} (hl:m.Fields.length<=140737488351232) (h:0<=fldI m n):∃r,zeh m n=some r/\idx m.Fields r.1=some (zE m (fldI m n)):=by
 rw [zqo hl];have h0:=h;unfold fldI zjA at h0;cases hf:m.Fields.findIdx? (fun f:Fld=>f.Number==n) with
 | none=>rw [hf] at h0;simp at h0
 | some i=>
  have e:fldI m n=i:=by unfold fldI zjA;rw [hf]
  have hi:i<m.Fields.length:=by have:=(zHH h).1;omega
  exact ⟨_,rfl,by rw [e,zR rfl hi,zcX hi]⟩
theorem zLZ (p:List Str) (a b:Str) (P:List Str):(p++[a]++P).set p.length b=p++(b::P):=by
 rw [yu,List.set_append_right _ _ (xC _),po];rfl
theorem zHv {s:List Mes} (hs:zfE s):∀(fuel:Nat),
  (∀(x:Msg) (k:Int) (p:List Str) (n:Int),2*szM x<=fuel->bdM x->wgM x<=30000->zaP s x k=true->Wm p n (encM s x k).length (2*wgM x - 1)->Wr (zbG fuel ⟨p,n⟩ s k x) p n (encM s x k) (2*wgM x - 1))/\
  (∀(x:Msg) (f:Fld) (p:List Str) (n:Int),2*szM x+1<=fuel->bdM x->wgM x<=30000->1<=f.Number->f.Number<=536870911->zaP s x f.Of=true->Wm p n (put5 f.Number 2 (encM s x f.Of)).length (2*wgM x)->Wr (zer fuel ⟨p,n⟩ s f x) p n (put5 f.Number 2 (encM s x f.Of)) (2*wgM x))/\
  ∀(v:Vlu) (f:Fld) (p:List Str) (n:Int),2*szV v<=fuel->bdV v->wgV v<=30000->1<=f.Number->f.Number<=536870911->zjB s v f=true->Wm p n (encV s v f).length (2*wgV v)->Wr (zds fuel ⟨p,n⟩ s f v) p n (encV s v f) (2*wgV v)
 | 0=>⟨fun x k p n h=>by rw [zdO] at h;omega,fun x f p n h=>by omega,fun v f p n h=>by rw [zgK] at h;omega⟩
 | fuel+1=>by
  obtain ⟨ih1,ih2,ih3⟩:=zHv hs fuel;refine ⟨fun x k p n ko hb hw hr hm=>?_,fun x f p n ko hb hw n1 n2 hr hm=>?_,fun v f p n ko hb hw n1 n2 hf hm=>?_⟩
  ·obtain ⟨b1,⟨b2,_⟩,b4⟩:=(zke x).1 hb;rw [zdO] at ko;rw [zjR] at hw hm|-;obtain ⟨k0,k1,_,hv,_⟩:=zdI hr;rw [zwv] at hm|-;obtain ⟨j,rfl⟩:∃j:Nat,k=j:=⟨k.toNat,by omega⟩;have hn:j<s.length:=by omega
   have hmi:idx s (j:Int)=some (zK s j):=by rw [zR rfl hn,zdW hn]
   have hmm:zK s (j:Int)∈s:=by rw [zdW hn];exact xF hn
   have hfew:=hs.few _ hmm
   generalize zK s (j:Int)=m at hv hmi hmm hfew hm|-
   obtain ⟨m1,m2,m3⟩:=hm;rw [xE] at m2;have hu:=zGW x.Unknown;have hvs:=zEy x.Values;have htw:=zCt wgV x.Values;obtain ⟨P,e1,f1,g1⟩:=zoT x.Values (fun v=>encV s v (zE m (fldI m v.Number))) (fun v=>2*wgV v) (fun i p n=>zcy (zds fuel) s x m i p n) (fun p n=>by
     refine zlC ?_;unfold zaV;rw [uO])
    (fun i hi p n hwm=>by
     have hvm:=xF hi;have hxi:idx x.Values (i:Int)=some x.Values[i]:=zR rfl hi;have s1:=zfX hvm;have w1:=zrA hvm
     generalize x.Values[i]=v at hvm hxi hwm s1 w1|-
     obtain ⟨f0,hfit⟩:=hv v hvm;rcases zhq m v.Number with ⟨hf,_⟩| ⟨q,hq,hf,_⟩
     ·omega
     have hfm:zE m (fldI m v.Number)∈m.Fields:=by rw [hf,zcX hq];exact xF hq
     have hfo:=hs.fld _ hmm _ hfm;obtain ⟨r,hby,hidx⟩:=zHB (m:=m) (n:=v.Number) (by omega) f0;obtain ⟨P,e,f,g⟩:=ih3 v (zE m (fldI m v.Number)) p n (by omega) (zfG.1 b4 v hvm) (by omega) hfo.lo hfo.hi hfit hwm;refine ⟨P,zlB ?_,f,g⟩;unfold zaV;rw [uP,hxi,sb,hby,sb,hidx,sb,e,sb,uR];push_cast;rfl) x.Values.length 0 p n (xQ _) (by rw [xN,<-zmt,htw];exact ⟨m1,by omega,by omega⟩)
   rw [xN,<-zmt] at e1 f1;rw [xN,htw] at g1;obtain ⟨Q,e2,f2,g2⟩:=zoT x.Unknown (fun t=>t) (fun _=>1) (fun i p n=>zcz x i p n) (fun p n=>by
     refine zlE ?_;unfold zaW;rw [uO])
    (fun i hi p n hwm=>by
     have hl:=zpD (xF hi);refine ⟨[x.Unknown[i]],zlD ?_,by simp,by simp⟩;unfold zaW;rw [uP,zR rfl hi,sb,zGF (by omega),sb,zFV hwm,sb,uR];push_cast;rfl) x.Unknown.length 0 (p++P) (n+((zms s x.Values m).length:Int)) (xQ _) (by
      rw [xN,List.flatMap_id'];exact ⟨by omega,by omega,by rw [xE];omega⟩)
   rw [xN,List.flatMap_id'] at e2 f2;rw [xN] at g2;refine ⟨P++Q,?_,by rw [qP,f1,f2],by rw [xE];omega⟩;show zdR (zbG fuel) (zer fuel) (zds fuel) ⟨p,n⟩ s j x=_;unfold zdR;have e1':zcy (zds fuel) s x m 0 p n=_:=e1;have e2':zcz x 0 (p++P) (n+((zms s x.Values m).length:Int))=_:=e2;rw [hmi,sb];simp only;rw [e1',sb];simp only;rw [e2',sb,yu,xE];congr 2;push_cast;omega
  ·have ke:=(zkj hs (szM x)).1 x f.Of (xC _) hb hw hr;have hpl:=zoA f.Number 2 (encM s x f.Of);rw [xy rfl] at hpl;obtain ⟨m1,m2,m3⟩:=hm;have hwg:1<=wgM x:=by rw [zjR];omega
   obtain ⟨h,eh,ep⟩:=zIU (k:=f.Number) (c:=(encM s x f.Of).length) n1 n2 (by omega) (v:=encM s x f.Of) rfl;have hhl:h.length+(encM s x f.Of).length=(put5 f.Number 2 (encM s x f.Of)).length:=by rw [<-ep,xE]
   obtain ⟨P,e,f1,g1⟩:=ih1 x f.Of (p++[[]]) n (by omega) hb hw hr ⟨m1,by omega,by simp;omega⟩;refine ⟨h::P,?_,by rw [qa,f1,ep],by rw [xR];omega⟩;show zfH (zbG fuel) (zer fuel) (zds fuel) ⟨p,n⟩ s f x=_;unfold zfH;have e0:zcl ⟨p,n⟩ []=some ⟨p++[[]],n⟩:=by
    rw [zFV ⟨m1,by simp;omega,by omega⟩];simp
   rw [e0,sb,e,sb];simp only;rw [zr (x:=n+((encM s x f.Of).length:Int) - n) (by omega),show n+((encM s x f.Of).length:Int) - n=((encM s x f.Of).length:Int) by omega,eh,sb,zR rfl (by simp),sb,xJ,zLZ,zR rfl (by simp),sb,zr (by simp;omega)];congr 2;simp;omega
  ·have ke:=(zkj hs (szV v)).2 v f (xC _) hb hw n1 n2 hf;obtain ⟨_,⟨bl,bw⟩,_,_,b5⟩:=(ziR v).1 hb;rw [zgK] at ko;rw [ziX] at hw hm ke|-;have hfs:=zgg hf;rw [zww] at ke hm|-;have t2:zcU f.Number 2=true:=zfe.2 ⟨n1,n2,.inr (.inr (.inl rfl))⟩;obtain ⟨m1,m2,m3⟩:=hm;have ho:=zGW v.Texts;have hms:=zEw v.Subs;have htw:=zCt wgM v.Subs;have L1:∀(p:List Str) (n:Int),Wm p n (v.Texts.flatMap (put5 f.Number 2)).length (v.Texts.map fun _=>1).sum->Wq (zdf f v 0 p n) p n (v.Texts.flatMap (put5 f.Number 2)) (v.Texts.map fun _=>1).sum:=fun p n h=>by
    have:=zoT v.Texts (put5 f.Number 2) (fun _=>1) (fun i p n=>zdf f v i p n) (fun p n=>by
      refine zmU ?_;unfold zbn;rw [uO])
     (fun i hi p n hwm=>by
      have hl:=zpD (xF hi);obtain ⟨P,e,f1,g1⟩:=ztm t2 (zCU _) (by omega) hwm;refine ⟨P,zmT ?_,f1,g1⟩;unfold zbn;rw [uP,zR rfl hi,sb,zGF (by omega),sb,e,sb,uR];push_cast;rfl) v.Texts.length 0 p n (xQ _) (by rw [xN];exact h)
    rw [xN] at this;exact this
   have L2:∀(p:List Str) (n:Int),Wm p n (zlw s v.Subs f).length (2*wgMs v.Subs)->Wq (zdg f (zer fuel) s v 0 p n) p n (zlw s v.Subs f) (2*wgMs v.Subs):=fun p n h=>by
    rw [zpm,hms,<-htw] at h|-;have:=zoT v.Subs (fun x=>put5 f.Number 2 (encM s x f.Of)) (fun x=>2*wgM x) (fun i p n=>zdg f (zer fuel) s v i p n) (fun p n=>by
      refine zmW ?_;unfold zbo;rw [uO])
     (fun i hi p n hwm=>by
      have hxm:=xF hi;have hxi:idx v.Subs (i:Int)=some v.Subs[i]:=zR rfl hi
      generalize v.Subs[i]=x at hxm hxi hwm|-
      have s1:=zfW hxm;have w1:=zln hxm;obtain ⟨P,e,f1,g1⟩:=ih2 x f p n (by omega) (zfF.1 b5 x hxm) (by omega) n1 n2 (hfs.subs x hxm).2 hwm;refine ⟨P,zmV ?_,f1,g1⟩;unfold zbo;rw [uP,hxi,sb,e,sb,uR];push_cast;rfl) v.Subs.length 0 p n (xQ _) (by rw [xN];exact h)
    rw [xN] at this;exact this
   show Wr (zeL (zbG fuel) (zer fuel) (zds fuel) ⟨p,n⟩ s f v) _ _ _ _;unfold zeL;by_cases hn:kNum f.Kind=true
   ·have hnt:=hfs.noTexts (by have:=znv hn;omega);have hns:=hfs.noSubs (znv hn).1;have hmany:=hfs.many;have hone:=hfs.one;unfold zcs at hmany hone;rw [hnt] at hmany hone L1;rw [hns] at hmany hone L2;simp only [yR,yF] at hmany hone;rw [xy hn] at ke m2|-;obtain ⟨P,e,f1,g1⟩:=zIM (p:=p) (n:=n) hn n1 n2 bw (by omega) hone ⟨m1,m2,by omega⟩
    generalize (if f.Repeated=true then put5 f.Number 2 (v.Words.flatMap (sPut f.Kind)) else put5 f.Number (zaM f.Kind) (sPut f.Kind (v.Words.headD 0)))=B at ke m2 e f1|-
    obtain ⟨Q,e1,f2,g2⟩:=L1 (p++P) (n+(B.length:Int)) ⟨by omega,by simp;omega,by simp;omega⟩;have g2':Q.length<=0:=g2;obtain ⟨R,e2,f3,g3⟩:=L2 (p++P++Q) (n+(B.length:Int)+(((([]:List Str).flatMap (put5 f.Number 2)).length:Nat):Int)) ⟨by omega,by simp [zlw];omega,by simp [wgMs];omega⟩;have g3':R.length<=0:=g3;have hQ:Q=[]:=uL.1 (by omega);have hR:R=[]:=uL.1 (by omega);subst hQ hR;refine ⟨P,?_,f1,by omega⟩;rw [itT (by simpa using hmany),e,sb,sb];simp only;rw [e1,sb];simp only;rw [e2,sb];simp [zlw]
   ·have hwd:v.Words=[]:=by
     cases hw':v.Words with
     | nil=>rfl
     | cons w l=>
      have hm:w∈v.Words:=by rw [hw'];exact xz
      exact absurd (zIf (hfs.words w hm) (bw w hm)).1 hn
    rw [xx hn] at ke m2|-;rw [xE] at m2;obtain ⟨Q,e1,f2,g2⟩:=L1 p n ⟨m1,by omega,by omega⟩;obtain ⟨R,e2,f3,g3⟩:=L2 (p++Q) (n+((v.Texts.flatMap (put5 f.Number 2)).length:Int)) ⟨by omega,by omega,by rw [xE];omega⟩;refine ⟨Q++R,?_,by rw [qP,f2,f3],by rw [xE];omega⟩;rw [itF (by rw [hwd];rfl),sb];simp only;rw [e1,sb];simp only;rw [e2,sb,yu,xE];congr 2;push_cast;omega
structure Ok16 (fuel:Nat) (x:Msg):Prop where
 b:bdM x
 s:smM x
 z:2*szM x<fuel
 w:wgM x<=30000
theorem zAU {s:List Mes} (hs:zfE s) {fuel:Nat} {x:Msg} {k:Int} (hz:2*szM x<fuel) (hb:bdM x) (hw:wgM x<=30000) (hr:zaP s x k=true):
  ∃P:List Str,zbG fuel ⟨[],0⟩ s k x=some ⟨P,((encM s x k).length:Int)⟩/\zaz P=some (encM s x k):=by
 have ke:=(zkj hs (szM x)).1 x k (xC _) hb hw hr;obtain ⟨P,e,f,g⟩:=(zHv hs fuel).1 x k [] 0 (by omega) hb hw hr ⟨by omega,by omega,by simp;omega⟩;refine ⟨P,by rw [e,yb,Int.zero_add],?_⟩;rw [zol (by omega) (by rw [f];omega),f]
theorem zIS {fuel:Nat} {s:List Mes} (root:Int) {x:Msg} (h:Ok16 fuel x) (hw:WS s):zme fuel s root x=some (zsy s root [x]):=by
 have ko:=zzc _ x (xC _);have hd:=zGf x;unfold zme zsy znH;rw [zyS root h.z hw h.b h.s (by have:=h.w;omega),sb,zDX hw];cases hr:zhT s with
 | false=>
  rw [yW,uN,sb,uM];simp
 | true=>
  rw [yc];cases hm:zaP s x root with
  | true=>
   obtain ⟨g1,g2,_⟩:=zdI hm;rw [uM,xx (show ¬(true=false) by simp),xx (show ¬(root<0\/root>=(s.length:Int)) by omega)];simp [hm]
  | false=>
   rw [uN,sb,uN,xx (show ¬(true=false) by simp)];by_cases hroot:root<0\/root>=(s.length:Int)
   ·rw [itT (by simpa using hroot),xy hroot];simp
   ·rw [itF (by simpa using hroot),xx hroot];simp [hm]
theorem zET {fuel:Nat} {s:List Mes} (root:Int) {x:Msg} (h:Ok16 fuel x) (hw:WS s):zjw fuel s root x=some (zBn s root x):=by
 unfold zjw zBn;rw [zIS root h hw,sb];by_cases h0:zsy s root [x]=0
 ·obtain ⟨g1,_,_,g4⟩:=zFm h0;obtain ⟨P,e,c⟩:=zAU g1 h.z h.b h.w (g4 x (by simp));rw [itF (by simpa using h0),xy h0,e,sb];unfold zeq;rw [sb,c,sb,sb]
 ·rw [itT (by simpa using h0),xx h0]
theorem zNh {fuel:Nat} {s:List Mes} (root:Int) {b:List UInt8} (hf:300<=fuel) (hw:WS s) (hb:b.length<=1048576) (hx:is11 s root b 64=true->2*szM (ofM s root b)<fuel/\wgM (ofM s root b)<=30000):zqp fuel s root b=some (zBD s root b):=by
 unfold zqp zBD;rw [zOc root 64 hf hw (by omega),sb];by_cases hi:is11 s root b 64=true
 ·obtain ⟨h1,h2⟩:=hx hi;obtain ⟨hz,hfi⟩:=zxF.1 hi;obtain ⟨g1,g2,g3,_,_⟩:=zlM hz;obtain ⟨k,rfl⟩:∃k:Nat,root=k:=⟨root.toNat,by omega⟩;obtain ⟨hbd,hsm⟩:=zJR g1 b.length b k rfl (by omega) (by omega);obtain ⟨hr,hd⟩:=zAs g1 b.length b _ k rfl (by omega) hfi;have h0:(zfZ s k b 64).2=0:=by unfold is11 at hi;simpa using hi
  obtain ⟨P,e,c⟩:=zAU g1 h1 hbd h2 hr;have ht:zvn s k b 64=(ofM s k b,0):=by unfold zvn;rw [xx (fun h=>h h0)]
  rw [ht];simp only;rw [itF (by decide),e,sb];unfold zeq;rw [sb,c,sb,sb];unfold znq;rw [sb,hi,yc]
 ·have h0:(zfZ s root b 64).2≠0:=by unfold is11 at hi;simpa using hi
  have hi':is11 s root b 64=false:=by simpa using hi
  have ht:zvn s root b 64=(⟨[],[]⟩,(zfZ s root b 64).2):=by unfold zvn;rw [xy h0]
  rw [ht];simp only;rw [itT (by simpa using h0),hi',yW]
end Go.Proofs.YtkgohoggipdokaaGreat

/-
  What the plain functions are. No condition.
-/
import Derived.Test.YtekgmimingolbaaGreatx2P1
namespace Go.Proofs.YtekgmimingolbaaGreat
open Go
set_option linter.unusedVariables false
theorem zEX (x y:Int):zgb x y=some (if x<y then -1 else if y<x then 1 else 0):=by
 unfold zgb zhi;rw [sb,sb,itF (by simp),itF (by simp)];by_cases h:x<y
 ·rw [itT (by simpa using h),xr h]
 ·rw [itF (by simpa using h),xq h];by_cases h2:y<x
  ·rw [itT (by simpa using h2),xr h2]
  ·rw [itF (by simpa using h2),xq h2]
theorem zzk {a b:zE} (ha:a.length<=1152921504606846976):zcU a b=some (lexI a b):=by
 have key:∀(d i:Nat),i+d=a.length->i<=b.length->∃r,zbS a b i=some r/\(match r with| .inl _=>(if (a.length:Int)<(b.length:Int) then -1 else 0)| .inr x=>x)=lexI (a.drop i) (b.drop i):=by
  intro d
  induction d with
  | zero=>
   intro i hi hib;refine ⟨.inl (),zcG ?_,?_⟩
   ·unfold zam;rw [uw]
   ·rw [yd (show a.length<=i by omega)];cases hb:b.drop i with
    | nil=>
     have:=congrArg List.length hb;simp at this;rw [lexI];simp only;rw [xq (by omega)]
    | cons y l=>
     have:=congrArg List.length hb;simp at this;rw [lexI];simp only;rw [xr (by omega)]
  | succ d ih=>
   intro i hi hib;have hia:i<a.length:=by omega
   by_cases hlt:i<b.length
   ·have hb:zam a b i=if (if a[i]<b[i] then (-1:Int) else if b[i]<a[i] then 1 else 0)=0 then some (.inl ((i+1:Nat):Int)) else some (.inr (.inr (if a[i]<b[i] then (-1:Int) else if b[i]<a[i] then 1 else 0))):=by
     unfold zam;rw [uv,zah rfl hia,sb,uw,zah rfl hlt,sb,zEX,sb,uy];by_cases h0:(if a[i]<b[i] then (-1:Int) else if b[i]<a[i] then 1 else 0)=0
     ·rw [itF (by simp [h0]),xr h0];push_cast;rfl
     ·rw [itT (by simpa using h0),xq h0]
    rw [xT hia,xT hlt,lexI];by_cases h1:a[i]<b[i]
    ·rw [xr h1] at hb|-;rw [xq (by decide)] at hb;exact ⟨_,zcG hb,rfl⟩
    ·by_cases h2:b[i]<a[i]
     ·rw [xq h1,xr h2] at hb|-;rw [xq (by decide)] at hb;exact ⟨_,zcG hb,rfl⟩
     ·rw [xq h1,xq h2] at hb|-;rw [xr rfl] at hb;obtain ⟨r,k1,k2⟩:=ih (i+1) (by omega) (by omega);exact ⟨r,by rw [ziM hb];exact k1,k2⟩
   ·refine ⟨.inr 1,zcG ?_,?_⟩
    ·unfold zam;rw [uv,zah rfl hia,sb,uv]
    ·rw [xT hia,yd (show b.length<=i by omega)];rfl
 obtain ⟨r,h1,h2⟩:=key a.length 0 (by omega) (by omega);have h1':zbS a b 0=some r:=h1;rw [yb,yb] at h2;unfold zcU;rw [h1',sb];cases r with
 | inl _=>
  simp only at h2|-;by_cases hl:(a.length:Int)<(b.length:Int)
  ·rw [xr hl] at h2;rw [itT (by simpa using hl),h2]
  ·rw [xq hl] at h2;rw [itF (by simpa using hl),h2]
 | inr x=>simp only at h2|-;rw [h2]
theorem zBz {a b:zE} (ha:a.length<=1152921504606846976):zdu a b=some (decide (a=b)):=by
 unfold zdu;by_cases hl:a.length=b.length
 ·rw [itF (by simp [hl])];have key:∀(d i:Nat),i+d=a.length->zck a b i=some (if a.drop i=b.drop i then .inl () else .inr ()):=by
   intro d
   induction d with
   | zero=>
    intro i hi;rw [yd (show a.length<=i by omega),yd (show b.length<=i by omega),xr rfl];refine zgl ?_;unfold zat;rw [uw]
   | succ d ih=>
    intro i hi;have hia:i<a.length:=by omega
    have hib:i<b.length:=by omega
    rw [xT hia,xT hib];by_cases he:a[i]=b[i]
    ·have hb:zat a b i=some (.inl ((i+1:Nat):Int)):=by
      unfold zat;rw [uv,zah rfl hia,sb,zah rfl hib,sb,itF (by simp [he]),uy];push_cast;rfl
     rw [zjn hb,ih (i+1) (by omega)];by_cases h:a.drop (i+1)=b.drop (i+1)
     ·rw [xr h,xr (by rw [he,h])]
     ·rw [xq h,xq (fun e=>h (by injection e))]
    ·rw [xq (fun e=>he (by injection e))];refine zgl ?_;unfold zat;rw [uv,zah rfl hia,sb,zah rfl hib,sb,itT (by simp [he])]
  have h:=key a.length 0 (by omega);have h':zck a b 0=_:=h;rw [h',sb,yb,yb];by_cases he:a=b
  ·rw [xr he];simp [he]
  ·rw [xq he];simp [he]
 ·rw [uv];have:a≠b:=fun e=>hl (by rw [e])
  simp [this]
theorem zFp {way other:zE} (h:way.length<=1152921504606846976):zme way other=some (!other.isEmpty&&begB way other):=by
 unfold zme;cases other with
 | nil=>rw [itF (by simp),sb];rfl
 | cons y l=>
  rw [itT (by simp<;>omega)];by_cases hl:(y::l).length<=way.length
  ·rw [itT (by simp at hl|-;omega),znF rfl hl,sb,zBz (by rw [xM];omega),sb,sb];congr 1;rw [List.isEmpty_cons,pE,xZ,yy,zkD,xU,ut];exact ⟨fun h=>h.symm,fun h=>h.symm⟩
  ·rw [itF (by simp at hl|-;omega),sb];congr 1;rw [List.isEmpty_cons,pE,xZ]
   symm
   rw [<-qF,zkD];exact fun hp=>hl hp.length_le
theorem zBw {a:zE} (h:a.length<=17592186043904):zdt a=some a:=by
 unfold zdt;have h1:(app 8 ([]:zE) a>>=fun v=>some v)=some a:=by rw [zhh (by simp;omega),sb,x8]
 cases a with
 | nil=>exact znC rfl h1
 | cons=>exact h1
theorem zFG {α:Type} (l:List α) (m:Nat) (d x:α):(l++List.replicate (m+1) d).set l.length x=(l++[x])++List.replicate m d:=by
 rw [List.set_append_right _ _ (xx _),Nat.sub_self,List.replicate_succ,List.set_cons_zero,yH];rfl
theorem zxz {ways:List zE} (hw:WW ways):∀(t:List zE) (k:Nat),ways.drop k=t->k<=ways.length->zgg ways (ways.take k++List.replicate (ways.length - k) []) k=some ways:=by
 have hl:=hw.1;intro t
 induction t with
 | nil=>
  intro k hd hk;have:=zfh hd;obtain rfl:k=ways.length:=by omega
  rw [qa,Nat.sub_self,List.replicate_zero,yR];refine zpH ?_;unfold zdh;rw [itF (by simp)]
 | cons x t ih=>
  intro k hd hk;obtain ⟨hlt,hx,hd'⟩:=zem hd;have hln:(ways.take k).length=k:=by rw [xM];omega
  have hxl:=hw.2 x (hx▸xE hlt);refine (zpG (l':=ways.take (k+1)++List.replicate (ways.length - (k+1)) []) (v2':=((k+1:Nat):Int)) ?_).trans (ih (k+1) hd' (by omega));unfold zdh;rw [uv,zah rfl hlt,sb,hx,zBw hxl,sb,zah rfl (show k<_ by rw [yc,qR,hln];omega),sb,uy,yp];have e:=zFG (ways.take k) (ways.length - (k+1)) ([]:zE) x;rw [hln,show ways.length - (k+1)+1=ways.length - k by omega] at e;rw [e,yz hlt,hx];push_cast;rfl
theorem zuZ {ways:List zE} (hw:WW ways):ziv ways=some ways:=by
 have hl:=hw.1;unfold ziv;rw [ztI (a:=ways.length) rfl (y8 _) (by omega),sb];have h:=zxz hw ways 0 rfl (xG _);rw [yZ,x8,qC] at h;have h':zgg ways (List.replicate ways.length []) 0=_:=h;rw [h',sb]
theorem zxP {ways:List zE} (hw:WW ways):∀(t:List zE) (k:Nat) (last:zE),ways.drop k=t->last.length<=17592186043904->zgh ways last k=some (if zjd last t=true then .inl () else .inr ()):=by
 have hl:=hw.1;intro t
 induction t with
 | nil=>
  intro k last hd _;have:=zfh hd;rw [zjd,xr rfl];refine zkM ?_;unfold zcK;rw [uw]
 | cons x t ih=>
  intro k last hd hll;obtain ⟨hlt,hx,hd'⟩:=zem hd;have hxl:=hw.2 x (hx▸xE hlt);have hb:zcK ways last k=if zvN last x then some (.inr (.inr ())) else some (.inl (x,((k+1:Nat):Int))):=by
   unfold zcK;rw [uv,zah rfl hlt,sb,hx,zzk (by omega),sb,uy];unfold zvN;by_cases h0:0<=lexI last x
   ·rw [itT (by simpa using h0),sb,itT rfl,xS h0];rfl
   ·rw [itF (by simpa using h0),zFp (by omega),sb,sb,xY h0,Bool.false_or];cases (!last.isEmpty&&begB x last) with
    | true=>rfl
    | false=>rw [itF rfl];push_cast;rfl
  rw [zjd];cases hs:zvN last x with
  | true=>
   rw [hs] at hb;rw [xq (by simp)];exact zkM hb
  | false=>
   rw [hs] at hb;rw [pE,xZ,zpI hb];exact ih (k+1) x hd' hxl
theorem zBK {ways:List zE} (hw:WW ways):zjL ways=some (decide (ofW ways=ways)):=by
 have h:=zxP hw ways 0 [] rfl (by simp);have h':zgh ways [] 0=_:=h;unfold zjL;rw [h',sb];by_cases hc:zjd [] ways=true
 ·rw [xr hc];simp only;rw [xS (zuW.1 hc)]
 ·rw [xq hc];simp only;rw [xY (fun e=>hc (zuW.2 e))]
theorem zAe {σ ρ:Type} {kb:σ->zE->Option (σ⊕ρ)} {v:List zE} (hv:v.length<=1152921504606846976):∀(l:List zE) (i:Nat) (s:σ) (o:σ⊕ρ),v.drop i=l->go12 kb l s=some o->
  zbc (rnd kb) v (i:Int) (.inl s)=some (match o with| .inl s'=> .inl (.inl s')| .inr r=> .inr (.inr r)):=by
 intro l
 induction l with
 | nil=>
  intro i s o hd h;cases h;have:=zfh hd;refine zeM ?_;unfold zag;rw [uw]
 | cons x l ih=>
  intro i s o hd h;obtain ⟨hk,hx,hd'⟩:=zem hd;rw [go12] at h;cases hb:kb s x with
  | none=>rw [hb] at h;cases h
  | some q=>
   rw [hb] at h;cases q with
   | inl s'=>
    refine (zhH (v2':=((i+1:Nat):Int)) (sg2':= .inl s') ?_).trans (ih (i+1) s' o hd' h);unfold zag;rw [uv,zah rfl hk,sb,hx,zGP hb,sb,itF (c:= !true) rfl,uy];push_cast;rfl
   | inr r=>
    cases h;refine zeM ?_;unfold zag;rw [uv,zah rfl hk,sb,hx,zGQ hb,sb,itT (c:= !false) rfl]
theorem zHH {σ ρ:Type} {kb:σ->zE->Option (σ⊕ρ)} {v:List zE} (hv:v.length<=1152921504606846976) {s:σ} {o:σ⊕ρ} (h:go12 kb v s=some o):zaX v (rnd kb) (.inl s)=some o:=by
 have h1:=zAe hv v 0 s o rfl h;have h2:zbc (rnd kb) v 0 (.inl s)=_:=h1;unfold zaX;rw [h2,sb];cases o<;>rfl
theorem zuT:∀(l acc:List zE),acc.length+l.length<=5864062014634->go12 (fun s x=>zM s x) l acc=some (.inl (acc++l))
 | [],acc,_=>by simp [go12]
 | x::l,acc,h=>by
  simp only [yi] at h;have hb:zM acc x=some (.inl (acc++[x])):=by
   unfold zM;rw [zhh (by simp;omega),sb]
  rw [go12,hb];simp only;rw [zuT l (acc++[x]) (by simp;omega),yH];rfl
theorem zzW {l:List zE} (hw:WW l):zO l=some (zly l):=by
 have hl:=hw.1;unfold zO zaL zav zaZ zwQ;rw [zHH (by omega) (zuT l [] (by simpa using hl)),sb];simp only [x8];rw [sb,sb,xr ⟨by omega,xC.2 fun x hx=>by have:=hw.2 x hx;simp;omega⟩,sb]
def sumW (l:List zE):Nat:=(l.map List.length).sum
theorem zvQ (x:zE) (l:List zE):sumW (x::l)=x.length+sumW l:=by unfold sumW;simp
theorem zCq {a b:List zE} (h:a.Perm b):sumW a=sumW b:=(h.map List.length).sum_nat
theorem zBy {t:zqd} {A:List zE} {P:List (zE×Int)} (h:zrN t A P) {way:zE} (hl:way.length<=1152921504606846976):zfB t way=some (hasB A way):=by
 have key:∀(d k:Nat) (i:Int),k+d=way.length->(way.take k,i)∈P->∃q,zep t way i k=some q/\(match q with| .inl _=>false| .inr b=>b)=hasB A way:=by
  intro d
  induction d with
  | zero=>
   intro k i hk hp;refine ⟨.inl (),zgC ?_,?_⟩
   ·unfold zaW;rw [uw]
   ·rw [yC (by omega)] at hp;rw [zEH h hp]
  | succ d ih=>
   intro k i hk hp;have hlt:k<way.length:=by omega
   have hq:way.take k++[way[k]]=way.take (k+1):=(yz hlt).symm;have hpre:way.take k++[way[k]]<+:way:=by rw [hq];exact p7 _ _
   by_cases hA:way.take k++[way[k]]∈A
   ·have hg:=h.1.leaf _ hp way[k] hA;simp only at hg;refine ⟨.inr true,zgC ?_,(zCu hpre (fun e=>absurd (List.append_eq_nil_iff.1 e).2 (by simp)) hA).symm⟩;unfold zaW;rw [uv,zah rfl hlt,sb,hg,itF (by rfl),itT (by rfl)]
   ·by_cases hP:∃j,(way.take k++[way[k]],j)∈P
    ·obtain ⟨j,hj⟩:=hP;have hg:=h.1.node _ hp way[k] _ hj rfl;have hid:=h.1.ids _ hj;simp only at hg hid;have hb:zaW t way i k=some (.inl (j,((k+1:Nat):Int))):=by
      unfold zaW;rw [uv,zah rfl hlt,sb,hg,itF (by rfl),itF (by simp<;>omega),uy];push_cast;rfl
     rw [zmQ hb];exact ih (k+1) j (by omega) (by rw [<-hq];exact hj)
    ·have hno:∀q∈P,q.1≠way.take k++[way[k]]:=fun q hq e=>hP ⟨q.2,by rw [<-e];exact hq⟩
     have hg:=h.1.none _ hp way[k] hA hno;simp only at hg;refine ⟨.inr false,zgC ?_,(zCv h hp hpre hA hno).symm⟩;unfold zaW;rw [uv,zah rfl hlt,sb,hg,itT (by rfl)]
 obtain ⟨q,h1,h2⟩:=key way.length 0 0 (by omega) (by rw [yZ];exact h.1.root);have h1':zep t way 0 0=some q:=h1;unfold zfB;rw [h1',sb,<-h2];cases q<;>rfl
theorem zGk {t:zqd} {A:List zE} {P:List (zE×Int)} (h:zrN t A P) {way:zE} (hn:way≠[]) (hf:∀a∈A,¬way<+:a) (hb:∀a∈A,¬a<+:way) (hl:t.length+way.length<=4611686018427387904):
  ∃t' P',ziI t way=some t'/\zrN t' (A++[way]) P'/\t'.length<=t.length+way.length:=by
 have key:∀(d k:Nat) (t1:zqd) (P1:List (zE×Int)) (i f f2:Int),k+d=way.length->Trie t1 A P1->(way.take k,i)∈P1->t1.length<=t.length+k->
   (∀r∈P1,r.1=[]\/(∃a∈A,r.1<+:a/\r.1≠a)\/r.1<+:way)->(k=0\/∃(p:zE) (j n:Int),(p,j)∈P1/\p++[n]=way.take k/\f=j/\f2=n)->
   ∃t2 P2 p j n i2,zfA way t1 i k f f2=some (t2,j,n)/\Trie t2 A P2/\(p,j)∈P2/\p++[n]=way/\(way,i2)∈P2/\t2.length<=t.length+way.length/\∀r∈P2,r.1=[]\/(∃a∈A,r.1<+:a/\r.1≠a)\/r.1<+:way:=by
  intro d
  induction d with
  | zero=>
   intro k t1 P1 i f f2 hk ht hp hlen hx hlast;obtain rfl:k=way.length:=by omega
   rw [qa] at hp hlast;rcases hlast with h0| ⟨p,j,n,h1,h2,rfl,rfl⟩
   ·exact absurd (ym h0) hn
   ·refine ⟨t1,P1,p,f,f2,i,zpf ?_,ht,h1,h2,hp,hlen,hx⟩;unfold zbR;rw [itF (by simp)]
  | succ d ih=>
   intro k t1 P1 i f f2 hk ht hp hlen hx hlast;have hlt:k<way.length:=by omega
   have hq:way.take k++[way[k]]=way.take (k+1):=(yz hlt).symm;have hpre:way.take k++[way[k]]<+:way:=by rw [hq];exact p7 _ _
   have hA:way.take k++[way[k]]∉A:=fun ha=>hb _ ha hpre
   by_cases hP:∃j,(way.take k++[way[k]],j)∈P1
   ·obtain ⟨j,hj⟩:=hP;have hg:=ht.node _ hp way[k] _ hj rfl;simp only at hg;have hbd:zbR way t1 i k f f2=some (.inl (t1,j,((k+1:Nat):Int),i,way[k])):=by
     unfold zbR;rw [uv,zah rfl hlt,sb,hg,itF (by rfl),uy];push_cast;rfl
    rw [zkh hbd];exact ih (k+1) t1 P1 j i way[k] (by omega) ht (by rw [<-hq];exact hj) (by omega) hx (.inr ⟨way.take k,i,way[k],hp,hq,rfl,rfl⟩)
   ·have hno:∀q∈P1,q.1≠way.take k++[way[k]]:=fun q hq' e=>hP ⟨q.2,by rw [<-e];exact hq'⟩
    have hg:=ht.none _ hp way[k] hA hno;simp only at hg;have hw1:IntKind.i64.wrap ((t1.length:Int)+1)=((t1.length+1:Nat):Int):=by rw [uy];push_cast;rfl
    have hbd:zbR way t1 i k f f2=some (.inl (mput t1 ⟨i,way[k]⟩ ((t1.length+1:Nat):Int),((t1.length+1:Nat):Int),((k+1:Nat):Int),i,way[k])):=by
     unfold zbR;rw [uv,zah rfl hlt,sb,hg,itT (by rfl),hw1,zdR,xr rfl,uy];push_cast;rfl
    rw [zkh hbd];refine ih (k+1) _ _ _ i way[k] (by omega) (zEI ht hp hA hno) (xO _ (by rw [<-hq];exact xt)) (by rw [zyh hg];omega) (fun r hr=>?_) (.inr ⟨way.take k,i,way[k],xN _ hp,hq,rfl,rfl⟩);rcases xz.1 hr with hr| hr
    ·exact hx r hr
    ·simp only [xR] at hr;rw [hr];exact .inr (.inr hpre)
 obtain ⟨t2,P2,p,j,n,i2,h1,h2,h3,h4,h5,h6,h7⟩:=key way.length 0 t P 0 0 0 (by omega) h.1 (by rw [yZ];exact h.1.root) (by omega)
  (fun r hr=>by rcases h.2 r hr with h0| h0;exact .inl h0;exact .inr (.inl h0)) (.inl rfl)
 have h1':zfA way t 0 0 0 0=some (t2,j,n):=h1;subst h4;obtain ⟨e,ht⟩:=zCt h2 h3 h5 hf hb h7;refine ⟨mput t2 ⟨j,n⟩ (-1),_,?_,ht,by rw [e];exact h6⟩;unfold ziI;rw [h1',sb]
theorem zBZ {l:List zE} (hl:l.length<=5864062014634) (hx:∀w∈l,w.length<=17592186043904) (hs:l.Pairwise fun a b=>lexI a b<=0):∀(r:List zE) (k:Nat) (acc:List zE) (t:zqd) (P:List (zE×Int)),l.drop k=r->k<=l.length->Fo (l.take k) acc->acc.length<=k->zrN t acc P->
  t.length+sumW r<=4611686018427387904->zjj l acc t k=some (ofW l):=by
 intro r
 induction r with
 | nil=>
  intro k acc t P hd hk hfo hal ht hsum;have:=zfh hd;obtain rfl:k=l.length:=by omega
  rw [qa] at hfo;refine ztC ?_;unfold zfo;rw [itF (by simp),zGs hfo]
 | cons x r ih=>
  intro k acc t P hd hk hfo hal ht hsum;obtain ⟨hlt,hxk,hd'⟩:=zem hd;have hxm:x∈l:=hxk▸xE hlt;have hxl:=hx x hxm;rw [zvQ] at hsum;have hbe:∀a∈l.take k,lexI a x<=0:=fun a ha=>by
   obtain ⟨i,hi,rfl⟩:=yU ha;rw [List.getElem_take,<-hxk];rw [xM] at hi;exact p9.1 hs i k (by omega) hlt (by omega)
  have htk:l.take (k+1)=l.take k++[x]:=by rw [yz hlt,hxk]
  have hstep:=zFf hfo hbe;rw [<-htk] at hstep;have hg:(if (decide ((x.length:Int)>0))=true then (zfB t x>>=fun rv5=>some (!rv5)) else some false)=some (!x.isEmpty&& !hasB acc x):=by
   cases x with
   | nil=>rfl
   | cons y x'=>rw [itT (by simp<;>omega),zBy ht (by omega),sb];rfl
  unfold addL at hstep;cases hc:(!x.isEmpty&& !hasB acc x) with
  | true=>
   rw [hc,xr rfl] at hstep;have hc':=hc;simp only [xy,yg,qo] at hc';have hb:∀a∈acc,¬a<+:x:=fun a ha hp=>by
    have:=zef.2 ⟨a,ha,hfo.mask.full a ha,hp⟩;rw [hc'.2] at this;cases this
   obtain ⟨t',P',h1,h2,h3⟩:=zGk ht hc'.1 (zAy hfo hbe hc'.2) hb (by omega);refine (znU (l':=acc++[x]) (t':=t') (v':=((k+1:Nat):Int)) ?_).trans (ih (k+1) _ t' P' hd' (by omega) hstep (by simp;omega) h2 (by omega));unfold zfo;rw [uv,zah rfl hlt,sb,hxk,hg,sb,hc,itT rfl,h1,sb,zhh (by simp;omega),sb,uy];push_cast;rfl
  | false=>
   rw [hc,xq (by simp)] at hstep;refine (znU (l':=acc) (t':=t) (v':=((k+1:Nat):Int)) ?_).trans (ih (k+1) _ t P hd' (by omega) hstep (by omega) ht (by omega));unfold zfo;rw [uv,zah rfl hlt,sb,hxk,hg,sb,hc,itF rfl,uy];push_cast;rfl
def SW (w:List zE):Prop:=WW w/\sumW w<=4611686018427387904
theorem zzL {w:List zE} (hw:SW w):zmP w=some ⟨ofW w⟩:=by
 obtain ⟨hw,hsum⟩:=hw;unfold zmP;rw [zBK hw,sb];by_cases hm:ofW w=w
 ·rw [xS hm,itT rfl,zuZ hw,sb,hm]
 ·have hp:=zpV w;have hlen:=hp.length_eq;have hl:=hw.1;have h:=zBZ (l:=zly w) (by omega) (fun x hx=>hw.2 x (hp.mem_iff.1 hx)) (zyx w) (zly w) 0 [] [] _ rfl (xG _) zGr (xG _) zEJ (by rw [zCq hp];simpa using hsum);have h':zjj (zly w) [] [] 0=_:=h;rw [xY hm,itF rfl];unfold zdj;rw [sb,zzW hw,sb,h',sb,zEa hp,zuZ (zHe hw),sb]
theorem zFK {l:List zE} {a b:Nat} (h:l.length<=a) (k:∀w∈l,w.length<=b):sumW l<=a*b:=by
 have key:∀l:List zE,(∀w∈l,w.length<=b)->sumW l<=l.length*b:=by
  intro l
  induction l with
  | nil=>intro _;simp [sumW]
  | cons x l ih=>
   intro k;have:=ih fun w hw=>k w (xu _ hw)
   have:=k x xt;rw [zvQ,yi,yn];omega
 exact ye (key l k) (x9 _ h)
def UW (w:List zE):Prop:=w.length<=4194304/\∀x∈w,x.length<=4194304
theorem UW.ww {w:List zE} (h:UW w):WW w:=⟨by have:=h.1;omega,fun x hx=>by have:=h.2 x hx;omega⟩
theorem UW.sw {w:List zE} (h:UW w):SW w:=⟨h.ww,ye (zFK h.1 h.2) (by decide)⟩
theorem UW.of {w:List zE} (h:UW w):UW (ofW w):=⟨ye (zwH w) h.1,fun x hx=>h.2 x (zid.1 hx).1⟩
theorem zog {n:Int} {w u:zE} (h:zrC n w=some u):u≠[]/\w=n::u:=by
 unfold zrC at h;split at h
 ·split at h
  ·rename_i e;cases h;subst e;exact ⟨by simp,rfl⟩
  ·cases h
 ·cases h
theorem zyg {m:List zE} (h:zkx m) (n:Int):zkx (zfd m n):=by
 have mem:∀u,u∈zfd m n->u≠[]/\n::u∈m:=fun u hu=>by
  obtain ⟨w,hw,hr⟩:=qq.1 hu;obtain ⟨h1,rfl⟩:=zog hr;exact ⟨h1,hw⟩
 refine ⟨?_,fun u hu=>(mem u hu).1,fun u hu v hv hp=>?_⟩
 ·unfold zfd;refine uu (zrC n) (fun a b hab u hu v hv=>?_) h.sorted;obtain ⟨_,rfl⟩:=zog hu;obtain ⟨_,rfl⟩:=zog hv;rw [zcH,xr rfl] at hab;exact hab
 ·have:=h.anti _ (mem u hu).2 _ (mem v hv).2 (List.cons_prefix_cons.2 ⟨rfl,hp⟩);injection this
theorem UW.filter {w:List zE} (h:UW w) (p:zE->Bool):UW (w.filter p):=⟨ye (List.length_filter_le _ _) h.1,fun x hx=>h.2 x (yu.1 hx).1⟩
def zkN (l:List Vlu):List (Int×Vlu):=l.map fun v=>(v.Number,v)
theorem ztH:∀(l:List Vlu) (n:Int),mget (zkN l) n=look l n
 | [],n=>rfl
 | v::l,n=>by
  show mget ((v.Number,v)::zkN l) n=_;rw [mget,zbQ,ztH l n];by_cases h:n=v.Number
  ·rw [xr h,xr h.symm]
  ·rw [xq h,xq (fun e=>h e.symm)]
theorem zzM {m:List (Int×Vlu)} {n:Int} (h:mget m n=none) (v:Vlu):mput m n v=m++[(n,v)]:=by
 induction m with
 | nil=>rfl
 | cons p m ih=>
  rw [mget] at h;split at h
  ·cases h
  ·rename_i hn;rw [mput,xq hn,ih h];rfl
theorem zrU {l:List Vlu} (hr:zdm l) {k:Nat} (hk:k<l.length):look (l.take k) (l[k]).Number=none:=by
 cases h:look (l.take k) (l[k]).Number with
 | none=>rfl
 | some u=>
  obtain ⟨h1,h2⟩:=zdQ h;obtain ⟨i,hi,e⟩:=yU h2;rw [xM] at hi;rw [List.getElem_take] at e;have:=(p9.1 hr) i k (by omega) hk (by omega);rw [e] at this;omega
theorem zBr {x:Msg} (hr:zdm x.Values) (hl:x.Values.length<=1048576):∀(t:List Vlu) (k:Nat),x.Values.drop k=t->k<=x.Values.length->zdM x (zkN (x.Values.take k)) k=some (zkN x.Values):=by
 intro t
 induction t with
 | nil=>
  intro k hd hk;have:=zfh hd;obtain rfl:k=x.Values.length:=by omega
  rw [qa];refine zlS ?_;unfold zbI;rw [itF (by simp)]
 | cons v t ih=>
  intro k hd hk;obtain ⟨hlt,hx,hd'⟩:=zem hd;refine (zlR (values':=zkN (x.Values.take (k+1))) (v':=((k+1:Nat):Int)) ?_).trans (ih (k+1) hd' (by omega));unfold zbI;rw [uv,zah rfl hlt,sb,uy,zzM (by rw [ztH];exact zrU hr hlt),yz hlt];unfold zkN;rw [qW];push_cast;rfl
theorem zET {x:Msg} (hr:zdm x.Values) (hl:x.Values.length<=1048576):zfZ x=some (zkN x.Values):=by
 unfold zfZ;have h:=zBr hr hl x.Values 0 rfl (xG _);have h':zdM x [] 0=_:=h;rw [h',sb]
theorem zEc {m:List (Int×Vlu)} {ks:List Int} (hl:ks.length<=4194304):∀(t:List Int) (k:Nat),ks.drop k=t->k<=ks.length->zel ks m ((ks.take k).map fun n=>(mget m n).getD zvlu) k=some (ks.map fun n=>(mget m n).getD zvlu):=by
 intro t
 induction t with
 | nil=>
  intro k hd hk;have:=zfh hd;obtain rfl:k=ks.length:=by omega
  rw [qa];refine zmE ?_;unfold zbZ;rw [itF (by simp)]
 | cons v t ih=>
  intro k hd hk;obtain ⟨hlt,hx,hd'⟩:=zem hd;refine (zmD (l':=(ks.take (k+1)).map fun n=>(mget m n).getD zvlu) (v3':=((k+1:Nat):Int)) ?_).trans (ih (k+1) hd' (by omega));unfold zbZ;rw [uv,zah rfl hlt,sb,zhh (by simp;omega),sb,uy,yz hlt,qW];push_cast;rfl
theorem zGM {m:List (Int×Vlu)} (hn:(m.map Prod.fst).Nodup) (hv:∀n v,mget m n=some v->v.Number=n) (hw:∀n∈m.map Prod.fst,(Lit.int .i64 n).wf=true) (hl:m.length<=4194304):
  ∃l,zgH m=some l/\zdm l/\∀n,look l n=mget m n:=by
 have hall:(m.all fun p=>(Lit.int .i64 p.1).wf)=true:=by
  rw [xC];exact fun p hp=>hw p.1 (yX hp)
 obtain ⟨ks,hks⟩:∃ks,ks=(m.map Prod.fst).mergeSort fun x y=>decide (x<=y):=⟨_,rfl⟩
 have hp:=List.mergeSort_perm (m.map Prod.fst) fun x y=>decide (x<=y)
 have hs:=up (le:=fun x y:Int=>decide (x<=y)) (fun a b c h k=>by simp at*;omega) (fun a b=>by simp;omega) (m.map Prod.fst);rw [<-hks] at hp hs;have hnd:=hp.nodup_iff.2 hn;have hlt:ks.Pairwise (·<·):=(List.Pairwise.and hs hnd).imp fun {a b} h=>by
  have h1:a<=b:=by simpa using h.1
  have h2:a≠b:=h.2;omega
 have hkl:ks.length=m.length:=by rw [hp.length_eq,yP]
 have hsome:∀n∈ks,∃v,mget m n=some v:=fun n h=>by
  cases hg:mget m n with
  | some v=>exact ⟨v,rfl⟩
  | none=>exact absurd (hp.mem_iff.1 h) (zrr hg)
 refine ⟨ks.map fun n=>(mget m n).getD zvlu,?_,?_,fun n=>?_⟩
 ·unfold zgH;rw [zFv (by omega) (by omega),sb];unfold ztv;rw [xr ⟨hall,by omega⟩,<-hks,sb];have h:=zEc (m:=m) (ks:=ks) (by omega) ks 0 rfl (xG _);have h':zel ks m [] 0=_:=h;rw [h',sb]
 ·unfold zdm;rw [qZ];refine hlt.imp_of_mem fun {a b} ha hb h=>?_
  obtain ⟨v,e1⟩:=hsome a ha;obtain ⟨u,e2⟩:=hsome b hb;rw [e1,e2];show v.Number<u.Number;rw [hv a v e1,hv b u e2];exact h
 ·have key:∀l:List Int,(∀n∈l,∃v,mget m n=some v)->look (l.map fun n=>(mget m n).getD zvlu) n=if n∈l then mget m n else none:=by
   intro l
   induction l with
   | nil=>intro _;rfl
   | cons a l ih=>
    intro ha;obtain ⟨v,e1⟩:=ha a xt;rw [xX,zbQ,ih fun n h=>ha n (xu _ h),e1];show (if v.Number=n then some v else _)=_;rw [hv a v e1];by_cases h:a=n
    ·subst h;rw [xr rfl,xr xt,e1]
    ·rw [xq h];by_cases h2:n∈l
     ·rw [xr h2,xr (xu _ h2)]
     ·rw [xq h2,xq (fun hc=>(xw.1 hc).elim (fun e=>h e.symm) h2)]
  rw [key ks hsome];by_cases h:n∈ks
  ·rw [xr h]
  ·rw [xq h];cases hg:mget m n with
   | none=>rfl
   | some v=>exact absurd (hp.mem_iff.2 (zDV hg)) h
theorem zrb (v:Vlu):zfP v=some (v.Subs.headD zpn):=by
 unfold zfP;cases h:v.Subs with
 | nil=>rfl
 | cons y l=>
  rw [uw];rfl
theorem zuS (n:Int) (x:Msg):zhW n x=some ⟨n,[],[],[x]⟩:=rfl
theorem zvg {m:Mes} {n:Int} (h:0<=fldI m n):fldI m n<m.Fields.length/\(zaU m (fldI m n)).Number=n:=by
 rcases ztj m n with ⟨e,_⟩| ⟨i,hi,e,hn,_⟩
 ·omega
 ·rw [e];refine ⟨by omega,?_⟩;unfold zaU;rw [yp,pc,xF hi];exact hn
theorem zuQ {m:Mes} {n:Int} (hl:m.Fields.length<=140737488351232) (h:0<=fldI m n):zgR m n=some (zaU m (fldI m n)):=by
 unfold zgR;rw [znD hl,sb];have h0:=h;unfold fldI zka at h0;cases hf:m.Fields.findIdx? (fun f:Fld=>f.Number==n) with
 | none=>rw [hf] at h0;simp at h0
 | some i=>
  have e:fldI m n=i:=by unfold fldI zka;rw [hf]
  have hi:i<m.Fields.length:=by have:=(zvg h).1;omega
  rw [e,zah rfl hi,sb];unfold zaU;rw [yp,pc,xF hi];rfl
structure Ok15 (fuel:Nat) (x:Msg):Prop where
 b:bdM x
 s:smM x
 z:2*szM x<fuel
 d:szM x<=131072
theorem Ok15.dm {fuel:Nat} {x:Msg} (h:Ok15 fuel x):dM x<=131072:=by have:=zxA x;have:=h.d;omega
theorem Ok15.right {fuel:Nat} {x:Msg} (h:Ok15 fuel x) {s:List Mes} (hw:WS s) (root:Int):zeq fuel s root x=some (zfp s&&zaw s x root):=zAc root h.z hw h.b h.s h.dm
theorem zsN {fuel:Nat} {s:List Mes} (root:Int) {l:List Msg} (hw:WS s) (hne:l≠[]) (hl:l.length<=1048576) (hx:∀x∈l,Ok15 fuel x):zgx fuel s root l=some (zfG s root l):=by
 have hloop:∀(t:List Msg) (k:Nat),l.drop k=t->k<=l.length->(∃j:Nat,zG fuel l s root k=some (.inr j)/\t.all (fun x=>zfp s&&zaw s x root)=false)\/
   zG fuel l s root k=some (.inl ())/\t.all (fun x=>zfp s&&zaw s x root)=true:=by
  intro t
  induction t with
  | nil=>
   intro k hd hk;have:=zfh hd;refine .inr ⟨zcd ?_,rfl⟩;unfold zF;rw [uw]
  | cons v t ih=>
   intro k hd hk;obtain ⟨hlt,hv,hd'⟩:=zem hd;have h1:zhd fuel v s root=some (!(zfp s&&zaw s v root)):=by
    unfold zhd;rw [(hx v (hv▸xE hlt)).right hw,sb]
   cases hb:zfp s&&zaw s v root with
   | false=>
    refine .inl ⟨k,zcd ?_,by rw [yw,hb];rfl⟩;unfold zF;rw [uv,zah rfl hlt,sb,hv,h1,sb,itT (by rw [hb];rfl)]
   | true=>
    have hs:zG fuel l s root k=zG fuel l s root ((k+1:Nat):Int):=by
     refine zed ?_;unfold zF;rw [uv,zah rfl hlt,sb,hv,h1,sb,itF (by rw [hb];rfl),uy];push_cast;rfl
    rw [hs];rcases ih (k+1) hd' (by omega) with ⟨j,g1,g2⟩| ⟨g1,g2⟩
    ·exact .inl ⟨j,g1,by rw [yw,hb,g2];rfl⟩
    ·exact .inr ⟨g1,by rw [yw,hb,g2];rfl⟩
 have hc:zaq fuel l s root=some (!l.all (fun x=>zfp s&&zaw s x root)):=by
  unfold zaq zaM;rcases hloop l 0 rfl (xG _) with ⟨j,g1,g2⟩| ⟨g1,g2⟩
  ·have g1':zG fuel l s root 0=_:=g1;rw [g1',sb,g2];simp only;rw [sb,xS (by omega)];rfl
  ·have g1':zG fuel l s root 0=_:=g1;rw [g1',sb,g2];simp only;rw [sb];rfl
 unfold zgx;rw [hc,sb];cases hr:zfp s with
 | false=>
  obtain ⟨x,l',rfl⟩:=pD hne;have hm:zfG s root (x::l')=9:=by unfold zfG ziF;rw [hr];rfl
  rw [hm,itF (by simp),zqG hw,sb,hr,itT (by rfl)]
 | true=>
  by_cases hroot:root<0\/root>=s.length
  ·obtain ⟨x,l',rfl⟩:=pD hne;have hx0:zaw s x root=false:=by
    cases h:zaw s x root with
    | false=>rfl
    | true=>obtain ⟨a,b,_⟩:=zaV h;omega
   have ha:ziF s root=2:=by unfold ziF;rw [hr,xq (show ¬true=false by simp),xr hroot]
   have hm:zfG s root (x::l')=2:=by unfold zfG;rw [ha];rfl
   rw [hm,itF (by simp [hx0]),zqG hw,sb,hr,itF (by rfl),itT (by simpa using hroot)]
  ·have ha:ziF s root=0:=by unfold ziF;rw [hr,xq (show ¬true=false by simp),xq hroot]
   have hm:zfG s root l=if l.all (fun x=>zaw s x root)=true then 0 else 12:=by unfold zfG;rw [ha];rfl
   rw [hm];simp only [xZ,Bool.not_not];cases hall:l.all (fun x=>zaw s x root) with
   | true=>rw [itT (by rfl),xr rfl]
   | false=>
    rw [itF (by rfl),zqG hw,sb,hr,itF (by rfl),uw];rfl
def zmW (n:Int):zE->Option zE
 | []=>none
 | x::l=>if x=n then some l else none
def zgE (w:List zE) (n:Int):List zE:=w.filterMap (zmW n)
theorem zlu {n:Int} {w u:zE} (h:zmW n w=some u):w=n::u:=by
 cases w with
 | nil=>cases h
 | cons x l=>
  rw [zmW] at h;split at h
  ·rename_i e;cases h;rw [e]
  ·cases h
theorem zwn {ways:List zE} (hw:WW ways) (hne:∀w∈ways,w≠[]):∀(t:List zE) (i:Nat) (q:List (Int×List zE)),ways.drop i=t->i<=ways.length->(∀n,(mget q n).getD []=zgE (ways.take i) n)->
  ∃q',zek ways q i=some q'/\∀n,(mget q' n).getD []=zgE ways n:=by
 have hl:=hw.1;intro t
 induction t with
 | nil=>
  intro i q hd hi hq;have:=zfh hd;obtain rfl:i=ways.length:=by omega
  rw [qa] at hq;refine ⟨q,zmC ?_,hq⟩;unfold zbY;rw [itF (by simp)]
 | cons w t ih=>
  intro i q hd hi hq;obtain ⟨hlt,hv,hd'⟩:=zem hd;have hwm:w∈ways:=hv▸xE hlt;obtain ⟨x,l,rfl⟩:=pD (hne w hwm);have hlen:((mget q x).getD []).length<=i:=by
   rw [hq];exact ye (ur _ _) (by rw [xM];omega)
  obtain ⟨q',g1,g2⟩:=ih (i+1) (mput q x ((mget q x).getD []++[l])) hd' (by omega) fun n=>by
   rw [zdR,yz hlt,hv];unfold zgE;rw [List.filterMap_append];by_cases e:n=x
   ·subst e;rw [xr rfl,yx,hq];simp [zgE,zmW]
   ·rw [xq e,hq];have:zmW n (x::l)=none:=by rw [zmW,xq (fun e'=>e e'.symm)]
    simp [zgE,this]
  refine ⟨q',(zmB (rests':=mput q x ((mget q x).getD []++[l])) (v':=((i+1:Nat):Int)) ?_).trans g1,g2⟩;unfold zbY;rw [uv,zah rfl hlt,sb,hv,show idx (x::l) 0=some x from rfl,sb,zCS,sb,zhh (by simp;omega),sb,uy];push_cast;rfl
theorem zzq {ways:List zE} (hw:WW ways) (hne:∀w∈ways,w≠[]):∃q,zgG ways=some q/\∀n,(mget q n).getD []=zgE ways n:=by
 obtain ⟨q,g1,g2⟩:=zwn hw hne ways 0 [] rfl (xG _) (fun n=>rfl);refine ⟨q,?_,g2⟩;unfold zgG;have g1':zek ways [] 0=_:=g1;rw [g1',sb]
theorem zys {w:List zE} (hm:zkx w) {n:Int} (h:zfW w n=true):zgE w n=[[]]:=by
 have hin:[n]∈w:=by
  unfold zfW at h;rw [pq] at h;obtain ⟨v,hv,e⟩:=h;rw [pA] at e;exact e▸hv
 have hall:∀u∈zgE w n,u=[]:=fun u hu=>by
  obtain ⟨v,hv,e⟩:=qq.1 hu;have e2:=zlu e;subst e2;have:=hm.anti [n] hin _ hv ⟨u,rfl⟩;simpa using this.symm
 have hnd:(zgE w n).Nodup:=by
  unfold zgE;refine uu (zmW n) (fun a b hab u hu v hv e=>?_) hm.sorted;rw [zlu hu,zlu hv,e,zhw] at hab;cases hab
 have hmem:[]∈zgE w n:=qq.2 ⟨[n],hin,by rw [zmW,xr rfl]⟩;cases hr:zgE w n with
 | nil=>rw [hr] at hmem;cases hmem
 | cons a l=>
  rw [hr] at hall hnd;have ha:=hall a xt;cases l with
  | nil=>rw [ha]
  | cons b l=>
   have hb:=hall b (by simp);rw [ha,hb] at hnd;simp at hnd
theorem ztk {α β:Type} {f g:α->Option β}:∀{l:List α},(∀x∈l,f x=g x)->l.filterMap f=l.filterMap g
 | [],_=>rfl
 | x::l,h=>by
  rw [List.filterMap_cons,List.filterMap_cons,h x xt,ztk fun y hy=>h y (xu _ hy)]
theorem zoh {w:List zE} {n:Int} (h:zfW w n=false):zgE w n=zfd w n/\∀u∈zgE w n,u≠[]:=by
 have hno:∀v∈w,v≠[n]:=fun v hv e=>by
  unfold zfW at h;rw [pT] at h;exact h v hv (by rw [e];simp)
 refine ⟨?_,fun u hu e=>?_⟩
 ·unfold zgE zfd;refine ztk fun v hv=>?_
  cases v with
  | nil=>rfl
  | cons x l=>
   cases l with
   | nil=>
    show (if x=n then some [] else none)=none;by_cases e:x=n
    ·exact absurd (by rw [e]) (hno _ hv)
    ·rw [xq e]
   | cons y l=>rw [zmW,zrC]
 ·obtain ⟨v,hv,e2⟩:=qq.1 hu;have:=zlu e2;rw [e] at this;exact hno v hv this
theorem ztT (s:List Mes) (m:Mes) (w:List zE) (keep:Bool):∀(l k:List Vlu),zdl s (l++k) m w keep=zdl s l m w keep++zdl s k m w keep
 | [],k=>rfl
 | v::l,k=>by rw [yo,zdl,zdl,ztT s m w keep l k,yH]
theorem ztU (s:List Mes) (m:Mes) (w:List zE) (keep:Bool):∀(l:List Vlu),(zdl s l m w keep).length<=l.length
 | []=>by rw [zdl];exact xx _
 | v::l=>by
  have h1:=zvE s v (zaU m (fldI m v.Number)) w keep;have h2:=ztU s m w keep l;rw [zdl,yc,yi];omega
theorem zAj {s:List Mes} (hs:zmA s):∀(fuel:Nat) (x:Msg) (k:Nat) (w:List zE) (keep:Bool),szM x<fuel->k<s.length->zaw s x k=true->bdM x->smM x->zkx w->WW w->zhe fuel s k x w keep=some (zey s x k w keep)
 | 0,x,k,w,keep,h,_,_,_,_,_,_=>by omega
 | fuel+1,x,k,w,keep,hz,hk,hx,hb,hsm,hM,hW=>by
  obtain ⟨_,_,r3,r4,_⟩:=zaV hx;have sx:=(zkX x).1 hsm;have bx:=(zfR x).1 hb;have hm:zaE s (k:Int)=s[k]:=zmf hk;have hfew:=hs.few s[k] (xE hk);rw [zca] at hz;obtain ⟨q,q1,q2⟩:=zzq hW hM.full;have key:∀(t:List Vlu) (i:Nat),x.Values.drop i=t->i<=x.Values.length->zga keep k (zhe fuel) q s x i (zdl s (x.Values.take i) (zaE s k) w keep)=some (zdl s x.Values (zaE s k) w keep):=by
   intro t
   induction t with
   | nil=>
    intro i hd hi;have:=zfh hd;obtain rfl:i=x.Values.length:=by omega
    rw [qa];refine zps ?_;unfold zdc;rw [itF (by simp)]
   | cons v t ih=>
    intro i hd hi;obtain ⟨hlt,hv,hd'⟩:=zem hd;have hvm:v∈x.Values:=hv▸xE hlt;have hf:=(r4 v hvm).1;have hpl:=ztU s (zaE s k) w keep (x.Values.take i);rw [xM] at hpl;have hstep:zdl s (x.Values.take (i+1)) (zaE s k) w keep=zdl s (x.Values.take i) (zaE s k) w keep++zsc s v (zaU (zaE s k) (fldI (zaE s k) v.Number)) w keep:=by
     rw [yz hlt,hv,ztT,zdl,zdl,yR]
    refine (zpr (v':=((i+1:Nat):Int)) (f2':=zdl s (x.Values.take (i+1)) (zaE s k) w keep) ?_).trans (ih (i+1) hd' (by omega));rw [hstep,zmi];unfold zdc;rw [uv,zah rfl hlt,sb,hv,zah rfl hk,sb,<-hm,zuQ (by rw [hm];omega) hf,sb,q2,uy];have hg:(if ((((zgE w v.Number).length:Nat):Int)==1)=true then idx (zgE w v.Number) 0>>=fun x4=>some ((x4.length:Int)==0) else some false)=some (zfW w v.Number):=by
     cases hwb:zfW w v.Number with
     | true=>rw [zys hM hwb];rfl
     | false=>
      obtain ⟨_,h2⟩:=zoh hwb;by_cases h1:(zgE w v.Number).length=1
      ·obtain ⟨u,hu⟩:∃u,zgE w v.Number=[u]:=List.length_eq_one_iff.1 h1;have hu':=h2 u (by rw [hu];exact xt);have hl:u.length≠0:=fun e=>hu' (ym e)
       rw [hu,itT (by rfl),show idx [u] 0=some u from rfl,sb];congr 1;simpa using hl
      ·rw [uw]
    rw [hg,sb];by_cases hc:zfW w v.Number=false/\zfd w v.Number≠[]/\(zaU (zaE s k) (fldI (zaE s k) v.Number)).Kind=17/\(zaU (zaE s k) (fldI (zaE s k) v.Number)).Repeated=false
    ·obtain ⟨c1,c2,c3,c4⟩:=id hc;have hu:=(zoh c1).1
     have hul:0<(zfd w v.Number).length:=by cases h:zfd w v.Number with
      | nil=>exact absurd h c2
      | cons=>simp
     obtain ⟨y,ey,ry⟩:=(zeE (r4 v hvm).2).msg c3 c4;have ysub:v.Subs=[y]:=by rw [ey]
     obtain ⟨k0,k1,_⟩:=zaV ry;obtain ⟨j,hj⟩:∃j:Nat,(zaU (zaE s k) (fldI (zaE s k) v.Number)).Of=j:=⟨(zaU (zaE s k) (fldI (zaE s k) v.Number)).Of.toNat,by omega⟩;have hsz:=zdi hvm;rw [zdz,ysub] at hsz;simp only [szMs] at hsz;have by':bdM y:=zdC.1 ((zfx v).1 (zcT.1 bx.2.2 v hvm)).2.2.2.2 y (by rw [ysub];exact xt)
     have sy:smM y:=zho.1 ((zmZ v).1 (zhp.1 sx.2.2 v hvm)).2.2.2 y (by rw [ysub];exact xt);rw [hj] at ry;rw [xr hc,hu,itT (by simp [c1,c3,c4,hul]),zrb,sb,ysub,qV,hj,zAj hs fuel y j _ keep (by omega) (by omega) ry by' sy (zyg hM _) (zCy hW _),sb,zuS,sb];simp only;rw [zhh (by simp;omega),sb,zmS];push_cast;rfl
    ·rw [xq hc,itF ?_]
     ·by_cases hwk:zfW w v.Number=keep
      ·rw [xr hwk,itT (by simp [hwk]),zhh (by simp;omega),sb];push_cast;rfl
      ·rw [xq hwk,itF (by simpa using hwk),yR];push_cast;rfl
     ·cases hwb:zfW w v.Number with
      | true=>rfl
      | false=>
       rw [(zoh hwb).1];simp only [pE,xZ,Bool.and_eq_false_iff,qI,beq_eq_false_iff_ne,qT,ne_eq];by_cases h1:zfd w v.Number=[]
       ·left;rw [h1];simp
       ·by_cases h2:(zaU (zaE s k) (fldI (zaE s k) v.Number)).Kind=17
        ·right;right;by_cases h3:(zaU (zaE s k) (fldI (zaE s k) v.Number)).Repeated=true
         ·exact h3
         ·exact absurd ⟨hwb,h1,h2,by simpa using h3⟩ hc
        ·right;left;exact h2
  show zhV (zhe fuel) s k x w keep=_;unfold zhV;have h:=key x.Values 0 rfl (xG _);rw [yZ,zdl] at h;have h':zga keep k (zhe fuel) q s x 0 []=_:=h;have hp:(if (!keep)=true then some x.Unknown else some [])=some (if keep=true then [] else x.Unknown):=by cases keep<;>rfl
  rw [hp,sb,q1,sb,h',sb,ziJ]
theorem zDk {n:Nat} (h:n<=2097152):zcx (n:Int)=some []:=by
 unfold zcx;have e:IntKind.i64.wrap ((n:Int) - IntKind.i64.wrap (0 - 0))=n:=by rw [zI (x:=0 - 0) (by omega),uy];omega
 rw [itF (by simp),e];by_cases h0:(n:Int)>0
 ·rw [itT (by simpa using h0),ztI (a:=n) rfl (y8 _) (by omega),sb];have e0:cut (List.replicate n ([]:Str)) 0 0=some []:=znF (b:=0) rfl (xG _);rw [e0,sb]
 ·rw [itF (by simpa using h0)]
theorem zsX {a b:List Str} (h:a.length+b.length<=2097152):zbB [a,b]=some (a++b):=by
 have b0:∀s:Nat,s+a.length<=2097152->zQ [a,b] s 0=some (.inl (((s+a.length:Nat):Int),1)):=fun s hs=>by
  unfold zQ;rw [itT (by simp),show idx [a,b] 0=some a from rfl,sb];rw [uy,uw,uy];push_cast;rfl
 have b1:∀s:Nat,s+b.length<=2097152->zQ [a,b] s 1=some (.inl (((s+b.length:Nat):Int),2)):=fun s hs=>by
  unfold zQ;rw [itT (by simp),show idx [a,b] 1=some b from rfl,sb];rw [uy,uw,uy];push_cast;rfl
 have l1:zbM [a,b] 0 0=some ((a.length+b.length:Nat):Int):=by
  have e0:=b0 0 (by omega);rw [xK] at e0;rw [zeI (show zQ [a,b] 0 0=_ from e0),zeI (b1 a.length (by omega))];refine zhC ?_;unfold zQ;rw [itF (by rfl)]
 have l2:zbN [a,b] [] 0=some (a++b):=by
  rw [zeJ (newslice':=a) (v2':=1) (by
   unfold zae;rw [itT (by simp),show idx [a,b] 0=some a from rfl,sb];rw [zhh (by simp;omega),sb,x8];rfl),zeJ (newslice':=a++b) (v2':=2) (by
   unfold zae;rw [itT (by simp),show idx [a,b] 1=some b from rfl,sb];rw [zhh (by omega),sb];rfl)]
  refine zhD ?_;unfold zae;rw [itF (by rfl)]
 unfold zbB;rw [l1,sb,zDk h,sb,l2,sb]
theorem zDl {n:Nat} (h:n<=2097152):zcy (n:Int)=some []:=by
 unfold zcy;have e:IntKind.i64.wrap ((n:Int) - IntKind.i64.wrap (0 - 0))=n:=by rw [zI (x:=0 - 0) (by omega),uy];omega
 rw [itF (by simp),e];by_cases h0:(n:Int)>0
 ·rw [itT (by simpa using h0),ztI (a:=n) rfl (y8 _) (by omega),sb];have e0:cut (List.replicate n (0:Int)) 0 0=some []:=znF (b:=0) rfl (xG _);rw [e0,sb]
 ·rw [itF (by simpa using h0)]
theorem zzl {a b:List Int} (h:a.length+b.length<=2097152):zcj [a,b]=some (a++b):=by
 have b0:∀s:Nat,s+a.length<=2097152->zR [a,b] s 0=some (.inl (((s+a.length:Nat):Int),1)):=fun s hs=>by
  unfold zR;rw [itT (by simp),show idx [a,b] 0=some a from rfl,sb];rw [uy,uw,uy];push_cast;rfl
 have b1:∀s:Nat,s+b.length<=2097152->zR [a,b] s 1=some (.inl (((s+b.length:Nat):Int),2)):=fun s hs=>by
  unfold zR;rw [itT (by simp),show idx [a,b] 1=some b from rfl,sb];rw [uy,uw,uy];push_cast;rfl
 have l1:zbO [a,b] 0 0=some ((a.length+b.length:Nat):Int):=by
  have e0:=b0 0 (by omega);rw [xK] at e0;rw [zeK (show zR [a,b] 0 0=_ from e0),zeK (b1 a.length (by omega))];refine zhF ?_;unfold zR;rw [itF (by rfl)]
 have l2:zbP [a,b] [] 0=some (a++b):=by
  rw [zeL (newslice':=a) (v2':=1) (by
   unfold zaf;rw [itT (by simp),show idx [a,b] 0=some a from rfl,sb];rw [zhh (by simp;omega),sb,x8];rfl),zeL (newslice':=a++b) (v2':=2) (by
   unfold zaf;rw [itT (by simp),show idx [a,b] 1=some b from rfl,sb];rw [zhh (by omega),sb];rfl)]
  refine zhG ?_;unfold zaf;rw [itF (by rfl)]
 unfold zcj;rw [l1,sb,zDl h,sb,l2,sb]
theorem zBG {n:Nat} (h:n<=2097152):zbU (n:Int)=some []:=by
 unfold zbU;have e:IntKind.i64.wrap ((n:Int) - IntKind.i64.wrap (0 - 0))=n:=by rw [zI (x:=0 - 0) (by omega),uy];omega
 rw [itF (by simp),e];by_cases h0:(n:Int)>0
 ·rw [itT (by simpa using h0),ztI (a:=n) rfl (y8 _) (by omega),sb];have e0:cut (List.replicate n (⟨[],[]⟩:Msg)) 0 0=some []:=znF (b:=0) rfl (xG _);rw [e0,sb]
 ·rw [itF (by simpa using h0)]
theorem zxx {a b:List Msg} (h:a.length+b.length<=2097152):zbD [a,b]=some (a++b):=by
 have b0:∀s:Nat,s+a.length<=2097152->zL [a,b] s 0=some (.inl (((s+a.length:Nat):Int),1)):=fun s hs=>by
  unfold zL;rw [itT (by simp),show idx [a,b] 0=some a from rfl,sb];rw [uy,uw,uy];push_cast;rfl
 have b1:∀s:Nat,s+b.length<=2097152->zL [a,b] s 1=some (.inl (((s+b.length:Nat):Int),2)):=fun s hs=>by
  unfold zL;rw [itT (by simp),show idx [a,b] 1=some b from rfl,sb];rw [uy,uw,uy];push_cast;rfl
 have l1:zbm [a,b] 0 0=some ((a.length+b.length:Nat):Int):=by
  have e0:=b0 0 (by omega);rw [xK] at e0;rw [zea (show zL [a,b] 0 0=_ from e0),zea (b1 a.length (by omega))];refine zgM ?_;unfold zL;rw [itF (by rfl)]
 have l2:zbn [a,b] [] 0=some (a++b):=by
  rw [zeb (newslice':=a) (v2':=1) (by
   unfold zX;rw [itT (by simp),show idx [a,b] 0=some a from rfl,sb];rw [zhh (by simp;omega),sb,x8];rfl),zeb (newslice':=a++b) (v2':=2) (by
   unfold zX;rw [itT (by simp),show idx [a,b] 1=some b from rfl,sb];rw [zhh (by omega),sb];rfl)]
  refine zgN ?_;unfold zX;rw [itF (by rfl)]
 unfold zbD;rw [l1,sb,zBG h,sb,l2,sb]
theorem zFN (u:Vlu):(⟨u.Number,u.Words,u.Texts,u.Subs⟩:Vlu)=u:=by cases u;rfl
def jv15 (s:List Mes) (a:Msg) (k:Int) (v:Vlu):Vlu:=zgI s v (look a.Values v.Number) (zaU (zaE s k) (fldI (zaE s k) v.Number))
structure Jm (s:List Mes) (a:Msg) (k:Int) (t:List Vlu) (q:List (Int×Vlu)):Prop where
 nd:(q.map Prod.fst).Nodup
 get:∀n,mget q n=match look t n with
  | some v=>some (jv15 s a k v)
  | none=>look a.Values n
 len:q.length<=a.Values.length+t.length
theorem Jm.put {s:List Mes} {a:Msg} {k:Int} {t:List Vlu} {q:List (Int×Vlu)} (h:Jm s a k t q) {v:Vlu} (hn:look t v.Number=none):Jm s a k (t++[v]) (mput q v.Number (jv15 s a k v)):=by
 refine ⟨zpL h.nd _ _,fun n=>?_,?_⟩
 ·rw [zdR,znR];by_cases e:n=v.Number
  ·subst e;rw [xr rfl,hn];simp only;rw [zbQ,xr rfl]
  ·rw [xq e,h.get];cases hl:look t n with
   | some u=>rfl
   | none=>
    simp only;rw [zbQ,xq (fun e'=>e e'.symm)];rfl
 ·have:=zDX q v.Number (jv15 s a k v);have:=h.len;rw [yc,List.length_singleton];omega
theorem zyV {s:List Mes} (hs:zmA s) {a b:Msg} {k:Nat} (hk:k<s.length) {rv:List zf->Fld->Vlu->Vlu->Option Vlu} (ra:zaw s a k=true) (rb:zaw s b k=true) (sa:smM a) (sb':smM b) (ba:bdM a) (bb:bdM b)
  (hrv:∀v∈b.Values,∀u,look a.Values v.Number=some u->rv s (zaU (zaE s k) (fldI (zaE s k) v.Number)) u v=some (jv15 s a k v)):
  ∃q,zfz b k rv s (zkN a.Values) 0=some q/\Jm s a k b.Values q:=by
 obtain ⟨_,_,a3,a4,_⟩:=zaV ra;obtain ⟨_,_,b3,b4,_⟩:=zaV rb;have al:=((zkX a).1 sa).1;have bl:=((zkX b).1 sb').1;have hm:zaE s (k:Int)=s[k]:=zmf hk;have hfew:=hs.few s[k] (xE hk);have key:∀(t:List Vlu) (i:Nat) (q:List (Int×Vlu)),b.Values.drop i=t->i<=b.Values.length->Jm s a k (b.Values.take i) q->∃q',zfz b k rv s q i=some q'/\Jm s a k b.Values q':=by
  intro t
  induction t with
  | nil=>
   intro i q hd hi hJ;have:=zfh hd;obtain rfl:i=b.Values.length:=by omega
   rw [qa] at hJ;refine ⟨q,zpb ?_,hJ⟩;unfold zcO;rw [itF (by simp)]
  | cons v t ih=>
   intro i q hd hi hJ;obtain ⟨hlt,hv,hd'⟩:=zem hd;have hbef:=zrU b3 hlt;rw [hv] at hbef;have hJ':=hJ.put hbef;rw [show b.Values.take i++[v]=b.Values.take (i+1) by rw [yz hlt,hv]] at hJ';obtain ⟨q',g1,g2⟩:=ih (i+1) _ hd' (by omega) hJ';refine ⟨q',(zpa (values':=mput q v.Number (jv15 s a k v)) (v':=((i+1:Nat):Int)) ?_).trans g1,g2⟩;have hg:=hJ.get v.Number;rw [hbef] at hg;simp only at hg;have hvm:v∈b.Values:=hv▸xE hlt;unfold zcO;rw [uv,zah rfl hlt,sb,hv,hg];cases hu:look a.Values v.Number with
   | none=>
    rw [itF (by rfl),uy];have e:jv15 s a k v=v:=by unfold jv15;rw [hu,zeg]
    rw [e];push_cast;rfl
   | some u=>
    have hf:=(b4 v hvm).1;rw [itT (by rfl),zah rfl hk,sb,<-hm,zuQ (by rw [hm];omega) hf,sb,yx,zFN,hrv v hvm u hu,sb,uy];have e:(jv15 s a k v).Number=v.Number:=zmc _ _ _ _;rw [e];push_cast;rfl
 exact key b.Values 0 (zkN a.Values) rfl (xG _) ⟨by
  unfold zkN;rw [q6];exact qZ.2 (a3.imp fun h=>by simp only [Function.comp];omega),fun n=>by rw [ztH];rfl,by simp [zkN]⟩
theorem zAk {s:List Mes} (hs:zmA s):∀(fuel:Nat),(∀(a b:Msg) (k:Nat),2*szM b<fuel->k<s.length->zaw s a k=true->zaw s b k=true->bdM a->bdM b->smM a->smM b->zhv fuel s k a b=some (zbX s b a k))/\
  ∀(f:Fld) (u v:Vlu),2*szV v<fuel->f.Number=v.Number->zhc s u f->zhc s v f->bdV u->bdV v->smV u->smV v->zfm fuel s f u v=some (zgI s v (some u) f)
 | 0=>⟨fun a b k h=>by omega,fun f u v h=>by omega⟩
 | fuel+1=>by
  obtain ⟨ih1,ih2⟩:=zAk hs fuel;refine ⟨fun a b k hz hk ra rb ba bb sa sb'=>?_,fun f u v hz hn hu hv bu bv su sv=>?_⟩
  ·obtain ⟨_,_,a3,a4,_⟩:=zaV ra;obtain ⟨_,_,b3,b4,_⟩:=zaV rb;have al:=(zkX a).1 sa;have bl:=(zkX b).1 sb';have bda:=(zfR a).1 ba;have bdb:=(zfR b).1 bb;have hm:zaE s (k:Int)=s[k]:=zmf hk;rw [zca] at hz;obtain ⟨q,g1,g2⟩:=zyV hs hk (rv:=zfm fuel) ra rb sa sb' ba bb fun v hv u hu=>by
    obtain ⟨e,hum⟩:=zdQ hu;have:=zdi hv;have hf:=(b4 v hv).1;have hfu:=zeE (a4 u hum).2;rw [e] at hfu;rw [ih2 _ u v (by omega) (zvg hf).2 hfu (zeE (b4 v hv).2) (zcT.1 bda.2.2 u hum) (zcT.1 bdb.2.2 v hv) (zhp.1 al.2.2 u hum) (zhp.1 bl.2.2 v hv)];unfold jv15;rw [hu]
   have hnum:∀n v,mget q n=some v->v.Number=n/\0<=fldI (zaE s k) n:=fun n v hg=>by
    rw [g2.get] at hg;cases hl:look b.Values n with
    | some w=>
     rw [hl] at hg;cases hg;obtain ⟨e,hwm⟩:=zdQ hl;exact ⟨(zmc _ _ _ _).trans e,by rw [<-e];exact (b4 w hwm).1⟩
    | none=>
     rw [hl] at hg;obtain ⟨e,hwm⟩:=zdQ hg;exact ⟨e,by rw [<-e];exact (a4 v hwm).1⟩
   obtain ⟨l,o1,o2,o3⟩:=zGM g2.nd (fun n v hg=>(hnum n v hg).1) (fun n hn=>by
    cases hg:mget q n with
    | none=>exact absurd hn (zrr hg)
    | some v=>exact zGq hs (by omega) (by omega) (hnum n v hg).2) (by
     have:=g2.len;omega)
   obtain ⟨j1,j2⟩:=zhy ra rb;have hl:l=(zbX s b a k).Values:=znS o2 j1 fun n=>by
    rw [o3,g2.get,j2];cases hl:look b.Values n with
    | none=>rfl
    | some w=>
     obtain ⟨e,_⟩:=zdQ hl;simp only;unfold jv15;rw [e]
   show zhg (zhv fuel) (zfm fuel) s k a b=_;unfold zhg;rw [zET a3 al.1,sb,g1,sb,o1,sb,zsX (by omega),sb,hl,zhj]
  ·show zew (zhv fuel) (zfm fuel) s f u v=_;unfold zew;rw [zeg];simp only;obtain ⟨u1,⟨u2,_⟩,u3,u4⟩:=(zmZ u).1 su;obtain ⟨v1,⟨v2,_⟩,v3,v4⟩:=(zmZ v).1 sv;by_cases hr:f.Repeated=true
   ·rw [itT hr,zzl (by omega),sb,zsX (by omega),sb,zxx (by omega),sb,xr hr,hn]
   ·have hr':f.Repeated=false:=by simpa using hr
    rw [itF hr',xq hr];by_cases h17:f.Kind=17
    ·obtain ⟨x,ex,rx⟩:=hu.msg h17 hr';obtain ⟨y,ey,ry⟩:=hv.msg h17 hr';have ux:u.Subs=[x]:=by rw [ex]
     have vy:v.Subs=[y]:=by rw [ey]
     rw [zdz,vy] at hz;simp only [szMs] at hz;obtain ⟨k0,k1,_⟩:=zaV rx;obtain ⟨j,hj⟩:∃j:Nat,f.Of=j:=⟨f.Of.toNat,by omega⟩;have bx:bdM x:=zdC.1 ((zfx u).1 bu).2.2.2.2 x (by rw [ux];exact xt);have by':bdM y:=zdC.1 ((zfx v).1 bv).2.2.2.2 y (by rw [vy];exact xt)
     have sx:smM x:=zho.1 u4 x (by rw [ux];exact xt);have sy:smM y:=zho.1 v4 y (by rw [vy];exact xt);rw [hj] at rx ry;have:=ih1 x y j (by omega) (by omega) rx ry bx by' sx sy
     rw [itT (by simp [h17]),xr h17,zrb,sb,zrb,sb,ux,vy,hj];simp only [qV];rw [this,sb,zuS,sb,zjh,hn]
    ·rw [itF (by simp [h17]),xq h17]
theorem zxj {fuel:Nat} {s:List Mes} (root:Int) {a b:Msg} (hw:WS s) (ha:Ok15 fuel a) (hb:Ok15 fuel b) (hr:zfG s root [a,b]=0->szM (zbX s b a root)<fuel/\szM (zbX s b a root)<=131072):
  zcQ fuel s root a b=some (if zfG s root [a,b]=0 then (zbX s b a root,0) else (zpn,zfG s root [a,b])):=by
 unfold zcQ;rw [zsN root hw (by simp) (by simp) (fun y hy=>by
  simp only [xw,xA,xB] at hy;rcases hy with rfl| rfl
  ·exact ha
  ·exact hb),sb]
 by_cases h0:zfG s root [a,b]=0
 ·obtain ⟨hs,g1,g2,g3⟩:=ztG h0;obtain ⟨k,rfl⟩:∃k:Nat,root=k:=⟨root.toNat,by omega⟩;have ra:=g3 a (by simp);have rb:=g3 b (by simp);obtain ⟨z1,z2⟩:=hr h0
  rw [itF (by simp [h0]),xr h0,(zAk hs fuel).1 a b k hb.z (by omega) ra rb ha.b hb.b ha.s hb.s,sb,
   zuq z1 (zws _ b a k (xx _) ra rb ha.b hb.b ha.s hb.s) (by have:=zxA (zbX s b a k);omega),sb]
 ·rw [itT (by simp [h0]),xq h0];rfl
theorem zxl {fuel:Nat} {s:List Mes} (root:Int) {x:Msg} {ways:List zE} (keep:Bool) (hw:WS s) (hx:Ok15 fuel x) (hW:UW ways):
  zfY fuel s root x ⟨ways⟩ keep=some (if zfG s root [x]=0 then (zey s x root (ofW ways) keep,0) else (zpn,zfG s root [x])):=by
 unfold zfY;rw [zsN root hw (by simp) (by simp) (fun y hy=>by rw [xR.1 hy];exact hx),sb];by_cases h0:zfG s root [x]=0
 ·obtain ⟨hs,g1,g2,g3⟩:=ztG h0;obtain ⟨k,rfl⟩:∃k:Nat,root=k:=⟨root.toNat,by omega⟩;have hrt:=g3 x (by simp);obtain ⟨t1,t2⟩:=zsF (s:=s) _ x k (ofW ways) keep (xx _) hx.b;have hz:=hx.z;have hd:=hx.d;rw [itF (by simp [h0]),xr h0,zzL hW.sw,sb];simp only;rw [zAj hs fuel x k _ keep (by omega) (by omega) hrt hx.b hx.s (zvx ways) hW.of.ww,sb,zuq (by omega) t1 (by have:=zxA (zey s x k (ofW ways) keep);omega),sb]
 ·rw [itT (by simp [h0]),xq h0];rfl
theorem zCF {fuel:Nat} {s:List Mes} (root:Int) {x:Msg} {ways:List zE} (hw:WS s) (hx:Ok15 fuel x) (hW:UW ways):ziE fuel s root x ⟨ways⟩=some (if zfG s root [x]=0 then (zey s x root (ofW ways) true,0) else (zpn,zfG s root [x])):=by
 unfold ziE;rw [zxl root true hw hx hW,sb]
theorem zuR {fuel:Nat} {s:List Mes} (root:Int) {x:Msg} {ways:List zE} (hw:WS s) (hx:Ok15 fuel x) (hW:UW ways):zgQ fuel s root x ⟨ways⟩=some (if zfG s root [x]=0 then (zey s x root (ofW ways) false,0) else (zpn,zfG s root [x])):=by
 unfold zgQ;rw [zxl root false hw hx hW,sb]
mutual
theorem zCo:∀x:Msg,zfQ x=zgi x
 | ⟨vs,u⟩=>by rw [zfQ,zgi,zpW vs]
theorem zpW:∀l:List Vlu,zcB l=zfH l
 | []=>by rw [zcB,zfH]
 | v::l=>by rw [zcB,zfH,zCp v,zpW l]
theorem zCp:∀v:Vlu,zeQ v=zhm v
 | ⟨n,w,t,s⟩=>by rw [zeQ,zhm,zuo s]
theorem zuo:∀l:List Msg,zdp l=zfX l
 | []=>by rw [zdp,zfX]
 | x::l=>by rw [zdp,zfX,zCo x,zuo l]
end
theorem zBs {fuel:Nat} {s:List Mes} (root:Int) {a:Msg} (hw:WS s) (hx:Ok15 fuel a):zfO fuel s root a=some (if zfG s root [a]=0 then (zgi a,0) else (zpn,zfG s root [a])):=by
 unfold zfO;rw [zsN root hw (by simp) (by simp) (fun y hy=>by rw [xR.1 hy];exact hx),sb];have hz:=hx.z;have hd:=hx.d;by_cases h0:zfG s root [a]=0
 ·rw [itF (by simp [h0]),xr h0,zuq (by omega) hx.b (by have:=zxA a;omega),sb,zpW,<-zkv]
 ·rw [itT (by simp [h0]),xq h0];rfl
end Go.Proofs.YtekgmimingolbaaGreat

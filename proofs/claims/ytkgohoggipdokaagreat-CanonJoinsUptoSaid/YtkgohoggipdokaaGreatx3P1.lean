/-
  What the plain functions are. No condition.
-/
import Derived.Test.YtkgohoggipdokaaGreatx3S1
import Derived.Test.YtkgohoggipdokaaGreatx3K3
set_option autoImplicit true
set_option relaxedAutoImplicit true
namespace Go.Proofs.YtkgohoggipdokaaGreat
open Go.IntKind (i64 u32 u64)
open Go
set_option linter.unusedVariables false
theorem zJu (k:IntKind) (a b:Int):orI k a b=bits .or k a b:=rfl
theorem zCV (w:Int):zkb w=some (w%4294967296):=by unfold zkb;rw [zDU]
theorem zHN (w:Int):zkJ w=some (sgnS w):=by
 unfold zkJ;rw [zCV,sb,zIh];unfold sgnS;congr 1;split<;>split<;>omega
theorem zId (h: -2147483648<=n/\n<=2147483647):zkK n=some (zvx n):=by
 unfold zkK;rw [uD,wrap_u64];unfold zvx;congr 1;split<;>omega
theorem zCT {v:List UInt8} {m k j:Nat} (hk:k<=8) (hv:v.length=k) (hj:j<k):zdg v (m:Int) (zhV k m j) (j:Int)=some (.inl (zhV k m (j+1),((j+1:Nat):Int))):=by
 have wD:=zxn (n:=k) (m:=m) (j:=j) (by omega);unfold zdg;have e1:i64.wrap (8*(j:Int))=((8*j:Nat):Int):=by rw [uD];push_cast;rfl
 rw [uB,e1,zJS,sb,zal rfl (show j<(zhV k m j).length by omega),sb,ztt (by simp [IntKind.bits];omega),zwn,zBN,zCU,zCb rfl,sb,xN,zCR hj,uD];rfl
theorem zCS {v:List UInt8} {m k:Nat} (hk:k<=8) (hv:v.length=k):∀(d j:Nat),j+d=k->zgu v (m:Int) (zhV k m j) (j:Int)=some (zgP k m):=by
 intro d
 induction d with
 | zero=>
  intro j hj;refine zrV ?_;unfold zdg;have:j=k:=by omega
  subst this;rw [uC,zCQ]
 | succ d ih=>
  intro j hj;rw [zrU (zCT hk hv (by omega))];exact ih (j+1) (by omega)
theorem zzJ {m:Nat} (n:Int):zkI (m:Int) n=some (zgP (min n.toNat 8) m):=by
 unfold zkI;have e:(if (8:Int)<(if n<0 then 0 else n) then (8:Int) else (if n<0 then 0 else n))=((min n.toNat 8:Nat):Int):=by split<;>split<;>omega
 rw [e,zmn rfl (y6 _) (by omega),sb];have h:=zCS (v:=List.replicate (min n.toNat 8) (0:UInt8)) (m:=m) (k:=min n.toNat 8) (by omega) (by simp) (min n.toNat 8) 0 (by omega);rw [zBc] at h;have h':zgu (List.replicate (min n.toNat 8) (0:UInt8)) (m:Int) (List.replicate (min n.toNat 8) (0:UInt8)) 0=some (zgP (min n.toNat 8) m):=h;rw [h',sb]
theorem zHS {l:List UInt8} {j:Nat} (h:j<l.length):l.take (j+1)=l.take j++[l[j]]:=by rw [List.take_add_one,xQ h];rfl
theorem zIf {v:List UInt8} (hv:v.length<=8):∀(d j:Nat),j+d=v.length->zhT v ((word (v.take j):Nat):Int) (j:Int)=some ((word v:Nat):Int):=by
 intro d
 induction d with
 | zero=>
  intro j hj;refine ztY ?_;unfold zfc;rw [uC,yG (by omega)]
 | succ d ih=>
  intro j hj;have hl:(v.take j).length=j:=by simp;omega
  have hw:=zBL (v.take j);rw [hl] at hw;refine (ztX (wv':=((word (v.take (j+1)):Nat):Int)) (v2':=((j+1:Nat):Int)) ?_).trans (ih (j+1) (by omega));unfold zfc;have hc:=(v[j]'(by omega)).toNat_lt;have e1:i64.wrap (8*(j:Int))=((8*j:Nat):Int):=by rw [uD];push_cast;rfl
  have e2:shlI .u64 (u64.wrap ((v[j]'(by omega)).toNat:Int)) ((8*j:Nat):Int)=u64.wrap (((v[j]'(by omega)).toNat:Int)*2^(8*j)):=by
   unfold shlI;rw [xN,qC (by simp [IntKind.bits];omega),wrap_u64 ((v[j]'(by omega)).toNat:Int),qm (by omega) (by omega)]
  rw [uB,zal rfl (show j<v.length by omega),sb,e1,zDr,sb,e2,zJu,zLR _ _ _ (by omega) (by omega) hw,zHS (show j<v.length by omega),zAo,hl,uD];rfl
theorem zLQ (b:List UInt8):znG b=some ((word (b.take 8):Nat):Int):=by
 unfold znG;have e:(if (8:Int)<(b.length:Int) then (8:Int) else (b.length:Int))=((min 8 b.length:Nat):Int):=by split<;>omega
 have e2:b.take (min 8 b.length)=b.take 8:=by rw [List.take_eq_take_iff];omega
 rw [e,znI rfl (by omega),sb,e2];have h:=zIf (v:=b.take 8) (by simp;omega) (b.take 8).length 0 (by omega);have h':zhT (b.take 8) 0 0=some ((word (b.take 8):Nat):Int):=h;rw [h',sb]
def zcw (k:Int):Bool:=decide (1<=k/\k<=17)
def kNum (k:Int):Bool:=decide (1<=k/\k<=14)
def zbm (k:Int):Int:=if 15<=k then 2 else if 12<=k then 1 else if 9<=k then 5 else 0
def zch (k w:Int):Int:=
 if k=1\/k=8 then zvx (sgnS w) else if k=3\/k=5\/k=9\/k=10\/k=11 then w%4294967296 else if k=7 then (if 0<w then 1 else 0) else w
theorem zkM (k:Int) (h:0<=w/\w<=18446744073709551615):0<=zch k w/\zch k w<=18446744073709551615:=by
 have hs:=zEZ w;unfold zch;split
 ·exact zLO (by omega)
 ·split
  ·omega
  ·split
   ·split<;>omega
   ·exact h
theorem zIu {k:Int} {w:Int} (h9:9<=k) (h12:k<12):zch k w<4294967296:=by
 unfold zch;rw [xy (by omega),xz (by omega)];omega
theorem zpF (k:Int) {w:Int} (h:0<=w/\w<=18446744073709551615):zch k (zch k w)=zch k w:=by
 have hs:=zEZ w;unfold zch;by_cases h1:k=1\/k=8
 ·simp only [xz h1];rw [zJR hs]
 ·simp only [xy h1];by_cases h2:k=3\/k=5\/k=9\/k=10\/k=11
  ·simp only [xz h2];omega
  ·simp only [xy h2];by_cases h7:k=7
   ·simp only [xz h7];split<;>simp
   ·simp only [xy h7]
abbrev Fld:=zc
abbrev Mes:=ze
def ziI {α:Type} (p:α->Bool) (l:List α):Int:=match l.findIdx? p with
 | some i=>(i:Int)
 | none=> -1
theorem zmV {α:Type} {p:α->Bool} {l:List α} (h:l.findIdx? p=none):ziI p l= -1:=by unfold ziI;rw [h]
theorem zmW {α:Type} {p:α->Bool} {l:List α} {i:Nat} (h:l.findIdx? p=some i):ziI p l=(i:Int):=by unfold ziI;rw [h]
theorem zuc {α:Type} (p:α->Bool) (l:List α) (F:Int->Option (Unit⊕Int)) (h0:F (l.length:Int)=some (.inl ())) (hs:∀(i:Nat) (h:i<l.length),F (i:Int)=if p l[i] then some (.inr (i:Int)) else F ((i+1:Nat):Int)):
  ∀(d i:Nat),i+d=l.length->(∀j (h:j<l.length),j<i->p l[j]=false)->F (i:Int)=some (match l.findIdx? p with| some k=> .inr (k:Int)| none=> .inl ()):=by
 intro d
 induction d with
 | zero=>
  intro i hi hj;have:i=l.length:=by omega
  subst this;have hn:l.findIdx? p=none:=by
   rw [pG];intro x hx;obtain ⟨j,hj',rfl⟩:=qo hx;exact hj j hj' hj'
  rw [h0,hn]
 | succ d ih=>
  intro i hi hj;have hil:i<l.length:=by omega
  rw [hs i hil];by_cases hp:p l[i]=true
  ·have hf:l.findIdx? p=some i:=by
    rw [pH];exact ⟨hil,hp,fun j hji=>by simpa using hj j (by omega) hji⟩
   rw [xz hp,hf]
  ·rw [xy hp];refine ih (i+1) (by omega) fun j h hji=>?_
   by_cases e:j=i
   ·subst e;simpa using hp
   ·exact hj j h (by omega)
def fldI (m:Mes) (number:Int):Int:=ziI (fun f:Fld=>f.Number==number) m.Fields
def nmc (i:Nat) (c:UInt8):Bool:=decide (65<=c.toNat/\c.toNat<=90\/97<=c.toNat/\c.toNat<=122\/c.toNat=95\/0<i/\48<=c.toNat/\c.toNat<=57)
def nmA:Nat->List UInt8->Bool
 | _,[]=>true
 | i,c::l=>nmc i c&&nmA (i+1) l
def zik (s:List UInt8):Bool:=nmA 0 s&&decide (1<=s.length/\s.length<=60)
theorem ziH {α:Type} {l t:List α} {x:α} {k:Nat} (h:l.drop k=x::t):∃hk:k<l.length,l[k]=x/\l.drop (k+1)=t:=by
 have hk:k<l.length:=by
  rcases yJ k l.length with h'| h'
  ·exact h'
  ·rw [yK h'] at h;cases h
 rw [yy hk] at h;injection h with h1 h2;exact ⟨hk,h1,h2⟩
theorem zkf {α:Type} {l:List α} {k:Nat} (h:l.drop k=[]):l.length<=k:=by have:=congrArg List.length h;simp at this;omega
def zdI (n:Int) (prev:List Fld) (f:Fld):Int:=
 if zik f.Name=false then 5 else if prev.any (fun g=>g.Name==f.Name)=true then 6
 else if f.Number<1\/f.Number>536870911\/(19000<=f.Number/\f.Number<20000) then 7
 else if prev.any (fun g=>g.Number==f.Number)=true then 8 else if zcw f.Kind=false then 9
 else if f.Packed=true/\¬(f.Repeated=true/\kNum f.Kind=true) then 10
 else if f.Kind=17/\(f.Of<0\/f.Of>=n)\/f.Kind≠17/\f.Of≠0 then 11 else 0
theorem zCk (n:Int) (prev:List Fld) (f:Fld):0<=zdI n prev f/\zdI n prev f<=11:=by
 unfold zdI
 repeat' split
 all_goals omega
def msgF (n:Int) (prev:List Fld):List Fld->Option (Nat×Int)
 | []=>none
 | f::l=>if 0<zdI n prev f then some (prev.length,zdI n prev f) else msgF n (prev++[f]) l
def chkF (n:Int) (prev:List Mes):List Mes->Option (Nat×Int×Int)
 | []=>none
 | m::l=>if zik m.Name=false then some (prev.length, -1,2) else if prev.any (fun g=>g.Name==m.Name)=true then some (prev.length, -1,3)
  else if 200<m.Fields.length then some (prev.length, -1,4) else match msgF n [] m.Fields with
   | some (k,w)=>some (prev.length,(k:Int),w)
   | none=>chkF n (prev++[m]) l
def zmc (s:List Mes):Int×Int×Int:=if s.length=0\/100<s.length then (-1, -1,1) else match chkF s.length [] s with
 | none=>(0,0,0)
 | some (i,k,w)=>((i:Int),k,w)
def zff (s:List Mes):Bool:=decide ((zmc s).2.2=0)
def WS (s:List Mes):Prop:=s.length<=140737488351232/\∀m∈s,m.Name.length<=140737488351232/\m.Fields.length<=140737488351232/\∀f∈m.Fields,f.Name.length<=140737488351232
theorem zur :∀(l prev:List Fld),msgF n prev l=none↔∀(k:Nat) (f:Fld),l[k]? =some f->zdI n (prev++l.take k) f=0
 | [],prev=>by simp [msgF]
 | f::l,prev=>by
  have hb:=zCk n prev f;rw [msgF];by_cases h:0<zdI n prev f
  ·rw [xz h];refine ⟨(fun h'=>nomatch h'),fun h'=>?_⟩;have:=h' 0 f rfl;simp at this;omega
  ·rw [xy h,zur l (prev++[f])];constructor
   ·intro h' k g hg;cases k with
    | zero=>simp at hg;subst hg;simp;omega
    | succ k=>have:=h' k g (by simpa using hg);simpa using this
   ·intro h' k g hg;have:=h' (k+1) g (by simpa using hg);simpa using this
theorem zzm :∀(l prev:List Mes),chkF n prev l=none↔∀(i:Nat) (m:Mes),l[i]? =some m->zik m.Name=true/\(prev++l.take i).any (fun g=>g.Name==m.Name)=false/\m.Fields.length<=200/\msgF n [] m.Fields=none
 | [],prev=>by simp [chkF]
 | m::l,prev=>by
  rw [chkF];by_cases h1:zik m.Name=false
  ·rw [xz h1];refine ⟨(fun h'=>nomatch h'),fun h'=>?_⟩;have:=(h' 0 m rfl).1;rw [h1] at this;cases this
  ·rw [xy h1];by_cases h2:prev.any (fun g=>g.Name==m.Name)=true
   ·rw [xz h2];refine ⟨(fun h'=>nomatch h'),fun h'=>?_⟩;have:=(h' 0 m rfl).2.1;simp only [yQ,yq] at this;rw [h2] at this;cases this
   ·rw [xy h2];by_cases h3:200<m.Fields.length
    ·rw [xz h3];refine ⟨(fun h'=>nomatch h'),fun h'=>?_⟩;have:=(h' 0 m rfl).2.2.1;omega
    ·rw [xy h3];cases h4:msgF n [] m.Fields with
     | some p=>
      refine ⟨(fun h'=>nomatch h'),fun h'=>?_⟩;have:=(h' 0 m rfl).2.2.2;rw [h4] at this;cases this
     | none=>
      simp only;rw [zzm l (prev++[m])];constructor
      ·intro h' i g hg;cases i with
       | zero=>simp at hg;subst hg;exact ⟨by simpa using h1,by simpa using h2,by omega,h4⟩
       | succ i=>have:=h' i g (by simpa using hg);simpa using this
      ·intro h' i g hg;have:=h' (i+1) g (by simpa using hg);simpa using this
theorem zLh:∀(n:Int) (l prev:List Fld) (k:Nat) (w:Int),msgF n prev l=some (k,w)->0<w:=by
 intro n l
 induction l with
 | nil=>intro prev k w h;cases h
 | cons f l ih=>
  intro prev k w h;rw [msgF] at h;split at h
  ·cases h;assumption
  ·exact ih _ _ _ h
theorem zFA:∀(n:Int) (l prev:List Mes) (i:Nat) (k w:Int),chkF n prev l=some (i,k,w)->0<w:=by
 intro n l
 induction l with
 | nil=>intro prev i k w h;cases h
 | cons m l ih=>
  intro prev i k w h;rw [chkF] at h;split at h
  ·cases h;omega
  ·split at h
   ·cases h;omega
   ·split at h
    ·cases h;omega
    ·split at h
     ·rename_i k' w' h';cases h;exact zLh _ _ _ _ _ h'
     ·exact ih _ _ _ _ h
structure zLV (n:Int) (f:Fld):Prop where
 name:zik f.Name=true
 lo:1<=f.Number
 hi:f.Number<=536870911
 kind:zcw f.Kind=true
 packed:f.Packed=true->f.Repeated=true/\kNum f.Kind=true
 sub:f.Kind=17->0<=f.Of/\f.Of<n
 noSub:f.Kind≠17->f.Of=0
theorem zwP (h:zdI n prev f=0):zLV n f/\prev.any (fun g=>g.Name==f.Name)=false/\prev.any (fun g=>g.Number==f.Number)=false:=by
 unfold zdI at h;split at h
 ·omega
 ·rename_i h1;split at h
  ·omega
  ·rename_i h2;split at h
   ·omega
   ·rename_i h3;split at h
    ·omega
    ·rename_i h4;split at h
     ·omega
     ·rename_i h5;split at h
      ·omega
      ·rename_i h6;split at h
       ·omega
       ·rename_i h7;refine ⟨⟨by simpa using h1,by omega,by omega,by simpa using h5,fun hp=>?_,fun hk=>by omega,fun hk=>by omega⟩,by simpa using h2,by simpa using h4⟩;by_cases hq:f.Repeated=true/\kNum f.Kind=true
        ·exact hq
        ·exact absurd ⟨hp,hq⟩ h6
structure zfs (s:List Mes):Prop where
 len:1<=s.length/\s.length<=100
 name:∀m∈s,zik m.Name=true
 names:∀(i j:Nat) (a b:Mes),i<j->s[i]? =some a->s[j]? =some b->a.Name≠b.Name
 few:∀m∈s,m.Fields.length<=200
 fld:∀m∈s,∀f∈m.Fields,zLV s.length f
 nums:∀m∈s,∀(i j:Nat) (f g:Fld),i<j->m.Fields[i]? =some f->m.Fields[j]? =some g->f.Number≠g.Number/\f.Name≠g.Name
theorem ztV {α:Type} {l:List α} {p:α->Bool} (h:l.any p=false) {x:α} (hx:x∈l):p x=false:=by
 rw [List.any_eq_false] at h;simpa using h x hx
theorem zzZ {s:List Mes} (h:zff s=true):zfs s:=by
 have h0:(zmc s).2.2=0:=by simpa [zff] using h
 have h1:¬(s.length=0\/100<s.length):=fun hh=>by unfold zmc at h0;rw [xz hh] at h0;simp at h0
 have h2:chkF s.length [] s=none:=by
  cases h4:chkF s.length [] s with
  | none=>rfl
  | some p=>
   exfalso;obtain ⟨i,k,w⟩:=p;have h5:(zmc s).2.2=w:=by unfold zmc;rw [xy h1,h4]
   have:=zFA _ _ _ _ _ _ h4;omega
 have h3:=(zzm s []).1 h2;have at':∀m∈s,zik m.Name=true/\m.Fields.length<=200/\msgF s.length [] m.Fields=none:=fun m hm=>by
  obtain ⟨i,hi,rfl⟩:=qo hm;have:=h3 i _ (xQ hi);exact ⟨this.1,this.2.2.1,this.2.2.2⟩
 refine ⟨by omega,fun m hm=>(at' m hm).1,fun i j a b hij ha hb=>?_,fun m hm=>(at' m hm).2.1,fun m hm f hf=>?_,fun m hm i j f g hij hf hg=>?_⟩
 ·have:=(h3 j b hb).2.1;have hai:a∈([]++s.take j:List Mes):=by
   rw [xK];exact qu (i:=i) (by rw [yT,xz hij];exact ha)
  simpa using ztV this hai
 ·have h4:=(zur m.Fields []).1 (at' m hm).2.2;obtain ⟨i,hi,rfl⟩:=qo hf;exact (zwP (h4 i _ (xQ hi))).1
 ·have h4:=(zur m.Fields []).1 (at' m hm).2.2;obtain ⟨_,k1,k2⟩:=zwP (h4 j g hg);have hai:f∈([]++m.Fields.take j:List Fld):=by
   rw [xK];exact qu (i:=i) (by rw [yT,xz hij];exact hf)
  exact ⟨by simpa using ztV k2 hai,by simpa using ztV k1 hai⟩
theorem zoW {α:Type} [DecidableEq α] (a b:List α) (F:Int->Option (Unit⊕Unit)) (hl:a.length=b.length) (h0:F (a.length:Int)=some (.inl ()))
  (hs:∀(i:Nat) (h:i<a.length) (h':i<b.length),F (i:Int)=if a[i]=b[i] then F ((i+1:Nat):Int) else some (.inr ())):
  ∀(d i:Nat),i+d=a.length->F (i:Int)=some (if a.drop i=b.drop i then .inl () else .inr ()):=by
 intro d
 induction d with
 | zero=>
  intro i hi;have e1:a.drop i=[]:=yK (by omega);have e2:b.drop i=[]:=yK (by omega);have:i=a.length:=by omega
  rw [e1,e2,xz rfl,this,h0]
 | succ d ih=>
  intro i hi;rw [hs i (by omega) (by omega),yy (l:=a) (by omega),yy (l:=b) (by omega)];by_cases h:a[i]'(by omega)=b[i]'(by omega)
  ·rw [xz h,ih (i+1) (by omega),h];simp only [qh,yZ]
  ·rw [xy h,xy (fun e=>h (List.cons.inj e).1)]
theorem zHc {s:List Mes} {i:Nat} {m:Mes} (hi:∃h:i<s.length,s[i]=m) (hb:m.Fields.length<=140737488351232):∀(d k:Nat) (n:Int),k+d=m.Fields.length->∃r,zdU i s n k=some r:=by
 obtain ⟨hil,hm⟩:=hi;have e1:idx s (i:Int)=some m:=by rw [zal rfl hil,hm]
 intro d
 induction d with
 | zero=>
  intro k n hk;refine ⟨n,znM ?_⟩;unfold zce;rw [e1,sb,uC]
 | succ d ih=>
  intro k n hk;obtain ⟨r,hr⟩:=ih (k+1) (i64.wrap (n+(i64.wrap (Int.tdiv (((m.Fields[k]'(by omega)).Name.length:Int)) 100)))) (by omega);refine ⟨r,(znL (k':=((k+1:Nat):Int)) ?_).trans hr⟩;unfold zce;rw [e1,sb,uB,sb,zal rfl (by omega),sb,zC (x:=(k:Int)+1) (by omega)];push_cast;rfl
theorem zMB {s:List Mes} (hw:WS s):∃b,zgw s=some b:=by
 obtain ⟨hs,hm⟩:=hw;have key:∀(d i:Nat) (n:Int),i+d=s.length->∃r,zdT s n i=some r:=by
  intro d
  induction d with
  | zero=>
   intro i n hi;refine ⟨n,znK ?_⟩;unfold zcd;rw [uC]
  | succ d ih=>
   intro i n hi;have hil:i<s.length:=by omega
   obtain ⟨q,hq⟩:=zHc (s:=s) (i:=i) (m:=s[i]) ⟨hil,rfl⟩ (hm _ (xI hil)).2.1 (s[i]).Fields.length 0
    (i64.wrap ((i64.wrap ((i64.wrap (n+1))+(i64.wrap (Int.tdiv ((s[i]).Name.length:Int) 100))))+((s[i]).Fields.length:Int))) (by omega)
   have hq':zdU i s (i64.wrap ((i64.wrap ((i64.wrap (n+1))+(i64.wrap (Int.tdiv ((s[i]).Name.length:Int) 100))))+((s[i]).Fields.length:Int))) 0=some q:=hq;obtain ⟨r,hr⟩:=ih (i+1) q (by omega);refine ⟨r,(znJ (i':=((i+1:Nat):Int)) ?_).trans hr⟩;unfold zcd;rw [uB,zal rfl hil,sb,sb,hq',sb,zC (x:=(i:Int)+1) (by omega)];push_cast;rfl
 obtain ⟨r,hr⟩:=key s.length 0 0 (by omega);have hr':zdT s 0 0=some r:=hr;exact ⟨_,by unfold zgw;rw [hr',sb]⟩
def ziY (m:Mes) (p:Int):Int:=(m.Fields.getD p.toNat ⟨[],0,0,false,false,0⟩).Number
def insS (κ:Int->Int) (i:Int) (out:List Int):List Int:=out.takeWhile (fun x=>decide (κ x<=κ i))++i::out.dropWhile (fun x=>decide (κ x<=κ i))
def zif (κ:Int->Int):Nat->List Int
 | 0=>[]
 | n+1=>insS κ n (zif κ n)
theorem zHj (κ:Int->Int) (i:Int) (out:List Int):(insS κ i out).Perm (i::out):=by
 unfold insS;refine List.perm_middle.trans ?_;rw [ph]
theorem zhm :∀{n:Nat} {x:Int},x∈zif κ n↔0<=x/\x<n
 | 0,x=>by
  simp only [zif,xR,false_iff];omega
 | n+1,x=>by
  rw [zif,(zHj κ n _).mem_iff,xD,zhm];omega
def zrT (κ:Int->Int) (a b:Int):Prop:=κ a<κ b\/κ a=κ b/\a<b
theorem zBC {κ:Int->Int} {c:Int}:∀{l:List Int},∀x∈l.takeWhile (fun x=>decide (κ x<=c)),κ x<=c/\x∈l:=by
 intro l
 induction l with
 | nil=>intro x hx;simp at hx
 | cons y l ih=>
  intro x hx;rw [List.takeWhile_cons] at hx;by_cases hy:κ y<=c
  ·rw [xz (by simpa using hy)] at hx;rcases xD.1 hx with rfl| hx
   ·exact ⟨hy,xA⟩
   ·exact ⟨(ih x hx).1,xB _ (ih x hx).2⟩
  ·rw [xy (by simpa using hy)] at hx;cases hx
theorem zAK :∀{l:List Int},l.Pairwise (zrT κ)->∀x∈l.dropWhile (fun x=>decide (κ x<=c)),c<κ x:=by
 intro l
 induction l with
 | nil=>intro _ x hx;simp at hx
 | cons y l ih=>
  intro hp x hx;rw [List.dropWhile_cons] at hx;have hp':=yf.1 hp;by_cases hy:κ y<=c
  ·rw [xz (by simpa using hy)] at hx;exact ih hp'.2 x hx
  ·rw [xy (by simpa using hy)] at hx;rcases xD.1 hx with rfl| hx
   ·omega
   ·have:=hp'.1 x hx;unfold zrT at this;omega
theorem ztv (κ:Int->Int):∀(n:Nat),(zif κ n).Pairwise (zrT κ)
 | 0=> .nil
 | n+1=>by
  have ih:=ztv κ n;have hm:∀x∈zif κ n,x<n:=fun x hx=>(zhm.1 hx).2
  rw [zif,insS];have hsplit:(zif κ n).takeWhile (fun x=>decide (κ x<=κ n))++(zif κ n).dropWhile (fun x=>decide (κ x<=κ n))=zif κ n:=ph;have hp:((zif κ n).takeWhile (fun x=>decide (κ x<=κ n))++(zif κ n).dropWhile (fun x=>decide (κ x<=κ n))).Pairwise (zrT κ):=by rw [hsplit];exact ih
  have ht:=zBC (κ:=κ) (c:=κ n) (l:=zif κ n);have hd:=zAK (c:=κ n) ih;have htm:∀x∈(zif κ n).takeWhile (fun x=>decide (κ x<=κ n)),x<n:=fun x hx=>hm x (ht x hx).2
  rw [List.pairwise_append] at hp|-;refine ⟨hp.1,yf.2 ⟨fun x hx=> .inl (hd x hx),hp.2.1⟩,fun a ha b hb=>?_⟩;rcases xD.1 hb with rfl| hb
  ·have h1:=(ht a ha).1;have h2:=htm a ha;unfold zrT;omega
  ·exact hp.2.2 a ha b hb
def cont (c:UInt8):Bool:=decide (128<=c.toNat/\c.toNat<192)
def is1:List UInt8->Bool
 | a::_=>decide (a.toNat<128)
 | _=>false
def is2:List UInt8->Bool
 | a::b::_=>decide (194<=a.toNat/\a.toNat<224/\cont b=true)
 | _=>false
def is3:List UInt8->Bool
 | a::b::c::_=>decide (224<=a.toNat/\a.toNat<240/\cont b=true/\cont c=true/\(a.toNat=224->160<=b.toNat)/\(a.toNat=237->b.toNat<160))
 | _=>false
def is4:List UInt8->Bool
 | a::b::c::d::_=>decide (240<=a.toNat/\a.toNat<245/\cont b=true/\cont c=true/\cont d=true/\(a.toNat=240->144<=b.toNat)/\(a.toNat=244->b.toNat<144))
 | _=>false
def nxt (l:List UInt8):Nat:=if is1 l then 1 else if is2 l then 2 else if is3 l then 3 else if is4 l then 4 else 0
def isN (n:Nat) (l:List UInt8):Bool:=match n with
 | 1=>is1 l
 | 2=>is2 l
 | 3=>is3 l
 | 4=>is4 l
 | _=>false
theorem zmi (h:isN n l=true):∃a t,l=a::t/\n<=l.length/\(n=1/\a.toNat<128\/n=2/\194<=a.toNat/\a.toNat<224\/n=3/\224<=a.toNat/\a.toNat<240\/n=4/\240<=a.toNat):=by
 match n,l with
 | 1,a::t=>simp only [isN,is1,yc] at h;exact ⟨a,t,rfl,by simp,.inl ⟨rfl,h⟩⟩
 | 2,a::b::t=>simp only [isN,is2,yc] at h;exact ⟨a,_,rfl,by simp,.inr (.inl ⟨rfl,h.1,h.2.1⟩)⟩
 | 3,a::b::c::t=>simp only [isN,is3,yc] at h;exact ⟨a,_,rfl,by simp,.inr (.inr (.inl ⟨rfl,h.1,h.2.1⟩))⟩
 | 4,a::b::c::d::t=>simp only [isN,is4,yc] at h;exact ⟨a,_,rfl,by simp,.inr (.inr (.inr ⟨rfl,h.1⟩))⟩
 | 0,_=>cases h
 | 1,[]=>cases h
 | 2,[]=>cases h
 | 2,[_]=>cases h
 | 3,[]=>cases h
 | 3,[_]=>cases h
 | 3,[_,_]=>cases h
 | 4,[]=>cases h
 | 4,[_]=>cases h
 | 4,[_,_]=>cases h
 | 4,[_,_,_]=>cases h
 | _+5,_=>cases h
theorem zKS (h:isN n l=true) (h':isN m l=true):n=m:=by
 obtain ⟨a,t,e,_,g⟩:=zmi h;obtain ⟨a',t',e',_,g'⟩:=zmi h';rw [e] at e';cases e';omega
theorem zMV (h:isN n l=true):nxt l=n:=by
 obtain ⟨_,_,_,_,g⟩:=zmi h;have k:∀m,m≠n->isN m l=false:=fun m hm=>by
  cases hh:isN m l with
  | false=>rfl
  | true=>exact absurd (zKS hh h) hm
 have hn:n=1\/n=2\/n=3\/n=4:=by omega
 rcases hn with rfl| rfl| rfl| rfl
 ·simp only [isN] at h;simp [nxt,h]
 ·have j1:=k 1 (by omega);simp only [isN] at h j1;simp [nxt,h,j1]
 ·have j1:=k 1 (by omega);have j2:=k 2 (by omega);simp only [isN] at h j1 j2;simp [nxt,h,j1,j2]
 ·have j1:=k 1 (by omega);have j2:=k 2 (by omega);have j3:=k 3 (by omega);simp only [isN] at h j1 j2 j3;simp [nxt,h,j1,j2,j3]
theorem zwh (h:nxt l≠0):isN (nxt l) l=true:=by
 unfold nxt at h|-;by_cases h1:is1 l=true
 ·simp [h1,isN]
 ·by_cases h2:is2 l=true
  ·simp [h1,h2,isN]
  ·by_cases h3:is3 l=true
   ·simp [h1,h2,h3,isN]
   ·by_cases h4:is4 l=true
    ·simp [h1,h2,h3,h4,isN]
    ·simp [h1,h2,h3,h4] at h
theorem zxz (l:List UInt8):nxt l<=l.length:=by
 by_cases h:nxt l=0
 ·omega
 ·obtain ⟨_,_,_,g,_⟩:=zmi (zwh h);exact g
theorem zLj (l:List UInt8):nxt l<=4:=by
 by_cases h:nxt l=0
 ·omega
 ·obtain ⟨_,_,_,_,g⟩:=zmi (zwh h);omega
def fst4 (m:Int) (l:List UInt8):Nat×Nat:=
 if h:nxt l=0\/(nxt l:Int)>m then (0,0) else (nxt l+(fst4 (m - nxt l) (l.drop (nxt l))).1,(fst4 (m - nxt l) (l.drop (nxt l))).2+1)
termination_by l.length
decreasing_by all_goals (have:=zxz l;simp only [yl];omega)
theorem zug (h:nxt l=0\/(nxt l:Int)>m):fst4 m l=(0,0):=by rw [fst4,dif_pos h]
theorem zAR (h:¬(nxt l=0\/(nxt l:Int)>m)):fst4 m l=(nxt l+(fst4 (m - nxt l) (l.drop (nxt l))).1,(fst4 (m - nxt l) (l.drop (nxt l))).2+1):=by rw [fst4,dif_neg h]
def pre4 (l:List UInt8):Nat×Nat:=fst4 l.length l
theorem zIL (h:(l.length:Int)<=m):fst4 m l=pre4 l:=by
 have key:∀(n:Nat) (l:List UInt8) (m m':Int),l.length=n->(l.length:Int)<=m->(l.length:Int)<=m'->fst4 m l=fst4 m' l:=by
  intro n
  induction n using Nat.strongRecOn with
  | _ n ih=>
   intro l m m' hn hm hm';have hle:=zxz l;by_cases h:nxt l=0
   ·rw [zug (.inl h),zug (.inl h)]
   ·rw [zAR (m:=m) (l:=l) (by omega),zAR (m:=m') (l:=l) (by omega),ih _ (by simp only [yl];omega) (l.drop (nxt l)) (m - nxt l) (m' - nxt l) rfl (by simp only [yl];omega) (by simp only [yl];omega)]
 exact key _ l m l.length rfl h (y6 _)
theorem zHD (h:nxt l=0):pre4 l=(0,0):=zug (.inl h)
theorem zLq (h:nxt l≠0):pre4 l=(nxt l+(pre4 (l.drop (nxt l))).1,(pre4 (l.drop (nxt l))).2+1):=by
 have hle:=zxz l;unfold pre4;rw [zAR (by omega),zIL (m:=(l.length:Int) - nxt l) (by simp only [yl];omega)];rfl
theorem zJD (P:List UInt8->Prop) (h0:∀l,nxt l=0->P l) (h1:∀l,nxt l≠0->P (l.drop (nxt l))->P l) (l:List UInt8):P l:=by
 generalize hn:l.length=n
 induction n using Nat.strongRecOn generalizing l with
 | _ n ih=>
  by_cases h:nxt l=0
  ·exact h0 l h
  ·have:=zxz l;exact h1 l h (ih _ (by simp only [yl];omega) _ rfl)
def zhs (l:List UInt8):Bool:=decide ((pre4 l).1=l.length)
def enc (v:Nat):List UInt8:=if v<128 then [UInt8.ofNat v] else UInt8.ofNat (128+v%128)::enc (v/128)
termination_by v
decreasing_by omega
def scan:Nat->Nat->List UInt8->Unit⊕(Int×Int×Int)
 | _,_,[]=> .inl ()
 | i,acc,c::t=>if i=9/\1<c.toNat then .inr (0,0,4) else if c.toNat<128 then .inr (((acc+c.toNat%128*128^i:Nat):Int),((i+1:Nat):Int),0) else scan (i+1) (acc+c.toNat%128*128^i) t
def rdR:Unit⊕(Int×Int×Int)->Int×Int×Int
 | .inl _=>(0,0,3)
 | .inr r=>r
def rd (b:List UInt8):Int×Int×Int:=rdR (scan 0 0 (b.take 10))
def hor:List UInt8->Nat
 | []=>0
 | c::t=>c.toNat%128+128*hor t
def lead:Nat->List UInt8->Nat
 | 0,_=>0
 | _+1,[]=>0
 | k+1,c::t=>if 128<=c.toNat then lead k t+1 else 0
theorem zMp (i:Nat):2^(7*i)=128^i:=by rw [Nat.pow_mul]
theorem zKC (c:Nat):c&&&127=c%128:=ur c 7
theorem zHG {acc i c:Nat} (hi:i<=9) (hacc:acc<128^i) (hc:c<256) (h9:i=9->c<=1):
  orI .u64 (acc:Int) (shlI .u64 (u64.wrap (andI .u8 (c:Int) 127)) ((7*i:Nat):Int))=((acc+c%128*128^i:Nat):Int):=by
 have e1:andI .u8 (c:Int) 127=((c%128:Nat):Int):=by
  have:=zBQ (k:= .u8) rfl (a:=c) (b:=127) (by simpa [IntKind.bits] using hc) (by simp [IntKind.bits]);rw [zKC] at this;exact this
 have hp:128^i<=128^9:=pg (by omega) hi;have wx:c%128*128^i<18446744073709551616:=by
  by_cases h:i=9
  ·subst h;have:=h9 rfl;have h2:c%128<=1:=by omega
   have:=yr (128^9) h2;omega
  ·have h3:128^i<=128^8:=pg (by omega) (by omega);have:=ue (show c%128<=127 by omega) h3;omega
 have e2:shlI .u64 (u64.wrap ((c%128:Nat):Int)) ((7*i:Nat):Int)=((c%128*128^i:Nat):Int):=by
  unfold shlI;rw [ztQ rfl (by simp [IntKind.bits];omega),xN,qC (by simp [IntKind.bits];omega)];have h4:((c%128:Nat):Int)*2^(7*i)=((c%128*128^i:Nat):Int):=by rw [<-zMp];push_cast;rfl
  rw [h4];exact ztQ rfl (by simpa [IntKind.bits] using wx)
 rw [e1,e2,zwi rfl (by simp [IntKind.bits];omega) (by simpa [IntKind.bits] using wx)];congr 1;rw [<-zMp] at hacc|-;exact zxE _ _ _ hacc
theorem zHF:∀(t:List UInt8) (v:List UInt8) (i acc:Nat),v.drop i=t->i+t.length=v.length->v.length<=10->acc<128^i->zgG v acc i=some (scan i acc t):=by
 intro t
 induction t with
 | nil=>
  intro v i acc _ hl _ _;refine ziP ?_;unfold zdl;rw [itF (by simp at hl|-;omega)];rfl
 | cons c t ih=>
  intro v i acc hd hl hv hacc;simp only [xU] at hl;have hget:v[i]'(by omega)=c:=by
   have h1:v.drop i=v[i]'(by omega)::v.drop (i+1):=yy (by omega);rw [hd] at h1;exact (List.cons.inj h1).1.symm
  have hd':v.drop (i+1)=t:=by rw [<-yB,hd];rfl
  have hc:=c.toNat_lt;have hb:zdl v acc i=if i=9/\1<c.toNat then some (.inr (.inr (0,0,4))) else if c.toNat<128 then some (.inr (.inr (((acc+c.toNat%128*128^i:Nat):Int),((i+1:Nat):Int),0))) else some (.inl (((acc+c.toNat%128*128^i:Nat):Int),((i+1:Nat):Int))):=by
   unfold zdl;rw [uB,zal rfl (show i<v.length by omega),sb,hget];by_cases h9:i=9/\1<c.toNat
   ·rw [xz h9,uB]
   ·rw [xy h9,uC,uD];have e:((7:Int)*(i:Int))=((7*i:Nat):Int):=by push_cast;rfl
    rw [e,zDr,sb,zHG (by omega) hacc (by omega) (by omega),uD];by_cases h8:c.toNat<128
    ·rw [xz h8,uB];push_cast;rfl
    ·rw [xy h8,uC];push_cast;rfl
  rw [scan];split at hb
  ·rename_i h9;rw [xz h9];exact ziP hb
  ·rename_i h9;rw [xy h9];split at hb
   ·rename_i h8;rw [xz h8];exact ziP hb
   ·rename_i h8;rw [xy h8,zsv hb];refine ih v (i+1) _ hd' (by omega) hv ?_;rw [yL];have:=yr (128^i) (show c.toNat%128<=127 by omega);omega
theorem zwq (b:List UInt8):zgK b=some (rd b):=by
 unfold zgK rd;have e:(if (10:Int)<(b.length:Int) then (10:Int) else (b.length:Int))=((min 10 b.length:Nat):Int):=by split<;>omega
 have e2:b.take (min 10 b.length)=b.take 10:=by rw [List.take_eq_take_iff];omega
 rw [e,znI rfl (by omega),sb,e2];have h:=zHF (b.take 10) (b.take 10) 0 0 rfl (by simp) (by simp;omega) (by simp);have h':zgG (b.take 10) 0 0=some (scan 0 0 (b.take 10)):=h;rw [h',sb];cases scan 0 0 (b.take 10)<;>rfl
theorem zGz (b:List UInt8):zjk b=some ((rd b).2.1,(rd b).2.2):=by unfold zjk;rw [zwq,sb]
theorem zFW:∀(k:Nat) (l:List UInt8),lead k l<=k/\lead k l<=l.length
 | 0,_=>⟨xE _,xM _⟩
 | _+1,[]=>⟨xM _,xE _⟩
 | k+1,c::t=>by
  have:=zFW k t;rw [lead];split<;>simp<;>omega
theorem zHL:∀(l:List UInt8) (i acc:Nat),i+l.length<=10->i<=9->
  scan i acc l=if i+lead (10 - i) l=10 then .inr (0,0,4) else if lead (10 - i) l=l.length then .inl () else if i+lead (10 - i) l=9/\1<(l.getD (lead (10 - i) l) 0).toNat then .inr (0,0,4) else
   .inr (((acc+hor (l.take (lead (10 - i) l+1))*128^i:Nat):Int),((i+lead (10 - i) l+1:Nat):Int),0):=by
 intro l
 induction l with
 | nil=>
  intro i acc _ hi;obtain ⟨k,hk⟩:∃k,10 - i=k+1:=⟨9 - i,by omega⟩;rw [hk];simp only [lead,scan,yv];rw [xy (by omega),xz trivial]
 | cons c t ih=>
  intro i acc hl hi;obtain ⟨k,hk⟩:∃k,10 - i=k+1:=⟨9 - i,by omega⟩;simp only [xU] at hl;rw [scan];by_cases hc:128<=c.toNat
  ·have e:lead (10 - i) (c::t)=lead k t+1:=by rw [hk,lead,xz hc]
   rw [e];by_cases h9:i=9
   ·have:k=0:=by omega
    subst this;rw [xz ⟨h9,by omega⟩,lead,xz (by omega)]
   ·rw [xy (by omega),xy (by omega),ih (i+1) _ (by omega) (by omega),show 10 - (i+1)=k by omega];by_cases h1:i+1+lead k t=10
    ·rw [xz h1,xz (show i+(lead k t+1)=10 by omega)]
    ·rw [xy h1,xy (show ¬i+(lead k t+1)=10 by omega)];by_cases h2:lead k t=t.length
     ·rw [xz h2,xz (show lead k t+1=(c::t).length by simp;omega)]
     ·rw [xy h2,xy (show ¬lead k t+1=(c::t).length by simp;omega)];have eg:(c::t).getD (lead k t+1) 0=t.getD (lead k t) 0:=by simp [List.getD]
      rw [eg];by_cases h3:i+1+lead k t=9/\1<(t.getD (lead k t) 0).toNat
      ·rw [xz h3,xz (show i+(lead k t+1)=9/\1<(t.getD (lead k t) 0).toNat by omega)]
      ·rw [xy h3,xy (show ¬(i+(lead k t+1)=9/\1<(t.getD (lead k t) 0).toNat) by omega)];rw [qW,hor,yL];have e5:acc+c.toNat%128*128^i+hor (t.take (lead k t+1))*(128^i*128)=acc+(c.toNat%128+128*hor (t.take (lead k t+1)))*128^i:=by
        rw [pA,qi 128,yR (128^i) 128,<-qi,yR _ 128,qi];omega
       rw [e5];congr 3;omega
  ·have e:lead (10 - i) (c::t)=0:=by rw [hk,lead,xy hc]
   rw [e];simp only [yF,xU,List.getD_cons_zero];rw [xy (show ¬i=10 by omega),xy (show ¬0=t.length+1 by omega)];by_cases h9:i=9/\1<c.toNat
   ·rw [xz h9,xz h9]
   ·rw [xy h9,xy h9,xz (show c.toNat<128 by omega)];simp [hor]
theorem zEv (x y:List UInt8):hor (x++y)=hor x+128^x.length*hor y:=by
 induction x with
 | nil=>simp [hor]
 | cons c t ih=>simp only [yi,hor,ih,xU,yL,Nat.mul_add];rw [yR (128^t.length) 128,qi];omega
theorem zIO (l:List UInt8):hor l<128^l.length:=by
 induction l with
 | nil=>simp [hor]
 | cons c t ih=>simp only [hor,xU,yL];omega
theorem zNu (hn:n<=9) (hC:C<256) (h9:¬(n=9/\1<C)) (hX:X<128^n):X+128^n*(C%128)<18446744073709551616:=by
 by_cases h9':n=9
 ·subst h9';have:C%128<=1:=by omega
  have:=pT (128^9) this;omega
 ·have h5:128^n<=128^8:=pg (by omega) (by omega);have h6:C%128<=127:=by omega
  have:=ue h5 h6;omega
theorem zzI:∀(k:Nat) (l:List UInt8),lead k (l.take k)=lead k l
 | 0,_=>rfl
 | _+1,[]=>rfl
 | k+1,c::t=>by simp only [qW,lead,zzI k t]
theorem zzH:∀(k:Nat) (l:List UInt8),(∀y∈l.take (lead k l),128<=y.toNat)/\∀(h:lead k l<l.length),lead k l<k->(l[lead k l]).toNat<128
 | 0,_=>⟨fun y hy=>by simp [lead] at hy,fun _ h=>by omega⟩
 | _+1,[]=>⟨fun y hy=>by simp at hy,fun h=>by simp at h⟩
 | k+1,c::t=>by
  obtain ⟨h1,h2⟩:=zzH k t;by_cases hc:128<=c.toNat
  ·have e:lead (k+1) (c::t)=lead k t+1:=by rw [lead,xz hc]
   constructor
   ·rw [e,qW];intro y hy;cases hy with
    | head=>exact hc
    | tail _ hy=>exact h1 y hy
   ·simp only [e,pI,xU];intro h hk;exact h2 (by omega) (by omega)
  ·have e:lead (k+1) (c::t)=0:=by rw [lead,xy hc]
   constructor
   ·rw [e];intro y hy;simp at hy
   ·simp only [e];intro _ _;simp;omega
theorem zms (b:List UInt8):rd b=(0,0,4)\/(rd b=(0,0,3)/\b.length<=9)\/
  ∃x c y,b=x++c::y/\(∀z∈x,128<=z.toNat)/\c.toNat<128/\x.length<=9/\hor (x++[c])<18446744073709551616/\rd b=(((hor (x++[c]):Nat):Int),((x.length+1:Nat):Int),0):=by
 have hle:=zFW 10 b;have hs:=zHL (b.take 10) 0 0 (by simp;omega) (by omega);simp only [xO,qB,zzI,Nat.pow_zero,Nat.mul_one] at hs;unfold rd;rw [hs];by_cases h10:lead 10 b=10
 ·rw [xz h10];exact .inl rfl
 ·rw [xy h10];by_cases hl:lead 10 b=(b.take 10).length
  ·rw [xz hl];refine .inr (.inl ⟨rfl,?_⟩);rw [yu] at hl;omega
  ·rw [xy hl];rw [yu] at hl;have wx:lead 10 b<b.length:=by omega
   have hg:(b.take 10).getD (lead 10 b) 0=b[lead 10 b]:=by
    rw [pi,yT,xz (by omega),xQ wx];rfl
   rw [hg,pB,qC (by omega)];have hc:=(b[lead 10 b]).toNat_lt;by_cases h9:lead 10 b=9/\1<(b[lead 10 b]).toNat
   ·rw [xz h9];exact .inl rfl
   ·rw [xy h9];obtain ⟨hf1,hf2⟩:=zzH 10 b;have hsp:b.take (lead 10 b+1)=b.take (lead 10 b)++[b[lead 10 b]]:=by
     rw [List.take_add_one,xQ wx];rfl
    have wD:(b.take (lead 10 b)).length=lead 10 b:=by rw [yu];omega
    refine .inr (.inr ⟨b.take (lead 10 b),b[lead 10 b],b.drop (lead 10 b+1),?_,hf1,hf2 wx (by omega),by omega,?_,?_⟩)
    ·rw [<-yy wx,qP]
    ·rw [zEv];have h3:=zIO (b.take (lead 10 b));rw [wD] at h3|-;simp only [hor,Nat.mul_zero,yF];exact zNu (by omega) (by omega) h9 h3
    ·rw [hsp,wD];simp [rdR]
theorem zoE (h:v<128):enc v=[UInt8.ofNat v]:=by rw [enc,xz h]
theorem zwN (h:¬v<128):enc v=UInt8.ofNat (128+v%128)::enc (v/128):=by rw [enc,xy h]
theorem zmT:∀(v:Nat),(enc v).length=lenN v:=by
 intro v
 induction v using Nat.strongRecOn with
 | _ v ih=>
  by_cases h:v<128
  ·rw [zoE h,zfd h];rfl
  ·rw [zwN h,zfV h,xU,ih _ (by omega)]
theorem znl {v:Nat} (h:v<18446744073709551616):1<=(enc v).length/\(enc v).length<=10:=by
 rw [zmT];exact ⟨zpW v,zxl h⟩
theorem zJP:∀(v i acc:Nat) (more:List UInt8),v*128^i<18446744073709551616->scan i acc (enc v++more)= .inr (((acc+v*128^i:Nat):Int),((i+(enc v).length:Nat):Int),0):=by
 intro v
 induction v using Nat.strongRecOn with
 | _ v ih=>
  intro i acc more hv;have h9:i=9->v<=1:=fun h=>by
   subst h;by_cases h1:v<=1
   ·exact h1
   ·have:=yr (128^9) (show 2<=v by omega);omega
  by_cases h:v<128
  ·have e:(UInt8.ofNat v).toNat=v:=by simp;omega
   rw [zoE h,pJ,scan,e,xy (by omega),xz h,qx h];rfl
  ·have e:(UInt8.ofNat (128+v%128)).toNat=128+v%128:=by simp;omega
   rw [zwN h,yi,scan,e,xy (by omega),xy (by omega)];have h2:v/128*128^(i+1)<=v*128^i:=by
    rw [yL,yR (128^i) 128,<-qi];exact yr _ (by omega)
   rw [ih (v/128) (by omega) (i+1) _ _ (by omega)];have e3:acc+(128+v%128)%128*128^i+v/128*128^(i+1)=acc+v*128^i:=by
    have e5:v/128*128^(i+1)=v/128*128*128^i:=by rw [yL,yR (128^i) 128,<-qi]
    rw [e5,show (128+v%128)%128=v%128 by omega,qI,<-pA,show v%128+v/128*128=v by omega]
   rw [e3,xU];congr 3;omega
theorem zxO {v:Nat} (more:List UInt8) (h:v<18446744073709551616):rd (enc v++more)=((v:Int),(((enc v).length:Nat):Int),0):=by
 unfold rd;rw [qq,yG (znl h).2,zJP v 0 0 _ (by simpa using h)];simp [rdR]
theorem zJT (v:Nat):shrI .u64 (v:Int) 7=((v/128:Nat):Int):=ztt (k:= .u64) (a:=v) (b:=7) (by simp [IntKind.bits])
theorem zJo:∀(w n:Nat),n+w<9223372036854775808+w->n+lz w<=1152921504606846976->ziT w n=some ((n+lz w:Nat):Int):=by
 intro w
 induction w using Nat.strongRecOn with
 | _ w ih=>
  intro n hn hl;by_cases h:w=0
  ·subst h;refine zvF ?_;unfold zfQ;rw [uA];rfl
  ·have e:=zMT h;refine (zvE (wv2':=((w/128:Nat):Int)) (n':=((n+1:Nat):Int)) ?_).trans ?_
   ·unfold zfQ;rw [uB,zJT,uD];rfl
   ·rw [ih (w/128) (by omega) (n+1) (by omega) (by omega)];congr 2;omega
theorem zJn {v:Nat} (h:v<18446744073709551616):znF (v:Int)=some ((lenN v:Nat):Int):=by
 unfold znF;have h1:=zMS v;have h2:=zxl h;have h3:=zJo (v/128) 1 (by omega) (by omega);have h3':ziT ((v/128:Nat):Int) 1=some ((1+lz (v/128):Nat):Int):=h3;rw [zJT,h3',sb,h1]
theorem zMY:∀n<256,n||| 128=n%128+128:=by decide+kernel
theorem zJG:∀(v:Nat) (l:List UInt8),v<18446744073709551616->l.length+(enc v).length<=1152921504606->∃(v':Nat) (l':List UInt8),ziD (v:Int) l=some ((v':Int),l')/\v'<128/\l'++[UInt8.ofNat v']=l++enc v:=by
 intro v
 induction v using Nat.strongRecOn with
 | _ v ih=>
  intro l hv hl;by_cases h:v<128
  ·refine ⟨v,l,ztL ?_,h,by rw [zoE h]⟩;unfold zeA;rw [uC]
  ·rw [zwN h,xU] at hl;obtain ⟨v',l',h1,h2,h3⟩:=ih (v/128) (by omega) (l++[UInt8.ofNat (128+v%128)]) (by omega) (by simp;omega);refine ⟨v',l',?_,h2,by rw [h3,zwN h];simp⟩;refine (ztK (wv2':=((v/128:Nat):Int)) (l':=l++[UInt8.ofNat (128+v%128)]) ?_).trans h1;unfold zeA;have e1:(v:Int)%256=((v%256:Nat):Int):=by omega
   have e2:orI .u8 ((v%256:Nat):Int) 128=((v%128+128:Nat):Int):=by
    have:=zwi (k:= .u8) rfl (a:=v%256) (b:=128) (by simp [IntKind.bits];omega) (by simp [IntKind.bits]);rw [zMY _ (by omega)] at this;have e3:((128:Nat):Int)=128:=rfl;rw [e3] at this;rw [this];congr 1;omega
   rw [uB,zBN,e1,e2,zzj (n:=128+v%128) (by omega) (by omega),sb,zem (by simp;omega),sb,zJT]
theorem zER {v:Nat} (b:List UInt8) (h:v<18446744073709551616) (hb:b.length<=1099511627776):ziO b (v:Int)=some (b++enc v):=by
 unfold ziO;have h1:=zxl h;have h2:=(znl h).2;rw [zJn h,sb,uD,zGg (by omega) (by omega),sb,zem (by simp;omega),sb];obtain ⟨v',l',h3,h4,h5⟩:=zJG v b h (by omega);have wD:l'.length+1=b.length+(enc v).length:=by have:=congrArg List.length h5;simpa using this
 simp only [xK];rw [h3,sb,zBN];simp only;rw [zzj (n:=v') (by omega) (by omega),sb,zem (by simp;omega),sb,h5]
theorem zEY (a b:List UInt8):zhx a b=some (a==b):=rfl
def zcX (n w:Int):Bool:=decide (1<=n/\n<=536870911/\(w=0\/w=1\/w=2\/w=5))
def tgR (r:Int×Int×Int):Int×Int×Int×Int:=
 if r.2.2≠0 then (0,0,0,r.2.2) else if 4294967295<r.1\/zcX (r.1/8) (r.1%8)=false then (0,0,0,5) else (r.1/8,r.1%8,r.2.1,0)
def tg (l:List UInt8):Int×Int×Int×Int:=tgR (rd l)
def tW (n w:Int):Nat:=(8*n+w).toNat
theorem zeW :zcX n w=true↔1<=n/\n<=536870911/\(w=0\/w=1\/w=2\/w=5):=by simp [zcX]
theorem zjc (l:List UInt8):0<=(rd l).1/\(rd l).1<18446744073709551616/\0<=(rd l).2.1/\(rd l).2.1<=10/\(rd l).2.1<=l.length/\((rd l).2.2=0\/(rd l).2.2=3\/(rd l).2.2=4)/\((rd l).2.2=0->1<=(rd l).2.1):=by
 rcases zms l with h| ⟨h,_⟩| ⟨x,c,y,e,_,_,hl,hv,h⟩
 ·rw [h];simp
 ·rw [h];simp
 ·have:l.length=x.length+1+y.length:=by rw [e];simp;omega
  rw [h];refine ⟨?_,?_,?_,?_,?_,.inl rfl,fun _=>?_⟩<;>simp only<;>omega
theorem zGv (x:List UInt8) (c:UInt8) (y:List UInt8) (hx:∀z∈x,128<=z.toNat) (hc:c.toNat<128) (hl:x.length<=9) (hv:hor (x++[c])<18446744073709551616):
  rd (x++c::y)=(((hor (x++[c]):Nat):Int),((x.length+1:Nat):Int),0):=by
 have key:∀(x:List UInt8) (z:List UInt8) (i acc:Nat),(∀z∈x,128<=z.toNat)->i+x.length<=9->acc+hor (x++[c])*128^i<18446744073709551616->scan i acc (x++c::z)= .inr (((acc+hor (x++[c])*128^i:Nat):Int),((i+x.length+1:Nat):Int),0):=by
  intro x
  induction x with
  | nil=>
   intro z i acc _ hi hv;have e1:hor ([]++[c])=c.toNat:=by simp [hor];omega
   rw [e1] at hv|-;rw [xK,scan,xy,xz hc,qx hc]
   ·rfl
   ·rintro ⟨rfl,h2⟩;have:=yr (128^9) (show 2<=c.toNat by omega);omega
  | cons d x ih=>
   intro z i acc hx hi hv;simp only [xU] at hi;have hd:=hx d xA;have e5:acc+hor ((d::x)++[c])*128^i=acc+d.toNat%128*128^i+hor (x++[c])*128^(i+1):=by
    rw [yi,hor,yL,pA,yR (128^i) 128,<-qi,yR (hor (x++[c])) 128];omega
   rw [e5] at hv|-;rw [yi,scan,xy (by omega),xy (by omega),ih z (i+1) _ (fun z hz=>hx z (xB _ hz)) (by omega) hv,xU];congr 3;omega
 unfold rd;have e2:(x++c::y).take 10=x++c::y.take (9 - x.length):=by
  rw [qq,yG (by omega),show 10 - x.length=(9 - x.length)+1 by omega,qW]
 rw [e2,key x _ 0 0 hx (by omega) (by simpa using hv)];simp [rdR]
theorem zre (l m:List UInt8) (h:(rd l).2.2=0):rd (l++m)=rd l:=by
 rcases zms l with h'| ⟨h',_⟩| ⟨x,c,y,e,hx,hc,hl,hv,h'⟩
 ·rw [h'] at h;cases h
 ·rw [h'] at h;cases h
 ·rw [h',e,yp,yi,zGv x c _ hx hc hl hv]
theorem zAi (l m:List UInt8) (h:(rd l).2.2=0):tg (l++m)=tg l:=by unfold tg;rw [zre l m h]
theorem zGF (h:r.2.2≠0):tgR r=(0,0,0,r.2.2):=xz h
theorem zyh (h:r.2.2=0) (h2:4294967295<r.1\/zcX (r.1/8) (r.1%8)=false):tgR r=(0,0,0,5):=by unfold tgR;rw [xy (by simp [h]),xz h2]
theorem zFh (h:r.2.2=0) (h2:¬(4294967295<r.1\/zcX (r.1/8) (r.1%8)=false)):tgR r=(r.1/8,r.1%8,r.2.1,0):=by unfold tgR;rw [xy (by simp [h]),xy h2]
theorem zDy (l:List UInt8):(∃c,tg l=(0,0,0,c)/\(c=3\/c=4\/c=5))\/∃n w k,tg l=(n,w,k,0)/\zcX n w=true/\1<=k/\k<=10/\k<=l.length/\rd l=(8*n+w,k,0):=by
 obtain ⟨h1,h2,h3,h4,h5,h6,h7⟩:=zjc l;unfold tg;by_cases h:(rd l).2.2=0
 ·by_cases hg:4294967295<(rd l).1\/zcX ((rd l).1/8) ((rd l).1%8)=false
  ·exact .inl ⟨5,zyh h hg,by omega⟩
  ·refine .inr ⟨_,_,_,zFh h hg,?_,h7 h,h4,h5,?_⟩
   ·cases ht:zcX ((rd l).1/8) ((rd l).1%8)
    ·exact absurd (.inr ht) hg
    ·rfl
   ·refine Prod.ext ?_ (Prod.ext rfl h);simp only;omega
 ·exact .inl ⟨_,zGF h,by omega⟩
theorem zyf {n w:Int} (h:zcX n w=true):((tW n w:Nat):Int)=8*n+w/\tW n w<4294967296:=by
 have:=zeW.1 h;unfold tW;omega
theorem zKZ {v:Nat} (h:v<34359738368):lenN v<=5:=by
 by_cases h1:v<128
 ·rw [zfd h1];omega
 ·rw [zfV h1];by_cases h2:v/128<128
  ·rw [zfd h2];omega
  ·rw [zfV h2];by_cases h3:v/128/128<128
   ·rw [zfd h3];omega
   ·rw [zfV h3];by_cases h4:v/128/128/128<128
    ·rw [zfd h4];omega
    ·rw [zfV h4,zfd (by omega)];omega
theorem zNo {n w:Int} (more:List UInt8) (h:zcX n w=true):tg (enc (tW n w)++more)=(n,w,((enc (tW n w)).length:Int),0):=by
 have hr:=zeW.1 h;obtain ⟨e,wx⟩:=zyf h;unfold tg;rw [zxO more (by omega)];have e1:((tW n w:Nat):Int)/8=n:=by omega
 have e2:((tW n w:Nat):Int)%8=w:=by omega
 rw [zFh rfl (by simp only [e1,e2,h];simp;omega)];simp only [e1,e2]
abbrev Rec:=zu
def zfR (w:Int) (k:Nat) (m:List UInt8):Int⊕(Nat×Nat):=
 if w=0 then (if (rd m).2.2≠0 then .inl (rd m).2.2 else .inr (k,k+(rd m).2.1.toNat))
 else if w=2 then (if (rd m).2.2≠0 then .inl (rd m).2.2 else if (m.length:Int) - (rd m).2.1<(rd m).1 then .inl 3 else .inr (k+(rd m).2.1.toNat,k+(rd m).2.1.toNat+(rd m).1.toNat))
 else if m.length<(if w=5 then 4 else 8) then .inl 3 else .inr (k,k+(if w=5 then 4 else 8))
def rec5 (l:List UInt8):Int⊕(Int×Int×Nat×Nat):=
 if (tg l).2.2.2≠0 then .inl (tg l).2.2.2 else match zfR (tg l).2.1 (tg l).2.2.1.toNat (l.drop (tg l).2.2.1.toNat) with
  | .inl c=> .inl c
  | .inr p=> .inr ((tg l).1,(tg l).2.1,p.1,p.2)
theorem zkL (w:Int) (k:Nat) (m:List UInt8):(∃c,zfR w k m= .inl c/\(c=3\/c=4))\/
  ∃a t,zfR w k m= .inr (a,t)/\k<=a/\a<=t/\t<=k+m.length/\
   (w=0/\a=k/\(rd m).2.2=0/\((t - k:Nat):Int)=(rd m).2.1/\k<t\/w=2/\(rd m).2.2=0/\((a - k:Nat):Int)=(rd m).2.1/\((t - a:Nat):Int)=(rd m).1\/w≠0/\w≠2/\a=k/\t=k+(if w=5 then 4 else 8)):=by
 obtain ⟨h1,h2,h3,h4,h5,h6,h7⟩:=zjc m;unfold zfR;by_cases w0:w=0
 ·rw [xz w0];by_cases h:(rd m).2.2=0
  ·have:=h7 h;rw [xy (by simpa using h)];exact .inr ⟨_,_,rfl,xE _,by omega,by omega,.inl ⟨w0,rfl,h,by omega,by omega⟩⟩
  ·rw [xz h];exact .inl ⟨_,rfl,by omega⟩
 ·rw [xy w0];by_cases w2:w=2
  ·rw [xz w2];by_cases h:(rd m).2.2=0
   ·rw [xy (by simpa using h)];by_cases h8:(m.length:Int) - (rd m).2.1<(rd m).1
    ·rw [xz h8];exact .inl ⟨_,rfl,by omega⟩
    ·rw [xy h8];exact .inr ⟨_,_,rfl,by omega,by omega,by omega,.inr (.inl ⟨w2,h,by omega,by omega⟩)⟩
   ·rw [xz h];exact .inl ⟨_,rfl,by omega⟩
  ·rw [xy w2];by_cases h8:m.length<(if w=5 then 4 else 8)
   ·rw [xz h8];exact .inl ⟨_,rfl,by omega⟩
   ·rw [xy h8];exact .inr ⟨_,_,rfl,xE _,by omega,by omega,.inr (.inr ⟨w0,w2,rfl,rfl⟩)⟩
theorem zAC (w:Int) (k:Nat) (m z:List UInt8) (h:zfR w k m= .inr p):zfR w k (m++z)= .inr p:=by
 unfold zfR at h|-;by_cases w0:w=0
 ·rw [xz w0] at h|-;by_cases h0:(rd m).2.2=0
  ·rw [zre m z h0];exact h
  ·rw [xz h0] at h;cases h
 ·rw [xy w0] at h|-;by_cases w2:w=2
  ·rw [xz w2] at h|-;by_cases h0:(rd m).2.2=0
   ·rw [zre m z h0];rw [xy (by simpa using h0)] at h|-;by_cases h8:(m.length:Int) - (rd m).2.1<(rd m).1
    ·rw [xz h8] at h;cases h
    ·rw [xy h8] at h;rw [xy (by simp only [xF];omega)];exact h
   ·rw [xz h0] at h;cases h
  ·rw [xy w2] at h|-;by_cases h8:m.length<(if w=5 then 4 else 8)
   ·rw [xz h8] at h;cases h
   ·rw [xy h8] at h;rw [xy (by simp only [xF];omega)];exact h
theorem zko (l:List UInt8):(∃c,rec5 l= .inl c/\(c=3\/c=4\/c=5))\/
  ∃(n w:Int) (k a t:Nat),rec5 l= .inr (n,w,a,t)/\tg l=(n,w,(k:Int),0)/\zcX n w=true/\zfR w k (l.drop k)= .inr (a,t)/\1<=k/\k<=l.length/\k<=a/\a<=t/\t<=l.length/\rd l=(8*n+w,(k:Int),0):=by
 rcases zDy l with ⟨c,h,hc⟩| ⟨n,w,k,h,hr,k1,k2,k3,hrd⟩
 ·refine .inl ⟨c,?_,hc⟩;unfold rec5;rw [h,xz (by simp only;omega)]
 ·obtain ⟨k,rfl⟩:∃j:Nat,k=j:=⟨k.toNat,by omega⟩
  have e:rec5 l=match zfR w k (l.drop k) with
   | .inl c=> .inl c
   | .inr p=> .inr (n,w,p.1,p.2):=by unfold rec5;rw [h];simp
  rcases zkL w k (l.drop k) with ⟨c,h2,hc⟩| ⟨a,t,h2,g1,g2,g3,_⟩
  ·exact .inl ⟨c,by rw [e,h2],by omega⟩
  ·simp only [yl] at g3;exact .inr ⟨n,w,k,a,t,by rw [e,h2],h,hr,h2,by omega,by omega,g1,g2,by omega,hrd⟩
theorem zDi (l z:List UInt8) (h:rec5 l= .inr r):rec5 (l++z)= .inr r:=by
 rcases zko l with ⟨c,h',_⟩| ⟨n,w,k,a,t,h',htg,_,hb,_,hk,_,_,_,hrd⟩
 ·rw [h'] at h;cases h
 ·rw [h'] at h;have e:tg (l++z)=(n,w,(k:Int),0):=by rw [zAi l z (by rw [hrd]),htg]
  unfold rec5;rw [e];simp only [ne_eq,qn,yH,xN];rw [pd hk,zAC _ _ _ _ hb];exact h
def zrec:Rec:=⟨0,0,0,0,0⟩
def zfW (b:List UInt8) (at5:Int):Rec×Int:=if at5<0\/at5>=b.length then (zrec,2) else match rec5 (b.drop at5.toNat) with
 | .inl c=>(zrec,c)
 | .inr (n,w,a,t)=>(⟨n,w,at5,at5+a,at5+t⟩,0)
def spl (base:Nat) (l:List UInt8):List Rec×Option (Nat×Int):=
 if hl:l=[] then ([],none) else match h:rec5 l with
  | .inl c=>([],some (base,c))
  | .inr (n,w,a,t)=>(⟨n,w,base,(base+a:Nat),(base+t:Nat)⟩::(spl (base+t) (l.drop t)).1,(spl (base+t) (l.drop t)).2)
termination_by l.length
decreasing_by
 all_goals
  rcases zko l with ⟨c',h',_⟩| ⟨n',w',k',a',t',h',_,_,_,g1,g2,g3,g4,g5,_⟩
  ·rw [h'] at h;cases h
  ·rw [h'] at h;cases h;simp only [yl];omega
theorem zgV (base:Nat):spl base []=([],none):=by rw [spl,dif_pos rfl]
theorem zjJ (hl:l≠[]) (h:rec5 l= .inl c):spl base l=([],some (base,c)):=by
 rw [spl,dif_neg hl];split
 ·rename_i c' h';rw [h] at h';cases h';rfl
 ·rename_i h';rw [h] at h';cases h'
theorem zfA (hl:l≠[]) (h:rec5 l= .inr (n,w,a,t)):
  spl base l=(⟨n,w,base,(base+a:Nat),(base+t:Nat)⟩::(spl (base+t) (l.drop t)).1,(spl (base+t) (l.drop t)).2):=by
 rw [spl,dif_neg hl];split
 ·rename_i c' h';rw [h] at h';cases h'
 ·rename_i n' w' a' t' h';rw [h] at h';cases h';rfl
theorem zkF (P:Nat->List UInt8->Prop) (h0:∀base,P base []) (he:∀base l c,l≠[]->rec5 l= .inl c->(c=3\/c=4\/c=5)->P base l)
  (hc:∀base l (n w:Int) (a t:Nat),l≠[]->rec5 l= .inr (n,w,a,t)->zcX n w=true->1<=a->a<=t->t<=l.length->P (base+t) (l.drop t)->P base l) (base:Nat) (l:List UInt8):P base l:=by
 generalize hn:l.length=m
 induction m using Nat.strongRecOn generalizing base l with
 | _ m ih=>
  by_cases hl:l=[]
  ·subst hl;exact h0 base
  ·rcases zko l with ⟨c,h,hc'⟩| ⟨n,w,k,a,t,h,_,hr,_,g1,g2,g3,g4,g5,_⟩
   ·exact he base l c hl h hc'
   ·exact hc base l n w a t hl h hr (by omega) g4 g5 (ih _ (by simp only [yl];omega) _ _ rfl)
theorem zLz (base:Nat) (l:List UInt8):(spl base l).1.length<=l.length:=by
 refine zkF (fun base l=>(spl base l).1.length<=l.length) ?_ ?_ ?_ base l
 ·intro base;rw [zgV];simp
 ·intro base l c hl h _;rw [zjJ hl h];simp
 ·intro base l n w a t hl h _ g1 g2 g3 ih;rw [zfA hl h];simp only [xU,yl] at ih|-;omega
theorem zJW (base:Nat) (l:List UInt8):∀p c,(spl base l).2=some (p,c)->(c=3\/c=4\/c=5)/\base<=p/\p<base+l.length:=by
 refine zkF (fun base l=>∀p c,(spl base l).2=some (p,c)->(c=3\/c=4\/c=5)/\base<=p/\p<base+l.length) ?_ ?_ ?_ base l
 ·intro base p c h;rw [zgV] at h;cases h
 ·intro base l c' hl h hc p c h2;rw [zjJ hl h] at h2;cases h2;have:0<l.length:=qF.2 hl;exact ⟨hc,by omega,by omega⟩
 ·intro base l n w a t hl h _ g1 g2 g3 ih p c h2;rw [zfA hl h] at h2;have:=ih p c h2;simp only [yl] at this;omega
def zmB (d:Nat) (r:Rec):Rec:=⟨r.Number,r.Wire,r.From+d,r.At+d,r.To+d⟩
theorem zAd (d:Nat) (base:Nat) (l:List UInt8):spl (base+d) l=((spl base l).1.map (zmB d),(spl base l).2.map fun p=>(p.1+d,p.2)):=by
 refine zkF (fun base l=>spl (base+d) l=((spl base l).1.map (zmB d),(spl base l).2.map fun p=>(p.1+d,p.2))) ?_ ?_ ?_ base l
 ·intro base;rw [zgV,zgV];rfl
 ·intro base l c hl h _;rw [zjJ hl h,zjJ hl h];rfl
 ·intro base l n w a t hl h _ g1 g2 g3 ih;rw [zfA hl h,zfA hl h,show base+d+t=base+t+d by omega,ih];simp only [xP,zmB,yE,qh,zu.mk.injEq,yZ,qR];push_cast;omega
theorem zxZ (m:List UInt8) (base:Nat) (l:List UInt8):(spl base l).2=none->spl base (l++m)=((spl base l).1++(spl (base+l.length) m).1,(spl (base+l.length) m).2):=by
 refine zkF (fun base l=>(spl base l).2=none->spl base (l++m)=((spl base l).1++(spl (base+l.length) m).1,(spl (base+l.length) m).2)) ?_ ?_ ?_ base l
 ·intro base _;rw [zgV];simp
 ·intro base l c hl h _ h2;rw [zjJ hl h] at h2;cases h2
 ·intro base l n w a t hl h _ g1 g2 g3 ih h2;rw [zfA hl h] at h2|-;rw [zfA (by simp [hl]) (zDi l m h),pd g3,ih h2];simp only [yl,yi,show base+t+(l.length - t)=base+l.length by omega]
def zdw (w:Int) (v:List UInt8):Bool:=
 if w=0 then decide ((rd v).2.2=0/\(rd v).2.1=v.length) else decide (w=2\/w=1/\v.length=8\/w=5/\v.length=4)
def put5 (n w:Int) (v:List UInt8):List UInt8:=enc (tW n w)++(if w=2 then enc v.length else [])++v
theorem zKL (v:Nat):1<=(enc v).length:=by rw [zmT];exact zpW v
theorem zJJ {n w:Int} {v:List UInt8} (z:List UInt8) (h:zcX n w=true) (hf:zdw w v=true) (hv:v.length<=1048576):
  rec5 (put5 n w v++z)= .inr (n,w,(put5 n w v).length - v.length,(put5 n w v).length):=by
 obtain ⟨_,wx⟩:=zyf h;have hen:=znl (v:=v.length) (by omega);have e:tg (put5 n w v++z)=(n,w,((enc (tW n w)).length:Int),0):=by
  unfold put5;rw [yp,yp];exact zNo _ h
 have hd:(put5 n w v++z).drop (enc (tW n w)).length=(if w=2 then enc v.length else [])++v++z:=by
  unfold put5;rw [yp,yp,pj,yp]
 unfold rec5;rw [e];simp only [ne_eq,qn,yH,xN];rw [hd];have hw:=(zeW.1 h).2.2;unfold zdw at hf;rcases hw with rfl| rfl| rfl| rfl
 ·rw [xz rfl] at hf;obtain ⟨f1,f2⟩:=yA hf;have hb:zfR 0 (enc (tW n 0)).length ((if (0:Int)=2 then enc v.length else [])++v++z)= .inr ((enc (tW n 0)).length,(enc (tW n 0)).length+v.length):=by
   rw [xy (by omega),xK];unfold zfR;rw [xz rfl,zre v z f1,xy (by simpa using f1),f2,xN]
  rw [hb];simp [put5]
 ·have f:=yA hf;have f8:v.length=8:=by omega
  have hb:zfR 1 (enc (tW n 1)).length ((if (1:Int)=2 then enc v.length else [])++v++z)= .inr ((enc (tW n 1)).length,(enc (tW n 1)).length+8):=by
   rw [xy (by omega),xK];unfold zfR;rw [xy (by omega),xy (by omega),xy (by simp;omega)];rfl
  rw [hb];simp [put5,f8]
 ·have hb:zfR 2 (enc (tW n 2)).length ((if (2:Int)=2 then enc v.length else [])++v++z)= .inr ((enc (tW n 2)).length+(enc v.length).length,(enc (tW n 2)).length+(enc v.length).length+v.length):=by
   rw [xz rfl];unfold zfR;rw [xy (by omega),xz rfl,yp,zxO _ (by omega),xy (by simp),xy (by simp only [xF];omega)];simp
  rw [hb];simp [put5];omega
 ·have f:=yA hf;have f4:v.length=4:=by omega
  have hb:zfR 5 (enc (tW n 5)).length ((if (5:Int)=2 then enc v.length else [])++v++z)= .inr ((enc (tW n 5)).length,(enc (tW n 5)).length+4):=by
   rw [xy (by omega),xK];unfold zfR;rw [xy (by omega),xy (by omega),xy (by simp;omega)];rfl
  rw [hb];simp [put5,f4]
theorem zjD (n w:Int) (v:List UInt8):(put5 n w v).length=(enc (tW n w)).length+(if w=2 then (enc v.length).length else 0)+v.length:=by
 unfold put5;split
 ·simp;omega
 ·simp
theorem zLB {n w:Int} {v:List UInt8} (h:zcX n w=true) (hf:zdw w v=true) (hv:v.length<=1048576):
  spl 0 (put5 n w v)=([⟨n,w,0,(((put5 n w v).length - v.length:Nat):Int),((put5 n w v).length:Int)⟩],none):=by
 have h1:=zJJ [] h hf hv;rw [yq] at h1;have hne:put5 n w v≠[]:=fun e=>by
  have:=zjD n w v;have h2:=zKL (tW n w);rw [e] at this;simp at this;omega
 rw [zfA hne h1,pk,zgV];simp
theorem zFE {l:List UInt8} {k:Nat} (h:rd l=((rd l).1,(k:Int),0)):(enc (rd l).1.toNat).length<=k:=by
 rcases zms l with h'| ⟨h',_⟩| ⟨x,c,y,e,hx,hc,hl,hv,h'⟩
 ·rw [h'] at h;cases h
 ·rw [h'] at h;cases h
 ·rw [h'] at h|-;have hk:(x.length:Int)+1=k:=by have:=congrArg (fun p=>p.2.1) h;simpa using this
  simp only [xN];have h1:=zIO (x++[c]);rw [zmT];have key:∀(j v:Nat),v<128^(j+1)->lenN v<=j+1:=by
   intro j
   induction j with
   | zero=>intro v hv;rw [zfd (by omega)];omega
   | succ j ih=>
    intro v hv;by_cases h2:v<128
    ·rw [zfd h2];omega
    ·rw [zfV h2];have:=ih (v/128) (by rw [yL] at hv;exact Nat.div_lt_of_lt_mul (by omega));omega
  have:=key x.length (hor (x++[c])) (by simpa using h1);omega
theorem zEU {l:List UInt8} {n w:Int} {a t:Nat} (h:rec5 l= .inr (n,w,a,t)):
  zdw w ((l.drop a).take (t - a))=true/\((l.drop a).take (t - a)).length=t - a/\(put5 n w ((l.drop a).take (t - a))).length<=t:=by
 rcases zko l with ⟨c,h',_⟩| ⟨n',w',k,a',t',h',_,hr,hb,g1,g2,g3,g4,g5,hrd⟩
 ·rw [h'] at h;cases h
 ·rw [h'] at h;cases h;have wD:((l.drop a).take (t - a)).length=t - a:=by simp;omega
  have hm:=zFE (l:=l) (k:=k) (by rw [hrd]);have e1:(rd l).1.toNat=tW n w:=by rw [hrd];rfl
  rw [e1] at hm;refine ⟨?_,wD,?_⟩
  ·rcases zkL w k (l.drop k) with ⟨c,hc,_⟩| ⟨a2,t2,h2,k1,k2,k3,hcase⟩
   ·rw [hc] at hb;cases hb
   ·rw [h2] at hb;cases hb;unfold zdw;rcases hcase with ⟨rfl,rfl,f1,f2,f3⟩| ⟨rfl,f1,f2,f3⟩| ⟨w0,w2,rfl,f1⟩
    ·rw [xz rfl]
     -- what is read is the value alone
     have hv:rd ((l.drop a).take (t - a))=rd (l.drop a):=by
      rcases zms (l.drop a) with h6| ⟨h6,_⟩| ⟨x,c,y,e,hx,hc,hl,hv,h6⟩
      ·rw [h6] at f1;cases f1
      ·rw [h6] at f1;cases f1
      ·rw [h6] at f2;have e7:t - a=(x++[c]).length:=by simp at f2|-;omega
       have e8:(l.drop a).take (t - a)=x++c::[]:=by rw [e7,e,pK x c y,uf]
       rw [e8,zGv x c [] hx hc hl hv,h6]
     rw [hv];exact xT ⟨f1,by rw [<-f2,wD]⟩
    ·rw [xy (by omega)];exact xT (.inl rfl)
    ·have hw:=(zeW.1 hr).2.2;rw [xy w0];rw [wD,f1];refine xT ?_;rcases hw with rfl| rfl| rfl| rfl
     ·exact absurd rfl w0
     ·right;left;simp
     ·exact absurd rfl w2
     ·right;right;simp
  ·rw [zjD,wD];rcases zkL w k (l.drop k) with ⟨c,hc,_⟩| ⟨a2,t2,h2,k1,k2,k3,hcase⟩
   ·rw [hc] at hb;cases hb
   ·rw [h2] at hb;cases hb;by_cases hw2:w=2
    ·rw [xz hw2];rcases hcase with ⟨rfl,_⟩| ⟨_,f1,f2,f3⟩| ⟨_,w2,_⟩
     ·omega
     ·have hm2:=zFE (l:=l.drop k) (k:=a - k) (by rw [f2];exact Prod.ext rfl (Prod.ext rfl f1));have e3:(rd (l.drop k)).1.toNat=t - a:=by omega
      rw [e3] at hm2;omega
     ·exact absurd hw2 w2
    ·rw [xy hw2];omega
theorem zBq (l:List UInt8) {j:Nat} (h:(rd l).2.2=0) (hj:(rd l).2.1<=j):rd (l.take j)=rd l:=by
 rcases zms l with h6| ⟨h6,_⟩| ⟨x,c,y,e,hx,hc,hl,hv,h6⟩
 ·rw [h6] at h;cases h
 ·rw [h6] at h;cases h
 ·rw [h6] at hj;have hj':(x++[c]).length<=j:=by simp at hj|-;omega
  have:l.take j=x++c::y.take (j - (x++[c]).length):=by
   rw [e,pK x c y,qq,yG hj',<-pK]
  rw [this,zGv x c _ hx hc hl hv,h6]
theorem zEg (h:zfR w k m= .inr (a,t)):zfR w k (m.take (t - k))= .inr (a,t):=by
 rcases zkL w k m with ⟨c,hc,_⟩| ⟨a2,t2,h2,k1,k2,k3,hcase⟩
 ·rw [hc] at h;cases h
 ·rw [h2] at h;cases h;have hl:(m.take (t - k)).length=t - k:=by simp;omega
  rcases hcase with ⟨rfl,rfl,f1,f2,f3⟩| ⟨rfl,f1,f2,f3⟩| ⟨w0,w2,rfl,f1⟩
  ·have hr:=zBq m (j:=t - a) f1 (by omega);unfold zfR at h2|-;rw [xz rfl] at h2|-;rw [hr];exact h2
  ·have hr:=zBq m (j:=t - k) f1 (by omega);unfold zfR at h2|-;rw [xy (by omega),xz rfl] at h2|-;rw [hr];rw [xy (by simpa using f1)] at h2|-;split at h2
   ·cases h2
   ·rw [xy (by rw [hl];omega)];exact h2
  ·unfold zfR;rw [xy w0,xy w2,xy (by rw [hl];omega),<-f1]
theorem zHH (h:rec5 l= .inr (n,w,a,t)):rec5 (l.take t)= .inr (n,w,a,t):=by
 rcases zko l with ⟨c,h',_⟩| ⟨n',w',k,a',t',h',htg,hr,hb,g1,g2,g3,g4,g5,hrd⟩
 ·rw [h'] at h;cases h
 ·rw [h'] at h;cases h;have hr1:=zBq l (j:=t) (by rw [hrd]) (by rw [hrd];simp only;omega);have e:tg (l.take t)=(n,w,(k:Int),0):=by
   have:=zAi (l.take t) (l.drop t) (by rw [hr1,hrd]);rw [qP,htg] at this;exact this.symm
  unfold rec5;rw [e];simp only [ne_eq,qn,yH,xN];rw [qQ,zEg hb]
theorem zLA (b:List UInt8) (base:Nat) (l:List UInt8):l=b.drop base->base<=b.length->∀r∈(spl base l).1,∃(n w:Int) (f a t:Nat),r=⟨n,w,(f:Int),((f+a:Nat):Int),((f+t:Nat):Int)⟩/\rec5 (b.drop f)= .inr (n,w,a,t)/\1<=a/\a<=t/\f+t<=b.length:=by
 refine zkF (fun base l=>l=b.drop base->base<=b.length->∀r∈(spl base l).1,∃(n w:Int) (f a t:Nat),r=⟨n,w,(f:Int),((f+a:Nat):Int),((f+t:Nat):Int)⟩/\rec5 (b.drop f)= .inr (n,w,a,t)/\1<=a/\a<=t/\f+t<=b.length) ?_ ?_ ?_ base l
 ·intro base _ _ r hr;rw [zgV] at hr;cases hr
 ·intro base l c hl h _ _ _ r hr;rw [zjJ hl h] at hr;cases hr
 ·intro base l n w a t hl h _ g1 g2 g3 ih hld hbase r hr;have wD:l.length=b.length - base:=by rw [hld];simp
  rw [zfA hl h] at hr;rcases xD.1 hr with rfl| hr
  ·exact ⟨n,w,base,a,t,rfl,by rw [<-hld];exact h,g1,g2,by omega⟩
  ·exact ih (by rw [hld,yB]) (by omega) r hr
def rawW (k:Int) (b:List UInt8):Int:=if zbm k=0 then (rd b).1 else (word (b.take 8):Nat)
def zrM (k:Int) (b:List UInt8):Int×Int:=if kNum k=false then (0,2) else if zdw (zbm k) b=false then (0,12) else (zch k (rawW k b),0)
def zks (k:Int) (c:Nat):List UInt8:=if 12<=k then zgP 8 c else if 9<=k then zgP 4 c else enc c
def sPut (k w:Int):List UInt8:=zks k (zch k w).toNat
theorem zBp (k:Int) :0<=rawW k b/\rawW k b<=18446744073709551615:=by
 unfold rawW;split
 ·have:=zjc b;omega
 ·have h:=zBL (b.take 8);have h2:(256:Nat)^(b.take 8).length<=256^8:=pg (by omega) (by simp;omega);omega
theorem zfU :kNum k=true↔1<=k/\k<=14:=by simp [kNum]
theorem zqq {k:Int} (hk:kNum k=true) {c:Nat} (hc:c<18446744073709551616):zdw (zbm k) (zks k c)=true:=by
 have:=zfU.1 hk;unfold zks;by_cases h1:12<=k
 ·have e:zbm k=1:=by unfold zbm;rw [xy (by omega),xz h1]
  rw [xz h1,e];simp [zdw,zbt]
 ·rw [xy h1];by_cases h2:9<=k
  ·have e:zbm k=5:=by unfold zbm;rw [xy (by omega),xy h1,xz h2]
   rw [xz h2,e];simp [zdw,zbt]
  ·have e:zbm k=0:=by unfold zbm;rw [xy (by omega),xy h1,xy h2]
   have hr:=zxO [] hc;rw [yq] at hr;rw [xy h2,e];unfold zdw;rw [xz rfl,hr];simp
theorem zET {k:Int} (hk:kNum k=true) {c:Nat} (hc:c<18446744073709551616) (h32:9<=k->k<12->c<4294967296):rawW k (zks k c)=(c:Int):=by
 have:=zfU.1 hk;unfold zks rawW;by_cases h1:12<=k
 ·have e:zbm k=1:=by unfold zbm;rw [xy (by omega),xz h1]
  rw [xz h1,e,xy (by omega),yG (by rw [zbt];omega),zqI,qx (by omega)]
 ·rw [xy h1];by_cases h2:9<=k
  ·have e:zbm k=5:=by unfold zbm;rw [xy (by omega),xy h1,xz h2]
   have:=h32 h2 (by omega);rw [xz h2,e,xy (by omega),yG (by rw [zbt];omega),zqI,qx (by omega)]
  ·have e:zbm k=0:=by unfold zbm;rw [xy (by omega),xy h1,xy h2]
   have hr:=zxO [] hc;rw [yq] at hr;rw [xy h2,e,xz rfl,hr]
theorem zEX {k w:Int} (hk:kNum k=true) (h:0<=w/\w<=18446744073709551615):zrM k (sPut k w)=(zch k w,0):=by
 have hc:=zkM k h;obtain ⟨c,hcc⟩:∃c:Nat,zch k w=c:=⟨(zch k w).toNat,by omega⟩;unfold zrM sPut;rw [hcc,xN,hk,xy (by simp),zqq hk (by omega),xy (by simp),zET hk (by omega) (fun h9 h12=>by have:=zIu (w:=w) h9 h12;omega),<-hcc,zpF k h]
theorem zmA {k w:Int} (h:0<=w/\w<=18446744073709551615):1<=(sPut k w).length/\(sPut k w).length<=10:=by
 have hc:=zkM k h;unfold sPut zks;split
 ·rw [zbt];omega
 ·split
  ·rw [zbt];omega
  ·exact znl (by omega)
def zmF (k:Int) (l:List UInt8):Int⊕Nat:=
 if k<9 then (if (rd l).2.2≠0 then .inl (rd l).2.2 else .inr (rd l).2.1.toNat) else if l.length<(if k<12 then 4 else 8) then .inl 3 else .inr (if k<12 then 4 else 8)
theorem zqC (k:Int) (l:List UInt8):(∃c,zmF k l= .inl c/\(c=3\/c=4))\/∃n,zmF k l= .inr n/\1<=n/\n<=l.length/\n<=10/\(k<9/\(rd l).2.2=0/\(rd l).2.1=(n:Int)\/¬k<9/\n=(if k<12 then 4 else 8)):=by
 obtain ⟨h1,h2,h3,h4,h5,h6,h7⟩:=zjc l;unfold zmF;by_cases h:k<9
 ·rw [xz h];by_cases h0:(rd l).2.2=0
  ·have:=h7 h0;rw [xy (by simpa using h0)];exact .inr ⟨_,rfl,by omega,by omega,by omega,.inl ⟨h,h0,by omega⟩⟩
  ·rw [xz h0];exact .inl ⟨_,rfl,by omega⟩
 ·rw [xy h];by_cases h8:l.length<(if k<12 then 4 else 8)
  ·rw [xz h8];exact .inl ⟨_,rfl,by omega⟩
  ·rw [xy h8];exact .inr ⟨_,rfl,by split<;>omega,by omega,by split<;>omega,.inr ⟨h,rfl⟩⟩
def pcs (k:Int) (l:List UInt8):List (List UInt8)×Int:=
 if hl:l=[] then ([],0) else match h:zmF k l with
  | .inl c=>([],c)
  | .inr n=>(l.take n::(pcs k (l.drop n)).1,(pcs k (l.drop n)).2)
termination_by l.length
decreasing_by
 all_goals
  rcases zqC k l with ⟨c',h',_⟩| ⟨n',h',g1,g2,_⟩
  ·rw [h'] at h;cases h
  ·rw [h'] at h;cases h;simp only [yl];omega
theorem zra (k:Int):pcs k []=([],0):=by rw [pcs,dif_pos rfl]
theorem zwk (hl:l≠[]) (h:zmF k l= .inl c):pcs k l=([],c):=by
 rw [pcs,dif_neg hl];split
 ·rename_i c' h';rw [h] at h';cases h';rfl
 ·rename_i h';rw [h] at h';cases h'
theorem znY (hl:l≠[]) (h:zmF k l= .inr n):pcs k l=(l.take n::(pcs k (l.drop n)).1,(pcs k (l.drop n)).2):=by
 rw [pcs,dif_neg hl];split
 ·rename_i c' h';rw [h] at h';cases h'
 ·rename_i n' h';rw [h] at h';cases h';rfl
theorem zwl (k:Int) (P:List UInt8->Prop) (h0:P []) (he:∀l c,l≠[]->zmF k l= .inl c->(c=3\/c=4)->P l)
  (hc:∀l n,l≠[]->zmF k l= .inr n->1<=n->n<=l.length->n<=10->P (l.drop n)->P l) (l:List UInt8):P l:=by
 generalize hn:l.length=m
 induction m using Nat.strongRecOn generalizing l with
 | _ m ih=>
  by_cases hl:l=[]
  ·subst hl;exact h0
  ·rcases zqC k l with ⟨c,h,hc'⟩| ⟨n,h,g1,g2,g3,_⟩
   ·exact he l c hl h hc'
   ·exact hc l n hl h g1 g2 g3 (ih _ (by simp only [yl];omega) _ rfl)
theorem zDc (k:Int) (l:List UInt8):(pcs k l).2=0\/(pcs k l).2=3\/(pcs k l).2=4:=by
 refine zwl k (fun l=>(pcs k l).2=0\/(pcs k l).2=3\/(pcs k l).2=4) ?_ ?_ ?_ l
 ·rw [zra];exact .inl rfl
 ·intro l c hl h hc;rw [zwk hl h];exact .inr hc
 ·intro l n hl h _ _ _ ih;rw [znY hl h];exact ih
theorem zGt (k:Int) (l:List UInt8):(pcs k l).1.length<=l.length:=by
 refine zwl k (fun l=>(pcs k l).1.length<=l.length) ?_ ?_ ?_ l
 ·rw [zra];simp
 ·intro l c hl h _;rw [zwk hl h];simp
 ·intro l n hl h _ _ _ ih;rw [znY hl h];simp only [xU,yl] at ih|-;have:=qF.2 hl;omega
theorem zFk (hk:kNum k=true) (h:zmF k l= .inr n):zdw (zbm k) (l.take n)=true:=by
 have hk':=zfU.1 hk;rcases zqC k l with ⟨c,h',_⟩| ⟨n',h',g1,g2,g3,hcase⟩
 ·rw [h'] at h;cases h
 ·rw [h'] at h;cases h;have wD:(l.take n).length=n:=by simp;omega
  unfold zdw;rcases hcase with ⟨h9,f1,f2⟩| ⟨h9,f1⟩
  ·have e:zbm k=0:=by unfold zbm;rw [xy (by omega),xy (by omega),xy (by omega)]
   rw [xz e];rcases zms l with h6| ⟨h6,_⟩| ⟨x,c,y,e,hx,hc,hl,hv,h6⟩
   ·rw [h6] at f1;cases f1
   ·rw [h6] at f1;cases f1
   ·rw [h6] at f2;have e7:n=(x++[c]).length:=by simp at f2|-;omega
    have e8:l.take n=x++c::[]:=by rw [e7,e,pK x c y,uf]
    rw [e8,zGv x c [] hx hc hl hv];simp
  ·have h12:zbm k=1/\12<=k\/zbm k=5/\k<12:=by
    unfold zbm;rw [xy (by omega)];by_cases hh:12<=k
    ·rw [xz hh];exact .inl ⟨rfl,hh⟩
    ·rw [xy hh,xz (by omega)];exact .inr ⟨rfl,by omega⟩
   rw [xy (by omega),wD,f1];refine xT ?_;rcases h12 with ⟨e,hh⟩| ⟨e,hh⟩
   ·rw [e,xy (by omega)];right;left;exact ⟨rfl,rfl⟩
   ·rw [e,xz hh];right;right;exact ⟨rfl,rfl⟩
theorem zJB (hk:kNum k=true) (l:List UInt8):∀p∈(pcs k l).1,zdw (zbm k) p=true/\1<=p.length/\p.length<=10:=by
 refine zwl k (fun l=>∀p∈(pcs k l).1,zdw (zbm k) p=true/\1<=p.length/\p.length<=10) ?_ ?_ ?_ l
 ·rw [zra];intro p hp;cases hp
 ·intro l c hl h _;rw [zwk hl h];intro p hp;cases hp
 ·intro l n hl h g1 g2 g3 ih;rw [znY hl h];intro p hp;cases hp with
  | head=>exact ⟨zFk hk h,by simp;omega,by simp;omega⟩
  | tail _ hp=>exact ih p hp
def ziR (k:Int) (p:List UInt8):Int:=zch k (rawW k p)
theorem znc (hk:kNum k=true) (hf:zdw (zbm k) p=true):zrM k p=(ziR k p,0):=by
 unfold zrM ziR;rw [hk,xy (by simp),hf,xy (by simp)]
theorem zFl {k w:Int} (hk:kNum k=true) (h:0<=w/\w<=18446744073709551615) (m:List UInt8):zmF k (sPut k w++m)= .inr (sPut k w).length:=by
 have hk':=zfU.1 hk;have hc:=zkM k h;unfold sPut zks zmF;by_cases h12:12<=k
 ·rw [xy (by omega)];simp only [xz h12,xy (show ¬k<12 by omega)];rw [xy (by simp [zbt]),zbt]
 ·simp only [xy h12];by_cases h9:9<=k
  ·rw [xy (by omega)];simp only [xz h9,xz (show k<12 by omega)];rw [xy (by simp [zbt]),zbt]
  ·rw [xz (by omega)];simp only [xy h9];rw [zxO _ (by omega)];simp
theorem zxK {k:Int} (hk:kNum k=true):∀(l:List Int),(∀w∈l,0<=w/\w<=18446744073709551615)->pcs k (l.flatMap (sPut k))=(l.map (sPut k),0)
 | [],_=>zra k
 | w::l,h=>by
  have hw:=h w xA;have wD:=zmA (k:=k) hw;have hne:sPut k w++l.flatMap (sPut k)≠[]:=fun e=>by
   have:=congrArg List.length e;simp only [xF,yv] at this;omega
  rw [xW,znY hne (zFl hk hw _),uf,pj,zxK hk l fun v hv=>h v (xB _ hv)];rfl
def ends (base:Nat):List (List UInt8)->List Int
 | []=>[]
 | p::ps=>((base+p.length:Nat):Int)::ends (base+p.length) ps
def zmU (k:Int) (b:List UInt8):List Int×Int:=if kNum k=false then ([],2) else if (pcs k b).2=0 then (ends 0 (pcs k b).1,0) else ([],(pcs k b).2)
def zcb (k:Int) (b:List UInt8):List Int×Int:=if kNum k=false then ([],2) else if (pcs k b).2=0 then ((pcs k b).1.map (ziR k),0) else ([],(pcs k b).2)
abbrev Vw:=zyF
def zvw:Vw:=⟨zrec,0,false⟩
def zJ (m:Mes) (i:Int):Fld:=m.Fields.getD i.toNat ⟨[],0,0,false,false,0⟩
def vw (m:Mes) (n w:Int):Int⊕(Int×Bool):=
 if fldI m n<0 then .inr (-1,false)
 else if (zJ m (fldI m n)).Repeated=true/\kNum (zJ m (fldI m n)).Kind=true/\w=2 then .inr (fldI m n,true)
 else if zcw (zJ m (fldI m n)).Kind=false\/zbm (zJ m (fldI m n)).Kind≠w then .inl 6 else .inr (fldI m n,false)
theorem zdK (m:Mes) (n:Int):fldI m n= -1/\(∀f∈m.Fields,f.Number≠n)\/∃(i:Nat) (h:i<m.Fields.length),fldI m n=i/\m.Fields[i].Number=n/\∀(j:Nat) (h:j<m.Fields.length),j<i->m.Fields[j].Number≠n:=by
 unfold fldI;cases h:m.Fields.findIdx? (fun f:Fld=>f.Number==n) with
 | none=>
  left;rw [pG] at h;exact ⟨zmV (pG.2 h),fun f hf=>by simpa using h f hf⟩
 | some i=>
  right;have h':=h;rw [pH] at h;obtain ⟨hi,hp,hj⟩:=h;exact ⟨i,hi,zmW h',by simpa using hp,fun j hjl hji=>by simpa using hj j hji⟩
theorem zdJ {m:Mes} {i:Nat} (h:i<m.Fields.length):zJ m (i:Int)=m.Fields[i]:=by
 unfold zJ;rw [xN,pi,xQ h];rfl
theorem zhR (m:Mes) (n w:Int):vw m n w= .inl 6\/vw m n w= .inr (-1,false)/\fldI m n= -1\/∃(i:Nat) (run:Bool),vw m n w= .inr ((i:Int),run)/\fldI m n=i/\i<m.Fields.length:=by
 unfold vw;rcases zdK m n with ⟨h,_⟩| ⟨i,hi,h,_⟩
 ·right;left;rw [h,xz (by omega)];exact ⟨rfl,rfl⟩
 ·rw [h,xy (by omega)];split
  ·right;right;exact ⟨i,true,rfl,rfl,hi⟩
  ·split
   ·left;rfl
   ·right;right;exact ⟨i,false,rfl,rfl,hi⟩
def zfJ (m:Mes) (b:List UInt8) (at5:Int):Vw×Int:=
 if (zfW b at5).2≠0 then (zvw,(zfW b at5).2) else match vw m (zfW b at5).1.Number (zfW b at5).1.Wire with
  | .inl c=>(zvw,c)
  | .inr (i,run)=>(⟨(zfW b at5).1,i,run⟩,0)
def vws (m:Mes) (e:Option (Nat×Int)):List Rec->List Vw×Option (Int×Int)
 | []=>([],e.map fun p=>((p.1:Int),p.2))
 | r::l=>match vw m r.Number r.Wire with
  | .inl c=>([],some (r.From,c))
  | .inr (i,run)=>(⟨r,i,run⟩::(vws m e l).1,(vws m e l).2)
def vwR (r:List Vw×Option (Int×Int)):List Vw×Int×Int:=match r.2 with
 | none=>(r.1,0,0)
 | some (p,c)=>([],p,c)
def zgH (m:Mes) (b:List UInt8):List Vw×Int×Int:=vwR (vws m (spl 0 b).2 (spl 0 b).1)
def zz (s:List Mes) (i:Int):Mes:=s.getD i.toNat ⟨[],[]⟩
theorem zeG {s:List Mes} {i:Nat} (h:i<s.length):zz s (i:Int)=s[i]:=by
 unfold zz;rw [xN,pi,xQ h];rfl
def valB (b:List UInt8) (r:Rec):List UInt8:=(b.drop r.At.toNat).take (r.To.toNat - r.At.toNat)
abbrev znB:=Option (Int->List UInt8->Option (Int×Int))
def ziJ (f:Fld) (run:Bool) (sub:znB) (r:Rec) (v:List UInt8):Option (Int×Int):=
 if run=true then (if (zmU f.Kind v).2≠0 then some (r.From,(zmU f.Kind v).2) else none)
 else if f.Kind=15/\zhs v=false then some (r.From,7)
 else if f.Kind=17 then (match sub with
  | none=>some (r.From,8)
  | some g=>match g f.Of v with
   | some (p,c)=>some (r.At+p,c)
   | none=>none)
 else none
def zep (m:Mes) (sub:znB) (b:List UInt8) (r:Rec):Option (Int×Int):=match vw m r.Number r.Wire with
 | .inl c=>some (r.From,c)
 | .inr (i,run)=>if i<0 then none else ziJ (zJ m i) run sub r (valB b r)
def zeF (m:Mes) (sub:znB) (b:List UInt8) (x:List Rec×Option (Nat×Int)):Option (Int×Int):=match x.1.findSome? (zep m sub b) with
 | some p=>some p
 | none=>x.2.map fun p=>((p.1:Int),p.2)
def zav (s:List Mes):Nat->Int->List UInt8->Option (Int×Int)
 | 0,k,b=>zeF (zz s k) none b (spl 0 b)
 | d+1,k,b=>zeF (zz s k) (some (zav s d)) b (spl 0 b)
def zwu (g:Int->List UInt8->Option (Int×Int)):Prop:=∀k v p c,g k v=some (p,c)->3<=c/\c<=8/\0<=p/\p<v.length
theorem zHa (k:Int) :(zmU k b).2=0\/(zmU k b).2=2/\kNum k=false\/(zmU k b).2=3\/(zmU k b).2=4:=by
 unfold zmU;have:=zDc k b;split
 ·rename_i h;exact .inr (.inl ⟨rfl,h⟩)
 ·split
  ·exact .inl rfl
  ·rename_i h;simp only;omega
theorem zFp (h:vw m n w= .inr (i,true)):kNum (zJ m i).Kind=true/\(zJ m i).Repeated=true/\w=2:=by
 unfold vw at h;split at h
 ·cases h
 ·split at h
  ·rename_i h1;cases h;exact ⟨h1.2.1,h1.1,h1.2.2⟩
  ·split at h<;>cases h
theorem zDH (hr:r.At=((base+a:Nat):Int)) (ht:r.To=((base+t:Nat):Int)) (h:base+t<=b.length) (hat:a<=t):(valB b r).length=t - a:=by
 unfold valB;rw [hr,ht];simp;omega
theorem zAg {m:Mes} {sub:znB} {b:List UInt8} (hg:∀g,sub=some g->zwu g) {n w:Int} {base a t:Nat} (h1:1<=a) (hat:a<=t) (ht:base+t<=b.length) {p c:Int}
  (h:zep m sub b ⟨n,w,base,(base+a:Nat),(base+t:Nat)⟩=some (p,c)):3<=c/\c<=8/\0<=p/\p<b.length:=by
 unfold zep at h;rcases zhR m n w with hv| ⟨hv,_⟩| ⟨i,run,hv,_,hi⟩
 ·simp only [hv] at h;cases h;(try dsimp only);omega
 ·simp only [hv] at h;rw [xz (by omega)] at h;cases h
 ·simp only [hv] at h;rw [xy (by omega)] at h;unfold ziJ at h;split at h
  ·rename_i hr;subst hr;have hk:=zFp hv;split at h
   ·cases h;have:=zHa (zJ m i).Kind (b:=valB b ⟨n,w,base,(base+a:Nat),(base+t:Nat)⟩);rw [hk.1] at this;simp only [Bool.true_eq_false,and_false,false_or] at this
    (try dsimp only)
    omega
   ·cases h
  ·split at h
   ·cases h;(try dsimp only);omega
   ·split at h
    ·cases sub with
     | none=>simp only at h;cases h;(try dsimp only);omega
     | some g=>
      simp only at h;have hl:=zDH (b:=b) (r:=⟨n,w,base,(base+a:Nat),(base+t:Nat)⟩) rfl rfl ht hat;cases hgv:g (zJ m i).Of (valB b ⟨n,w,base,(base+a:Nat),(base+t:Nat)⟩) with
      | none=>rw [hgv] at h;cases h
      | some q=>
       obtain ⟨q1,q2⟩:=q;rw [hgv] at h;have:=hg g rfl _ _ _ _ hgv;cases h
       (try dsimp only)
       omega
    ·cases h
theorem zzC {m:Mes} {sub:znB} {b:List UInt8} (hg:∀g,sub=some g->zwu g) (base:Nat) (l:List UInt8):l=b.drop base->base<=b.length->∀p c,zeF m sub b (spl base l)=some (p,c)->3<=c/\c<=8/\0<=p/\p<b.length:=by
 refine zkF (fun base l=>l=b.drop base->base<=b.length->∀p c,zeF m sub b (spl base l)=some (p,c)->3<=c/\c<=8/\0<=p/\p<b.length) ?_ ?_ ?_ base l
 ·intro base _ _ p c h;unfold zeF at h;rw [zgV] at h;cases h
 ·intro base l c' hl h hc hld hb p c h2;have wx:base<b.length:=by subst hld;have:=qF.2 hl;simp at this;omega
  unfold zeF at h2;rw [zjJ hl h] at h2;simp only [List.findSome?_nil,qz] at h2;cases h2;omega
 ·intro base l n w a t hl h _ g1 g2 g3 ih hld hb p c h2;have hbl:base+t<=b.length:=by subst hld;simp at g3;omega
  unfold zeF at h2 ih;rw [zfA hl h] at h2;simp only [List.findSome?_cons] at h2;cases hs:zep m sub b ⟨n,w,base,(base+a:Nat),(base+t:Nat)⟩ with
  | some q=>rw [hs] at h2;cases h2;exact zAg hg g1 g2 hbl hs
  | none=>
   rw [hs] at h2;exact ih (by rw [hld,yB]) hbl p c h2
theorem zoH (s:List Mes):∀(d:Nat),zwu (zav s d)
 | 0=>fun k v p c h=>zzC (fun g hg=>by cases hg) 0 v rfl (xM _) p c h
 | d+1=>fun k v p c h=>zzC (fun g hg=>by cases hg;exact zoH s d) 0 v rfl (xM _) p c h
def argS (s:List Mes) (root d:Int):Int:=if zff s=false then 9 else if root<0\/root>=s.length\/d<0\/d>64 then 2 else 0
def zhw (s:List Mes) (root:Int) (b:List UInt8) (d:Int):Int×Int:=if argS s root d≠0 then (0,argS s root d) else (zav s d.toNat root b).getD (0,0)
theorem ztW (h:argS s root d=0):zfs s/\0<=root/\root<s.length/\0<=d/\d<=64:=by
 unfold argS at h;split at h
 ·omega
 ·rename_i h1;split at h
  ·omega
  ·rename_i h2;exact ⟨zzZ (by simpa using h1),by omega⟩
def is11 (s:List Mes) (root:Int) (b:List UInt8) (d:Int):Bool:=(zhw s root b d).2==0
theorem zfo :zeF m sub b x=none↔(∀r∈x.1,zep m sub b r=none)/\x.2=none:=by
 unfold zeF;cases h:x.1.findSome? (zep m sub b) with
 | some p=>
  refine ⟨(fun h'=>nomatch h'),fun ⟨h1,_⟩=>?_⟩;obtain ⟨r,hr,hs⟩:=List.exists_of_findSome?_eq_some h;rw [h1 r hr] at hs;cases hs
 | none=>
  rw [List.findSome?_eq_none_iff] at h;cases hx:x.2 with
  | none=>exact ⟨fun _=>⟨h,rfl⟩,fun _=>rfl⟩
  | some p=>exact ⟨(fun h'=>nomatch h'),fun ⟨_,h2⟩=>nomatch h2⟩
theorem zvu (z:List UInt8) (h0:0<=r.To) (h:r.To<=b.length):valB (b++z) r=valB b r:=by
 unfold valB;by_cases ha:r.At.toNat<=b.length
 ·rw [pd ha,p9 (by simp;omega)]
 ·have e:r.To.toNat - r.At.toNat=0:=by omega
  rw [e,yQ,yQ]
theorem zst (a b:List UInt8) (h0:0<=r.At) (h1:r.At<=r.To):valB (a++b) (zmB a.length r)=valB b r:=by
 unfold valB zmB;simp only;have e1:(r.At+(a.length:Int)).toNat=a.length+r.At.toNat:=by omega
 have e2:(r.To+(a.length:Int)).toNat - (a.length+r.At.toNat)=r.To.toNat - r.At.toNat:=by omega
 rw [e1,e2,<-yB,pj]
theorem zyc (hn:r'.Number=r.Number) (hw:r'.Wire=r.Wire) (hv:valB b' r'=valB b r):zep m sub b' r'=none↔zep m sub b r=none:=by
 unfold zep;rw [hn,hw,hv];cases vw m r.Number r.Wire with
 | inl c=>simp
 | inr p=>
  simp only;by_cases hi:p.1<0
  ·simp [hi]
  ·rw [xy hi,xy hi];unfold ziJ;by_cases hr:p.2=true
   ·rw [xz hr,xz hr];by_cases he:(zmU (zJ m p.1).Kind (valB b r)).2≠0
    ·rw [xz he,xz he];simp
    ·rw [xy he,xy he]
   ·rw [xy hr,xy hr];by_cases h15:(zJ m p.1).Kind=15/\zhs (valB b r)=false
    ·rw [xz h15,xz h15];simp
    ·rw [xy h15,xy h15];by_cases wz:(zJ m p.1).Kind=17
     ·rw [xz wz,xz wz];cases sub with
      | none=>simp
      | some g=>simp only;cases g (zJ m p.1).Of (valB b r)<;>simp
     ·rw [xy wz,xy wz]
theorem zuB (base:Nat) (l:List UInt8):∀r∈(spl base l).1,(base:Int)<=r.From/\r.From<r.At/\r.At<=r.To/\r.To<=base+l.length:=by
 refine zkF (fun base l=>∀r∈(spl base l).1,(base:Int)<=r.From/\r.From<r.At/\r.At<=r.To/\r.To<=base+l.length) ?_ ?_ ?_ base l
 ·intro base r hr;rw [zgV] at hr;cases hr
 ·intro base l c hl h _ r hr;rw [zjJ hl h] at hr;cases hr
 ·intro base l n w a t hl h _ g1 g2 g3 ih r hr;rw [zfA hl h] at hr;rcases xD.1 hr with rfl| hr
  ·simp only;omega
  ·have:=ih r hr;simp only [yl] at this;omega
theorem zuZ (z:List UInt8) (h:zeF m sub a (spl 0 a)=none):zeF m sub (a++z) (spl 0 (a++z))=none↔zeF m sub z (spl 0 z)=none:=by
 rw [zfo] at h;have hap:=zxZ z 0 a h.2;have hsh:=zAd a.length 0 z;rw [xO] at hap hsh;rw [hsh] at hap;rw [zfo,zfo,hap];simp only [xG,xH];constructor
 ·rintro ⟨h1,h2⟩;refine ⟨fun r hr=>?_,by cases hz:(spl 0 z).2 with| none=>rfl| some p=>rw [hz] at h2;cases h2⟩;have hb:=zuB 0 z r hr;have:=h1 (zmB a.length r) (.inr ⟨r,hr,rfl⟩);exact (zyc (r:=r) (r':=zmB a.length r) rfl rfl (zst a z (by omega) (by omega))).1 this
 ·rintro ⟨h1,h2⟩;refine ⟨fun r hr=>?_,by rw [h2];rfl⟩;rcases hr with hr| ⟨r,hr,rfl⟩
  ·have hb:=zuB 0 a r hr;exact (zyc (r:=r) (r':=r) rfl rfl (zvu z (by omega) (by omega))).2 (h.1 r hr)
  ·have hb:=zuB 0 z r hr;exact (zyc (r:=r) (r':=zmB a.length r) rfl rfl (zst a z (by omega) (by omega))).2 (h1 r hr)
theorem zhU (s:List Mes) (d:Nat) (k:Int) (z:List UInt8) (h:zav s d k a=none):zav s d k (a++z)=none↔zav s d k z=none:=by
 cases d with
 | zero=>exact zuZ z h
 | succ d=>exact zuZ z h
theorem zCy :is11 s root b d=true↔argS s root d=0/\zav s d.toNat root b=none:=by
 unfold is11 zhw;by_cases h:argS s root d=0
 ·rw [xy (by simpa using h)];cases hf:zav s d.toNat root b with
  | none=>simp [h]
  | some p=>
   obtain ⟨p,c⟩:=p;have:=zoH s d.toNat root b p c hf;simp only [yP,h,yZ];simp;omega
 ·rw [xz h];simp [h]
abbrev zaS:=List Int
def begB (way w:zaS):Bool:=w.isPrefixOf way
theorem zIp :begB way w=true↔w<+:way:=List.isPrefixOf_iff_prefix
def zdp:zaS->zaS->Bool
 | [],b=> !b.isEmpty
 | _::_,[]=>false
 | x::a,y::b=>if x=y then zdp a b else decide (x<y)
theorem zlC:∀(a:zaS),zdp a a=false
 | []=>rfl
 | x::a=>by rw [zdp,xz rfl,zlC a]
theorem zpX:∀(a b c:zaS),zdp a b=true->zdp b c=true->zdp a c=true
 | [],b,c,h1,h2=>by
  cases c with
  | nil=>cases b<;>simp [zdp] at h2
  | cons=>rfl
 | _::_,[],_,h1,_=>by simp [zdp] at h1
 | _::_,_::_,[],_,h2=>by simp [zdp] at h2
 | x::a,y::b,z::c,h1,h2=>by
  rw [zdp] at h1 h2|-;by_cases hxy:x=y
  ·rw [xz hxy] at h1;by_cases hyz:y=z
   ·rw [xz hyz] at h2;rw [xz (hxy.trans hyz)];exact zpX a b c h1 h2
   ·rw [xy hyz] at h2;rw [xy (by rw [hxy];exact hyz),hxy];exact h2
  ·rw [xy hxy] at h1;have h1':x<y:=by simpa using h1
   by_cases hyz:y=z
   ·rw [xy (by rw [<-hyz];exact hxy),<-hyz];exact h1
   ·rw [xy hyz] at h2;have h2':y<z:=by simpa using h2
    rw [xy (by omega)];simp;omega
theorem zvc:∀(a b:zaS),a≠b->zdp a b=true\/zdp b a=true
 | [],[],h=>absurd rfl h
 | [],_::_,_=> .inl rfl
 | _::_,[],_=> .inr rfl
 | x::a,y::b,h=>by
  rw [zdp,zdp];by_cases hxy:x=y
  ·rw [xz hxy,xz hxy.symm];exact zvc a b (fun e=>h (by rw [hxy,e]))
  ·rw [xy hxy,xy (fun e=>hxy e.symm)];rcases Int.lt_or_gt_of_ne hxy with h'| h'
   ·left;simpa using h'
   ·right;simpa using h'
theorem zCP (h:zdp a b=true):zdp b a=false:=by
 cases hb:zdp b a with
 | false=>rfl
 | true=>have:=zpX a b a h hb;rw [zlC] at this;cases this
theorem zvq:∀(l k:List zaS),l.Pairwise (fun a b=>zdp a b=true)->k.Pairwise (fun a b=>zdp a b=true)->(∀w,w∈l↔w∈k)->l=k
 | [],[],_,_,_=>rfl
 | [],y::k,_,_,h=>absurd ((h y).2 xA) (by simp)
 | x::l,[],_,_,h=>absurd ((h x).1 xA) (by simp)
 | x::l,y::k,hl,hk,h=>by
  have hl':=yf.1 hl;have hk':=yf.1 hk;have hxy:x=y:=by
   rcases xD.1 ((h x).1 xA) with h1| h1
   ·exact h1
   ·rcases xD.1 ((h y).2 xA) with h2| h2
    ·exact h2.symm
    ·have a1:=hk'.1 x h1;have a2:=hl'.1 y h2;rw [zCP a1] at a2;cases a2
  subst hxy;congr 1;refine zvq l k hl'.2 hk'.2 fun w=>?_
  have nl:x∉l:=fun hm=>by have:=hl'.1 x hm;rw [zlC] at this;cases this
  have nk:x∉k:=fun hm=>by have:=hk'.1 x hm;rw [zlC] at this;cases this
  have:=h w;simp only [xD] at this;constructor
  ·intro hw;rcases this.1 (.inr hw) with rfl| h'
   ·exact absurd hw nl
   ·exact h'
  ·intro hw;rcases this.2 (.inr hw) with rfl| h'
   ·exact absurd hw nk
   ·exact h'
def zGq (wI:List zaS) (i:Nat) (w:zaS) (k:Nat) (v:zaS):Bool:=decide (k≠i)&& !v.isEmpty&&begB w v&&(decide (v.length<w.length)|| decide (k<i))
def badW (wI:List zaS) (i:Nat) (w:zaS):Nat->List zaS->Bool
 | _,[]=>false
 | k,v::l=>zGq wI i w k v|| badW wI i w (k+1) l
def insL (w:zaS) (out:List zaS):List zaS:=out.takeWhile (fun x=>zdp x w)++w::out.dropWhile (fun x=>zdp x w)
def ofK (wI:List zaS):Nat->List zaS
 | 0=>[]
 | i+1=>match wI[i]? with
  | some w=>if !w.isEmpty&& !badW wI i w 0 wI then insL w (ofK wI i) else ofK wI i
  | none=>ofK wI i
def ofW (wI:List zaS):List zaS:=ofK wI wI.length
theorem zIR :x∈insL w out↔x=w\/x∈out:=by
 unfold insL;have hs:out.takeWhile (fun x=>zdp x w)++out.dropWhile (fun x=>zdp x w)=out:=ph;constructor
 ·intro h;rcases xG.1 h with h| h
  ·exact .inr (by rw [<-hs];exact yo _ h)
  ·rcases xD.1 h with h| h
   ·exact .inl h
   ·exact .inr (by rw [<-hs];exact yg _ h)
 ·intro h;rcases h with rfl| h
  ·exact yg _ xA
  ·rw [<-hs] at h;rcases xG.1 h with h| h
   ·exact yo _ h
   ·exact yg _ (xB _ h)
theorem zFg :∀{l:List zaS},∀x∈l.takeWhile (fun x=>zdp x w),zdp x w=true:=by
 intro l
 induction l with
 | nil=>intro x hx;simp at hx
 | cons y l ih=>
  intro x hx;rw [List.takeWhile_cons] at hx;by_cases hy:zdp y w=true
  ·rw [xz hy] at hx;rcases xD.1 hx with rfl| hx
   ·exact hy
   ·exact ih x hx
  ·rw [xy hy] at hx;cases hx
theorem zEr :∀{l:List zaS},l.Pairwise (fun a b=>zdp a b=true)->(w∉l)->∀x∈l.dropWhile (fun x=>zdp x w),zdp w x=true:=by
 intro l
 induction l with
 | nil=>intro _ _ x hx;simp at hx
 | cons y l ih=>
  intro hp hn x hx;rw [List.dropWhile_cons] at hx;have hp':=yf.1 hp;by_cases hy:zdp y w=true
  ·rw [xz hy] at hx;exact ih hp'.2 (fun h=>hn (xB _ h)) x hx
  ·rw [xy hy] at hx;have hwy:zdp w y=true:=by
    rcases zvc w y (fun e=>hn (by rw [e];exact xA)) with h| h
    ·exact h
    ·exact absurd h hy
   rcases xD.1 hx with rfl| hx
   ·exact hwy
   ·exact zpX _ _ _ hwy (hp'.1 x hx)
theorem zCx (hs:out.Pairwise (fun a b=>zdp a b=true)) (hn:w∉out):(insL w out).Pairwise (fun a b=>zdp a b=true):=by
 unfold insL;have hsp:out.takeWhile (fun x=>zdp x w)++out.dropWhile (fun x=>zdp x w)=out:=ph;have hp:(out.takeWhile (fun x=>zdp x w)++out.dropWhile (fun x=>zdp x w)).Pairwise (fun a b=>zdp a b=true):=by rw [hsp];exact hs
 rw [List.pairwise_append] at hp|-;have ht:=zFg (w:=w) (l:=out);have hd:=zEr hs hn;refine ⟨hp.1,yf.2 ⟨hd,hp.2.1⟩,fun a ha b hb=>?_⟩;rcases xD.1 hb with rfl| hb
 ·exact ht a ha
 ·exact hp.2.2 a ha b hb
theorem zBV {wI:List zaS} {i:Nat} {w:zaS}:∀(l:List zaS) (k:Nat),badW wI i w k l=true↔∃j v,l[j]? =some v/\zGq wI i w (k+j) v=true
 | [],k=>by simp [badW]
 | v::l,k=>by
  rw [badW,qA,zBV l (k+1)];constructor
  ·rintro (h| ⟨j,u,h1,h2⟩)
   ·exact ⟨0,v,rfl,by simpa using h⟩
   ·exact ⟨j+1,u,by simpa using h1,by rw [show k+(j+1)=k+1+j by omega];exact h2⟩
  ·rintro ⟨j,u,h1,h2⟩;cases j with
   | zero=>left;simp at h1;subst h1;simpa using h2
   | succ j=>right;exact ⟨j,u,by simpa using h1,by rw [show k+1+j=k+(j+1) by omega];exact h2⟩
def zDW (wI:List zaS) (w:zaS):Prop:=w∈wI/\w≠[]/\∀v∈wI,v≠[]->v<+:w->v=w
theorem zwZ {wI:List zaS} {i:Nat} {w:zaS} (hi:wI[i]? =some w):(!w.isEmpty&& !badW wI i w 0 wI)=true↔zDW wI w/\∀j<i,wI[j]? ≠some w:=by
 rw [xC,yb,yb,<-Bool.not_eq_true,<-Bool.not_eq_true,zBV];have hw:w∈wI:=qu hi;have wF:∀(k:Nat) (v:zaS),zGq wI i w k v=true↔k≠i/\v≠[]/\v<+:w/\(v.length<w.length\/k<i):=by
  intro k v;unfold zGq;simp only [xC,qA,yc,zIp,yb,List.isEmpty_eq_false_iff];constructor
  ·rintro ⟨⟨⟨h1,h2⟩,h3⟩,h4⟩;exact ⟨h1,h2,h3,h4⟩
  ·rintro ⟨h1,h2,h3,h4⟩;exact ⟨⟨⟨h1,h2⟩,h3⟩,h4⟩
 constructor
 ·rintro ⟨h1,h2⟩;refine ⟨⟨hw,by simpa using h1,fun v hv hv0 hp=>?_⟩,fun j hj hje=>?_⟩
  ·obtain ⟨k,hk,rfl⟩:=qo hv;rcases yJ (wI[k]).length w.length with hl| hl
   ·exfalso;refine h2 ⟨k,wI[k],xQ hk,(wF _ _).2 ⟨fun e=>?_,hv0,hp,.inl hl⟩⟩;rw [xO] at e;subst e;rw [xQ hk] at hi;cases hi;omega
   ·exact hp.eq_of_length (by have:=hp.length_le;omega)
  ·refine h2 ⟨j,w,hje,(wF _ _).2 ⟨by omega,by simpa using h1,List.prefix_refl w,.inr (by omega)⟩⟩
 ·rintro ⟨⟨_,h1,h2⟩,h3⟩;refine ⟨by simpa using h1,?_⟩;rintro ⟨k,v,hk,hv⟩;rw [xO] at hv;obtain ⟨g1,g2,g3,g4⟩:=(wF _ _).1 hv;have:=h2 v (qu hk) g2 g3;subst this;rcases g4 with g4| g4
  ·omega
  ·exact h3 k g4 hk
theorem zBm {wI:List zaS}:∀(i:Nat),i<=wI.length->∀w,w∈ofK wI i↔zDW wI w/\∃j<i,wI[j]? =some w
 | 0,_,w=>by simp [ofK]
 | i+1,hi,w=>by
  have hil:i<wI.length:=hi;have ih:=zBm (wI:=wI) i (Nat.le_of_lt hil) w;obtain ⟨u,hg⟩:∃u,wI[i]? =some u:=⟨wI[i],xQ hil⟩;rw [ofK,hg];simp only;by_cases hu:(!u.isEmpty&& !badW wI i u 0 wI)=true
  ·rw [xz hu,zIR,ih];obtain ⟨h1,h2⟩:=(zwZ hg).1 hu;constructor
   ·rintro (rfl| ⟨h3,j,hj,hje⟩)
    ·exact ⟨h1,i,by omega,hg⟩
    ·exact ⟨h3,j,by omega,hje⟩
   ·rintro ⟨h3,j,hj,hje⟩;by_cases hji:j=i
    ·subst hji;rw [hg] at hje;cases hje;exact .inl rfl
    ·exact .inr ⟨h3,j,by omega,hje⟩
  ·rw [xy hu,ih];constructor
   ·rintro ⟨h3,j,hj,hje⟩;exact ⟨h3,j,by omega,hje⟩
   ·rintro ⟨h3,j,hj,hje⟩;by_cases hji:j=i
    ·subst hji;rw [hg] at hje;cases hje
     -- it stood there zrT
     have hn:¬∀k<j,wI[k]? ≠some w:=fun hk=>hu ((zwZ hg).2 ⟨h3,hk⟩)
     simp only [Classical.not_forall,Classical.not_not] at hn;obtain ⟨k,hk,hke⟩:=hn;exact ⟨h3,k,hk,hke⟩
    ·exact ⟨h3,j,by omega,hje⟩
theorem zGm {wI:List zaS} {w:zaS}:w∈ofW wI↔zDW wI w:=by
 unfold ofW;rw [zBm _ (xE _)];refine ⟨fun h=>h.1,fun h=>⟨h,?_⟩⟩;obtain ⟨j,hj,rfl⟩:=qo h.1;exact ⟨j,hj,xQ hj⟩
theorem zxA {wI:List zaS}:∀(i:Nat),i<=wI.length->(ofK wI i).Pairwise (fun a b=>zdp a b=true)
 | 0,_=> .nil
 | i+1,hi=>by
  have hil:i<wI.length:=hi;have ih:=zxA (wI:=wI) i (Nat.le_of_lt hil);obtain ⟨u,hg⟩:∃u,wI[i]? =some u:=⟨wI[i],xQ hil⟩;rw [ofK,hg];simp only;by_cases hu:(!u.isEmpty&& !badW wI i u 0 wI)=true
  ·rw [xz hu];obtain ⟨h1,h2⟩:=(zwZ hg).1 hu;refine zCx ih fun hm=>?_
   obtain ⟨_,j,hj,hje⟩:=(zBm i (by omega) u).1 hm;exact h2 j hj hje
  ·rw [xy hu];exact ih
theorem zEO (wI:List zaS):(ofW wI).Pairwise (fun a b=>zdp a b=true):=zxA _ (xE _)
theorem zGl {wI:List zaS}:∀(i:Nat),(ofK wI i).length<=i
 | 0=>xE _
 | i+1=>by
  have ih:=zGl (wI:=wI) i;rw [ofK];split
  ·split
   ·unfold insL;have hs:∀(p:zaS->Bool),((ofK wI i).takeWhile p).length+((ofK wI i).dropWhile p).length=(ofK wI i).length:=fun p=>by rw [<-xF,ph]
    rename_i w _ _;have:=hs (fun x=>zdp x w);simp only [xF,xU];omega
   ·omega
  ·omega
theorem zLk (wI:List zaS):(ofW wI).length<=wI.length:=zGl _
def hasB (wI:List zaS) (way:zaS):Bool:=wI.any fun v=> !v.isEmpty&&begB way v
def zpd (m:List zaS) (n:Int):Bool:=m.any fun v=>v==[n]
def zNc (n:Int):zaS->Option zaS
 | x::y::v=>if x=n then some (y::v) else none
 | _=>none
def znw (m:List zaS) (n:Int):List zaS:=m.filterMap (zNc n)
def zgr (s:List Mes) (root:Int):Int:=if zff s=false then 9 else if root<0\/root>=s.length then 2 else 0
theorem zBU (h:zgr s root=0):zfs s/\0<=root/\root<s.length:=by
 unfold zgr at h;split at h
 ·omega
 ·rename_i h1;split at h
  ·omega
  ·exact ⟨zzZ (by simpa using h1),by omega⟩
abbrev Msg:=zb
abbrev Vlu:=za
mutual
def szM:Msg->Nat
 | ⟨vs,_⟩=>1+szVs vs
def szVs:List Vlu->Nat
 | []=>0
 | v::l=>szV v+szVs l
def szV:Vlu->Nat
 | ⟨_,_,_,s⟩=>1+szMs s
def szMs:List Msg->Nat
 | []=>0
 | x::l=>szM x+szMs l
end
theorem zcA (x:Msg):szM x=1+szVs x.Values:=by cases x;rw [szM]
theorem zeq (v:Vlu):szV v=1+szMs v.Subs:=by cases v;rw [szV]
theorem zdA :∀{l:List Vlu},v∈l->szV v<=szVs l
 | [],h=>by cases h
 | u::l,h=>by
  rw [szVs];rcases xD.1 h with rfl| h
  ·omega
  ·have:=zdA h;omega
theorem zdP :∀{l:List Msg},x∈l->szM x<=szMs l
 | [],h=>by cases h
 | u::l,h=>by
  rw [szMs];rcases xD.1 h with rfl| h
  ·omega
  ·have:=zdP h;omega
mutual
/-- Within the reach of what a law is handed. -/
def bdM:Msg->Prop
 | ⟨vs,u⟩=>vs.length*80<=140737488351232/\(u.length*16<=140737488351232/\∀t∈u,t.length<=140737488351232)/\bdVs vs
def bdVs:List Vlu->Prop
 | []=>True
 | v::l=>bdV v/\bdVs l
def bdV:Vlu->Prop
 | ⟨n,w,t,s⟩=>(Lit.int .i64 n).wf=true/\(w.length*8<=140737488351232/\∀x∈w,0<=x/\x<=18446744073709551615)/\(t.length*16<=140737488351232/\∀x∈t,x.length<=140737488351232)/\s.length*48<=140737488351232/\bdMs s
def bdMs:List Msg->Prop
 | []=>True
 | x::l=>bdM x/\bdMs l
end
theorem zhD (x:Msg):bdM x↔x.Values.length*80<=140737488351232/\(x.Unknown.length*16<=140737488351232/\∀t∈x.Unknown,t.length<=140737488351232)/\bdVs x.Values:=by cases x;simp only [bdM]
theorem zgs (v:Vlu):bdV v↔(Lit.int .i64 v.Number).wf=true/\(v.Words.length*8<=140737488351232/\∀x∈v.Words,0<=x/\x<=18446744073709551615)/\(v.Texts.length*16<=140737488351232/\∀x∈v.Texts,x.length<=140737488351232)/\v.Subs.length*48<=140737488351232/\bdMs v.Subs:=by cases v;simp only [bdV]
theorem zdr:∀{l:List Vlu},bdVs l↔∀v∈l,bdV v
 | []=>by simp [bdVs]
 | v::l=>by rw [bdVs,zdr (l:=l)];simp
theorem zeg:∀{l:List Msg},bdMs l↔∀v∈l,bdM v
 | []=>by simp [bdMs]
 | v::l=>by rw [bdMs,zeg (l:=l)];simp
section
open Classical
noncomputable def zpj {α:Type} (x y:α):Bool:=decide (x=y)
theorem zhk {α:Type} {x y:α}:zpj x y=true↔x=y:=by unfold zpj;simp
end
def zbS (v:Vlu):Nat:=v.Words.length+v.Texts.length+v.Subs.length
mutual
def dM:Msg->Nat
 | ⟨vs,_⟩=>dVs vs
def dVs:List Vlu->Nat
 | []=>0
 | v::l=>max (dV v) (dVs l)
def dV:Vlu->Nat
 | ⟨_,_,_,s⟩=>dMs s
def dMs:List Msg->Nat
 | []=>0
 | x::l=>max (1+dM x) (dMs l)
end
theorem zCh (x:Msg):dM x=dVs x.Values:=by cases x;rw [dM]
theorem zzp (v:Vlu):dV v=dMs v.Subs:=by cases v;rw [dV]
theorem zvV :∀{l:List Vlu},v∈l->dV v<=dVs l
 | [],h=>by cases h
 | u::l,h=>by
  rw [dVs];rcases xD.1 h with rfl| h
  ·omega
  ·have:=zvV h;omega
theorem zAJ :∀{l:List Msg},x∈l->1+dM x<=dMs l
 | [],h=>by cases h
 | u::l,h=>by
  rw [dMs];rcases xD.1 h with rfl| h
  ·omega
  ·have:=zAJ h;omega
structure Th where
 fi:Int
 run:Bool
 val:List UInt8
 raw:List UInt8
def rawB (b:List UInt8) (r:Rec):List UInt8:=(b.drop r.From.toNat).take (r.To.toNat - r.From.toNat)
def thOf (b:List UInt8) (t:Vw):Th:=⟨t.Field,t.Run,valB b t.R,rawB b t.R⟩
def ths (m:Mes) (b:List UInt8):List Th:=(zgH m b).1.map (thOf b)
def wt:List Th->Nat
 | []=>0
 | t::l=>t.val.length+1+wt l
theorem zyA:∀(l:List Th),l.length<=wt l
 | []=>by simp [wt]
 | t::l=>by have:=zyA l;simp only [xU,wt];omega
theorem zyB :∀{l:List Th},t∈l->t.val.length+1<=wt l
 | [],h=>by cases h
 | u::l,h=>by
  rw [wt];rcases xD.1 h with rfl| h
  ·omega
  ·have:=zyB h;omega
theorem zGK :∀{l:List Rec} {t:Vw},t∈(vws m e l).1->t.R∈l
 | [],t,h=>by simp [vws] at h
 | r::l,t,h=>by
  rw [vws] at h;cases hv:vw m r.Number r.Wire with
  | inl c=>rw [hv] at h;simp at h
  | inr p=>
   rw [hv] at h;rcases xD.1 h with rfl| h
   ·exact xA
   ·exact xB _ (zGK h)
theorem zGT (h:t∈(zgH m b).1):t.R∈(spl 0 b).1:=by
 unfold zgH vwR at h;split at h
 ·exact zGK h
 ·simp at h
theorem zIm (h:t∈(zgH m b).1):0<=t.R.From/\t.R.From<t.R.At/\t.R.At<=t.R.To/\t.R.To<=b.length:=by
 have:=zuB 0 b _ (zGT h);simpa using this
theorem zNx (b:List UInt8):∀(base:Nat) (l:List UInt8),l=b.drop base->base<=b.length->wt ((vws m e (spl base l).1).1.map (thOf b))<=l.length:=by
 intro base l;refine zkF (fun base l=>l=b.drop base->base<=b.length->wt ((vws m e (spl base l).1).1.map (thOf b))<=l.length) ?_ ?_ ?_ base l
 ·intro base _ _;rw [zgV];simp [vws,wt]
 ·intro base l c hl h _ _ _;rw [zjJ hl h];simp [vws,wt]
 ·intro base l n w a t hl h _ g1 g2 g3 ih hld hbase;have wD:l.length=b.length - base:=by rw [hld];simp
  have ih':=ih (by rw [hld,yB]) (by omega);rw [zfA hl h,vws];cases hv:vw m n w with
  | inl c=>simp [wt]
  | inr p=>
   simp only [xP,wt,thOf,yl] at ih'|-;rw [zDH (b:=b) (base:=base) (a:=a) (t:=t) rfl rfl (by omega) g2];omega
theorem zuI (m:Mes) (b:List UInt8):wt (ths m b)<=b.length:=by
 unfold ths zgH vwR;split
 ·exact zNx b 0 b rfl (xM _)
 ·simp [wt]
abbrev zdD:=List UInt8×Bool×List Int×List Str×List Msg
def stp (g:Int->List UInt8->Msg) (f:Fld) (a:zdD) (t:Th):zdD:=
 if t.run=true then (a.1,true,(if f.Repeated=true then a.2.2.1 else [])++(zcb f.Kind t.val).1,(if f.Repeated=true then a.2.2.2.1 else []),a.2.2.2.2)
 else if kNum f.Kind=true then (a.1,true,(if f.Repeated=true then a.2.2.1 else [])++[(zrM f.Kind t.val).1],(if f.Repeated=true then a.2.2.2.1 else []),a.2.2.2.2)
 else if f.Kind=17/\f.Repeated=true then (a.1,true,(if f.Repeated=true then a.2.2.1 else []),(if f.Repeated=true then a.2.2.2.1 else []),a.2.2.2.2++[g f.Of t.val])
 else if f.Kind=17 then (a.1++t.val,true,(if f.Repeated=true then a.2.2.1 else []),(if f.Repeated=true then a.2.2.2.1 else []),a.2.2.2.2)
 else (a.1,true,(if f.Repeated=true then a.2.2.1 else []),(if f.Repeated=true then a.2.2.2.1 else [])++[t.val],a.2.2.2.2)
def accF (g:Int->List UInt8->Msg) (f:Fld) (i:Int):zdD->List Th->zdD
 | a,[]=>a
 | a,t::l=>accF g f i (if t.fi=i then stp g f a t else a) l
theorem zmQ (g:Int->List UInt8->Msg) (f:Fld) (i:Int):∀(a:zdD) (l m:List Th),accF g f i a (l++m)=accF g f i (accF g f i a l) m
 | a,[],m=>rfl
 | a,t::l,m=>by simp only [yi,accF];exact zmQ g f i _ l m
def wA (a:zdD):Nat:=a.1.length+a.2.2.1.length+a.2.2.2.1.length+a.2.2.2.2.length
def wJ (a:zdD):Nat:=a.1.length+(if a.2.1=true then 1 else 0)
theorem zAp (k:Int) (v:List UInt8):(zcb k v).1.length<=v.length:=by
 unfold zcb;have:=zGt k v;split
 ·simp
 ·split
  ·simpa using this
  ·simp
theorem zNj (g:Int->List UInt8->Msg) (f:Fld) (a:zdD) (t:Th):wA (stp g f a t)<=wA a+t.val.length+1/\wJ (stp g f a t)<=wJ a+t.val.length+1:=by
 have h1:(if f.Repeated=true then a.2.2.1 else []).length<=a.2.2.1.length:=by split<;>simp
 have h2:(if f.Repeated=true then a.2.2.2.1 else []).length<=a.2.2.2.1.length:=by split<;>simp
 have h3:=zAp f.Kind t.val;unfold stp wA wJ;split
 ·simp only [xF,yj];omega
 ·split
  ·simp only [xF,qg,yj];omega
  ·split
   ·simp only [xF,qg,yj];omega
   ·split
    ·simp only [xF,yj];omega
    ·simp only [xF,qg,yj];omega
theorem zwA (g:Int->List UInt8->Msg) (f:Fld) (i:Int):∀(a:zdD) (l:List Th),wA (accF g f i a l)<=wA a+wt l/\wJ (accF g f i a l)<=wJ a+wt l
 | a,[]=>by simp [accF,wt]
 | a,t::l=>by
  have h:=zwA g f i (if t.fi=i then stp g f a t else a) l;have h2:=zNj g f a t;rw [accF,wt];split at h
  ·rename_i ht;rw [xz ht];omega
  ·rename_i ht;rw [xy ht];omega
def acc0:zdD:=([],false,[],[],[])
def valO (g:Int->List UInt8->Msg) (f:Fld) (q:zdD):Vlu:=⟨f.Number,q.2.2.1,q.2.2.2.1,if q.2.1=true/\f.Kind=17/\f.Repeated=false then [g f.Of q.1] else q.2.2.2.2⟩
def zAm (g:Int->List UInt8->Msg) (m:Mes) (l:List Th) (o:List Int):List Vlu:=(o.map fun i=>valO g (zJ m i) (accF g (zJ m i) i acc0 l)).filter fun v=>decide (0<zbS v)
def unkO (l:List Th):List Str:=(l.filter fun t=>decide (t.fi<0)).map (·.raw)
def zmm (g:Int->List UInt8->Msg) (m:Mes) (l:List Th):Msg:=⟨zAm g m l (zif (ziY m) m.Fields.length),unkO l⟩
def ofN (s:List Mes):Nat->Int->List UInt8->Msg
 | 0,_,_=>⟨[],[]⟩
 | n+1,k,b=>zmm (ofN s n) (zz s k) (ths (zz s k) b)
theorem zHQ (a:zdD) (h:f.Kind=17->g f.Of t.val=g' f.Of t.val):stp g f a t=stp g' f a t:=by
 unfold stp;by_cases wz:f.Kind=17
 ·rw [h wz]
 ·rw [xy (c:=f.Kind=17/\_) (fun hh=>wz hh.1),xy (c:=f.Kind=17/\_) (fun hh=>wz hh.1)]
theorem zwx (i:Int):∀(a:zdD) {l:List Th},(f.Kind=17->∀v:List UInt8,v.length+1<=wt l->g f.Of v=g' f.Of v)->accF g f i a l=accF g' f i a l
 | a,[],h=>rfl
 | a,t::l,h=>by
  rw [accF,accF,zHQ a (fun wz=>h wz t.val (by rw [wt];omega))];exact zwx i _ (fun wz v hv=>h wz v (by rw [wt];omega))
theorem zFm (i:Int) (h:f.Kind=17->∀v:List UInt8,v.length+1<=wt l->g f.Of v=g' f.Of v):valO g f (accF g f i acc0 l)=valO g' f (accF g' f i acc0 l):=by
 rw [zwx i acc0 h];have hw:=(zwA g' f i acc0 l).2;unfold valO;by_cases hc:(accF g' f i acc0 l).2.1=true/\f.Kind=17/\f.Repeated=false
 ·rw [xz hc,xz hc,h hc.2.1 _ (by
   have h0:wJ acc0=0:=rfl;rw [h0,wJ,xz hc.1] at hw;omega)]
 ·rw [xy hc,xy hc]
theorem zvg (h:∀k:Int,∀v:List UInt8,v.length+1<=wt l->g k v=g' k v):zmm g m l=zmm g' m l:=by
 unfold zmm zAm;congr 2;exact qE fun i _=>zFm i (fun _ v hv=>h _ v hv)
theorem zxB (s:List Mes):∀(n n':Nat) (k:Int) (b:List UInt8),b.length<n->b.length<n'->ofN s n k b=ofN s n' k b
 | 0,n',k,b,h,_=>by omega
 | n+1,0,k,b,_,h=>by omega
 | n+1,n'+1,k,b,h,h'=>by
  rw [ofN,ofN];have hw:=zuI (zz s k) b;exact zvg fun k v hv=>zxB s n n' k v (by omega) (by omega)
def ofM (s:List Mes) (k:Int) (b:List UInt8):Msg:=ofN s (b.length+1) k b
theorem zmp (s:List Mes) (k:Int) (b:List UInt8):ofM s k b=zmm (ofM s) (zz s k) (ths (zz s k) b):=by
 have hw:=zuI (zz s k) b;unfold ofM;rw [ofN];exact zvg fun k v hv=>zxB s _ _ _ _ (by omega) (Nat.lt_succ_self _)
theorem zLJ (b:List UInt8) (r:Rec) (h:r.At<=r.To) (h0:0<=r.From) (h1:r.From<r.At) (h2:r.To<=b.length):(valB b r).length+1<=b.length:=by
 unfold valB;simp;omega
mutual
/-- How much a meaning is, all together. -/
def wgM:Msg->Nat
 | ⟨vs,u⟩=>1+(u.map fun t=>1+t.length).sum+wgVs vs
def wgVs:List Vlu->Nat
 | []=>0
 | v::l=>wgV v+wgVs l
def wgV:Vlu->Nat
 | ⟨_,w,t,s⟩=>1+w.length+(t.map fun t=>1+t.length).sum+wgMs s
def wgMs:List Msg->Nat
 | []=>0
 | x::l=>wgM x+wgMs l
end
theorem zjN (x:Msg):wgM x=1+(x.Unknown.map fun t=>1+t.length).sum+wgVs x.Values:=by cases x;rw [wgM]
theorem ziQ (v:Vlu):wgV v=1+v.Words.length+(v.Texts.map fun t=>1+t.length).sum+wgMs v.Subs:=by cases v;rw [wgV]
theorem zqH :∀{l:List Vlu},v∈l->wgV v<=wgVs l
 | [],h=>by cases h
 | u::l,h=>by
  rw [wgVs];rcases xD.1 h with rfl| h
  ·omega
  ·have:=zqH h;omega
theorem zli :∀{l:List Msg},x∈l->wgM x<=wgMs l
 | [],h=>by cases h
 | u::l,h=>by
  rw [wgMs];rcases xD.1 h with rfl| h
  ·omega
  ·have:=zli h;omega
theorem zoY :∀{l:List Str},t∈l->1+t.length<=(l.map fun t=>1+t.length).sum
 | [],h=>by cases h
 | u::l,h=>by
  rw [xP,yN];rcases xD.1 h with rfl| h
  ·omega
  ·have:=zoY h;omega
theorem zBA:∀{l:List Str},l.length<=(l.map fun t=>1+t.length).sum
 | []=>by simp
 | u::l=>by
  rw [xP,yN,xU];have:=zBA (l:=l);omega
theorem zDO:∀(l:List Vlu),l.length<=wgVs l
 | []=>by simp [wgVs]
 | u::l=>by rw [wgVs,xU,ziQ];have:=zDO l;omega
theorem zDM:∀(l:List Msg),l.length<=wgMs l
 | []=>by simp [wgMs]
 | u::l=>by rw [wgMs,xU,zjN];have:=zDM l;omega
def unkR (m:Mes) (u:Str):Bool:=(zfW u 0).2==0&&(zfW u 0).1.To==(u.length:Int)&&decide (fldI m (zfW u 0).1.Number<0)
def zjO (f:Fld) (w:Int):Bool:=kNum f.Kind&&zch f.Kind w==w
def zlt (f:Fld) (t:Str):Bool:=f.Kind==16|| (f.Kind==15&&zhs t)
def zrJ (f:Fld) (v:Vlu):Bool:=decide (0<zbS v)&&(decide (zbS v<=1)|| f.Repeated)&&zcw f.Kind
mutual
def zaE (s:List Mes):Msg->Int->Bool
 | ⟨vs,u⟩,k=>decide (0<=k/\k<s.length)&&zfX s vs (zz s k) none&&u.all (unkR (zz s k))
def zfX (s:List Mes):List Vlu->Mes->Option Int->Bool
 | [],_,_=>true
 | v::l,m,p=>decide (0<=fldI m v.Number)&&p.all (fun n=>decide (n<v.Number))&&zjS s v (zJ m (fldI m v.Number))&&zfX s l m (some v.Number)
def zjS (s:List Mes):Vlu->Fld->Bool
 | ⟨n,w,t,sub⟩,f=>zrJ f ⟨n,w,t,sub⟩&&w.all (zjO f)&&t.all (zlt f)&&zri s sub f
def zri (s:List Mes):List Msg->Fld->Bool
 | [],_=>true
 | x::l,f=>(f.Kind==17&&zaE s x f.Of)&&zri s l f
end
theorem zlP (s:List Mes) (x:Msg) (k:Int):zaE s x k=(decide (0<=k/\k<s.length)&&zfX s x.Values (zz s k) none&&x.Unknown.all (unkR (zz s k))):=by cases x;rw [zaE]
theorem zsM (s:List Mes) (v:Vlu) (f:Fld):zjS s v f=(zrJ f v&&v.Words.all (zjO f)&&v.Texts.all (zlt f)&&zri s v.Subs f):=by cases v;rw [zjS]
theorem zmw (s:List Mes) (f:Fld):∀(l:List Msg),zri s l f=l.all fun x=>f.Kind==17&&zaE s x f.Of
 | []=>by rw [zri];rfl
 | x::l=>by rw [zri,zmw s f l];rfl
mutual
/-- No list is long. -/
def smM:Msg->Prop
 | ⟨vs,u⟩=>vs.length<=1048576/\(u.length<=1048576/\∀t∈u,t.length<=1048576)/\smVs vs
def smVs:List Vlu->Prop
 | []=>True
 | v::l=>smV v/\smVs l
def smV:Vlu->Prop
 | ⟨n,w,t,s⟩=>w.length<=1048576/\(t.length<=1048576/\∀x∈t,x.length<=1048576)/\s.length<=1048576/\smMs s
def smMs:List Msg->Prop
 | []=>True
 | x::l=>smM x/\smMs l
end
theorem znt (x:Msg):smM x↔x.Values.length<=1048576/\(x.Unknown.length<=1048576/\∀t∈x.Unknown,t.length<=1048576)/\smVs x.Values:=by cases x;simp only [smM]
theorem zqv (v:Vlu):smV v↔v.Words.length<=1048576/\(v.Texts.length<=1048576/\∀x∈v.Texts,x.length<=1048576)/\v.Subs.length<=1048576/\smMs v.Subs:=by cases v;simp only [smV]
theorem ziy:∀{l:List Vlu},smVs l↔∀v∈l,smV v
 | []=>by simp [smVs]
 | v::l=>by rw [smVs,ziy (l:=l)];simp
theorem zix:∀{l:List Msg},smMs l↔∀v∈l,smM v
 | []=>by simp [smMs]
 | v::l=>by rw [smMs,zix (l:=l)];simp
theorem zuG (l:List Str) (F:Int->Int->Option Int) (h0:∀n,F n (l.length:Int)=some n)
  (hs:∀(i:Nat) (h:i<l.length) (n:Int),F n (i:Int)=F (i64.wrap (i64.wrap (n+1)+(l[i].length:Int))) ((i+1:Nat):Int)):∀(c i:Nat) (n:Int),i+c=l.length->
  ∃r,F n (i:Int)=some r/\((∀t∈l,t.length<=1048576)->0<=n->n+1048577*c<=4611686018427387904->r=n+(((l.drop i).map fun t=>1+t.length).sum:Nat)/\r<=n+1048577*c)
 | 0,i,n,h=>by
  have hi:i=l.length:=by omega
  refine ⟨n,by rw [hi,h0],fun _ _ _=>?_⟩;rw [hi,pk];simp
 | c+1,i,n,h=>by
  have hil:i<l.length:=by omega
  obtain ⟨r,hr,hw⟩:=zuG l F h0 hs c (i+1) (i64.wrap (i64.wrap (n+1)+(l[i].length:Int))) (by omega);refine ⟨r,by rw [hs i hil,hr],fun ht hn hc=>?_⟩;have:=ht _ (xI hil);have e:i64.wrap (i64.wrap (n+1)+(l[i].length:Int))=n+1+(l[i].length:Int):=by
   rw [zC (x:=n+1) (by omega),uD]
  rw [e] at hw;have hd:l.drop i=l[i]::l.drop (i+1):=yy hil;obtain ⟨w1,w2⟩:=hw ht (by omega) (by omega);rw [hd,xP,yN];push_cast at w1|-;omega
theorem zuh {α:Type} (l:List α) (g:α->Int) (F:Int->Int->Option (Int⊕Unit)) (h0:∀n,F n (l.length:Int)=some (.inl n))
  (hs:∀(i:Nat) (h:i<l.length) (n:Int),F n (i:Int)=if i64.wrap (n+g l[i])>=5000 then some (.inr ()) else F (i64.wrap (n+g l[i])) ((i+1:Nat):Int)):∀(c i:Nat) (n:Int),i+c=l.length->
  ∃q,F n (i:Int)=some q/\((∀a∈l,0<=g a/\g a<=4398046511104)->0<=n->n<=4398046511104->∀u,q= .inl u->u=n+((l.drop i).map g).sum/\0<=u/\(u<=n\/u<5000)/\∀a∈l.drop i,g a<5000)
 | 0,i,n,h=>by
  have hi:i=l.length:=by omega
  refine ⟨.inl n,by rw [hi,h0],fun _ _ _ u hu=>?_⟩;cases hu;rw [hi,pk];simp;omega
 | c+1,i,n,h=>by
  have hil:i<l.length:=by omega
  have hd:l.drop i=l[i]::l.drop (i+1):=yy hil;rw [hs i hil];by_cases h5:i64.wrap (n+g l[i])>=5000
  ·exact ⟨.inr (),by rw [xz h5],fun _ _ _ u hu=>by cases hu⟩
  ·obtain ⟨q,hq,hw⟩:=zuh l g F h0 hs c (i+1) (i64.wrap (n+g l[i])) (by omega);refine ⟨q,by rw [xy h5,hq],fun hg hn hnb u hu=>?_⟩;have hgi:=hg _ (xI hil);have e:i64.wrap (n+g l[i])=n+g l[i]:=by rw [uD]
   rw [e] at hw h5;obtain ⟨w1,w2,w3,w4⟩:=hw hg (by omega) (by omega) u hu;rw [hd,xP,yN];refine ⟨by omega,w2,by omega,fun a ha=>?_⟩;rcases xD.1 ha with rfl| ha
   ·omega
   ·exact w4 a ha
theorem zFa:∀(fuel:Nat),(∀(x:Msg) (d:Int),szM x<fuel->bdM x-> -1<=d->d<=1048576->∃r,zbz fuel x d=some r/\(smM x->0<=r/\r<=4398046511104/\(r<5000->r=wgM x/\(dM x:Int)<=d)))/\
  ∀(v:Vlu) (d:Int),szV v<fuel->bdV v->0<=d->d<=1048576->∃r,zbv fuel v d=some r/\(smV v->0<=r/\r<=4398046511104/\(r<5000->r=wgV v/\(dV v:Int)<=d))
 | 0=>⟨fun x d h=>by omega,fun v d h=>by omega⟩
 | fuel+1=>by
  obtain ⟨ih1,ih2⟩:=zFa fuel;refine ⟨fun x d wG hb hd hd2=>?_,fun v d wG hb hd hd2=>?_⟩
  ·obtain ⟨b1,⟨b2,b3⟩,b4⟩:=(zhD x).1 hb;rw [zcA] at wG;show∃r,zeX (zbz fuel) (zbv fuel) x d=some r/\_;unfold zeX;by_cases hneg:d<0
   ·exact ⟨5000,by rw [itT (by simpa using hneg)],fun _=>⟨by omega,by omega,fun h=>by omega⟩⟩
   rw [itF (by simpa using hneg)];obtain ⟨n,hn,hnw⟩:=zuG x.Unknown (fun n i=>zds x n i) (fun n=>by
     refine znj ?_;unfold zbV;rw [uA])
    (fun i hi n=>by
     refine zni ?_;unfold zbV;have hw1:i64.wrap ((i:Int)+1)=((i+1:Nat):Int):=by rw [uD];push_cast;rfl
     rw [uB,zal rfl hi,sb,hw1]) x.Unknown.length 0 1 (xO _)
   have hn':zds x 1 0=some n:=hn;have hgg:∀v∈x.Values,∃r,zbv fuel v d=some r/\(smV v->0<=r/\r<=4398046511104/\(r<5000->r=wgV v/\(dV v:Int)<=d)):=fun v hv=>by
    have:=zdA hv;exact ih2 v d (by omega) (zdr.1 b4 _ hv) (by omega) hd2
   obtain ⟨q,hq,hqw⟩:=zuh x.Values (fun v=>(zbv fuel v d).getD 0) (fun n i=>zdt d (zbv fuel) x n i) (fun n=>by
     refine zit ?_;unfold zbw;rw [uA])
    (fun i hi n=>by
     obtain ⟨r,hr,_⟩:=hgg _ (xI hi);have hw1:i64.wrap ((i:Int)+1)=((i+1:Nat):Int):=by rw [uD];push_cast;rfl
     simp only [hr,yP];split
     ·rename_i h5;refine zit ?_;unfold zbw;rw [uB,zal rfl hi,sb,hr,sb,itT (by simpa using h5)]
     ·rename_i h5;refine znk ?_;unfold zbw;rw [uB,zal rfl hi,sb,hr,sb,itF (by simpa using h5),hw1]) x.Values.length 0 n (xO _)
   have hq':zdt d (zbv fuel) x n 0=some q:=hq;rw [hn',sb,hq',sb];cases q with
   | inr u=>exact ⟨5000,rfl,fun _=>⟨by omega,by omega,fun h=>by omega⟩⟩
   | inl u=>
    refine ⟨u,rfl,fun hsm=>?_⟩;obtain ⟨s1,⟨s2,s3⟩,s4⟩:=(znt x).1 hsm;obtain ⟨n1,n2⟩:=hnw s3 (by omega) (by omega);rw [xV] at n1;obtain ⟨u1,u2,u3,u4⟩:=hqw (fun v hv=>by
     obtain ⟨r,hr,hrw⟩:=hgg v hv;have:=hrw (ziy.1 s4 v hv);simp only [hr,yP];exact ⟨this.1,this.2.1⟩) (by omega) (by omega) u rfl
    rw [xV] at u1 u4;refine ⟨u2,by omega,fun _=>?_⟩;have hall:∀l:List Vlu,(∀v∈l,v∈x.Values)->(l.map fun v=>(zbv fuel v d).getD 0).sum=(wgVs l:Int)/\(dVs l:Int)<=d:=by
     intro l
     induction l with
     | nil=>intro _;simp [wgVs,dVs];omega
     | cons v l ih=>
      intro hl;have hv:=hl v xA;obtain ⟨r,hr,hrw⟩:=hgg v hv;obtain ⟨_,_,hr3⟩:=hrw (ziy.1 s4 v hv);have h5:=u4 v hv;simp only [hr,yP] at h5;obtain ⟨e1,e2⟩:=hr3 h5;obtain ⟨i1,i2⟩:=ih fun w hw=>hl w (xB _ hw)
      rw [xP,yN,i1,hr,yP,wgVs,dVs];push_cast;omega
    obtain ⟨a1,a2⟩:=hall x.Values fun v hv=>hv
    rw [zjN,zCh];push_cast;refine ⟨?_,a2⟩;push_cast at n1;omega
  ·obtain ⟨_,⟨b1,_⟩,⟨b2,b3⟩,b4,b5⟩:=(zgs v).1 hb;rw [zeq] at wG;show∃r,zdh (zbz fuel) (zbv fuel) v d=some r/\_;unfold zdh;rw [zC (x:=1+(v.Words.length:Int)) (by omega)];obtain ⟨n,hn,hnw⟩:=zuG v.Texts (fun n i=>zcr v n i) (fun n=>by
     refine zkO ?_;unfold zbb;rw [uA])
    (fun i hi n=>by
     refine zkN ?_;unfold zbb;have hw1:i64.wrap ((i:Int)+1)=((i+1:Nat):Int):=by rw [uD];push_cast;rfl
     rw [uB,zal rfl hi,sb,hw1]) v.Texts.length 0 (1+(v.Words.length:Int)) (xO _)
   have hn':zcr v (1+(v.Words.length:Int)) 0=some n:=hn;have hgg:∀x∈v.Subs,∃r,zbz fuel x (d - 1)=some r/\(smM x->0<=r/\r<=4398046511104/\(r<5000->r=wgM x/\(dM x:Int)<=d - 1)):=fun x hx=>by
    have:=zdP hx;exact ih1 x (d - 1) (by omega) (zeg.1 b5 _ hx) (by omega) (by omega)
   have hd1:i64.wrap (d - 1)=d - 1:=by rw [uD]
   obtain ⟨q,hq,hqw⟩:=zuh v.Subs (fun x=>(zbz fuel x (d - 1)).getD 0) (fun n i=>zcs d (zbz fuel) v n i) (fun n=>by
     refine zgI ?_;unfold zaP;rw [uA])
    (fun i hi n=>by
     obtain ⟨r,hr,_⟩:=hgg _ (xI hi);have hw1:i64.wrap ((i:Int)+1)=((i+1:Nat):Int):=by rw [uD];push_cast;rfl
     simp only [hr,yP];split
     ·rename_i h5;refine zgI ?_;unfold zaP;rw [uB,zal rfl hi,sb,hd1,hr,sb,itT (by simpa using h5)]
     ·rename_i h5;refine zkP ?_;unfold zaP;rw [uB,zal rfl hi,sb,hd1,hr,sb,itF (by simpa using h5),hw1]) v.Subs.length 0 n (xO _)
   have hq':zcs d (zbz fuel) v n 0=some q:=hq;rw [hn',sb,hq',sb];cases q with
   | inr u=>exact ⟨5000,rfl,fun _=>⟨by omega,by omega,fun h=>by omega⟩⟩
   | inl u=>
    refine ⟨u,rfl,fun hsm=>?_⟩;obtain ⟨s1,⟨s2,s3⟩,s5,s4⟩:=(zqv v).1 hsm;obtain ⟨n1,n2⟩:=hnw s3 (by omega) (by omega);rw [xV] at n1;obtain ⟨u1,u2,u3,u4⟩:=hqw (fun x hx=>by
     obtain ⟨r,hr,hrw⟩:=hgg x hx;have:=hrw (zix.1 s4 x hx);simp only [hr,yP];exact ⟨this.1,this.2.1⟩) (by omega) (by omega) u rfl
    rw [xV] at u1 u4;refine ⟨u2,by omega,fun _=>?_⟩;have hall:∀l:List Msg,(∀x∈l,x∈v.Subs)->(l.map fun x=>(zbz fuel x (d - 1)).getD 0).sum=(wgMs l:Int)/\(dMs l:Int)<=d:=by
     intro l
     induction l with
     | nil=>intro _;simp [wgMs,dMs];omega
     | cons x l ih=>
      intro hl;have hx:=hl x xA;obtain ⟨r,hr,hrw⟩:=hgg x hx;obtain ⟨_,_,hr3⟩:=hrw (zix.1 s4 x hx);have h5:=u4 x hx;simp only [hr,yP] at h5;obtain ⟨e1,e2⟩:=hr3 h5;obtain ⟨i1,i2⟩:=ih fun w hw=>hl w (xB _ hw)
      rw [xP,yN,i1,hr,yP,wgMs,dMs];push_cast;omega
    obtain ⟨a1,a2⟩:=hall v.Subs fun v hv=>hv
    rw [ziQ,zzp];push_cast;refine ⟨?_,a2⟩;push_cast at n1;omega
def zDu (s:List Mes):Nat->znB
 | 0=>none
 | e+1=>some (zav s e)
theorem zkh (s:List Mes) (d:Nat) (k:Int) (b:List UInt8):zav s d k b=zeF (zz s k) (zDu s d) b (spl 0 b):=by cases d<;>rfl
theorem zpL (s:List Mes) (d:Nat) (k:Int):zav s d k []=none:=by rw [zkh,zgV];rfl
def vwG (m:Mes) (r:Rec):Int×Bool:=match vw m r.Number r.Wire with
 | .inl _=>(-1,false)
 | .inr p=>p
def thR (m:Mes) (b:List UInt8) (r:Rec):Th:=⟨(vwG m r).1,(vwG m r).2,valB b r,rawB b r⟩
theorem zKr :∀{l:List Rec},(∀r∈l,∃p,vw m r.Number r.Wire= .inr p)->vws m none l=(l.map fun r=>⟨r,(vwG m r).1,(vwG m r).2⟩,none)
 | [],_=>rfl
 | r::l,h=>by
  obtain ⟨p,hp⟩:=h r xA;rw [vws,hp,zKr fun x hx=>h x (xB _ hx)];simp only [xP,vwG,hp]
theorem zLD (h:zep m sub b r=none):∃p,vw m r.Number r.Wire= .inr p:=by
 unfold zep at h;cases hv:vw m r.Number r.Wire with
 | inl c=>rw [hv] at h;cases h
 | inr p=>exact ⟨p,rfl⟩
theorem zso (h:zav s d k b=none):ths (zz s k) b=(spl 0 b).1.map (thR (zz s k) b):=by
 rw [zkh,zfo] at h;unfold ths zgH;rw [h.2,zKr fun r hr=>zLD (h.1 r hr)];unfold vwR;simp only [yM];rfl
theorem zDh {b:List UInt8} (z:List UInt8) {r:Rec} (h0:0<=r.To) (h:r.To<=b.length):rawB (b++z) r=rawB b r:=by
 unfold rawB;by_cases ha:r.From.toNat<=b.length
 ·rw [pd ha,p9 (by simp;omega)]
 ·have e:r.To.toNat - r.From.toNat=0:=by omega
  rw [e,yQ,yQ]
theorem zES (a b:List UInt8) {r:Rec} (h0:0<=r.From) (h1:r.From<=r.To):rawB (a++b) (zmB a.length r)=rawB b r:=by
 unfold rawB zmB;simp only;have e1:(r.From+(a.length:Int)).toNat=a.length+r.From.toNat:=by omega
 have e2:(r.To+(a.length:Int)).toNat - (a.length+r.From.toNat)=r.To.toNat - r.From.toNat:=by omega
 rw [e1,e2,<-yB,pj]
theorem zyi {s:List Mes} {d:Nat} {k:Int} {a z:List UInt8} (ha:zav s d k a=none) (hz:zav s d k z=none):ths (zz s k) (a++z)=ths (zz s k) a++ths (zz s k) z:=by
 rw [zso ((zhU s d k z ha).2 hz),zso ha,zso hz];rw [zkh,zfo] at ha;have hap:=zxZ z 0 a ha.2;have hsh:=zAd a.length 0 z;rw [xO] at hap hsh;rw [hap,hsh];simp only [yx,yM];congr 1
 ·refine qE fun r hr=>?_
  have:=zuB 0 a r hr;unfold thR;rw [zvu z (by omega) (by omega),zDh z (by omega) (by omega)]
 ·refine qE fun r hr=>?_
  have:=zuB 0 z r hr;show thR _ _ (zmB a.length r)=_;unfold thR;rw [zst a z (by omega) (by omega),zES a z (by omega) (by omega)];rfl
structure OkT (s:List Mes) (d:Nat) (m:Mes) (t:Th):Prop where
 fi:t.fi= -1\/0<=t.fi/\t.fi<m.Fields.length
 unk:t.fi<0->unkR m t.raw=true
 run:0<=t.fi->t.run=true->kNum (zJ m t.fi).Kind=true/\(zJ m t.fi).Repeated=true/\(zmU (zJ m t.fi).Kind t.val).2=0
 one:0<=t.fi->t.run=false->zcw (zJ m t.fi).Kind=true/\zdw (zbm (zJ m t.fi).Kind) t.val=true/\((zJ m t.fi).Kind=15->zhs t.val=true)/\((zJ m t.fi).Kind=17->∃e,d=e+1/\zav s e (zJ m t.fi).Of t.val=none)
theorem zGG (h:zav s d k b=none):∀t∈ths (zz s k) b,OkT s d (zz s k) t:=by
 intro t ht;rw [zso h] at ht;obtain ⟨r,hr,rfl⟩:=xH.1 ht;obtain ⟨n,w,f,a,u,hre,hrec,h1,h2,h3⟩:=zLA b 0 b rfl (xM _) r hr;rw [zkh,zfo] at h;have hs:=h.1 r hr
 generalize zz s k=m at hs|-
 have hraw:rawB b r=(b.drop f).take u:=by
  unfold rawB;rw [hre];simp only [xN];rw [show f+u - f=u by omega]
 have hval:valB b r=((b.drop f).drop a).take (u - a):=by
  unfold valB;rw [hre];simp only [xN];rw [yB,show f+u - (f+a)=u - a by omega]
 have hfit:=(zEU hrec).1;have hn:r.Number=n:=by rw [hre]
 have hw:r.Wire=w:=by rw [hre]
 have hrl:((b.drop f).take u).length=u:=by simp;omega
 have hnx:zfW ((b.drop f).take u) 0=(⟨n,w,0,0+(a:Int),0+(u:Int)⟩,0):=by
  unfold zfW;rw [xy (by rw [hrl];omega)];simp only [Int.toNat_zero,xV,zHH hrec]
 unfold zep at hs;rcases zhR m r.Number r.Wire with hv| ⟨hv,hf⟩| ⟨i,run,hv,hfi,hi⟩
 ·rw [hv] at hs;cases hs
 ·have e:vwG m r=(-1,false):=by unfold vwG;rw [hv]
  refine ⟨.inl (by simp only [thR,e]),fun _=>?_,fun hh=>by simp only [thR,e] at hh;omega,fun hh=>by simp only [thR,e] at hh;omega⟩;simp only [thR,hraw];unfold unkR;rw [hnx,hrl];simp only [beq_self_eq_true,yd,Int.zero_add];rw [<-hn,hf];rfl
 ·have e:vwG m r=((i:Int),run):=by unfold vwG;rw [hv]
  rw [hv] at hs;simp only at hs;rw [xy (by omega)] at hs;refine ⟨.inr (by simp only [thR,e];omega),fun hh=>by simp only [thR,e] at hh;omega,fun _ hrn=>?_,fun _ hrn=>?_⟩
  ·simp only [thR,e] at hrn|-;subst hrn;obtain ⟨v1,v2,_⟩:=zFp hv;refine ⟨v1,v2,?_⟩;unfold ziJ at hs;rw [xz rfl] at hs;by_cases he:(zmU (zJ m i).Kind (valB b r)).2=0
   ·exact he
   ·rw [xz he] at hs;cases hs
  ·simp only [thR,e] at hrn|-;subst hrn;have hk:zcw (zJ m i).Kind=true/\zbm (zJ m i).Kind=r.Wire:=by
    unfold vw at hv;rw [hfi] at hv;split at hv
    ·cases hv
    ·split at hv
     ·cases hv
     ·split at hv
      ·cases hv
      ·rename_i h4;cases hr:zcw (zJ m i).Kind with
       | false=>exact absurd (.inl hr) h4
       | true=>exact ⟨rfl,by by_cases hq:zbm (zJ m i).Kind=r.Wire;exact hq;exact absurd (.inr hq) h4⟩
   refine ⟨hk.1,by rw [hk.2,hw,hval];exact hfit,fun h15=>?_,fun wz=>?_⟩
   ·unfold ziJ at hs;rw [xy (by simp)] at hs;cases hr4:zhs (valB b r) with
    | true=>rfl
    | false=>rw [xz ⟨h15,hr4⟩] at hs;cases hs
   ·unfold ziJ at hs;rw [xy (by simp),xy (by omega),xz wz] at hs;cases d with
    | zero=>simp only [zDu] at hs;cases hs
    | succ e=>
     simp only [zDu] at hs;refine ⟨e,rfl,?_⟩;cases hg:zav s e (zJ m i).Of (valB b r) with
     | none=>rfl
     | some q=>rw [hg] at hs;cases hs
structure zws (s:List Mes) (d:Nat) (f:Fld) (a:zdD):Prop where
 words:∀w∈a.2.2.1,zjO f w=true
 texts:∀t∈a.2.2.2.1,zlt f t=true
 numT:kNum f.Kind=true->a.2.2.2.1=[]
 subs:∀x∈a.2.2.2.2,f.Kind=17/\zaE s x f.Of=true/\1+dM x<=d
 join:f.Kind=17->∀e,d=e+1->zav s e f.Of a.1=none
 met:a.2.1=true->f.Kind=17->∃e,d=e+1
 one:f.Repeated=false->a.2.2.1.length<=1/\a.2.2.2.1.length<=1/\a.2.2.2.2=[]
theorem ziF {k:Int} (h:kNum k=true):k≠17/\k≠15/\k≠16:=by rw [zfU] at h;omega
theorem zDT {f:Fld} (hk:kNum f.Kind=true) (v:List UInt8):∀w∈(zcb f.Kind v).1,zjO f w=true:=by
 intro w hw;unfold zcb at hw;rw [xy (by rw [hk];simp)] at hw;split at hw
 ·obtain ⟨p,_,rfl⟩:=xH.1 hw;unfold zjO ziR;rw [hk,zpF _ (zBp _)];simp
 ·cases hw
theorem zDq {f:Fld} (hk:kNum f.Kind=true) {v:List UInt8} (hf:zdw (zbm f.Kind) v=true):zjO f (zrM f.Kind v).1=true:=by
 rw [znc hk hf];unfold zjO ziR;rw [hk,zpF _ (zBp _)];simp
theorem zAv (s:List Mes) (d:Nat) (f:Fld):zws s d f acc0 where
 words:=fun w hw=>nomatch hw
 texts:=fun w hw=>nomatch hw
 numT:=fun _=>rfl
 subs:=fun w hw=>nomatch hw
 join:=fun _ e _=>zpL s e _
 met:=fun h=>nomatch h
 one:=fun _=>⟨xM _,xM _,rfl⟩
theorem zNi {s:List Mes} {d:Nat} {m:Mes} {f:Fld} {g:Int->List UInt8->Msg} {a:zdD} {t:Th} (ha:zws s d f a) (ht:OkT s d m t) (hi:0<=t.fi) (hf:zJ m t.fi=f)
  (hg:f.Kind=17->∀e,d=e+1->zav s e f.Of t.val=none->zaE s (g f.Of t.val) f.Of=true/\dM (g f.Of t.val)<=e):zws s d f (stp g f a t):=by
 obtain ⟨h1,h2,hnt,h3,h4,h5,h6⟩:=ha;have wP:=ht.run hi;have hone:=ht.one hi;rw [hf] at wP hone;have w0:∀w∈(if f.Repeated=true then a.2.2.1 else []),zjO f w=true:=fun w hw=>by
  split at hw
  ·exact h1 w hw
  ·cases hw
 have t0:∀w∈(if f.Repeated=true then a.2.2.2.1 else []),zlt f w=true:=fun w hw=>by
  split at hw
  ·exact h2 w hw
  ·cases hw
 have tn:kNum f.Kind=true->(if f.Repeated=true then a.2.2.2.1 else [])=[]:=fun hk=>by
  split
  ·exact hnt hk
  ·rfl
 have wl:f.Repeated=false->(if f.Repeated=true then a.2.2.1 else [])=[]:=fun h=>by rw [h];rfl
 have tl:f.Repeated=false->(if f.Repeated=true then a.2.2.2.1 else [])=[]:=fun h=>by rw [h];rfl
 unfold stp;by_cases hr:t.run=true
 ·obtain ⟨r1,r2,r3⟩:=wP hr;rw [xz hr];refine ⟨fun w hw=>?_,t0,tn,h3,h4,fun _ hk=>absurd hk (ziF r1).1,fun hh=>by rw [r2] at hh;cases hh⟩;rcases xG.1 hw with hw| hw
  ·exact w0 w hw
  ·exact zDT r1 _ w hw
 ·have hr':t.run=false:=by simpa using hr
  obtain ⟨o1,o2,o3,o4⟩:=hone hr';rw [xy hr];by_cases hn:kNum f.Kind=true
  ·rw [xz hn];refine ⟨fun w hw=>?_,t0,tn,h3,h4,fun _ hk=>absurd hk (ziF hn).1,fun hh=>?_⟩
   ·rcases xG.1 hw with hw| hw
    ·exact w0 w hw
    ·rw [ya.1 hw];exact zDq hn o2
   ·have:=h6 hh;simp only [wl hh,tl hh];exact ⟨xE _,xM _,this.2.2⟩
  ·rw [xy hn];by_cases hk:f.Kind=17/\f.Repeated=true
   ·rw [xz hk];obtain ⟨e,he,hv⟩:=o4 hk.1;obtain ⟨g1,g2⟩:=hg hk.1 e he hv;refine ⟨w0,t0,tn,fun x hx=>?_,h4,fun _ _=>⟨e,he⟩,fun hh=>by rw [hk.2] at hh;cases hh⟩;rcases xG.1 hx with hx| hx
    ·exact h3 x hx
    ·rw [ya.1 hx];exact ⟨hk.1,g1,by omega⟩
   ·rw [xy hk];by_cases hk2:f.Kind=17
    ·rw [xz hk2];obtain ⟨e,he,hv⟩:=o4 hk2;refine ⟨w0,t0,tn,h3,fun _ e' he'=>?_,fun _ _=>⟨e,he⟩,fun hh=>?_⟩
     ·have:e'=e:=by omega
      subst this;exact (zhU s e' f.Of t.val (h4 hk2 e' he')).2 hv
     ·simp only [wl hh,tl hh];exact ⟨xM _,xM _,(h6 hh).2.2⟩
    ·rw [xy hk2];have hk15:f.Kind=15\/f.Kind=16:=by
      have:¬(1<=f.Kind/\f.Kind<=14):=fun hh=>hn (zfU.2 hh)
      have wz:1<=f.Kind/\f.Kind<=17:=by simpa [zcw] using o1
      omega
     refine ⟨w0,fun x hx=>?_,fun hh=>absurd hh hn,h3,h4,fun _ hh=>absurd hh hk2,fun hh=>?_⟩
     ·rcases xG.1 hx with hx| hx
      ·exact t0 x hx
      ·rw [ya.1 hx];unfold zlt;rcases hk15 with hh| hh
       ·simp [hh,o3 hh]
       ·simp [hh]
     ·simp only [wl hh,tl hh];exact ⟨xM _,xE _,(h6 hh).2.2⟩
theorem zvS {s:List Mes} {d:Nat} {m:Mes} {f:Fld} {g:Int->List UInt8->Msg} {i:Int} (hi:0<=i) (hf:zJ m i=f):∀(a:zdD) (l:List Th),zws s d f a->(∀t∈l,OkT s d m t)->
  (∀t∈l,f.Kind=17->∀e,d=e+1->zav s e f.Of t.val=none->zaE s (g f.Of t.val) f.Of=true/\dM (g f.Of t.val)<=e)->zws s d f (accF g f i a l)
 | a,[],ha,_,_=>ha
 | a,t::l,ha,ht,hg=>by
  rw [accF];refine zvS hi hf _ l ?_ (fun x hx=>ht x (xB _ hx)) (fun x hx=>hg x (xB _ hx));split
  ·rename_i h;exact zNi ha (ht t xA) (by omega) (by rw [h];exact hf) (hg t xA)
  ·exact ha
theorem zID {d:Nat}:∀{l:List Msg},(∀x∈l,1+dM x<=d)->dMs l<=d
 | [],_=>by simp [dMs]
 | x::l,h=>by
  rw [dMs];have:=h x xA;have:=zID fun y hy=>h y (xB _ hy)
  omega
theorem zIE {d:Nat}:∀{l:List Vlu},(∀x∈l,dV x<=d)->dVs l<=d
 | [],_=>by simp [dVs]
 | x::l,h=>by
  rw [dVs];have:=h x xA;have:=zIE fun y hy=>h y (xB _ hy)
  omega
theorem zLK {s:List Mes} {d:Nat} {f:Fld} {g:Int->List UInt8->Msg} {q:zdD} (hq:zws s d f q) (hkr:zcw f.Kind=true)
  (hg:f.Kind=17->q.2.1=true->∀e,d=e+1->zav s e f.Of q.1=none->zaE s (g f.Of q.1) f.Of=true/\dM (g f.Of q.1)<=e) (hm:0<zbS (valO g f q)):
  zjS s (valO g f q) f=true/\dV (valO g f q)<=d:=by
 obtain ⟨h1,h2,hnt,h3,h4,h5,h6⟩:=hq;have hsubs:∀x∈(valO g f q).Subs,f.Kind=17/\zaE s x f.Of=true/\1+dM x<=d:=by
  unfold valO;simp only;intro x hx;split at hx
  ·rename_i hc;obtain ⟨e,he⟩:=h5 hc.1 hc.2.1;obtain ⟨g1,g2⟩:=hg hc.2.1 hc.1 e he (h4 hc.2.1 e he);rw [ya.1 hx];exact ⟨hc.2.1,g1,by omega⟩
  ·exact h3 x hx
 constructor
 ·rw [zsM,zmw];have hmany:zrJ f (valO g f q)=true:=by
   unfold zrJ;rw [xT hm,hkr,yd,qS];cases hr:f.Repeated with
   | true=>simp
   | false=>
    rw [qT];refine xT ?_;obtain ⟨o1,o2,o3⟩:=h6 hr;unfold zbS valO;simp only;by_cases hk:f.Kind=17
    ·have e1:q.2.2.1=[]:=by
      cases hw:q.2.2.1 with
      | nil=>rfl
      | cons w l=>
       have:=h1 w (by rw [hw];exact xA);unfold zjO at this;simp only [xC] at this;exact absurd hk (ziF this.1).1
     have e2:q.2.2.2.1=[]:=by
      cases hw:q.2.2.2.1 with
      | nil=>rfl
      | cons w l=>
       have:=h2 w (by rw [hw];exact xA);unfold zlt at this;rw [hk] at this;simp at this
     rw [e1,e2];split
     ·simp
     ·rw [o3];simp
    ·rw [xy (fun hh=>hk hh.2.1),o3];by_cases hn:kNum f.Kind=true
     ·rw [hnt hn];simp;exact o1
     ·have e1:q.2.2.1=[]:=by
       cases hw:q.2.2.1 with
       | nil=>rfl
       | cons w l=>
        have:=h1 w (by rw [hw];exact xA);unfold zjO at this;simp only [xC] at this;exact absurd this.1 hn
      rw [e1];simp;exact o2
  rw [hmany,yd,xC,xC];refine ⟨⟨xL.2 h1,xL.2 h2⟩,xL.2 fun x hx=>?_⟩;obtain ⟨x1,x2,_⟩:=hsubs x hx;simp [x1,x2]
 ·rw [zzp];exact zID fun x hx=>(hsubs x hx).2.2
theorem zpS (m:Mes) (i:Int):ziY m i=(zJ m i).Number:=rfl
theorem zJs (hs:zfs s) (hm:m∈s) (hi:i<m.Fields.length) (hj:j<m.Fields.length) (h:m.Fields[i].Number=m.Fields[j].Number):i=j:=by
 rcases Nat.lt_trichotomy i j with wx| h'| wx
 ·exact absurd h (hs.nums m hm i j _ _ wx (xQ hi) (xQ hj)).1
 ·exact h'
 ·exact absurd h.symm (hs.nums m hm j i _ _ wx (xQ hj) (xQ hi)).1
theorem zsO {s:List Mes} (hs:zfs s) {m:Mes} (hm:m∈s) {i:Int} (h0:0<=i) (hi:i<m.Fields.length):fldI m (zJ m i).Number=i:=by
 obtain ⟨n,rfl⟩:∃n:Nat,i=n:=⟨i.toNat,by omega⟩;have hn:n<m.Fields.length:=by omega
 rw [zdJ hn];rcases zdK m m.Fields[n].Number with ⟨_,h⟩| ⟨j,hj,h,hjn,_⟩
 ·exact absurd rfl (h _ (xI hn))
 ·rw [h,zJs hs hm hj hn hjn]
theorem ztu {s:List Mes} (hs:zfs s) {m:Mes} (hm:m∈s):(zif (ziY m) m.Fields.length).Pairwise fun a b=>ziY m a<ziY m b:=by
 refine (ztv (ziY m) m.Fields.length).imp_of_mem fun {a b} ha hb h=>?_
 rcases h with h| ⟨h,wx⟩
 ·exact h
 ·exfalso;obtain ⟨a0,a1⟩:=zhm.1 ha;obtain ⟨b0,b1⟩:=zhm.1 hb;rw [zpS,zpS] at h;have:=zsO hs hm a0 a1;rw [h,zsO hs hm b0 b1] at this;omega
theorem zto {s:List Mes} (hs:zfs s) {m:Mes} (hm:m∈s) (v:Int->Vlu) (hn:∀i,(v i).Number=ziY m i):∀(o:List Int) (p:Option Int),(∀i∈o,0<=i/\i<m.Fields.length)->(o.Pairwise fun a b=>ziY m a<ziY m b)->
  (∀i∈o,p.all (fun n=>decide (n<ziY m i))=true)->(∀i∈o,0<zbS (v i)->zjS s (v i) (zJ m i)=true)->zfX s ((o.map v).filter fun x=>decide (0<zbS x)) m p=true
 | [],p,_,_,_,_=>by rw [yX,List.filter_nil,zfX]
 | i::o,p,h1,h2,h3,h4=>by
  obtain ⟨h2a,h2b⟩:=yf.1 h2;have ih:=fun p hp=>zto hs hm v hn o p (fun j hj=>h1 j (xB _ hj)) h2b hp (fun j hj=>h4 j (xB _ hj))
  rw [xP,qc];by_cases hp:0<zbS (v i)
  ·rw [xz (by simpa using hp),zfX,ih _ (fun j hj=>by rw [hn];simpa using h2a j hj)];obtain ⟨i0,i1⟩:=h1 i xA;have hfi:=zsO hs hm i0 i1;rw [hn,zpS,hfi,h4 i xA hp,<-zpS,h3 i xA,xT i0];rfl
  ·rw [xy (by simpa using hp)];exact ih p fun j hj=>h3 j (xB _ hj)
theorem znX {s:List Mes} (hs:zfs s):∀(N:Nat) (b:List UInt8) (d k:Nat),b.length=N->k<s.length->zav s d k b=none->zaE s (ofM s k b) k=true/\dM (ofM s k b)<=d:=by
 intro N
 induction N using Nat.strongRecOn with
 | _ N IH=>
  intro b d k hN hk hv;have hmm:zz s (k:Int)∈s:=by rw [zeG hk];exact xI hk
  have hth:=zGG hv;have hwt:=zuI (zz s (k:Int)) b;rw [zmp]
  generalize hl:ths (zz s (k:Int)) b=l at hth hwt
  generalize hm:zz s (k:Int)=m at hmm hth hwt
  have hsub:∀f∈m.Fields,f.Kind=17->∀v:List UInt8,v.length+1<=b.length->∀e,zav s e f.Of v=none->zaE s (ofM s f.Of v) f.Of=true/\dM (ofM s f.Of v)<=e:=fun f hf wz v hvl e he=>by
   have hof:=(hs.fld _ hmm f hf).sub wz;obtain ⟨q,hq⟩:∃q:Nat,f.Of=q:=⟨f.Of.toNat,by omega⟩;rw [hq] at he|-;exact IH v.length (by omega) v e q rfl (by omega) he
  have hval:∀i∈zif (ziY m) m.Fields.length,0<zbS (valO (ofM s) (zJ m i) (accF (ofM s) (zJ m i) i acc0 l))->
    zjS s (valO (ofM s) (zJ m i) (accF (ofM s) (zJ m i) i acc0 l)) (zJ m i)=true/\dV (valO (ofM s) (zJ m i) (accF (ofM s) (zJ m i) i acc0 l))<=d:=fun i hi hp=>by
   obtain ⟨i0,i1⟩:=zhm.1 hi;obtain ⟨n,hn⟩:∃n:Nat,i=n:=⟨i.toNat,by omega⟩;have hnl:n<m.Fields.length:=by omega
   have hfm:zJ m i∈m.Fields:=by rw [hn,zdJ hnl];exact xI _
   have hacc:=zvS (g:=ofM s) i0 rfl acc0 l (zAv s d (zJ m i)) hth (fun t ht wz e he hv=>hsub _ hfm wz _ (by have:=zyB ht;omega) e hv);have hw:=(zwA (ofM s) (zJ m i) i acc0 l).2;refine zLK hacc (hs.fld _ hmm _ hfm).kind (fun wz hmet e he hv=>hsub _ hfm wz _ ?_ e hv) hp;have h0:wJ acc0=0:=rfl;rw [h0,wJ,xz hmet] at hw;omega
  constructor
  ·rw [zlP,hm,xT (by omega),yd,xC];constructor
   ·unfold zmm zAm;exact zto hs hmm (fun i=>valO (ofM s) (zJ m i) (accF (ofM s) (zJ m i) i acc0 l)) (fun i=>rfl) _ none (fun i hi=>zhm.1 hi) (ztu hs hmm) (fun _ _=>rfl) (fun i hi hp=>(hval i hi hp).1)
   ·unfold zmm unkO;refine xL.2 fun u hu=>?_
    obtain ⟨t,ht,rfl⟩:=xH.1 hu;obtain ⟨ht1,ht2⟩:=yh.1 ht;exact (hth t ht1).unk (by simpa using ht2)
  ·rw [zCh];unfold zmm zAm;refine zIE fun x hx=>?_
   obtain ⟨hx1,hx2⟩:=yh.1 hx;obtain ⟨i,hi,rfl⟩:=xH.1 hx1;exact (hval i hi (by simpa using hx2)).2
theorem zIP (h: -9223372036854775808<=n/\n<=9223372036854775807):(Lit.int .i64 n).wf=true:=by
 simpa [Lit.wf,IntKind.min,IntKind.max,IntKind.bits,IntKind.signed] using h
structure zOg (a:zdD):Prop where
 words:∀w∈a.2.2.1,0<=w/\w<=18446744073709551615
 texts:∀t∈a.2.2.2.1,t.length<=1048576
 subs:∀x∈a.2.2.2.2,bdM x/\smM x
def zdi (l:List Vlu):Prop:=l.Pairwise fun a b=>a.Number<b.Number
def look (l:List Vlu) (n:Int):Option Vlu:=l.find? fun v=>v.Number==n
theorem zct (v:Vlu) (l:List Vlu) (n:Int):look (v::l) n=if v.Number=n then some v else look l n:=by
 unfold look;rw [List.find?_cons];by_cases h:v.Number=n
 ·rw [xz h];simp [h]
 ·rw [xy h];have:(v.Number==n)=false:=by simpa using h
  rw [this]
theorem zde (h:look l n=some v):v.Number=n/\v∈l:=by
 unfold look at h;exact ⟨by simpa using List.find?_some h,List.mem_of_find?_eq_some h⟩
theorem zoN (h:∀v∈l,n<v.Number):look l n=none:=by
 unfold look;rw [List.find?_eq_none];intro v hv;have:=h v hv;simp;omega
theorem zxq (hr:zdi l) (h:v∈l):look l v.Number=some v:=by
 induction l with
 | nil=>cases h
 | cons u l ih=>
  obtain ⟨h1,h2⟩:=yf.1 hr;rw [zct];rcases xD.1 h with rfl| h
  ·rw [xz rfl]
  ·have:=h1 v h;rw [xy (by omega),ih h2 h]
theorem zta:∀{l k:List Vlu},zdi l->zdi k->(∀n,look l n=look k n)->l=k
 | [],[],_,_,_=>rfl
 | [],u::k,_,_,h=>by
  have:=h u.Number;rw [zct,xz rfl] at this;cases this
 | v::l,[],_,_,h=>by
  have:=h v.Number;rw [zct,xz rfl] at this;cases this
 | v::l,u::k,hl,hk,h=>by
  obtain ⟨l1,l2⟩:=yf.1 hl;obtain ⟨k1,k2⟩:=yf.1 hk;have e:v=u:=by
   have hv:=h v.Number;have hu:=h u.Number;rw [zct,xz rfl] at hv;rw [zct (n:=u.Number) (v:=u),xz rfl] at hu;rcases Int.lt_trichotomy v.Number u.Number with wx| heq| wx
   ·rw [zoN (l:=u::k) (fun x hx=>by
     rcases xD.1 hx with rfl| hx
     ·exact wx
     ·have:=k1 x hx;omega)] at hv
    cases hv
   ·rw [zct,xz heq.symm] at hv;exact qb hv
   ·rw [zoN (l:=v::l) (fun x hx=>by
     rcases xD.1 hx with rfl| hx
     ·exact wx
     ·have:=l1 x hx;omega)] at hu
    cases hu
  subst e;rw [zta l2 k2 fun n=>by
   by_cases hn:v.Number<n
   ·have:=h n;rw [zct,zct,xy (by omega),xy (by omega)] at this;exact this
   ·rw [zoN fun x hx=>by have:=l1 x hx;omega,zoN fun x hx=>by have:=k1 x hx;omega]]
def putL (v:Vlu):Bool->List Vlu->List Vlu
 | done,[]=>if done=true then [] else [v]
 | done,u::l=>(if done=false/\v.Number<=u.Number then [v] else [])++((if u.Number=v.Number then [] else [u])++putL v (done|| decide (v.Number<=u.Number)) l)
theorem zDf (v:Vlu):∀(d:Bool) (l:List Vlu),(putL v d l).length<=l.length+(if d=true then 0 else 1)
 | d,[]=>by rw [putL];cases d<;>simp
 | d,u::l=>by
  have:=zDf v (d|| decide (v.Number<=u.Number)) l;rw [putL];simp only [xF,xU];cases d
  ·by_cases h:v.Number<=u.Number
   ·rw [xz ⟨rfl,h⟩];simp only [h,pL,qN,yj] at this|-;split<;>simp<;>omega
   ·rw [xy (fun hh=>h hh.2)];simp only [h,decide_false,qT,qD,yH] at this|-;split<;>simp<;>omega
  ·rw [xy (by simp)];simp only [Bool.true_or,yj] at this|-;split<;>simp<;>omega
theorem zDg :∀{d:Bool} {l:List Vlu} {x:Vlu},x∈putL v d l->x=v/\d=false\/x∈l/\x.Number≠v.Number
 | d,[],x,h=>by
  rw [putL] at h;cases d
  ·rw [xy (by simp)] at h;exact .inl ⟨ya.1 h,rfl⟩
  ·rw [xz rfl] at h;cases h
 | d,u::l,x,h=>by
  rw [putL] at h;rcases xG.1 h with h| h
  ·split at h
   ·rename_i hc;exact .inl ⟨ya.1 h,hc.1⟩
   ·cases h
  ·rcases xG.1 h with h| h
   ·split at h
    ·cases h
    ·rename_i hc;rw [ya.1 h];exact .inr ⟨xA,hc⟩
   ·rcases zDg h with ⟨h1,h2⟩| ⟨h1,h2⟩
    ·refine .inl ⟨h1,?_⟩;cases d
     ·rfl
     ·simp at h2
    ·exact .inr ⟨xB _ h1,h2⟩
theorem zmZ :∀{d:Bool} {l:List Vlu},zdi l->zdi (putL v d l)
 | d,[],_=>by rw [putL];cases d<;>simp [zdi]
 | d,u::l,h=>by
  obtain ⟨h1,h2⟩:=yf.1 h;have ih:=zmZ (v:=v) (d:=d|| decide (v.Number<=u.Number)) h2;have hrest:∀x∈putL v (d|| decide (v.Number<=u.Number)) l,u.Number<x.Number:=fun x hx=>by
   rcases zDg hx with ⟨rfl,hd⟩| ⟨hx,_⟩
   ·simp at hd;omega
   ·exact h1 x hx
  rw [putL];have htail:zdi ((if u.Number=v.Number then [] else [u])++putL v (d|| decide (v.Number<=u.Number)) l):=by
   split
   ·exact ih
   ·exact yf.2 ⟨hrest,ih⟩
  split
  ·rename_i hc;rw [pJ];refine yf.2 ⟨fun x hx=>?_,htail⟩;rcases xG.1 hx with hx| hx
   ·split at hx
    ·cases hx
    ·rw [ya.1 hx];omega
   ·have:=hrest x hx;omega
  ·exact htail
theorem zqa (l k:List Vlu) (n:Int):look (l++k) n=match look l n with| some v=>some v| none=>look k n:=by
 unfold look;rw [List.find?_append];cases l.find? (fun v=>v.Number==n)<;>rfl
theorem ztb :∀{d:Bool} {l:List Vlu},zdi l->∀n,look (putL v d l) n=if n=v.Number then (if d=true then none else some v) else look l n
 | d,[],_,n=>by
  rw [putL];cases d
  ·rw [xy (show ¬(false=true) by simp),xy (show ¬(false=true) by simp),zct];by_cases h:n=v.Number
   ·rw [xz h,xz h.symm]
   ·rw [xy h,xy (fun hh=>h hh.symm)]
  ·rw [xz rfl,xz rfl];split<;>rfl
 | d,u::l,h,n=>by
  obtain ⟨h1,h2⟩:=yf.1 h;have ih:=ztb (v:=v) (d:=d|| decide (v.Number<=u.Number)) h2 n;rw [putL,zqa,zqa,ih,zct u l n];by_cases hn:n=v.Number
  ·rw [xz hn,xz hn];have hu:look (if u.Number=v.Number then [] else [u]) n=none:=by
    split
    ·rfl
    ·rw [zct,xy (by omega)];rfl
   rw [hu];cases d
   ·by_cases hle:v.Number<=u.Number
    ·rw [xz ⟨rfl,hle⟩,zct,xz hn.symm];simp
    ·rw [xy (fun hh=>hle hh.2)];simp [look,hle]
   ·rw [xy (by simp)];simp [look]
  ·rw [xy hn,xy hn];have hv:look (if d=false/\v.Number<=u.Number then [v] else []) n=none:=by
    split
    ·rw [zct,xy (fun hh=>hn hh.symm)];rfl
    ·rfl
   rw [hv];by_cases hu:u.Number=v.Number
   ·rw [xz hu,xy (by omega)];rfl
   ·rw [xy hu,zct];by_cases hun:u.Number=n
    ·rw [xz hun,xz hun]
    ·rw [xy hun,xy hun];rfl
def putM (x:Msg) (v:Vlu):Msg:=⟨putL v (decide (zbS v=0)) x.Values,x.Unknown⟩
theorem zna :∀{l:List Vlu} {p:Option Int},zfX s l m p=true->∀v∈l,0<=fldI m v.Number/\zjS s v (zJ m (fldI m v.Number))=true/\p.all (fun n=>decide (n<v.Number))=true
 | [],p,_,v,hv=>by cases hv
 | u::l,p,h,v,hv=>by
  rw [zfX] at h;simp only [xC,yc] at h;obtain ⟨⟨⟨h1,h2⟩,h3⟩,h4⟩:=h;rcases xD.1 hv with rfl| hv
  ·exact ⟨h1,h3,h2⟩
  ·obtain ⟨g1,g2,g3⟩:=zna h4 v hv;refine ⟨g1,g2,?_⟩;cases p with
   | none=>rfl
   | some n=>
    simp at h2 g3|-;omega
theorem zqn :∀{l:List Vlu} {p:Option Int},zfX s l m p=true->zdi l
 | [],p,_=> .nil
 | u::l,p,h=>by
  rw [zfX] at h;simp only [xC,yc] at h;refine yf.2 ⟨fun v hv=>?_,zqn h.2⟩;have:=(zna h.2 v hv).2.2;simpa using this
theorem zxR :∀{l:List Vlu} {p:Option Int},zdi l->(∀v∈l,0<=fldI m v.Number/\zjS s v (zJ m (fldI m v.Number))=true/\p.all (fun n=>decide (n<v.Number))=true)->zfX s l m p=true
 | [],p,_,_=>by rw [zfX]
 | u::l,p,hr,h=>by
  obtain ⟨h1,h2⟩:=yf.1 hr;obtain ⟨a1,a2,a3⟩:=h u xA;rw [zfX,zxR h2 fun v hv=>⟨(h v (xB _ hv)).1,(h v (xB _ hv)).2.1,by simpa using h1 v hv⟩,a2,a3,xT a1];rfl
theorem zaZ (h:zaE s x k=true):0<=k/\k<s.length/\zdi x.Values/\(∀v∈x.Values,0<=fldI (zz s k) v.Number/\zjS s v (zJ (zz s k) (fldI (zz s k) v.Number))=true)/\∀u∈x.Unknown,unkR (zz s k) u=true:=by
 rw [zlP] at h;simp only [xC,yc] at h;exact ⟨h.1.1.1,h.1.1.2,zqn h.1.2,fun v hv=>⟨(zna h.1.2 v hv).1,(zna h.1.2 v hv).2.1⟩,xL.1 h.2⟩
theorem zAa (h1:0<=k) (h2:k<s.length) (h3:zdi x.Values) (h4:∀v∈x.Values,0<=fldI (zz s k) v.Number/\zjS s v (zJ (zz s k) (fldI (zz s k) v.Number))=true) (h5:∀u∈x.Unknown,unkR (zz s k) u=true):zaE s x k=true:=by
 rw [zlP,xT ⟨h1,h2⟩,zxR h3 fun v hv=>⟨(h4 v hv).1,(h4 v hv).2,rfl⟩,xL.2 h5];rfl
structure zgX (s:List Mes) (v:Vlu) (f:Fld):Prop where
 many:0<zbS v
 one:f.Repeated=false->zbS v=1
 kind:zcw f.Kind=true
 words:∀w∈v.Words,zjO f w=true
 texts:∀t∈v.Texts,zlt f t=true
 subs:∀x∈v.Subs,f.Kind=17/\zaE s x f.Of=true
theorem zdd (h:zjS s v f=true):zgX s v f:=by
 rw [zsM,zmw] at h;unfold zrJ at h;simp only [xC,qA,yc,xL,qU] at h;obtain ⟨⟨⟨⟨⟨h1,h2⟩,h3⟩,h4⟩,h5⟩,h6⟩:=h;refine ⟨h1,fun hr=>?_,h3,h4,h5,fun x hx=>?_⟩
 ·rw [hr] at h2;simp at h2;omega
 ·exact h6 x hx
theorem zFH (h:zgX s v f):zjS s v f=true:=by
 obtain ⟨h1,h2,h3,h4,h5,h6⟩:=h;rw [zsM,zmw];unfold zrJ;simp only [xC,qA,yc,xL,qU];refine ⟨⟨⟨⟨⟨h1,?_⟩,h3⟩,h4⟩,h5⟩,fun x hx=>h6 x hx⟩;cases hr:f.Repeated with
 | true=>exact .inr rfl
 | false=>exact .inl (by have:=h2 hr;omega)
theorem zgX.noWords (h:zgX s v f) (hk:kNum f.Kind=false):v.Words=[]:=by
 cases hw:v.Words with
 | nil=>rfl
 | cons w l=>
  have:=h.words w (by rw [hw];exact xA);unfold zjO at this;rw [hk] at this;simp at this
theorem zgX.noTexts (h:zgX s v f) (hk:f.Kind≠15/\f.Kind≠16):v.Texts=[]:=by
 cases hw:v.Texts with
 | nil=>rfl
 | cons w l=>
  have:=h.texts w (by rw [hw];exact xA);unfold zlt at this;simp at this;omega
theorem zgX.noSubs {s:List Mes} {v:Vlu} {f:Fld} (h:zgX s v f) (hk:f.Kind≠17):v.Subs=[]:=by
 cases hw:v.Subs with
 | nil=>rfl
 | cons w l=>exact absurd (h.subs w (by rw [hw];exact xA)).1 hk
theorem zgX.msg (h:zgX s v f) (hk:f.Kind=17) (hr:f.Repeated=false):∃x,v=⟨v.Number,[],[],[x]⟩/\zaE s x f.Of=true:=by
 have h1:=h.noWords (by rw [hk];rfl);have h2:=h.noTexts (by omega);have h3:=h.one hr;have h4:=h.subs;obtain ⟨n,w,t,sub⟩:=v;simp only at h1 h2 h4;subst h1 h2;unfold zbS at h3;simp at h3;obtain ⟨x,rfl⟩:∃x,sub=[x]:=by
  cases sub with
  | nil=>simp at h3
  | cons x l=>cases l with
   | nil=>exact ⟨x,rfl⟩
   | cons _ _=>simp at h3
 exact ⟨x,rfl,(h4 x xA).2⟩
mutual
/-- b zgt a. -/
def zfG (s:List Mes):Msg->Msg->Int->Msg
 | ⟨vs,u⟩,a,k=>⟨zii s vs a (zz s k) a.Values,a.Unknown++u⟩
def zii (s:List Mes):List Vlu->Msg->Mes->List Vlu->List Vlu
 | [],_,_,acc=>acc
 | v::l,a,m,acc=>zii s l a m (putM ⟨acc,[]⟩ (zgo s v (look a.Values v.Number) (zJ m (fldI m v.Number)))).Values
def zgo (s:List Mes):Vlu->Option Vlu->Fld->Vlu
 | ⟨n,w,t,sub⟩,none,f=>⟨n,w,t,sub⟩
 | ⟨n,w,t,sub⟩,some u,f=>if f.Repeated=true then ⟨n,u.Words++w,u.Texts++t,u.Subs++sub⟩ else if f.Kind=17 then ⟨n,[],[],zkk s sub u.Subs f.Of⟩ else ⟨n,w,t,sub⟩
def zkk (s:List Mes):List Msg->List Msg->Int->List Msg
 | [],_,_=>[]
 | x::_,ys,k=>match ys with
  | []=>[]
  | y::_=>[zfG s x y k]
end
theorem zkT (s:List Mes) (b a:Msg) (k:Int):zfG s b a k=⟨zii s b.Values a (zz s k) a.Values,a.Unknown++b.Unknown⟩:=by cases b;rw [zfG]
theorem zhb (s:List Mes) (v:Vlu) (o:Option Vlu) (f:Fld):zgo s v o f=match o with
  | none=>v
  | some u=>if f.Repeated=true then ⟨v.Number,u.Words++v.Words,u.Texts++v.Texts,u.Subs++v.Subs⟩ else if f.Kind=17 then ⟨v.Number,[],[],zkk s v.Subs u.Subs f.Of⟩ else v:=by
 cases v;cases o<;>rw [zgo]
theorem znP (s:List Mes) (v:Vlu) (o:Option Vlu) (f:Fld):(zgo s v o f).Number=v.Number:=by
 rw [zhb];cases o with
 | none=>rfl
 | some u=>simp only;split;rfl;split<;>rfl
theorem zJF (acc:List Vlu) (u:List Str) (v:Vlu):(putM ⟨acc,u⟩ v).Values.length<=acc.length+1:=by
 have:=zDf v (decide (zbS v=0)) acc;unfold putM;simp only;split at this<;>omega
theorem zvf :∀{l acc:List Vlu},zdi acc->zdi l->(∀v∈l,0<zbS (zgo s v (look a.Values v.Number) (zJ m (fldI m v.Number))))->
  zdi (zii s l a m acc)/\∀n,look (zii s l a m acc) n=match look l n with
   | some v=>some (zgo s v (look a.Values n) (zJ m (fldI m n)))
   | none=>look acc n
 | [],acc,h1,_,_=>by rw [zii];exact ⟨h1,fun n=>rfl⟩
 | v::l,acc,h1,h2,h3=>by
  obtain ⟨l1,l2⟩:=yf.1 h2;have hv:=h3 v xA;have hnum:=znP s v (look a.Values v.Number) (zJ m (fldI m v.Number));rw [zii];have hacc:zdi (putM ⟨acc,[]⟩ (zgo s v (look a.Values v.Number) (zJ m (fldI m v.Number)))).Values:=zmZ h1;obtain ⟨r1,r2⟩:=zvf (s:=s) (a:=a) (m:=m) hacc l2 fun u hu=>h3 u (xB _ hu)
  refine ⟨r1,fun n=>?_⟩;rw [r2 n,zct];have hlk:look (putM ⟨acc,[]⟩ (zgo s v (look a.Values v.Number) (zJ m (fldI m v.Number)))).Values n=if n=v.Number then some (zgo s v (look a.Values v.Number) (zJ m (fldI m v.Number))) else look acc n:=by
   unfold putM;simp only;rw [ztb h1 n,hnum];by_cases hn:n=v.Number
   ·rw [xz hn,xz hn,xy fun hh=>by have:=yA hh;omega]
   ·rw [xy hn,xy hn]
  by_cases hn:v.Number=n
  ·rw [xz hn,zoN fun u hu=>by have:=l1 u hu;omega,hlk,xz hn.symm];simp only [hn]
  ·rw [xy hn,hlk,xy fun hh=>hn hh.symm]
theorem zsb (hv:zgX s v f) (ho:∀u,o=some u->zgX s u f):0<zbS (zgo s v o f):=by
 rw [zhb];cases o with
 | none=>exact hv.many
 | some u=>
  have:=hv.many;simp only;by_cases hr:f.Repeated=true
  ·rw [xz hr];unfold zbS at this|-;simp only [xF];omega
  ·rw [xy hr];by_cases wz:f.Kind=17
   ·rw [xz wz];obtain ⟨x,hvx,_⟩:=hv.msg wz (by simpa using hr);obtain ⟨y,huy,_⟩:=(ho u rfl).msg wz (by simpa using hr);rw [hvx,huy,zkk];simp [zbS]
   ·rw [xy wz];exact this
theorem zqW (ha:zaE s a k=true) (hb:zaE s b k=true):zdi (zfG s b a k).Values/\∀n,look (zfG s b a k).Values n=match look b.Values n with
   | some v=>some (zgo s v (look a.Values n) (zJ (zz s k) (fldI (zz s k) n)))
   | none=>look a.Values n:=by
 obtain ⟨_,_,ra,ha',_⟩:=zaZ ha;obtain ⟨_,_,rb,hb',_⟩:=zaZ hb;rw [zkT];exact zvf ra rb fun v hv=>zsb (zdd (hb' v hv).2) fun u hu=>by
  obtain ⟨e,hm⟩:=zde hu;have:=zdd (ha' u hm).2;rw [e] at this;exact this
def zvt (g:Int->List UInt8->Msg) (m:Mes) (l:List Th) (i:Int):Vlu:=valO g (zJ m i) (accF g (zJ m i) i acc0 l)
theorem zqX {s:List Mes} (hs:zfs s) {m:Mes} (hm:m∈s) {g:Int->List UInt8->Msg} {l:List Th} (hr:zdi (zmm g m l).Values) (n:Int):
  look (zmm g m l).Values n=if 0<=fldI m n/\0<zbS (zvt g m l (fldI m n)) then some (zvt g m l (fldI m n)) else none:=by
 have hmem:∀v,v∈(zmm g m l).Values↔∃i:Int,(0<=i/\i<m.Fields.length)/\zvt g m l i=v/\0<zbS v:=fun v=>by
  unfold zmm zAm;simp only [yh,xH,zhm,yc];constructor
  ·rintro ⟨⟨i,hi,rfl⟩,h2⟩;exact ⟨i,hi,rfl,h2⟩
  ·rintro ⟨i,hi,rfl,h2⟩;exact ⟨⟨i,hi,rfl⟩,h2⟩
 have hnum:∀i,(zvt g m l i).Number=(zJ m i).Number:=fun i=>rfl
 by_cases hc:0<=fldI m n/\0<zbS (zvt g m l (fldI m n))
 ·rw [xz hc];rcases zdK m n with ⟨hf,_⟩| ⟨j,hj,hf,hjn,_⟩
  ·omega
  ·have h:=zxq hr ((hmem (zvt g m l (fldI m n))).2 ⟨fldI m n,by omega,rfl,hc.2⟩);rw [hnum,hf,zdJ hj,hjn] at h;rw [hf];exact h
 ·rw [xy hc];cases hlk:look (zmm g m l).Values n with
  | none=>rfl
  | some v=>
   exfalso;obtain ⟨hn,hv⟩:=zde hlk;obtain ⟨i,hi,rfl,hp⟩:=(hmem v).1 hv;rw [hnum] at hn;have:=zsO hs hm hi.1 hi.2;rw [hn] at this;rw [this] at hc;exact hc ⟨hi.1,hp⟩
def comb (f:Fld) (a q:zdD):zdD:=(a.1++q.1,a.2.1|| q.2.1,(if f.Repeated=true then a.2.2.1++q.2.2.1 else if q.2.1=true then q.2.2.1 else a.2.2.1),(if f.Repeated=true then a.2.2.2.1++q.2.2.2.1 else if q.2.1=true then q.2.2.2.1 else a.2.2.2.1),a.2.2.2.2++q.2.2.2.2)
theorem zLW (f:Fld) (a:zdD):comb f a acc0=a:=by
 unfold comb acc0;cases f.Repeated<;>simp
theorem zKa (g:Int->List UInt8->Msg) (f:Fld) (a q:zdD) (t:Th):stp g f (comb f a q) t=comb f a (stp g f q t):=by
 unfold stp comb;cases hr:f.Repeated
 ·by_cases h1:t.run=true
  ·simp [h1]
  ·by_cases h2:kNum f.Kind=true
   ·simp [h1,h2]
   ·by_cases h3:f.Kind=17
    ·have e:kNum 17=false:=rfl;simp [h1,h3,e]
    ·simp [h1,h2,h3]
 ·by_cases h1:t.run=true
  ·simp [h1]
  ·by_cases h2:kNum f.Kind=true
   ·simp [h1,h2]
   ·by_cases h3:f.Kind=17
    ·have e:kNum 17=false:=rfl;simp [h1,h3,e]
    ·simp [h1,h2,h3]
theorem ztR (g:Int->List UInt8->Msg) (f:Fld) (i:Int) (a:zdD):∀(l:List Th) (q:zdD),accF g f i (comb f a q) l=comb f a (accF g f i q l)
 | [],q=>rfl
 | t::l,q=>by
  rw [accF,accF];split
  ·rw [zKa,ztR g f i a l]
  ·rw [ztR g f i a l]
theorem zGC (g:Int->List UInt8->Msg) (f:Fld) (a:zdD) (t:Th):(stp g f a t).2.1=true:=by
 unfold stp;split;rfl;split;rfl;split;rfl;split<;>rfl
theorem zzf (g:Int->List UInt8->Msg) (f:Fld) (i:Int):∀(l:List Th) (a:zdD),a.2.1=true->(accF g f i a l).2.1=true
 | [],a,h=>h
 | t::l,a,h=>by
  rw [accF];refine zzf g f i l _ ?_;split
  ·exact zGC g f a t
  ·exact h
theorem zwy (g:Int->List UInt8->Msg) (f:Fld) (i:Int):∀(l:List Th) (a:zdD),(accF g f i a l).2.1=false->accF g f i a l=a
 | [],a,h=>rfl
 | t::l,a,h=>by
  rw [accF] at h|-;split at h
  ·rw [zzf g f i l _ (zGC g f a t)] at h;cases h
  ·rename_i ht;rw [xy ht];exact zwy g f i l a h
theorem zKb {s:List Mes} {d:Nat} {m:Mes} {f:Fld} {g:Int->List UInt8->Msg} {a:zdD} {t:Th} (ht:OkT s d m t) (hi:0<=t.fi) (hf:zJ m t.fi=f) (hr:f.Repeated=false) (wz:f.Kind≠17):
  0<(stp g f a t).2.2.1.length+(stp g f a t).2.2.2.1.length:=by
 have wP:=ht.run hi;rw [hf] at wP;unfold stp;by_cases h1:t.run=true
 ·have:=(wP h1).2.1;rw [hr] at this;cases this
 ·rw [xy h1];by_cases h2:kNum f.Kind=true
  ·rw [xz h2];simp;omega
  ·rw [xy h2,xy (fun hh=>wz hh.1),xy wz];simp;omega
theorem zzd {s:List Mes} {d:Nat} {m:Mes} {f:Fld} {g:Int->List UInt8->Msg} {i:Int} (hi:0<=i) (hf:zJ m i=f) (hr:f.Repeated=false) (wz:f.Kind≠17):∀(l:List Th) (a:zdD),(∀t∈l,OkT s d m t)->
  (a.2.1=true->0<a.2.2.1.length+a.2.2.2.1.length)->(accF g f i a l).2.1=true->0<(accF g f i a l).2.2.1.length+(accF g f i a l).2.2.2.1.length
 | [],a,_,h,hm=>h hm
 | t::l,a,ht,h,hm=>by
  rw [accF] at hm|-;refine zzd hi hf hr wz l _ (fun x hx=>ht x (xB _ hx)) ?_ hm;split
  ·rename_i hti;exact fun _=>zKb (ht t xA) (by omega) (by rw [hti];exact hf) hr wz
  ·exact h
theorem zEN {s:List Mes} (hs:zfs s):∀(N:Nat) (a z:List UInt8) (d k:Nat),a.length+z.length=N->k<s.length->zav s d k a=none->zav s d k z=none->ofM s k (a++z)=zfG s (ofM s k z) (ofM s k a) k:=by
 intro N
 induction N using Nat.strongRecOn with
 | _ N IH=>
  intro a z d k hN hk hva hvz;have hmm:zz s (k:Int)∈s:=by rw [zeG hk];exact xI hk
  have hvaz:=(zhU s d k z hva).2 hvz;have hra:=(znX hs _ a d k rfl hk hva).1;have hrz:=(znX hs _ z d k rfl hk hvz).1;have hraz:=(znX hs _ (a++z) d k rfl hk hvaz).1;obtain ⟨j1,j2⟩:=zqW hra hrz;obtain ⟨_,_,ra,_,_⟩:=zaZ hra;obtain ⟨_,_,rz,_,_⟩:=zaZ hrz;obtain ⟨_,_,raz,_,_⟩:=zaZ hraz;have hta:=zGG hva;have htz:=zGG hvz;have hwa:=zuI (zz s (k:Int)) a;have hwz:=zuI (zz s (k:Int)) z;have haz:=zyi hva hvz;have hvals:(ofM s k (a++z)).Values=(zfG s (ofM s k z) (ofM s k a) k).Values:=by
   refine zta raz j1 fun n=>?_
   rw [j2 n];rw [zmp] at raz ra rz;rw [zmp s k (a++z),zmp s k z,zmp s k a,zqX hs hmm raz,zqX hs hmm rz,zqX hs hmm ra,haz]
   generalize zz s (k:Int)=m at hmm hta htz hwa hwz
   rcases zdK m n with ⟨hf,_⟩| ⟨j,hj,hf,hjn,_⟩
   ·rw [hf];rw [xy (fun hh=>absurd hh.1 (by omega)),xy (fun hh=>absurd hh.1 (by omega)),xy (fun hh=>absurd hh.1 (by omega))]
   ·rw [hf];have hj0:(0:Int)<=(j:Int):=by omega
    simp only [hj0,yZ];have hfm:zJ m (j:Int)∈m.Fields:=by rw [zdJ hj];exact xI hj
    unfold zvt
    generalize hff:zJ m (j:Int)=f at hfm
    have hsub:f.Kind=17->∀v:List UInt8,v.length+1<=N->∀e,zav s e f.Of v=none->zaE s (ofM s f.Of v) f.Of=true/\dM (ofM s f.Of v)<=e:=fun wz v _ e he=>by
     have hof:=(hs.fld _ hmm f hfm).sub wz;obtain ⟨q,hq⟩:∃q:Nat,f.Of=q:=⟨f.Of.toNat,by omega⟩;rw [hq] at he|-;exact znX hs v.length v e q rfl (by omega) he
    have ha1:=zvS (g:=ofM s) hj0 hff acc0 (ths m a) (zAv s d f) hta (fun t ht wz e he hv=>hsub wz _ (by have:=zyB ht;omega) e hv);have hz1:=zvS (g:=ofM s) hj0 hff acc0 (ths m z) (zAv s d f) htz (fun t ht wz e he hv=>hsub wz _ (by have:=zyB ht;omega) e hv);have hca:=ztR (ofM s) f j (accF (ofM s) f j acc0 (ths m a)) (ths m z) acc0;rw [zLW] at hca;rw [zmQ,hca];have hma:=zwy (ofM s) f j (ths m a) acc0;have hmz:=zwy (ofM s) f j (ths m z) acc0;have hnz:=fun hr wz=>zzd (g:=ofM s) hj0 hff hr wz (ths m z) acc0 htz (fun hh=>nomatch hh)
    have hja:=(zwA (ofM s) f j acc0 (ths m a)).2;have hjz:=(zwA (ofM s) f j acc0 (ths m z)).2;have j0:wJ acc0=0:=rfl;rw [j0] at hja hjz
    generalize accF (ofM s) f j acc0 (ths m a)=q1 at ha1 hma hja
    generalize accF (ofM s) f j acc0 (ths m z)=q2 at hz1 hmz hnz hjz
    have e0:zbS (valO (ofM s) f acc0)=0:=by unfold zbS valO acc0;simp
    cases hm2:q2.2.1 with
    | false=>
     rw [hmz hm2,zLW,e0,xy (show ¬(0<0) by omega)]
    | true=>
     cases hr:f.Repeated with
     | true=>
      have v1:valO (ofM s) f q1=⟨f.Number,q1.2.2.1,q1.2.2.2.1,q1.2.2.2.2⟩:=by unfold valO;rw [xy (fun hh=>by rw [hr] at hh;cases hh.2.2)]
      have v2:valO (ofM s) f q2=⟨f.Number,q2.2.2.1,q2.2.2.2.1,q2.2.2.2.2⟩:=by unfold valO;rw [xy (fun hh=>by rw [hr] at hh;cases hh.2.2)]
      have v12:valO (ofM s) f (comb f q1 q2)=⟨f.Number,q1.2.2.1++q2.2.2.1,q1.2.2.2.1++q2.2.2.2.1,q1.2.2.2.2++q2.2.2.2.2⟩:=by
       unfold valO;rw [xy (fun hh=>by rw [hr] at hh;cases hh.2.2)];unfold comb;simp [hr]
      rw [v1,v2,v12];have nil2:∀(x y w:Nat),x+y+w=0->x=0/\y=0/\w=0:=by omega
      by_cases h2:0<zbS (⟨f.Number,q2.2.2.1,q2.2.2.2.1,q2.2.2.2.2⟩:Vlu)
      ·rw [xz h2];simp only;rw [xz (by unfold zbS at h2|-;simp only [xF] at h2|-;omega),zhb];by_cases h1:0<zbS (⟨f.Number,q1.2.2.1,q1.2.2.2.1,q1.2.2.2.2⟩:Vlu)
       ·rw [xz h1];simp only;rw [xz hr]
       ·rw [xy h1];simp only;unfold zbS at h1;simp only at h1;obtain ⟨n1,n2,n3⟩:=nil2 _ _ _ (show q1.2.2.1.length+q1.2.2.2.1.length+q1.2.2.2.2.length=0 by omega);rw [yI n1,yI n2,yI n3];rfl
      ·rw [xy h2];simp only;unfold zbS at h2;simp only at h2;obtain ⟨n1,n2,n3⟩:=nil2 _ _ _ (show q2.2.2.1.length+q2.2.2.2.1.length+q2.2.2.2.2.length=0 by omega);rw [yI n1,yI n2,yI n3];simp only [yq]
     | false=>
      have s1:=(ha1.one hr).2.2;have s2:=(hz1.one hr).2.2;by_cases wz:f.Kind=17
      ·have nw:∀q:zdD,zws s d f q->q.2.2.1=[]/\q.2.2.2.1=[]:=fun q hq=>by
        constructor
        ·cases hw:q.2.2.1 with
         | nil=>rfl
         | cons w l=>
          have:=hq.words w (by rw [hw];exact xA);unfold zjO at this;rw [wz] at this;simp [kNum] at this
        ·cases hw:q.2.2.2.1 with
         | nil=>rfl
         | cons w l=>
          have:=hq.texts w (by rw [hw];exact xA);unfold zlt at this;rw [wz] at this;simp at this
       obtain ⟨a1,a2⟩:=nw q1 ha1;obtain ⟨z1,z2⟩:=nw q2 hz1;have v2:valO (ofM s) f q2=⟨f.Number,[],[],[ofM s f.Of q2.1]⟩:=by unfold valO;rw [xz ⟨hm2,wz,hr⟩,z1,z2]
       have m2:0<zbS (⟨f.Number,[],[],[ofM s f.Of q2.1]⟩:Vlu):=by simp [zbS]
       rw [v2,xz m2];simp only;cases hm1:q1.2.1 with
       | false=>
        have hq1:=hma hm1;rw [hq1,e0,xy (show ¬(0<0) by omega),zhb];simp only;have v12:valO (ofM s) f (comb f acc0 q2)=⟨f.Number,[],[],[ofM s f.Of q2.1]⟩:=by
         unfold valO comb acc0;simp [hm2,wz,hr,z1,z2]
        rw [v12,xz m2]
       | true=>
        have v1:valO (ofM s) f q1=⟨f.Number,[],[],[ofM s f.Of q1.1]⟩:=by unfold valO;rw [xz ⟨hm1,wz,hr⟩,a1,a2]
        have v12:valO (ofM s) f (comb f q1 q2)=⟨f.Number,[],[],[ofM s f.Of (q1.1++q2.1)]⟩:=by
         unfold valO comb;simp [hm1,hm2,wz,hr,z1,z2]
        obtain ⟨e,he⟩:=hz1.met hm2 wz;have jv1:=ha1.join wz e he;have jv2:=hz1.join wz e he;rw [wJ,xz hm1] at hja;rw [wJ,xz hm2] at hjz;have hof:=(hs.fld _ hmm f hfm).sub wz;obtain ⟨q,hq⟩:∃q:Nat,f.Of=q:=⟨f.Of.toNat,by omega⟩;have hih:ofM s f.Of (q1.1++q2.1)=zfG s (ofM s f.Of q2.1) (ofM s f.Of q1.1) f.Of:=by
         rw [hq] at jv1 jv2|-;exact IH (q1.1.length+q2.1.length) (by omega) _ _ e q rfl (by omega) jv1 jv2
        rw [v1,v12,xz (by simp [zbS]),xz (by simp [zbS]),zhb];simp only;rw [xy (by rw [hr];simp),xz wz,zkk,hih]
      ·have v1:valO (ofM s) f q1=⟨f.Number,q1.2.2.1,q1.2.2.2.1,[]⟩:=by unfold valO;rw [xy (fun hh=>wz hh.2.1),s1]
       have v2:valO (ofM s) f q2=⟨f.Number,q2.2.2.1,q2.2.2.2.1,[]⟩:=by unfold valO;rw [xy (fun hh=>wz hh.2.1),s2]
       have v12:valO (ofM s) f (comb f q1 q2)=⟨f.Number,q2.2.2.1,q2.2.2.2.1,[]⟩:=by
        unfold valO;rw [xy (fun hh=>wz hh.2.1)];unfold comb;simp [hr,hm2,s1,s2]
       have m2:0<zbS (⟨f.Number,q2.2.2.1,q2.2.2.2.1,[]⟩:Vlu):=by
        have:=hnz hr wz hm2;unfold zbS;simp only [yv];omega
       rw [v12,v2,xz m2];simp only;rw [zhb];split
       ·rfl
       ·rw [xy (by rw [hr];simp),xy wz]
  have hunk:(ofM s k (a++z)).Unknown=(zfG s (ofM s k z) (ofM s k a) k).Unknown:=by
   rw [zkT,zmp s k (a++z),zmp s k z,zmp s k a,haz];unfold zmm unkO;simp only [pM,yx]
  generalize ofM s k (a++z)=x at hvals hunk|-
  generalize zfG s (ofM s k z) (ofM s k a) k=y at hvals hunk|-
  cases x;cases y;simp only at hvals hunk;rw [hvals,hunk]
def zeh (s:List Mes) (root:Int) (l:List Msg):Int:=if zgr s root≠0 then zgr s root else if l.all (fun x=>zaE s x root)=true then 0 else 12
mutual
/-- Kept or left by ways. -/
def zti (s:List Mes):Msg->Int->List zaS->Bool->Msg
 | ⟨vs,u⟩,k,w,keep=>⟨zjB s vs (zz s k) w keep,if keep=true then [] else u⟩
def zjB (s:List Mes):List Vlu->Mes->List zaS->Bool->List Vlu
 | [],_,_,_=>[]
 | v::l,m,w,keep=>zxJ s v (zJ m (fldI m v.Number)) w keep++zjB s l m w keep
def zxJ (s:List Mes):Vlu->Fld->List zaS->Bool->List Vlu
 | ⟨n,a,t,sub⟩,f,w,keep=>if zpd w n=false/\znw w n≠[]/\f.Kind=17/\f.Repeated=false then [⟨n,[],[],zqg s sub f.Of (znw w n) keep⟩]
  else if zpd w n=keep then [⟨n,a,t,sub⟩] else []
def zqg (s:List Mes):List Msg->Int->List zaS->Bool->List Msg
 | [],_,_,_=>[]
 | x::_,k,w,keep=>[zti s x k w keep]
end
theorem zxH (s:List Mes) (x:Msg) (k:Int) (w:List zaS) (keep:Bool):zti s x k w keep=⟨zjB s x.Values (zz s k) w keep,if keep=true then [] else x.Unknown⟩:=by cases x;rw [zti]
theorem ztj (s:List Mes) (v:Vlu) (f:Fld) (w:List zaS) (keep:Bool):zxJ s v f w keep=if zpd w v.Number=false/\znw w v.Number≠[]/\f.Kind=17/\f.Repeated=false then [⟨v.Number,[],[],zqg s v.Subs f.Of (znw w v.Number) keep⟩]
  else if zpd w v.Number=keep then [v] else []:=by cases v;rw [zxJ]
theorem zHy (s:List Mes) (v:Vlu) (f:Fld) (w:List zaS) (keep:Bool):(zxJ s v f w keep).length<=1:=by
 rw [ztj];split;simp;split<;>simp
def zvlu:Vlu:=⟨0,[],[],[]⟩
theorem zEy (hv:zgX s v f) (ho:∀u,o=some u->zgX s u f)
  (ih:∀x∈v.Subs,∀y:Msg,zaE s x f.Of=true->zaE s y f.Of=true->zaE s (zfG s x y f.Of) f.Of=true):zgX s (zgo s v o f) f:=by
 have hm:=zsb hv ho;rw [zhb] at hm|-;cases o with
 | none=>exact hv
 | some u=>
  have hu:=ho u rfl;simp only at hm|-;by_cases hr:f.Repeated=true
  ·rw [xz hr] at hm|-;refine ⟨hm,(fun h=>by rw [hr] at h;cases h),hv.kind,fun w hw=>?_,fun w hw=>?_,fun w hw=>?_⟩
   ·rcases xG.1 hw with hw| hw
    ·exact hu.words w hw
    ·exact hv.words w hw
   ·rcases xG.1 hw with hw| hw
    ·exact hu.texts w hw
    ·exact hv.texts w hw
   ·rcases xG.1 hw with hw| hw
    ·exact hu.subs w hw
    ·exact hv.subs w hw
  ·rw [xy hr] at hm|-;by_cases wz:f.Kind=17
   ·rw [xz wz] at hm|-;obtain ⟨x,hvx,hx⟩:=hv.msg wz (by simpa using hr);obtain ⟨y,huy,hy⟩:=hu.msg wz (by simpa using hr);have hvs:v.Subs=[x]:=by rw [hvx]
    have hus:u.Subs=[y]:=by rw [huy]
    rw [hvs,hus,zkk];refine ⟨by simp [zbS],(fun _=>by simp [zbS]),hv.kind,(fun w hw=>nomatch hw),(fun w hw=>nomatch hw),fun w hw=>?_⟩;rw [ya.1 hw];exact ⟨wz,ih x (by rw [hvs];exact xA) y hx hy⟩
   ·rw [xy wz] at hm|-;exact hv
theorem zva :∀(N:Nat) (b a:Msg) (k:Int),szM b<=N->zaE s a k=true->zaE s b k=true->zaE s (zfG s b a k) k=true
 | 0,b,a,k,h,_,_=>by rw [zcA] at h;omega
 | N+1,b,a,k,wG,ha,hb=>by
  obtain ⟨k0,k1,ra,ha',ua⟩:=zaZ ha;obtain ⟨_,_,rb,hb',ub⟩:=zaZ hb;obtain ⟨j1,j2⟩:=zqW ha hb;rw [zcA] at wG;refine zAa k0 k1 j1 (fun v hv=>?_) fun u hu=>?_
  ·have hl:=zxq j1 hv;rw [j2] at hl;cases hbl:look b.Values v.Number with
   | none=>
    rw [hbl] at hl;simp only at hl;exact ha' v (zde hl).2
   | some w=>
    rw [hbl] at hl;simp only at hl;obtain ⟨wn,wm⟩:=zde hbl;obtain ⟨w0,wf⟩:=hb' w wm;rw [wn] at w0 wf;have hfw:=zdd wf;have s1:=zdA wm;rw [zeq] at s1;refine ⟨w0,zFH ?_⟩;have hvj:zgo s w (look a.Values v.Number) (zJ (zz s k) (fldI (zz s k) v.Number))=v:=qb hl;have:=zEy (o:=look a.Values v.Number) hfw (fun u hu=>by
     obtain ⟨un,um⟩:=zde hu;have:=zdd (ha' u um).2;rw [un] at this;exact this) fun x hx y hxr hyr=>by
      have:=zdP hx;exact zva N x y _ (by omega) hyr hxr
    rw [hvj] at this;exact this
  ·rw [zkT] at hu;rcases xG.1 hu with hu| hu
   ·exact ua u hu
   ·exact ub u hu
theorem zAb (hg:∀v u,g v=some u->u.Number=v.Number):∀{l:List Vlu},zdi l->zdi (l.filterMap g)
 | [],_=> .nil
 | v::l,h=>by
  obtain ⟨h1,h2⟩:=yf.1 h;have ih:=zAb hg h2;cases e:g v with
  | none=>rw [List.filterMap_cons_none e];exact ih
  | some u=>
   rw [List.filterMap_cons_some e];refine yf.2 ⟨fun w hw=>?_,ih⟩;obtain ⟨w',hw',e'⟩:=List.mem_filterMap.1 hw;rw [hg _ _ e,hg _ _ e'];exact h1 w' hw'
def goB (m:Mes) (w:List zaS) (v:Vlu):Bool:= !zpd w v.Number&&decide (znw w v.Number≠[])&&decide ((zJ m (fldI m v.Number)).Kind=17)&& !(zJ m (fldI m v.Number)).Repeated
theorem zAT :goB m w v=true↔zpd w v.Number=false/\znw w v.Number≠[]/\(zJ m (fldI m v.Number)).Kind=17/\(zJ m (fldI m v.Number)).Repeated=false:=by
 unfold goB;simp only [xC,yb,yc,and_assoc]
def inV (s:List Mes) (m:Mes) (w:List zaS) (keep:Bool) (v:Vlu):Vlu:=⟨v.Number,[],[],zqg s v.Subs (zJ m (fldI m v.Number)).Of (znw w v.Number) keep⟩
def zxI (s:List Mes) (m:Mes) (w:List zaS) (keep:Bool) (v:Vlu):Option Vlu:=if goB m w v=true then some (inV s m w keep v) else if zpd w v.Number=keep then some v else none
theorem zzQ (v u:Vlu) (h:zxI s m w keep v=some u):u.Number=v.Number:=by
 unfold zxI at h;split at h
 ·cases h;rfl
 ·split at h
  ·cases h;rfl
  ·cases h
theorem zzR (s:List Mes) (m:Mes) (w:List zaS) (keep:Bool):∀l:List Vlu,zjB s l m w keep=l.filterMap (zxI s m w keep)
 | []=>by rw [zjB];rfl
 | v::l=>by
  rw [zjB,zzR s m w keep l,ztj];by_cases hg:goB m w v=true
  ·rw [xz (zAT.1 hg),List.filterMap_cons_some (b:=inV s m w keep v) (by unfold zxI;rw [xz hg])];rfl
  ·rw [xy (fun h=>hg (zAT.2 h))];by_cases hk:zpd w v.Number=keep
   ·rw [xz hk,List.filterMap_cons_some (b:=v) (by unfold zxI;rw [xy hg,xz hk])];rfl
   ·rw [xy hk,List.filterMap_cons_none (by unfold zxI;rw [xy hg,xy hk])];rfl
theorem zKP (hg:goB m w v=true) (hf:zgX s v (zJ m (fldI m v.Number))):∃y,v=⟨v.Number,[],[],[y]⟩/\zaE s y (zJ m (fldI m v.Number)).Of=true/\∀keep,inV s m w keep v=⟨v.Number,[],[],[zti s y (zJ m (fldI m v.Number)).Of (znw w v.Number) keep]⟩:=by
 obtain ⟨_,_,h3,h4⟩:=zAT.1 hg;obtain ⟨y,e,hy⟩:=hf.msg h3 h4;have hs:v.Subs=[y]:=by rw [e]
 refine ⟨y,e,hy,fun keep=>?_⟩;unfold inV;rw [hs,zqg]
theorem zII (hf:zgX s ⟨n,[],[],[y]⟩ f) (hz:zaE s z f.Of=true):zgX s ⟨k,[],[],[z]⟩ f:=
 ⟨by simp [zbS],(fun _=>by simp [zbS]),hf.kind,(fun w hw=>nomatch hw),(fun w hw=>nomatch hw),fun w hw=>by rw [ya.1 hw];exact ⟨(hf.subs y xA).1,hz⟩⟩
theorem zNn (hv:v∈x.Values) (e:v=⟨v.Number,[],[],[y]⟩):szM y<szM x:=by
 have s1:=zdA hv;rw [zeq] at s1;have hs:v.Subs=[y]:=by rw [e]
 have s2:szM y<=szMs v.Subs:=zdP (by rw [hs];exact xA);rw [zcA x];omega
theorem zvl :∀(N:Nat) (x:Msg) (k:Int) (w:List zaS) (keep:Bool),szM x<=N->zaE s x k=true->zaE s (zti s x k w keep) k=true
 | 0,x,k,w,keep,h,_=>by rw [zcA] at h;omega
 | N+1,x,k,w,keep,wG,hx=>by
  obtain ⟨k0,k1,rx,hx',ux⟩:=zaZ hx;rw [zxH,zzR];refine zAa k0 k1 (zAb zzQ rx) (fun v hv=>?_) fun u hu=>?_
  ·obtain ⟨v0,hv0,e⟩:=List.mem_filterMap.1 hv;obtain ⟨w0,wf⟩:=hx' v0 hv0;have hn:=zzQ _ _ e;unfold zxI at e;by_cases hg:goB (zz s k) w v0=true
   ·rw [xz hg] at e;have hf:=zdd wf;obtain ⟨y,e1,hy,hin⟩:=zKP hg hf;rw [hin] at e;have hsy:=zNn hv0 e1;rw [hn];refine ⟨w0,zFH ?_⟩;rw [<-qb e];rw [e1] at hf;exact zII hf (zvl N y _ _ _ (by omega) hy)
   ·rw [xy hg] at e;by_cases hk:zpd w v0.Number=keep
    ·rw [xz hk] at e;rw [<-qb e];exact ⟨w0,wf⟩
    ·rw [xy hk] at e;cases e
  ·cases keep with
   | true=>exact absurd hu (by simp)
   | false=>exact ux u hu
theorem zxg (s:List Mes) (a:Msg) (m:Mes):∀(l acc:List Vlu),(zii s l a m acc).length<=acc.length+l.length
 | [],acc=>by rw [zii];simp
 | v::l,acc=>by
  rw [zii];have h1:=zxg s a m l (putM ⟨acc,[]⟩ (zgo s v (look a.Values v.Number) (zJ m (fldI m v.Number)))).Values;have h2:=zJF acc [] (zgo s v (look a.Values v.Number) (zJ m (fldI m v.Number)));simp only [xU];omega
theorem zAZ :∀(N:Nat) (b a:Msg) (k:Int),szM b<=N->zaE s a k=true->zaE s b k=true->bdM a->bdM b->smM a->smM b->bdM (zfG s b a k)
 | 0,b,a,k,h,_,_,_,_,_,_=>by rw [zcA] at h;omega
 | N+1,b,a,k,wG,ha,hb,ba,bb,sa,sb'=>by
  obtain ⟨_,_,ra,ha',_⟩:=zaZ ha;obtain ⟨_,_,rb,hb',_⟩:=zaZ hb;obtain ⟨j1,j2⟩:=zqW ha hb;obtain ⟨a1,⟨a2,a3⟩,a4⟩:=(zhD a).1 ba;obtain ⟨b1,⟨b2,b3⟩,b4⟩:=(zhD b).1 bb;obtain ⟨sa1,⟨sa2,sa3⟩,sa4⟩:=(znt a).1 sa;obtain ⟨sb1,⟨sb2,sb3⟩,sb4⟩:=(znt b).1 sb';rw [zcA] at wG;have wD:(zfG s b a k).Values.length<=a.Values.length+b.Values.length:=by rw [zkT];exact zxg s a _ _ _
  have hun:(zfG s b a k).Unknown=a.Unknown++b.Unknown:=by rw [zkT]
  refine (zhD _).2 ⟨by omega,⟨by rw [hun];simp;omega,fun t ht=>by
   rw [hun] at ht;rcases xG.1 ht with h| h
   ·exact a3 t h
   ·exact b3 t h⟩,zdr.2 fun x hx=>?_⟩
  have hl:=zxq j1 hx;rw [j2] at hl;cases hlb:look b.Values x.Number with
  | none=>rw [hlb] at hl;exact zdr.1 a4 x (zde hl).2
  | some v=>
   rw [hlb] at hl;have e:x=zgo s v (look a.Values x.Number) (zJ (zz s k) (fldI (zz s k) x.Number)):=(qb hl).symm;obtain ⟨hvn,hvm⟩:=zde hlb;have bv:=zdr.1 b4 v hvm;have sv:=ziy.1 sb4 v hvm;rw [e,zhb];cases hla:look a.Values x.Number with
   | none=>exact bv
   | some u=>
    obtain ⟨hun',hum⟩:=zde hla;have bu:=zdr.1 a4 u hum;have su:=ziy.1 sa4 u hum;obtain ⟨v1,⟨v2,v3⟩,⟨v4,v5⟩,v6,v7⟩:=(zgs v).1 bv;obtain ⟨u1,⟨u2,u3⟩,⟨u4,u5⟩,u6,u7⟩:=(zgs u).1 bu;obtain ⟨q1,⟨q2,q3⟩,q4,q5⟩:=(zqv v).1 sv;obtain ⟨r1,⟨r2,r3⟩,r4,r5⟩:=(zqv u).1 su;simp only;split
    ·refine (zgs _).2 ⟨v1,⟨by simp;omega,fun w hw=>?_⟩,⟨by simp;omega,fun w hw=>?_⟩,by simp;omega,zeg.2 fun w hw=>?_⟩
     ·rcases xG.1 hw with h| h
      ·exact u3 w h
      ·exact v3 w h
     ·rcases xG.1 hw with h| h
      ·exact u5 w h
      ·exact v5 w h
     ·rcases xG.1 hw with h| h
      ·exact zeg.1 u7 w h
      ·exact zeg.1 v7 w h
    ·split
     ·rename_i hrep wz;have fv:=hb' v hvm;have fu:=ha' u hum;rw [hvn] at fv;rw [hun'] at fu;have ov:=zdd fv.2;have ou:=zdd fu.2;refine (zgs _).2 ⟨v1,⟨by simp,by simp⟩,⟨by simp,by simp⟩,?_⟩;cases hvs:v.Subs with
      | nil=>rw [zkk];exact ⟨by simp,by rw [bdMs];trivial⟩
      | cons y ys=>
       cases hus:u.Subs with
       | nil=>rw [zkk];exact ⟨by simp,by rw [bdMs];trivial⟩
       | cons z zs=>
        rw [zkk];simp only;have hy:y∈v.Subs:=by rw [hvs];exact xA
        have hz:z∈u.Subs:=by rw [hus];exact xA
        have hsv:=zdA hvm;rw [zeq] at hsv;have hsy:=zdP hy;have hj:=zAZ N y z _ (by omega) (ou.subs z hz).2 (ov.subs y hy).2 (zeg.1 u7 z hz) (zeg.1 v7 y hy) (zix.1 r5 z hz) (zix.1 q5 y hy);exact ⟨by simp,by rw [bdMs,bdMs];exact ⟨hj,trivial⟩⟩
     ·exact bv
theorem zvr:∀(l m:List Vlu),szVs (l++m)=szVs l+szVs m
 | [],m=>by rw [xK,szVs];omega
 | v::l,m=>by rw [yi,szVs,szVs,zvr l m];omega
theorem zGr :∀(N:Nat) (x:Msg) (k:Int) (w:List zaS) (keep:Bool),szM x<=N->bdM x->bdM (zti s x k w keep)/\szM (zti s x k w keep)<=szM x
 | 0,x,k,w,keep,h,_=>by rw [zcA] at h;omega
 | N+1,x,k,w,keep,wG,hb=>by
  obtain ⟨b1,⟨b2,b3⟩,b4⟩:=(zhD x).1 hb;rw [zcA] at wG;have key:∀v∈x.Values,∀f:Fld,(∀u∈zxJ s v f w keep,bdV u)/\szVs (zxJ s v f w keep)<=szV v:=fun v hv f=>by
   have bv:=zdr.1 b4 v hv;obtain ⟨v1,v2,v3,v6,v7⟩:=(zgs v).1 bv;have hsv:=zdA hv;have hve:=zeq v;rw [ztj];split
   ·cases hs:v.Subs with
    | nil=>
     rw [zqg];refine ⟨fun u hu=>?_,?_⟩
     ·rw [ya.1 hu];exact (zgs _).2 ⟨v1,⟨by simp,by simp⟩,⟨by simp,by simp⟩,by simp,by rw [bdMs];trivial⟩
     ·rw [szVs,szVs,zeq];simp only;rw [szMs];omega
    | cons y ys=>
     have hy:y∈v.Subs:=by rw [hs];exact xA
     have hsy:=zdP hy;obtain ⟨p1,p2⟩:=zGr N y f.Of (znw w v.Number) keep (by omega) (zeg.1 v7 y hy);rw [zqg];refine ⟨fun u hu=>?_,?_⟩
     ·rw [ya.1 hu];exact (zgs _).2 ⟨v1,⟨by simp,by simp⟩,⟨by simp,by simp⟩,by simp,by rw [bdMs,bdMs];exact ⟨p1,trivial⟩⟩
     ·rw [szVs,szVs,zeq];simp only;rw [szMs,szMs];omega
   ·split
    ·refine ⟨(fun u hu=>by rw [ya.1 hu];exact bv),?_⟩;rw [szVs,szVs];omega
    ·exact ⟨(fun u hu=>by cases hu),(by rw [szVs];omega)⟩
  have all:∀l:List Vlu,(∀v∈l,v∈x.Values)->(∀u∈zjB s l (zz s k) w keep,bdV u)/\szVs (zjB s l (zz s k) w keep)<=szVs l/\(zjB s l (zz s k) w keep).length<=l.length:=by
   intro l
   induction l with
   | nil=>intro _;rw [zjB];exact ⟨(fun u hu=>by cases hu),xE _,xE _⟩
   | cons v l ih=>
    intro h;obtain ⟨i1,i2,i3⟩:=ih fun u hu=>h u (xB _ hu)
    obtain ⟨k1,k2⟩:=key v (h v xA) (zJ (zz s k) (fldI (zz s k) v.Number));have k3:=zHy s v (zJ (zz s k) (fldI (zz s k) v.Number)) w keep;rw [zjB];refine ⟨fun u hu=>?_,?_,?_⟩
    ·rcases xG.1 hu with hu| hu
     ·exact k1 u hu
     ·exact i1 u hu
    ·rw [zvr,szVs];omega
    ·rw [xF,xU];omega
  obtain ⟨a1,a2,a3⟩:=all x.Values fun v hv=>hv
  rw [zxH];refine ⟨(zhD _).2 ⟨by simp only;omega,⟨?_,?_⟩,zdr.2 a1⟩,by rw [zcA,zcA];simp only;omega⟩
  ·simp only;cases keep<;>simp<;>omega
  ·simp only;cases keep with
   | true=>intro t ht;cases ht
   | false=>exact b3
theorem zvv:∀(N:Nat) (x:Msg),szM x<=N->szM x<=wgM x
 | 0,x,h=>by rw [zcA] at h;omega
 | N+1,x,h=>by
  rw [zcA] at h;have hv:∀v∈x.Values,szV v<=wgV v:=fun v hv=>by
   have h1:=zdA hv;have he:=zeq v;have:∀l:List Msg,(∀y∈l,y∈v.Subs)->szMs l<=wgMs l:=by
    intro l
    induction l with
    | nil=>intro _;rw [szMs];omega
    | cons y l ih=>
     intro hl;have hy:=hl y xA;have h2:=zdP hy;have:=zvv N y (by omega);have:=ih fun z hz=>hl z (xB _ hz)
     rw [szMs,wgMs];omega
   have:=this v.Subs fun y hy=>hy
   rw [he,ziQ];omega
  have:∀l:List Vlu,(∀v∈l,v∈x.Values)->szVs l<=wgVs l:=by
   intro l
   induction l with
   | nil=>intro _;rw [szVs];omega
   | cons v l ih=>
    intro hl;have:=hv v (hl v xA);have:=ih fun z hz=>hl z (xB _ hz)
    rw [szVs,wgVs];omega
  have:=this x.Values fun v hv=>hv
  rw [zcA,zjN];omega
theorem zKs:∀(N:Nat) (x:Msg),szM x<=N->wgM x<=1048576->smM x
 | 0,x,h,_=>by rw [zcA] at h;omega
 | N+1,x,h,hw=>by
  rw [zcA] at h;rw [zjN] at hw;have hl:=zDO x.Values;have hu:=zBA (l:=x.Unknown);refine (znt _).2 ⟨by omega,⟨by omega,fun t ht=>by have:=zoY ht;omega⟩,ziy.2 fun v hv=>?_⟩;have h1:=zdA hv;have h2:=zqH hv;rw [zeq] at h1;rw [ziQ] at h2;have ht:=zBA (l:=v.Texts);have hs:=zDM v.Subs;refine (zqv _).2 ⟨by omega,⟨by omega,fun t ht=>by have:=zoY ht;omega⟩,by omega,zix.2 fun y hy=>?_⟩;have h3:=zdP hy;have h4:=zli hy;exact zKs N y (by omega) (by omega)
theorem ztO:∀(l m:List Vlu),wgVs (l++m)=wgVs l+wgVs m
 | [],m=>by rw [xK,wgVs];omega
 | v::l,m=>by rw [yi,wgVs,wgVs,ztO l m];omega
theorem zDL:∀(l m:List Msg),wgMs (l++m)=wgMs l+wgMs m
 | [],m=>by rw [xK,wgMs];omega
 | v::l,m=>by rw [yi,wgMs,wgMs,zDL l m];omega
def wgO:Option Vlu->Nat
 | none=>0
 | some u=>wgV u
theorem zJH (v:Vlu):∀(d:Bool) (l:List Vlu),zdi l->wgVs (putL v d l)+wgO (look l v.Number)<=wgVs l+(if d=true then 0 else wgV v)
 | d,[],_=>by
  rw [putL];cases d
  ·show wgVs [v]+0<=_;simp [wgVs]
  ·show wgVs []+0<=_;simp
 | d,u::l,h=>by
  obtain ⟨h1,h2⟩:=yf.1 h;have ih:=zJH v (d|| decide (v.Number<=u.Number)) l h2;rw [putL,ztO,ztO,zct,wgVs];by_cases he:u.Number=v.Number
  ·rw [xz he,xz he];have hn:look l v.Number=none:=zoN fun x hx=>by have:=h1 x hx;omega
   rw [hn] at ih;have hle:decide (v.Number<=u.Number)=true:=by simp;omega
   rw [hle,qN,xz rfl] at ih;simp only [wgO,wgVs,hle,qN] at ih|-;cases d
   ·rw [xz ⟨rfl,by omega⟩,wgVs,wgVs];simp;omega
   ·rw [xy (by simp),wgVs];simp;omega
  ·rw [xy he,xy he,wgVs,wgVs];cases d
   ·by_cases hv:v.Number<=u.Number
    ·rw [xz ⟨rfl,hv⟩,wgVs,wgVs];simp only [hv,pL,qN,yj,qD,yH] at ih|-;omega
    ·rw [xy (fun hh=>hv hh.2),wgVs];simp only [hv,decide_false,qT,qD,yH] at ih|-;omega
   ·rw [xy (by simp),wgVs];simp only [Bool.true_or,yj] at ih|-;omega
theorem zzG :∀(l acc:List Vlu),zdi l->zdi acc->(∀v∈l,look acc v.Number=look a.Values v.Number)->(∀v∈l,wgV (zgo s v (look a.Values v.Number) (zJ m (fldI m v.Number)))<=wgV v+wgO (look a.Values v.Number))->wgVs (zii s l a m acc)<=wgVs acc+wgVs l
 | [],acc,_,_,_,_=>by rw [zii];omega
 | v::l,acc,hl,ha,he,hw=>by
  obtain ⟨l1,l2⟩:=yf.1 hl;have hv:=he v xA;have hwv:=hw v xA;have hn:=znP s v (look a.Values v.Number) (zJ m (fldI m v.Number));rw [zii]
  generalize zgo s v (look a.Values v.Number) (zJ m (fldI m v.Number))=v' at hn hwv|-
  have hp:=zJH v' (decide (zbS v'=0)) acc ha;have ih:=zzG (s:=s) (a:=a) (m:=m) l (putM ⟨acc,[]⟩ v').Values l2 (zmZ ha) (fun u hu=>by
   show look (putL v' _ acc) u.Number=_;have:=l1 u hu;rw [ztb ha,xy (by omega)];exact he u (xB _ hu)) (fun u hu=>hw u (xB _ hu))
  have hq:wgVs (putM ⟨acc,[]⟩ v').Values=wgVs (putL v' (decide (zbS v'=0)) acc):=rfl;rw [hn,hv] at hp;rw [wgVs];split at hp<;>omega
theorem zFO :∀(N:Nat) (b a:Msg) (k:Int),szM b<=N->zaE s a k=true->zaE s b k=true->wgM (zfG s b a k)<=wgM a+wgM b
 | 0,b,a,k,h,_,_=>by rw [zcA] at h;omega
 | N+1,b,a,k,wG,ha,hb=>by
  obtain ⟨_,_,ra,ha',_⟩:=zaZ ha;obtain ⟨_,_,rb,hb',_⟩:=zaZ hb;rw [zcA] at wG;have:=zzG (s:=s) (a:=a) (m:=zz s k) b.Values a.Values rb ra (fun _ _=>rfl) fun v hv=>by
   rw [zhb];cases hla:look a.Values v.Number with
   | none=>simp only [wgO];omega
   | some u=>
    obtain ⟨hun,hum⟩:=zde hla;have hve:=ziQ v;have hue:=ziQ u;simp only [wgO];split
    ·rw [ziQ];simp only [xF,yx,List.sum_append,zDL];omega
    ·split
     ·rename_i hrep wz;have ov:=zdd (hb' v hv).2;have ou:=zdd (ha' u hum).2;rw [hun] at ou;have hsv:=zdA hv;rw [zeq] at hsv;rw [ziQ];simp only [yv,yX,List.sum_nil];cases hvs:v.Subs with
      | nil=>rw [zkk,wgMs];omega
      | cons y ys=>
       cases hus:u.Subs with
       | nil=>rw [zkk,wgMs];omega
       | cons z zs=>
        rw [zkk];have hy:y∈v.Subs:=by rw [hvs];exact xA
        have hz:z∈u.Subs:=by rw [hus];exact xA
        have hsy:=zdP hy;have hj:=zFO N y z _ (by omega) (ou.subs z hz).2 (ov.subs y hy).2;have w1:=zli hy;have w2:=zli hz;rw [wgMs,wgMs];omega
     ·omega
  rw [zkT,zjN,zjN,zjN];simp only [yx,List.sum_append];omega
theorem zGs :∀(N:Nat) (x:Msg) (k:Int) (w:List zaS) (keep:Bool),szM x<=N->wgM (zti s x k w keep)<=wgM x
 | 0,x,k,w,keep,h=>by rw [zcA] at h;omega
 | N+1,x,k,w,keep,wG=>by
  rw [zcA] at wG;have key:∀v∈x.Values,∀f:Fld,wgVs (zxJ s v f w keep)<=wgV v:=fun v hv f=>by
   have hsv:=zdA hv;rw [zeq] at hsv;have hve:=ziQ v;rw [ztj];split
   ·cases hs:v.Subs with
    | nil=>
     rw [zqg,wgVs,wgVs,ziQ];simp only [yv,yX,List.sum_nil];rw [wgMs];omega
    | cons y ys=>
     have hy:y∈v.Subs:=by rw [hs];exact xA
     have hsy:=zdP hy;have hwy:=zli hy;have:=zGs (s:=s) N y f.Of (znw w v.Number) keep (by omega);rw [zqg,wgVs,wgVs,ziQ];simp only [yv,yX,List.sum_nil];rw [wgMs,wgMs];omega
   ·split
    ·rw [wgVs,wgVs];omega
    ·rw [wgVs];omega
  have all:∀l:List Vlu,(∀v∈l,v∈x.Values)->wgVs (zjB s l (zz s k) w keep)<=wgVs l:=by
   intro l
   induction l with
   | nil=>intro _;rw [zjB];exact xE _
   | cons v l ih=>
    intro h;have i2:=ih fun u hu=>h u (xB _ hu)
    have k2:=key v (h v xA) (zJ (zz s k) (fldI (zz s k) v.Number));rw [zjB,ztO,wgVs];omega
  have:=all x.Values fun v hv=>hv
  rw [zxH,zjN,zjN];simp only;cases keep<;>simp<;>omega
theorem zMC {s:List Mes} (hs:zfs s) {k n:Int} (k0:0<=k) (k1:k<s.length) (h:0<=fldI (zz s k) n):(Lit.int .i64 n).wf=true:=by
 obtain ⟨q,rfl⟩:∃q:Nat,k=q:=⟨k.toNat,by omega⟩;have hmm:zz s (q:Int)∈s:=by rw [zeG (by omega)];exact xI _
 rcases zdK (zz s (q:Int)) n with ⟨hf,_⟩| ⟨i,hi,_,hn,_⟩
 ·omega
 ·have hfo:=hs.fld _ hmm _ (xI hi);exact zIP (by rw [<-hn];have:=hfo.lo;have:=hfo.hi;omega)
theorem zxu (s:List Mes) (root:Int) (l:List Msg):zeh s root l=0\/zeh s root l=2\/zeh s root l=9\/zeh s root l=12:=by
 unfold zeh;by_cases h0:zgr s root=0
 ·rw [xy (show ¬zgr s root≠0 from fun hh=>hh h0)];by_cases ha:l.all (fun x=>zaE s x root)=true
  ·rw [xz ha];simp
  ·rw [xy ha];simp
 ·rw [xz h0];unfold zgr;split
  ·simp
  ·split<;>simp
theorem zml (h:zeh s root l=0):zfs s/\0<=root/\root<s.length/\∀x∈l,zaE s x root=true:=by
 unfold zeh at h;by_cases h0:zgr s root=0
 ·rw [xy (show ¬zgr s root≠0 from fun hh=>hh h0)] at h;obtain ⟨h1,h2,h3⟩:=zBU h0;by_cases ha:l.all (fun x=>zaE s x root)=true
  ·exact ⟨h1,h2,h3,xL.1 ha⟩
  ·rw [xy ha] at h;cases h
 ·rw [xz h0] at h;exact absurd h h0
def zMr:Msg:=⟨[],[]⟩
theorem zxv {s:List Mes} {root:Int} {l:List Msg} (h1:zff s=true) (h2:0<=root/\root<s.length) (h:∀x∈l,zaE s x root=true):zeh s root l=0:=by
 have h0:zgr s root=0:=by unfold zgr;rw [h1,xy (by simp),xy (by omega)]
 unfold zeh;rw [xy (show ¬zgr s root≠0 from fun hh=>hh h0),xz (xL.2 h)]
structure Gd (s:List Mes) (root:Int) (n:Nat) (x:Msg):Prop where
 r:zaE s x root=true
 b:bdM x
 w:wgM x<=n
theorem Gd.s {s:List Mes} {root:Int} {n:Nat} {x:Msg} (h:Gd s root n x) (hn:n<=1048576):smM x:=zKs _ x (xE _) (yz h.w hn)
theorem Gd.z {s:List Mes} {root:Int} {n fuel:Nat} {x:Msg} (h:Gd s root n x) (hn:n<fuel):szM x<fuel:=Nat.lt_of_le_of_lt (yz (zvv _ x (xE _)) h.w) hn
theorem Gd.join {s:List Mes} {root:Int} {n m:Nat} {a b:Msg} (ha:Gd s root n a) (hb:Gd s root m b) (hn:n<=1048576) (hm:m<=1048576):Gd s root (n+m) (zfG s b a root):=
 ⟨zva _ b a root (xE _) ha.r hb.r,zAZ _ b a root (xE _) ha.r hb.r ha.b hb.b (ha.s hn) (hb.s hm),yz (zFO _ b a root (xE _) ha.r hb.r) (Nat.add_le_add ha.w hb.w)⟩
theorem Gd.part {s:List Mes} {root:Int} {n:Nat} {a:Msg} (ha:Gd s root n a) (w:List zaS) (keep:Bool):Gd s root n (zti s a root w keep):=
 ⟨zvl _ a root w keep (xE _) ha.r,(zGr _ a root w keep (xE _) ha.b).1,yz (zGs _ a root w keep (xE _)) ha.w⟩
def zBD (s:List Mes) (root:Int) (b:List UInt8) (d:Int):Msg×Int:=if (zhw s root b d).2≠0 then (⟨[],[]⟩,(zhw s root b d).2) else (ofM s root b,0)
theorem zAE (h:(zhw s root b d).2=0):argS s root d=0:=by
 unfold zhw at h;by_cases h0:argS s root d=0
 ·exact h0
 ·rw [xz h0] at h;exact h
theorem zLY:∀n:Nat,(∀x:Msg,szM x<=n->dM x<szM x)/\(∀l:List Msg,szMs l<=n->dMs l<=szMs l)/\(∀v:Vlu,szV v<=n->dV v<szV v)/\∀l:List Vlu,szVs l<=n->dVs l<=szVs l
 | 0=>⟨fun x h=>by rw [zcA] at h;omega,fun l h=>by
   cases l with
   | nil=>simp [dMs]
   | cons x l=>rw [szMs,zcA] at h;omega,fun v h=>by rw [zeq] at h;omega,fun l h=>by
   cases l with
   | nil=>simp [dVs]
   | cons x l=>rw [szVs,zeq] at h;omega⟩
 | n+1=>by
  obtain ⟨i1,i2,i3,i4⟩:=zLY n;have h2:∀l:List Msg,szMs l<=n->dMs l<=szMs l:=i2;have h4:∀l:List Vlu,szVs l<=n->dVs l<=szVs l:=i4;have k1:∀x:Msg,szM x<=n+1->dM x<szM x:=fun x h=>by rw [zcA] at h|-;rw [zCh];have:=h4 x.Values (by omega);omega
  have k3:∀v:Vlu,szV v<=n+1->dV v<szV v:=fun v h=>by rw [zeq] at h|-;rw [zzp];have:=h2 v.Subs (by omega);omega
  refine ⟨k1,fun l=>?_,k3,fun l=>?_⟩
  ·induction l with
   | nil=>intro _;simp [dMs]
   | cons x l ih=>intro h;rw [szMs] at h|-;rw [dMs];have:=ih (by omega);have:=k1 x (by omega);omega
  ·induction l with
   | nil=>intro _;simp [dVs]
   | cons x l ih=>intro h;rw [szVs] at h|-;rw [dVs];have:=ih (by omega);have:=k3 x (by omega);omega
theorem zCi (x:Msg):dM x<szM x:=(zLY (szM x)).1 x (xE _)
theorem zGE:∀(fuel:Nat) (x:Msg) (wO:Nat),szM x<fuel->bdM x->dM x<=wO->wO<=1048576->zgm fuel x wO=some ((dM x:Nat):Int)
 | 0,x,_,h,_,_,_=>by omega
 | fuel+1,x,wO,hs,hb,hd,hm=>by
  obtain ⟨b1,_,b4⟩:=(zhD x).1 hb;rw [zcA] at hs;rw [zCh] at hd|-;show zjK (zgm fuel) x wO=_;unfold zjK;have inner:∀(v:Vlu),v∈x.Values->∀(c i d:Nat),i+c=v.Subs.length->d<=wO->zho wO (zgm fuel) v d i=some (.inl ((max d (dMs (v.Subs.drop i)):Nat):Int)):=by
   intro v hv c;have wG:=zdA hv;have hdv:=zvV hv;obtain ⟨_,_,_,c1,c2⟩:=(zgs _).1 (zdr.1 b4 _ hv);rw [zeq] at wG;rw [zzp] at hdv
   induction c with
   | zero=>
    intro i d hi hdm;have e:v.Subs.drop i=[]:=yK (by omega);rw [e,dMs];refine ztB ?_;unfold zex;rw [uC,Nat.max_zero]
   | succ c ih=>
    intro i d hi hdm;have hil:i<v.Subs.length:=by omega
    have hm2:=xI hil;have s2:=zdP hm2;have d2:=zAJ hm2;rw [yy hil,dMs];have hr:=zGE fuel v.Subs[i] (wO - 1) (by omega) (zeg.1 c2 _ hm2) (by omega) (by omega);have hmost:i64.wrap ((wO:Int) - 1)=((wO - 1:Nat):Int):=by rw [uD];omega
    have hw:i64.wrap (1+((dM v.Subs[i]:Nat):Int))=1+((dM v.Subs[i]:Nat):Int):=by rw [uD]
    have hmax:(if (d:Int)<1+((dM v.Subs[i]:Nat):Int) then 1+((dM v.Subs[i]:Nat):Int) else (d:Int))=((max d (1+dM v.Subs[i]):Nat):Int):=by
     split<;>omega
    refine (ztA (deep3':=((max d (1+dM v.Subs[i]):Nat):Int)) (v3':=((i+1:Nat):Int)) ?_).trans ?_
    ·unfold zex;rw [uB,zal rfl hil,sb,uC,hmost,hr,sb,hw,hmax,uC,uD];push_cast;rfl
    ·rw [ih (i+1) (max d (1+dM v.Subs[i])) (by omega) (by omega)];congr 3;omega
  have outer:∀(c i d:Nat),i+c=x.Values.length->d<=wO->zhn wO (zgm fuel) x d i=some (.inl ((max d (dVs (x.Values.drop i)):Nat):Int)):=by
   intro c
   induction c with
   | zero=>
    intro i d hi hdm;have e:x.Values.drop i=[]:=yK (by omega);rw [e,dVs];refine ztz ?_;unfold zew;rw [uC,Nat.max_zero]
   | succ c ih=>
    intro i d hi hdm;have hil:i<x.Values.length:=by omega
    have hmem:=xI hil;have hdv:=zvV hmem;rw [yy hil,dVs];have h2:=inner x.Values[i] hmem (x.Values[i]).Subs.length 0 d (xO _) hdm;rw [xV,<-zzp] at h2;have h2':zho wO (zgm fuel) x.Values[i] d 0=_:=h2;refine (zty (deep':=((max d (dV x.Values[i]):Nat):Int)) (v':=((i+1:Nat):Int)) ?_).trans ?_
    ·unfold zew;rw [uB,zal rfl hil,sb,h2',sb,uD];push_cast;rfl
    ·rw [ih (i+1) (max d (dV x.Values[i])) (by omega) (by omega)];congr 3;omega
  have h:=outer x.Values.length 0 0 (xO _) (xM _);have h':zhn wO (zgm fuel) x 0 0=_:=h;rw [h',sb,xV,Nat.zero_max]
theorem zAh (hf:szM x<fuel) (hb:bdM x) (hd:dM x<=131072):zhM fuel x=some ((dM x:Nat):Int):=by
 unfold zhM;have h:=zGE fuel x 131072 hf hb hd (by omega);have h':zgm fuel x 131072=_:=h;rw [h',sb]
theorem zyg (hf:szM x<fuel) (hb:bdM x) (hd:dM x<=131072):zkv fuel x=some true:=by
 unfold zkv;rw [zAh hf hb hd,sb];congr 1;simp;omega
theorem zHb (ha:a.length<=1152921504606846976):zcq a b=some (decide (a=b)):=by
 unfold zcq;by_cases hl:a.length=b.length
 ·rw [itF (by simp [hl])];have h:=zoW a b (fun i=>zbr a b i) hl (by
    refine zfb ?_;unfold zay;rw [uA])
   (fun i hi hi'=>by
    by_cases hp:a[i]=b[i]
    ·rw [xz hp];refine zio ?_;unfold zay;rw [uB,zal rfl hi,sb,zal rfl hi',sb,itF (by simp [hp]),uD];push_cast;rfl
    ·rw [xy hp];refine zfb ?_;unfold zay;rw [uB,zal rfl hi,sb,zal rfl hi',sb,itT (by simp [hp])])
   a.length 0 (by omega)
  have h':zbr a b 0=_:=h;rw [h',sb];simp only [xV];by_cases e:a=b
  ·rw [xz e];simp [e]
  ·rw [xy e];simp [e]
 ·rw [uB];have:a≠b:=fun e=>hl (by rw [e])
  simp [this]
theorem zzs (ha:a.length<=1152921504606846976):zbK a b=some (decide (a=b)):=by
 unfold zbK;by_cases hl:a.length=b.length
 ·rw [itF (by simp [hl])];have h:=zoW a b (fun i=>zbq a b i) hl (by
    refine zfa ?_;unfold zax;rw [uA])
   (fun i hi hi'=>by
    by_cases hp:a[i]=b[i]
    ·rw [xz hp];refine zin ?_;unfold zax;rw [uB,zal rfl hi,sb,zal rfl hi',sb,itF (by simp [hp]),uD];push_cast;rfl
    ·rw [xy hp];refine zfa ?_;unfold zax;rw [uB,zal rfl hi,sb,zal rfl hi',sb,itT (by simp [hp])])
   a.length 0 (by omega)
  have h':zbq a b 0=_:=h;rw [h',sb];simp only [xV];by_cases e:a=b
  ·rw [xz e];simp [e]
  ·rw [xy e];simp [e]
 ·rw [uB];have:a≠b:=fun e=>hl (by rw [e])
  simp [this]
section
open Classical
theorem zeN {α:Type} {x y:α} (h:x≠y):zpj x y=false:=by
 cases hq:zpj x y with
 | false=>rfl
 | true=>exact absurd (zhk.1 hq) h
theorem zGH:∀(fuel:Nat),(∀x y:Msg,2*szM x<fuel->bdM x->zgE fuel x y=some (zpj x y))/\(∀v u:Vlu,2*szV v<fuel->bdV v->zdR fuel v u=some (zpj v u))/\
  (∀a b:List Vlu,2*szVs a+1<fuel->a.length<=1152921504606846976->bdVs a->zM fuel a b=some (zpj a b))/\
  ∀a b:List Msg,2*szMs a+1<fuel->a.length<=1152921504606846976->bdMs a->zY fuel a b=some (zpj a b)
 | 0=>⟨fun x y h=>by omega,fun v u h=>by omega,fun a b h=>by omega,fun a b h=>by omega⟩
 | fuel+1=>by
  obtain ⟨ih1,ih2,ih3,ih4⟩:=zGH fuel;refine ⟨fun x y hs hb=>?_,fun v u hs hb=>?_,fun a b hs hl hb=>?_,fun a b hs hl hb=>?_⟩
  ·obtain ⟨b1,⟨b2,b3⟩,b4⟩:=(zhD x).1 hb;rw [zcA] at hs;show zlf (zgE fuel) (zdR fuel) (zM fuel) (zY fuel) x y=_;unfold zlf;rw [ih3 x.Values y.Values (by omega) (by omega) b4,sb];by_cases e1:x.Values=y.Values
   ·rw [zhk.2 e1,uw,zzs (by omega),sb,sb];by_cases e2:x.Unknown=y.Unknown
    ·rw [xT e2,zhk.2 (by cases x;cases y;simp only at e1 e2;rw [e1,e2])]
    ·rw [ye e2,zeN fun e=>e2 (by rw [e])]
   ·rw [zeN e1,uy,sb,zeN fun e=>e1 (by rw [e])]
  ·obtain ⟨b0,⟨b1,_⟩,⟨b2,b3⟩,b4,b5⟩:=(zgs v).1 hb;rw [zeq] at hs;show zgF (zgE fuel) (zdR fuel) (zM fuel) (zY fuel) v u=_;unfold zgF;by_cases e0:v.Number=u.Number
   ·rw [itT (by simp [e0]),zHb (by omega),sb];by_cases e1:v.Words=u.Words
    ·rw [itT (by simp [e1]),zzs (by omega),sb];by_cases e2:v.Texts=u.Texts
     ·rw [itT (by simp [e2]),ih4 v.Subs u.Subs (by omega) (by omega) b5,sb,sb];by_cases e3:v.Subs=u.Subs
      ·rw [zhk.2 e3,zhk.2 (by cases v;cases u;simp only at e0 e1 e2 e3;rw [e0,e1,e2,e3])]
      ·rw [zeN e3,zeN fun e=>e3 (by rw [e])]
     ·rw [itF (by simp [e2]),sb,zeN fun e=>e2 (by rw [e])]
    ·rw [itF (by simp [e1]),sb,zeN fun e=>e1 (by rw [e])]
   ·rw [itF (by simp [e0]),sb,zeN fun e=>e0 (by rw [e])]
  ·show zS (zgE fuel) (zdR fuel) (zM fuel) (zY fuel) a b=_;unfold zS;by_cases hll:a.length=b.length
   ·rw [itF (by simp [hll])];have hv:∀(i:Nat) (hi:i<a.length) (hi':i<b.length),zdR fuel a[i] b[i]=some (zpj a[i] b[i]):=fun i hi hi'=>by
     have hm:=xI hi;have:=zdA hm;exact ih2 _ _ (by omega) (zdr.1 hb _ hm)
    have h:=zoW a b (fun i=>zK (zdR fuel) a b i) hll (by
      refine zaM ?_;unfold zq;rw [uA])
     (fun i hi hi'=>by
      by_cases hp:a[i]=b[i]
      ·rw [xz hp];refine zca ?_;unfold zq;rw [uB,zal rfl hi,sb,zal rfl hi',sb,hv i hi hi',sb,itF (by rw [zhk.2 hp];rfl),uD];push_cast;rfl
      ·rw [xy hp];refine zaM ?_;unfold zq;rw [uB,zal rfl hi,sb,zal rfl hi',sb,hv i hi hi',sb,itT (by rw [zeN hp];rfl)])
     a.length 0 (by omega)
    have h':zK (zdR fuel) a b 0=_:=h;rw [h',sb];simp only [xV];by_cases e:a=b
    ·rw [xz e,zhk.2 e]
    ·rw [xy e,zeN e]
   ·rw [uB,zeN fun e=>hll (by rw [e])]
  ·show zae (zgE fuel) (zdR fuel) (zM fuel) (zY fuel) a b=_;unfold zae;by_cases hll:a.length=b.length
   ·rw [itF (by simp [hll])];have hv:∀(i:Nat) (hi:i<a.length) (hi':i<b.length),zgE fuel a[i] b[i]=some (zpj a[i] b[i]):=fun i hi hi'=>by
     have hm:=xI hi;have:=zdP hm;exact ih1 _ _ (by omega) (zeg.1 hb _ hm)
    have h:=zoW a b (fun i=>zT (zgE fuel) a b i) hll (by
      refine zbd ?_;unfold zy;rw [uA])
     (fun i hi hi'=>by
      by_cases hp:a[i]=b[i]
      ·rw [xz hp];refine zcL ?_;unfold zy;rw [uB,zal rfl hi,sb,zal rfl hi',sb,hv i hi hi',sb,itF (by rw [zhk.2 hp];rfl),uD];push_cast;rfl
      ·rw [xy hp];refine zbd ?_;unfold zy;rw [uB,zal rfl hi,sb,zal rfl hi',sb,hv i hi hi',sb,itT (by rw [zeN hp];rfl)])
     a.length 0 (by omega)
    have h':zT (zgE fuel) a b 0=_:=h;rw [h',sb];simp only [xV];by_cases e:a=b
    ·rw [xz e,zhk.2 e]
    ·rw [xy e,zeN e]
   ·rw [uB,zeN fun e=>hll (by rw [e])]
end
theorem zKk (y:Msg) (hf:2*szM x<fuel) (hb:bdM x) (hd:dM x<=131072):zlT fuel x y=some (zpj x y):=by
 unfold zlT;rw [zyg (by omega) hb hd,sb,uw,(zGH fuel).1 x y hf hb,sb,sb]
theorem zEn (h:a.length*80<=140737488355328):zbn a=some a:=by
 unfold zbn;have h1:(app 80 ([]:List Vlu) a>>=fun v=>some v)=some a:=by rw [zem (by simp;omega),sb,xK]
 cases a with
 | nil=>exact zsz rfl h1
 | cons=>exact h1
theorem zEm (h:a.length*48<=140737488355328):zbN a=some a:=by
 unfold zbN;have h1:(app 48 ([]:List Msg) a>>=fun v=>some v)=some a:=by rw [zem (by simp;omega),sb,xK]
 cases a with
 | nil=>exact zsz rfl h1
 | cons=>exact h1
theorem zzn (h:a.length*16<=140737488355328):zbH a=some a:=by
 unfold zbH;have h1:(app 16 ([]:List Str) a>>=fun v=>some v)=some a:=by rw [zem (by simp;omega),sb,xK]
 cases a with
 | nil=>exact zsz rfl h1
 | cons=>exact h1
theorem zGY (h:a.length*8<=140737488355328):zco a=some a:=by
 unfold zco;have h1:(app 8 ([]:List Int) a>>=fun v=>some v)=some a:=by rw [zem (by simp;omega),sb,xK]
 cases a with
 | nil=>exact zsz rfl h1
 | cons=>exact h1
theorem zxW {α:Type}:∀(l:List α) (i:Nat) (h:i<l.length),l.set i l[i]=l
 | [],i,h=>by simp at h
 | x::l,0,h=>rfl
 | x::l,i+1,h=>by simp only [List.set_cons_succ,pI];rw [zxW l i (by simpa using h)]
theorem zGD:∀(fuel:Nat),(∀x:Msg,szM x<fuel->bdM x->zgJ fuel x=some x)/\∀v:Vlu,szV v<fuel->bdV v->zfr fuel v=some v
 | 0=>⟨fun x h=>by omega,fun v h=>by omega⟩
 | fuel+1=>by
  obtain ⟨ih1,ih2⟩:=zGD fuel;refine ⟨fun x hs hb=>?_,fun v hs hb=>?_⟩
  ·obtain ⟨b1,⟨b2,b3⟩,b4⟩:=(zhD x).1 hb;rw [zcA] at hs;show ziB (zgJ fuel) (zfr fuel) x=_;unfold ziB;have hloop:∀(c i:Nat),i+c=x.Values.length->zgC (zfr fuel) x.Values x.Values i=some x.Values:=by
    intro c
    induction c with
    | zero=>
     intro i hi;refine zsq ?_;unfold zdk;rw [uC]
    | succ c ih=>
     intro i hi;have hil:i<x.Values.length:=by omega
     have hm:=xI hil;have:=zdA hm;refine (zsp (v':=x.Values) (v2':=((i+1:Nat):Int)) ?_).trans (ih (i+1) (by omega));unfold zdk;rw [uB,zal rfl hil,sb,ih2 _ (by omega) (zdr.1 b4 _ hm),sb,sb,uD,xN,zxW _ _ hil];push_cast;rfl
   have h:=hloop x.Values.length 0 (xO _);have h':zgC (zfr fuel) x.Values x.Values 0=_:=h;rw [zEn (by omega),sb,zzn (by omega),sb,h',sb];cases x;rfl
  ·obtain ⟨b0,⟨b1,_⟩,⟨b2,b3⟩,b4,b5⟩:=(zgs v).1 hb;rw [zeq] at hs;show zfC (zgJ fuel) (zfr fuel) v=_;unfold zfC;have hloop:∀(c i:Nat),i+c=v.Subs.length->zdX (zgJ fuel) v.Subs v.Subs i=some v.Subs:=by
    intro c
    induction c with
    | zero=>
     intro i hi;refine zom ?_;unfold zbM;rw [uC]
    | succ c ih=>
     intro i hi;have hil:i<v.Subs.length:=by omega
     have hm:=xI hil;have:=zdP hm;refine (zol (v2':=v.Subs) (v3':=((i+1:Nat):Int)) ?_).trans (ih (i+1) (by omega));unfold zbM;rw [uB,zal rfl hil,sb,ih1 _ (by omega) (zeg.1 b5 _ hm),sb,sb,uD,xN,zxW _ _ hil];push_cast;rfl
   have h:=hloop v.Subs.length 0 (xO _);have h':zdX (zgJ fuel) v.Subs v.Subs 0=_:=h;rw [zGY (by omega),sb,zzn (by omega),sb,zEm (by omega),sb,h',sb];cases v;rfl
theorem zKf (hf:szM x<fuel) (hb:bdM x) (hd:dM x<=131072):zoi fuel x=some x:=by
 unfold zoi;rw [zyg hf hb hd,sb,uy,(zGD fuel).1 x hf hb,sb]
theorem zLl:∀a<256,ztJ ((a:Nat):Int)=some (if a<128 then (1,(a:Int)) else if a/32=6 then (2,((a%32:Nat):Int)) else if a/16=14 then (3,((a%16:Nat):Int)) else if a/8=30 then (4,((a%8:Nat):Int)) else (0,0)):=by decide+kernel
theorem zBw (w k:Nat) (h:k<=32):shrI .u32 (w:Int) (k:Int)=((w/2^k:Nat):Int):=ztt (k:= .u32) (a:=w) (b:=k) (by simpa [IntKind.bits] using h)
theorem zwf (w:Nat):zop (w:Int)=some (if w<128 then 1 else if w<2048 then 2 else if 55296<=w/\w<=57343 then 0 else if w<65536 then 3 else if w<=1114111 then 4 else 0):=by
 unfold zop;have e7:shrI .u32 (w:Int) 7=((w/128:Nat):Int):=zBw w 7 (by omega);have e11:shrI .u32 (w:Int) 11=((w/2048:Nat):Int):=zBw w 11 (by omega);have e16:shrI .u32 (w:Int) 16=((w/65536:Nat):Int):=zBw w 16 (by omega);rw [e7,e11,e16];by_cases h1:w<128
 ·rw [uB,xz h1]
 ·rw [uC,xy h1];by_cases h2:w<2048
  ·rw [uB,xz h2]
  ·rw [uC,xy h2];by_cases h3:55296<=w/\w<=57343
   ·rw [uB,xz h3]
   ·rw [uC,xy h3];by_cases h4:w<65536
    ·rw [uB,xz h4]
    ·rw [uC,xy h4];by_cases h5:w<=1114111
     ·rw [uB,xz h5]
     ·rw [uC,xy h5]
theorem zHp:∀c<256,shrI .u8 ((c:Nat):Int) 6=((c/64:Nat):Int)/\u32.wrap (andI .u8 ((c:Nat):Int) 63)=((c%64:Nat):Int):=by decide+kernel
theorem zlO {v:List UInt8} {w i:Nat} (h:i<v.length) (hv:v.length<=1000) (hw:w<=1000000):
  zda v w i=if cont v[i] then zda v ((64*w+v[i].toNat%64:Nat):Int) ((i+1:Nat):Int) else some (.inr ()):=by
 have hc:=v[i].toNat_lt;obtain ⟨e1,e2⟩:=zHp v[i].toNat (by omega);have hb:zfn v w i=if cont v[i] then some (.inl (((64*w+v[i].toNat%64:Nat):Int),((i+1:Nat):Int))) else some (.inr (.inr ())):=by
  unfold zfn;rw [uB,zal rfl h,sb,e1,e2];by_cases hk:cont v[i]=true
  ·rw [xz hk];unfold cont at hk;simp only [yc] at hk;rw [uC,uD];have e3:shlI .u32 (w:Int) 6=((w*64:Nat):Int):=by
    have:shlI .u32 (w:Int) 6=((w*64%4294967296:Nat):Int):=by simp [shlI,IntKind.bits,zDU]
    rw [this,qx (by omega)]
   rw [e3,zwi rfl (by simp [IntKind.bits];omega) (by simp [IntKind.bits];omega),pC,zxE _ w 6 (by omega)];have e4:v[i].toNat%64+w*2^6=64*w+v[i].toNat%64:=by omega
   rw [e4];rfl
  ·rw [xy hk];unfold cont at hk;simp only [yc] at hk;rw [uB]
 by_cases hk:cont v[i]=true
 ·rw [xz hk] at hb|-;exact zvO hb
 ·rw [xy hk] at hb|-;exact zpl hb
theorem zsX (h:v.length<=i):zda v w i=some (.inl (w:Int)):=by
 refine zpl ?_;unfold zfn;rw [uC]
theorem zNO {w:Nat} {b:UInt8} (hw:w<=100):zda [b] w 0=if cont b then some (.inl ((64*w+b.toNat%64:Nat):Int)) else some (.inr ()):=by
 have h:=zlO (v:=[b]) (w:=w) (i:=0) (by simp) (by simp) (by omega);refine Eq.trans h ?_;simp only [ug];rw [zsX (by simp)]
theorem zNP {w:Nat} {b c:UInt8} (hw:w<=100):zda [b,c] w 0=if cont b then (if cont c then some (.inl ((64*(64*w+b.toNat%64)+c.toNat%64:Nat):Int)) else some (.inr ())) else some (.inr ()):=by
 have h:=zlO (v:=[b,c]) (w:=w) (i:=0) (by simp) (by simp) (by omega);refine Eq.trans h ?_;rw [zlO (i:=0+1) (by simp) (by simp) (by omega)];simp only [ug,pI,xO];rw [zsX (by simp)]
theorem zNQ {w:Nat} {b c d:UInt8} (hw:w<=100):zda [b,c,d] w 0=if cont b then (if cont c then (if cont d then some (.inl ((64*(64*(64*w+b.toNat%64)+c.toNat%64)+d.toNat%64:Nat):Int)) else some (.inr ())) else some (.inr ())) else some (.inr ()):=by
 have h:=zlO (v:=[b,c,d]) (w:=w) (i:=0) (by simp) (by simp) (by omega);refine Eq.trans h ?_;rw [zlO (i:=0+1) (by simp) (by simp) (by omega),zlO (i:=0+1+1) (by simp) (by simp) (by omega)];simp only [ug,pI,xO];rw [zsX (by simp)]
theorem zJt (n:Nat) (h:∀m,m≠n->isN m l=false):nxt l=if isN n l then n else 0:=by
 by_cases hn:isN n l=true
 ·rw [xz hn,zMV hn]
 ·rw [xy hn];by_cases h0:nxt l=0
  ·exact h0
  ·have h1:=zwh h0;by_cases h2:nxt l=n
   ·rw [h2] at h1;exact absurd h1 hn
   ·rw [h _ h2] at h1;cases h1
theorem znW (n:Nat) (h:n=1/\a.toNat<128\/n=2/\192<=a.toNat/\a.toNat<224\/n=3/\224<=a.toNat/\a.toNat<240\/n=4/\240<=a.toNat):nxt (a::t)=if isN n (a::t) then n else 0:=by
 refine zJt n fun m hm=>?_
 cases hh:isN m (a::t) with
 | false=>rfl
 | true=>
  obtain ⟨a',t',e,_,g⟩:=zmi hh;cases e;omega
theorem zFV (b:List UInt8):zoo b=some ((nxt b:Nat):Int):=by
 cases b with
 | nil=>rfl
 | cons a t=>
  have ha:=a.toNat_lt;unfold zoo;have e00:idx (a::t) (0:Int)=some a:=zal (n:=0) rfl (by simp);rw [uC,e00,sb];rw [zLl _ (by omega),sb];by_cases h1:a.toNat<128
  ·rw [znW 1 (.inl ⟨rfl,h1⟩),xz h1];simp only;rw [uC,zjx (i:=1) (j:=1) (a:=1) (b:=1) rfl rfl (by omega) (by simp),sb];have e0:zda (((a::t).drop 1).take (1 - 1)) (a.toNat:Int) 0=some (.inl (a.toNat:Int)):=zsX (i:=0) (by simp);rw [e0,sb];simp only;rw [zwf,sb,xz h1,uy];simp [isN,is1,h1]
  ·rw [xy h1];by_cases h2:a.toNat/32=6
   ·rw [znW 2 (.inr (.inl ⟨rfl,by omega,by omega⟩)),xz h2];simp only
    match t with
    | []=>rw [uz];rfl
    | b::t=>
     rw [uC,zjx (i:=1) (j:=2) (a:=1) (b:=2) rfl rfl (by omega) (by simp),sb];have e0:=zNO (w:=a.toNat%32) (b:=b) (by omega);have e0':zda (((a::b::t).drop 1).take (2 - 1)) ((a.toNat%32:Nat):Int) 0=_:=e0;rw [e0'];have hb:=b.toNat_lt;by_cases c1:cont b=true
     ·rw [xz c1,sb];simp only;have hn:=zwf (64*(a.toNat%32)+b.toNat%64);simp only [isN,is2,c1,qR,yc];simp only [cont,yc] at c1;by_cases h:194<=a.toNat
      ·rw [xy (by omega),xz (by omega)] at hn;rw [hn,sb,uy,xz (by omega)];rfl
      ·rw [xz (by omega)] at hn;rw [hn,sb,uw,xy (by omega)];rfl
     ·rw [xy c1,sb];simp only;simp [isN,is2,c1]
   ·rw [xy h2];by_cases h3:a.toNat/16=14
    ·rw [znW 3 (.inr (.inr (.inl ⟨rfl,by omega,by omega⟩))),xz h3];simp only
     match t with
     | []=>rw [uz];rfl
     | [b]=>rw [uz];rfl
     | b::c::t=>
      rw [uC,zjx (i:=1) (j:=3) (a:=1) (b:=3) rfl rfl (by omega) (by simp),sb];have e0:=zNP (w:=a.toNat%16) (b:=b) (c:=c) (by omega);have e0':zda (((a::b::c::t).drop 1).take (3 - 1)) ((a.toNat%16:Nat):Int) 0=_:=e0;rw [e0'];have hb:=b.toNat_lt;have hc:=c.toNat_lt;by_cases c1:cont b=true
      ·rw [xz c1];by_cases c2:cont c=true
       ·rw [xz c2,sb];simp only;have hn:=zwf (64*(64*(a.toNat%16)+b.toNat%64)+c.toNat%64);simp only [isN,is3,c1,c2,yZ,yc];simp only [cont,yc] at c1 c2;by_cases h:(a.toNat=224->160<=b.toNat)/\(a.toNat=237->b.toNat<160)
        ·rw [xy (by omega),xy (by omega),xy (by omega),xz (by omega)] at hn;rw [hn,sb,uy,xz (by omega)];rfl
        ·by_cases g:64*(64*(a.toNat%16)+b.toNat%64)+c.toNat%64<2048
         ·by_cases g':64*(64*(a.toNat%16)+b.toNat%64)+c.toNat%64<128
          ·rw [xz g'] at hn;rw [hn,sb,uw,xy (by omega)];rfl
          ·rw [xy g',xz g] at hn;rw [hn,sb,uw,xy (by omega)];rfl
         ·rw [xy (by omega),xy g,xz (by omega)] at hn;rw [hn,sb,uw,xy (by omega)];rfl
       ·rw [xy c2,sb];simp only;simp [isN,is3,c2]
      ·rw [xy c1,sb];simp only;simp [isN,is3,c1]
    ·rw [xy h3];by_cases h4:a.toNat/8=30
     ·rw [znW 4 (.inr (.inr (.inr ⟨rfl,by omega⟩))),xz h4];simp only
      match t with
      | []=>rw [uz];rfl
      | [b]=>rw [uz];rfl
      | [b,c]=>rw [uz];rfl
      | b::c::d::t=>
       rw [uC,zjx (i:=1) (j:=4) (a:=1) (b:=4) rfl rfl (by omega) (by simp),sb];have e0:=zNQ (w:=a.toNat%8) (b:=b) (c:=c) (d:=d) (by omega);have e0':zda (((a::b::c::d::t).drop 1).take (4 - 1)) ((a.toNat%8:Nat):Int) 0=_:=e0;rw [e0'];have hb:=b.toNat_lt;have hc:=c.toNat_lt;have hd:=d.toNat_lt;by_cases c1:cont b=true
       ·rw [xz c1];by_cases c2:cont c=true
        ·rw [xz c2];by_cases c3:cont d=true
         ·rw [xz c3,sb];simp only;have hn:=zwf (64*(64*(64*(a.toNat%8)+b.toNat%64)+c.toNat%64)+d.toNat%64);simp only [isN,is4,c1,c2,c3,yZ,yc];simp only [cont,yc] at c1 c2 c3;by_cases h:a.toNat<245/\(a.toNat=240->144<=b.toNat)/\(a.toNat=244->b.toNat<144)
          ·rw [xy (by omega),xy (by omega),xy (by omega),xy (by omega),xz (by omega)] at hn;rw [hn,sb,uy,xz (by omega)];rfl
          ·have hw:¬(65536<=64*(64*(64*(a.toNat%8)+b.toNat%64)+c.toNat%64)+d.toNat%64/\64*(64*(64*(a.toNat%8)+b.toNat%64)+c.toNat%64)+d.toNat%64<=1114111):=by omega
           generalize 64*(64*(64*(a.toNat%8)+b.toNat%64)+c.toNat%64)+d.toNat%64=w at hn hw
           have hx:∃x:Int,zop w=some x/\x≠4:=⟨_,hn,by (repeat' split)<;>omega⟩;obtain ⟨x,hx,h4⟩:=hx;rw [hx,sb,uB,xy (by omega)];rfl
         ·rw [xy c3,sb];simp only;simp [isN,is4,c3]
        ·rw [xy c2,sb];simp only;simp [isN,is4,c2]
       ·rw [xy c1,sb];simp only;simp [isN,is4,c1]
     ·rw [xy h4,uw];by_cases h5:240<=a.toNat
      ·rw [znW 4 (.inr (.inr (.inr ⟨rfl,h5⟩)))];cases hh:isN 4 (a::t) with
       | false=>rfl
       | true=>
        match t,hh with
        | b::c::d::t,hh=>simp only [isN,is4,yc] at hh;omega
      ·by_cases h0:nxt (a::t)=0
       ·rw [h0];rfl
       ·obtain ⟨a',t',e,_,g⟩:=zmi (zwh h0);cases e;omega
theorem zIc (hb:b.length<=1152921504606846976) (l:List UInt8):∀(a c:Nat),c<=a->a<=b.length->l=b.drop a->
  zhP b a c ((nxt l:Nat):Int)=some (((a+(pre4 l).1:Nat):Int),((c+(pre4 l).2:Nat):Int)):=by
 refine zJD (fun l=>∀(a c:Nat),c<=a->a<=b.length->l=b.drop a->zhP b a c ((nxt l:Nat):Int)=some (((a+(pre4 l).1:Nat):Int),((c+(pre4 l).2:Nat):Int))) ?_ ?_ l
 ·intro l h a c hc ha hl;rw [h,zHD h];refine zvQ ?_;unfold zgf;rw [uy];rfl
 ·intro l h ih a c hc ha hl;subst hl;have h4:=zLj (b.drop a);have hle:=zxz (b.drop a);simp only [yl] at hle;have e1:(b.drop a).drop (nxt (b.drop a))=b.drop (a+nxt (b.drop a)):=by rw [yB]
  refine (zvP (atv':=((a+nxt (b.drop a):Nat):Int)) (points':=((c+1:Nat):Int)) (size':=((nxt (b.drop (a+nxt (b.drop a))):Nat):Int)) ?_).trans ?_
  ·unfold zgf;rw [uB,uD,zsD (a:=a+nxt (b.drop a)) (by push_cast;rfl) rfl (by omega),sb,zFV,sb,uD];rfl
  ·rw [<-e1,ih (a+nxt (b.drop a)) (c+1) (by omega) (by omega) e1,zLq h];simp only [qI,pD 1]
theorem zKn (hb:b.length<=1152921504606846976):zqD b=some (((pre4 b).1:Int),((pre4 b).2:Int)):=by
 unfold zqD;rw [zFV,sb];have h:=zIc hb b 0 0 (xE _) (xM _) rfl;simp only [xO] at h;have h':zhP b 0 0 ((nxt b:Nat):Int)=some (((pre4 b).1:Int),((pre4 b).2:Int)):=h;rw [h',sb]
theorem zHW (hb:b.length<=1152921504606846976):zon b=some ((pre4 b).1:Int):=by
 unfold zon;rw [zKn hb,sb]
theorem zuP (hb:b.length<=1152921504606846976):zkx b=some (zhs b):=by
 unfold zkx zhs;rw [zHW hb,sb,zFx]
def zMU:List Str:=[[],[105,110,116,51,50],[105,110,116,54,52],[117,105,110,116,51,50],[117,105,110,116,54,52],[115,105,110,116,51,50],[115,105,110,116,54,52],[98,111,111,108],[101,110,117,109],[102,105,120,101,100,51,50],[115,102,105,120,101,100,51,50],[102,108,111,97,116],[102,105,120,101,100,54,52],[115,102,105,120,101,100,54,52],[100,111,117,98,108,101],[115,116,114,105,110,103],[98,121,116,101,115],[109,101,115,115,97,103,101]]
def zJa (k:Int):Str:=(zMU[k.toNat]?).getD []
def kT:List (Int×zv):=[(1,⟨[105,110,116,51,50],0⟩),(2,⟨[105,110,116,54,52],0⟩),(3,⟨[117,105,110,116,51,50],0⟩),(4,⟨[117,105,110,116,54,52],0⟩),(5,⟨[115,105,110,116,51,50],0⟩),(6,⟨[115,105,110,116,54,52],0⟩),(7,⟨[98,111,111,108],0⟩),(8,⟨[101,110,117,109],0⟩),(9,⟨[102,105,120,101,100,51,50],5⟩),(10,⟨[115,102,105,120,101,100,51,50],5⟩),(11,⟨[102,108,111,97,116],5⟩),(12,⟨[102,105,120,101,100,54,52],1⟩),(13,⟨[115,102,105,120,101,100,54,52],1⟩),(14,⟨[100,111,117,98,108,101],1⟩),(15,⟨[115,116,114,105,110,103],2⟩),(16,⟨[98,121,116,101,115],2⟩),(17,⟨[109,101,115,115,97,103,101],2⟩)]
theorem zCL:zmj=some kT:=rfl
theorem zvm (h:zcw k=true):k=1\/k=2\/k=3\/k=4\/k=5\/k=6\/k=7\/k=8\/k=9\/k=10\/k=11\/k=12\/k=13\/k=14\/k=15\/k=16\/k=17:=by
 have:=yA h;omega
theorem zMG (h:zcw k=true):mget kT k=some ⟨zJa k,zbm k⟩:=by
 rcases zvm h with rfl| rfl| rfl| rfl| rfl| rfl| rfl| rfl| rfl| rfl| rfl| rfl| rfl| rfl| rfl| rfl| rfl<;>rfl
theorem zKU (h:e∈kT):zcw e.1=true/\e.2=⟨zJa e.1,zbm e.1⟩:=by
 have:kT.all (fun e=>zcw e.1&&decide (e.2=⟨zJa e.1,zbm e.1⟩))=true:=by decide
 have h1:=xL.1 this e h;simp only [xC,yc] at h1;exact h1
theorem zKV (h:zcw k=false):mget kT k=none:=by
 cases hg:mget kT k with
 | none=>rfl
 | some x=>
  have mem:∀{m:List (Int×zv)} {x:zv},mget m k=some x->(k,x)∈m:=fun {m x} hg=>by
   induction m with
   | nil=>cases hg
   | cons p m ih=>
    rw [mget] at hg;split at hg
    ·rename_i e;cases hg;rw [e];exact xA
    ·exact xB _ (ih hg)
  have h1:=(zKU (mem hg)).1;simp only at h1;rw [h] at h1;cases h1
theorem zCN (k:Int):zlN k=some (if zcw k then (zbm k,0) else (0,2)):=by
 unfold zlN;rw [zCL,sb];cases h:zcw k with
 | true=>rw [zMG h];rfl
 | false=>rw [zKV h];rfl
theorem zxi (k:Int):ziZ k=some (kNum k):=by
 unfold ziZ;rw [zCN,sb];cases h:zcw k with
 | true=>
  rcases zvm h with rfl| rfl| rfl| rfl| rfl| rfl| rfl| rfl| rfl| rfl| rfl| rfl| rfl| rfl| rfl| rfl| rfl<;>rfl
 | false=>
  have h1:=uh h;have:kNum k=false:=ye (by omega);rw [this];rfl
theorem zKX:kT.map Prod.fst=[1,2,3,4,5,6,7,8,9,10,11,12,13,14,15,16,17]:=rfl
theorem zKW:zpU=some [1,2,3,4,5,6,7,8,9,10,11,12,13,14,15,16,17]:=by
 have e:zpT kT=some [1,2,3,4,5,6,7,8,9,10,11,12,13,14,15,16,17]:=by
  unfold zpT;rw [xz ⟨by decide,by decide⟩,zKX,List.mergeSort_of_pairwise (by decide)]
 unfold zpU;rw [zCL,sb,e,sb]
theorem zlM (k:Int) (h:0<=w/\w<=18446744073709551615):zhF k w=some (if kNum k then (zch k w,0) else (0,2)):=by
 have hs:=zEZ w;have hc:=zkM k h;unfold zhF;by_cases h1:k=1\/k=8
 ·have e:(if (k==1)=true then some (k==1) else some (k==8))=some true:=by rcases h1 with rfl| rfl<;>rfl
  have hn:kNum k=true:=xT (by omega);rw [e,sb,itT rfl,zHN,sb,zId (by omega),sb,hn];unfold zch;rw [xz h1];rfl
 ·have e:(if (k==1)=true then some (k==1) else some (k==8))=some false:=by rw [uC];simp;omega
  rw [e,sb,itF rfl];by_cases h2:k=3\/k=5\/k=9\/k=10\/k=11
  ·have e2:(if (k==3)=true then some (k==3) else if (k==5)=true then some (k==5) else if (k==9)=true then some (k==9) else if (k==10)=true then some (k==10) else some (k==11))=some true:=by
    rcases h2 with rfl| rfl| rfl| rfl| rfl<;>rfl
   have hn:kNum k=true:=xT (by omega);have hw:u64.wrap (w%4294967296)=w%4294967296:=by rw [wrap_u64];omega
   rw [e2,sb,itT rfl,zCV,sb,hn,hw];unfold zch;rw [xy h1,xz h2];rfl
  ·have e2:(if (k==3)=true then some (k==3) else if (k==5)=true then some (k==5) else if (k==9)=true then some (k==9) else if (k==10)=true then some (k==10) else some (k==11))=some false:=by
    rw [uC,uC,uC,uC];simp;omega
   rw [e2,sb,itF rfl];by_cases h7:k=7
   ·have hn:kNum k=true:=xT (by omega);rw [itT (by simpa using h7),hn];unfold zoJ zch;rw [sb,xy h1,xy h2,xz h7];by_cases h0:0<w
    ·rw [xz h0];by_cases h10:1<w
     ·rw [xz h10];rfl
     ·rw [xy h10,show w=1 by omega];rfl
    ·rw [xy h0,xy (by omega),show w=0 by omega];rfl
   ·rw [itF (by simpa using h7)];by_cases hn:kNum k=true
    ·have hk:=yA hn;have e3:(if (k==2)=true then some (k==2) else if (k==4)=true then some (k==4) else if (k==6)=true then some (k==6) else if (k==12)=true then some (k==12) else if (k==13)=true then some (k==13) else some (k==14))=some true:=by
      have:k=2\/k=4\/k=6\/k=12\/k=13\/k=14:=by omega
      rcases this with rfl| rfl| rfl| rfl| rfl| rfl<;>rfl
     rw [e3,sb,itT rfl,hn];unfold zch;rw [xy h1,xy h2,xy h7];rfl
    ·have hn:kNum k=false:=by simpa using hn
     have hk:=uh hn;have e3:(if (k==2)=true then some (k==2) else if (k==4)=true then some (k==4) else if (k==6)=true then some (k==6) else if (k==12)=true then some (k==12) else if (k==13)=true then some (k==13) else some (k==14))=some false:=by
      rw [uC,uC,uC,uC,uC];simp;omega
     rw [e3,sb,itF rfl,hn];rfl
end Go.Proofs.YtkgohoggipdokaaGreat

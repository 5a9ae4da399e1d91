/-
  What the plain functions are. No condition.
-/
import Derived.Test.YtkgohoggipdokaaGreatx2S1
import Derived.Test.YtkgohoggipdokaaGreatx2K3
set_option autoImplicit true
set_option relaxedAutoImplicit true
namespace Go.Proofs.YtkgohoggipdokaaGreat
open Go.IntKind (i64 u32 u64)
open Go
set_option linter.unusedVariables false
theorem zFX (k:IntKind) (a b:Int):orI k a b=bits .or k a b:=rfl
theorem zzP (w:Int):zid w=some (w%4294967296):=by unfold zid;rw [zAN]
theorem zEr (w:Int):ziJ w=some (sgnS w):=by
 unfold ziJ;rw [zzP,sb,zEM];unfold sgnS;congr 1;split<;>split<;>omega
theorem zEI (h: -2147483648<=n/\n<=2147483647):ziK n=some (zsI n):=by
 unfold ziK;rw [uq,wrap_u64];unfold zsI;congr 1;split<;>omega
theorem zzM {v:List UInt8} {m k j:Nat} (hk:k<=8) (hv:v.length=k) (hj:j<k):zcq v (m:Int) (zgq k m j) (j:Int)=some (.inl (zgq k m (j+1),((j+1:Nat):Int))):=by
 have wb:=zur (n:=k) (m:=m) (j:=j) (by omega);unfold zcq;have e1:i64.wrap (8*(j:Int))=((8*j:Nat):Int):=by rw [uq];push_cast;rfl
 rw [uo,e1,zGv,sb,zaf rfl (show j<(zgq k m j).length by omega),sb,zqM (by simp [IntKind.bits];omega),ztx,zyI,zzN,zyW rfl,sb,xH,zzK hj,uq];rfl
theorem zzL {v:List UInt8} {m k:Nat} (hk:k<=8) (hv:v.length=k):∀(d j:Nat),j+d=k->zfb v (m:Int) (zgq k m j) (j:Int)=some (zfy k m):=by
 intro d
 induction d with
 | zero=>
  intro j hj;refine zpo ?_;unfold zcq;have:j=k:=by omega
  subst this;rw [up,zzJ]
 | succ d ih=>
  intro j hj;rw [zpn (zzM hk hv (by omega))];exact ih (j+1) (by omega)
theorem zwK {m:Nat} (n:Int):ziI (m:Int) n=some (zfy (min n.toNat 8) m):=by
 unfold ziI;have e:(if (8:Int)<(if n<0 then 0 else n) then (8:Int) else (if n<0 then 0 else n))=((min n.toNat 8:Nat):Int):=by split<;>split<;>omega
 rw [e,znC rfl (qf _) (by omega),sb];have h:=zzL (v:=List.replicate (min n.toNat 8) (0:UInt8)) (m:=m) (k:=min n.toNat 8) (by omega) (by simp) (min n.toNat 8) 0 (by omega);rw [zye] at h;have h':zfb (List.replicate (min n.toNat 8) (0:UInt8)) (m:Int) (List.replicate (min n.toNat 8) (0:UInt8)) 0=some (zfy (min n.toNat 8) m):=h;rw [h',sb]
theorem zEx {l:List UInt8} {j:Nat} (h:j<l.length):l.take (j+1)=l.take j++[l[j]]:=by rw [List.take_add_one,xL h];rfl
theorem zEK {v:List UInt8} (hv:v.length<=8):∀(d j:Nat),j+d=v.length->zgp v ((word (v.take j):Nat):Int) (j:Int)=some ((word v:Nat):Int):=by
 intro d
 induction d with
 | zero=>
  intro j hj;refine zrn ?_;unfold zdU;rw [up,yz (by omega)]
 | succ d ih=>
  intro j hj;have hl:(v.take j).length=j:=by simp;omega
  have hw:=zyG (v.take j);rw [hl] at hw;refine (zrm (wv':=((word (v.take (j+1)):Nat):Int)) (v2':=((j+1:Nat):Int)) ?_).trans (ih (j+1) (by omega));unfold zdU;have hc:=(v[j]'(by omega)).toNat_lt;have e1:i64.wrap (8*(j:Int))=((8*j:Nat):Int):=by rw [uq];push_cast;rfl
  have e2:shlI .u64 (u64.wrap ((v[j]'(by omega)).toNat:Int)) ((8*j:Nat):Int)=u64.wrap (((v[j]'(by omega)).toNat:Int)*2^(8*j)):=by
   unfold shlI;rw [xH,qx (by simp [IntKind.bits];omega),wrap_u64 ((v[j]'(by omega)).toNat:Int),qe (by omega) (by omega)]
  rw [uo,zaf rfl (show j<v.length by omega),sb,e1,zAj,sb,e2,zFX,zIu _ _ _ (by omega) (by omega) hw,zEx (show j<v.length by omega),zxt,hl,uq];rfl
theorem zIt (b:List UInt8):zlx b=some ((word (b.take 8):Nat):Int):=by
 unfold zlx;have e:(if (8:Int)<(b.length:Int) then (8:Int) else (b.length:Int))=((min 8 b.length:Nat):Int):=by split<;>omega
 have e2:b.take (min 8 b.length)=b.take 8:=by rw [List.take_eq_take_iff];omega
 rw [e,ztT rfl (by omega),sb,e2];have h:=zEK (v:=b.take 8) (by simp;omega) (b.take 8).length 0 (by omega);have h':zgp (b.take 8) 0 0=some ((word (b.take 8):Nat):Int):=h;rw [h',sb]
def zbL (k:Int):Bool:=decide (1<=k/\k<=17)
def kNum (k:Int):Bool:=decide (1<=k/\k<=14)
def zaW (k:Int):Int:=if 15<=k then 2 else if 12<=k then 1 else if 9<=k then 5 else 0
def zbB (k w:Int):Int:=
 if k=1\/k=8 then zsI (sgnS w) else if k=3\/k=5\/k=9\/k=10\/k=11 then w%4294967296 else if k=7 then (if 0<w then 1 else 0) else w
theorem zgF (k:Int) (h:0<=w/\w<=18446744073709551615):0<=zbB k w/\zbB k w<=18446744073709551615:=by
 have hs:=zBL w;unfold zbB;split
 ·exact zIr (by omega)
 ·split
  ·omega
  ·split
   ·split<;>omega
   ·exact h
theorem zEX {k:Int} {w:Int} (h9:9<=k) (h12:k<12):zbB k w<4294967296:=by
 unfold zbB;rw [xt (by omega),xu (by omega)];omega
theorem znh (k:Int) {w:Int} (h:0<=w/\w<=18446744073709551615):zbB k (zbB k w)=zbB k w:=by
 have hs:=zBL w;unfold zbB;by_cases h1:k=1\/k=8
 ·simp only [xu h1];rw [zGu hs]
 ·simp only [xt h1];by_cases h2:k=3\/k=5\/k=9\/k=10\/k=11
  ·simp only [xu h2];omega
  ·simp only [xt h2];by_cases h7:k=7
   ·simp only [xu h7];split<;>simp
   ·simp only [xt h7]
abbrev Fld:=za
abbrev Mes:=zd
def zih {α:Type} (p:α->Bool) (l:List α):Int:=match l.findIdx? p with
 | some i=>(i:Int)
 | none=> -1
theorem zkU {α:Type} {p:α->Bool} {l:List α} (h:l.findIdx? p=none):zih p l= -1:=by unfold zih;rw [h]
theorem zkV {α:Type} {p:α->Bool} {l:List α} {i:Nat} (h:l.findIdx? p=some i):zih p l=(i:Int):=by unfold zih;rw [h]
theorem zrt {α:Type} (p:α->Bool) (l:List α) (F:Int->Option (Unit⊕Int)) (h0:F (l.length:Int)=some (.inl ())) (hs:∀(i:Nat) (h:i<l.length),F (i:Int)=if p l[i] then some (.inr (i:Int)) else F ((i+1:Nat):Int)):
  ∀(d i:Nat),i+d=l.length->(∀j (h:j<l.length),j<i->p l[j]=false)->F (i:Int)=some (match l.findIdx? p with| some k=> .inr (k:Int)| none=> .inl ()):=by
 intro d
 induction d with
 | zero=>
  intro i hi hj;have:i=l.length:=by omega
  subst this;have hn:l.findIdx? p=none:=by
   rw [pv];intro x hx;obtain ⟨j,hj',rfl⟩:=qA hx;exact hj j hj' hj'
  rw [h0,hn]
 | succ d ih=>
  intro i hi hj;have hil:i<l.length:=by omega
  rw [hs i hil];by_cases hp:p l[i]=true
  ·have hf:l.findIdx? p=some i:=by
    rw [pw];exact ⟨hil,hp,fun j hji=>by simpa using hj j (by omega) hji⟩
   rw [xu hp,hf]
  ·rw [xt hp];refine ih (i+1) (by omega) fun j h hji=>?_
   by_cases e:j=i
   ·subst e;simpa using hp
   ·exact hj j h (by omega)
def fldI (m:Mes) (number:Int):Int:=zih (fun f:Fld=>f.Number==number) m.Fields
def nmc (i:Nat) (c:UInt8):Bool:=decide (65<=c.toNat/\c.toNat<=90\/97<=c.toNat/\c.toNat<=122\/c.toNat=95\/0<i/\48<=c.toNat/\c.toNat<=57)
def nmA:Nat->List UInt8->Bool
 | _,[]=>true
 | i,c::l=>nmc i c&&nmA (i+1) l
def zgA (s:List UInt8):Bool:=nmA 0 s&&decide (1<=s.length/\s.length<=60)
theorem zpr {α:Type} {l t:List α} {x:α} {k:Nat} (h:l.drop k=x::t):∃hk:k<l.length,l[k]=x/\l.drop (k+1)=t:=by
 have hk:k<l.length:=by
  rcases yB k l.length with h'| h'
  ·exact h'
  ·rw [yC h'] at h;cases h
 rw [yq hk] at h;injection h with h1 h2;exact ⟨hk,h1,h2⟩
theorem zrp {α:Type} {l:List α} {k:Nat} (h:l.drop k=[]):l.length<=k:=by have:=congrArg List.length h;simp at this;omega
def zcP (n:Int) (prev:List Fld) (f:Fld):Int:=
 if zgA f.Name=false then 5 else if prev.any (fun g=>g.Name==f.Name)=true then 6
 else if f.Number<1\/f.Number>536870911\/(19000<=f.Number/\f.Number<20000) then 7
 else if prev.any (fun g=>g.Number==f.Number)=true then 8 else if zbL f.Kind=false then 9
 else if f.Packed=true/\¬(f.Repeated=true/\kNum f.Kind=true) then 10
 else if f.Kind=17/\(f.Of<0\/f.Of>=n)\/f.Kind≠17/\f.Of≠0 then 11 else 0
theorem zzc (n:Int) (prev:List Fld) (f:Fld):0<=zcP n prev f/\zcP n prev f<=11:=by
 unfold zcP
 repeat' split
 all_goals omega
def msgF (n:Int) (prev:List Fld):List Fld->Option (Nat×Int)
 | []=>none
 | f::l=>if 0<zcP n prev f then some (prev.length,zcP n prev f) else msgF n (prev++[f]) l
def chkF (n:Int) (prev:List Mes):List Mes->Option (Nat×Int×Int)
 | []=>none
 | m::l=>if zgA m.Name=false then some (prev.length, -1,2) else if prev.any (fun g=>g.Name==m.Name)=true then some (prev.length, -1,3)
  else if 200<m.Fields.length then some (prev.length, -1,4) else match msgF n [] m.Fields with
   | some (k,w)=>some (prev.length,(k:Int),w)
   | none=>chkF n (prev++[m]) l
def zkh (s:List Mes):Int×Int×Int:=if s.length=0\/100<s.length then (-1, -1,1) else match chkF s.length [] s with
 | none=>(0,0,0)
 | some (i,k,w)=>((i:Int),k,w)
def zfX (s:List Mes):Bool:=decide ((zkh s).2.2=0)
def WS (s:List Mes):Prop:=s.length<=140737488351232/\∀m∈s,m.Name.length<=140737488351232/\m.Fields.length<=140737488351232/\∀f∈m.Fields,f.Name.length<=140737488351232
theorem zrG :∀(l prev:List Fld),msgF n prev l=none↔∀(k:Nat) (f:Fld),l[k]? =some f->zcP n (prev++l.take k) f=0
 | [],prev=>by simp [msgF]
 | f::l,prev=>by
  have hb:=zzc n prev f;rw [msgF];by_cases h:0<zcP n prev f
  ·rw [xu h];refine ⟨(fun h'=>nomatch h'),fun h'=>?_⟩;have:=h' 0 f rfl;simp at this;omega
  ·rw [xt h,zrG l (prev++[f])];constructor
   ·intro h' k g hg;cases k with
    | zero=>simp at hg;subst hg;simp;omega
    | succ k=>have:=h' k g (by simpa using hg);simpa using this
   ·intro h' k g hg;have:=h' (k+1) g (by simpa using hg);simpa using this
theorem zwm :∀(l prev:List Mes),chkF n prev l=none↔∀(i:Nat) (m:Mes),l[i]? =some m->zgA m.Name=true/\(prev++l.take i).any (fun g=>g.Name==m.Name)=false/\m.Fields.length<=200/\msgF n [] m.Fields=none
 | [],prev=>by simp [chkF]
 | m::l,prev=>by
  rw [chkF];by_cases h1:zgA m.Name=false
  ·rw [xu h1];refine ⟨(fun h'=>nomatch h'),fun h'=>?_⟩;have:=(h' 0 m rfl).1;rw [h1] at this;cases this
  ·rw [xt h1];by_cases h2:prev.any (fun g=>g.Name==m.Name)=true
   ·rw [xu h2];refine ⟨(fun h'=>nomatch h'),fun h'=>?_⟩;have:=(h' 0 m rfl).2.1;simp only [yJ,yw] at this;rw [h2] at this;cases this
   ·rw [xt h2];by_cases h3:200<m.Fields.length
    ·rw [xu h3];refine ⟨(fun h'=>nomatch h'),fun h'=>?_⟩;have:=(h' 0 m rfl).2.2.1;omega
    ·rw [xt h3];cases h4:msgF n [] m.Fields with
     | some p=>
      refine ⟨(fun h'=>nomatch h'),fun h'=>?_⟩;have:=(h' 0 m rfl).2.2.2;rw [h4] at this;cases this
     | none=>
      simp only;rw [zwm l (prev++[m])];constructor
      ·intro h' i g hg;cases i with
       | zero=>simp at hg;subst hg;exact ⟨by simpa using h1,by simpa using h2,by omega,h4⟩
       | succ i=>have:=h' i g (by simpa using hg);simpa using this
      ·intro h' i g hg;have:=h' (i+1) g (by simpa using hg);simpa using this
theorem zHL:∀(n:Int) (l prev:List Fld) (k:Nat) (w:Int),msgF n prev l=some (k,w)->0<w:=by
 intro n l
 induction l with
 | nil=>intro prev k w h;cases h
 | cons f l ih=>
  intro prev k w h;rw [msgF] at h;split at h
  ·cases h;assumption
  ·exact ih _ _ _ h
theorem zCj:∀(n:Int) (l prev:List Mes) (i:Nat) (k w:Int),chkF n prev l=some (i,k,w)->0<w:=by
 intro n l
 induction l with
 | nil=>intro prev i k w h;cases h
 | cons m l ih=>
  intro prev i k w h;rw [chkF] at h;split at h
  ·cases h;omega
  ·split at h
   ·cases h;omega
   ·split at h
    ·cases h;omega
    ·split at h
     ·rename_i k' w' h';cases h;exact zHL _ _ _ _ _ h'
     ·exact ih _ _ _ _ h
structure zIy (n:Int) (f:Fld):Prop where
 name:zgA f.Name=true
 lo:1<=f.Number
 hi:f.Number<=536870911
 kind:zbL f.Kind=true
 packed:f.Packed=true->f.Repeated=true/\kNum f.Kind=true
 sub:f.Kind=17->0<=f.Of/\f.Of<n
 noSub:f.Kind≠17->f.Of=0
theorem ztX (h:zcP n prev f=0):zIy n f/\prev.any (fun g=>g.Name==f.Name)=false/\prev.any (fun g=>g.Number==f.Number)=false:=by
 unfold zcP at h;split at h
 ·omega
 ·rename_i h1;split at h
  ·omega
  ·rename_i h2;split at h
   ·omega
   ·rename_i h3;split at h
    ·omega
    ·rename_i h4;split at h
     ·omega
     ·rename_i h5;split at h
      ·omega
      ·rename_i h6;split at h
       ·omega
       ·rename_i h7;refine ⟨⟨by simpa using h1,by omega,by omega,by simpa using h5,fun hp=>?_,fun hk=>by omega,fun hk=>by omega⟩,by simpa using h2,by simpa using h4⟩;by_cases hq:f.Repeated=true/\kNum f.Kind=true
        ·exact hq
        ·exact absurd ⟨hp,hq⟩ h6
structure zfa (s:List Mes):Prop where
 len:1<=s.length/\s.length<=100
 name:∀m∈s,zgA m.Name=true
 names:∀(i j:Nat) (a b:Mes),i<j->s[i]? =some a->s[j]? =some b->a.Name≠b.Name
 few:∀m∈s,m.Fields.length<=200
 fld:∀m∈s,∀f∈m.Fields,zIy s.length f
 nums:∀m∈s,∀(i j:Nat) (f g:Fld),i<j->m.Fields[i]? =some f->m.Fields[j]? =some g->f.Number≠g.Number/\f.Name≠g.Name
theorem zrl {α:Type} {l:List α} {p:α->Bool} (h:l.any p=false) {x:α} (hx:x∈l):p x=false:=by
 rw [List.any_eq_false] at h;simpa using h x hx
theorem zxd {s:List Mes} (h:zfX s=true):zfa s:=by
 have h0:(zkh s).2.2=0:=by simpa [zfX] using h
 have h1:¬(s.length=0\/100<s.length):=fun hh=>by unfold zkh at h0;rw [xu hh] at h0;simp at h0
 have h2:chkF s.length [] s=none:=by
  cases h4:chkF s.length [] s with
  | none=>rfl
  | some p=>
   exfalso;obtain ⟨i,k,w⟩:=p;have h5:(zkh s).2.2=w:=by unfold zkh;rw [xt h1,h4]
   have:=zCj _ _ _ _ _ _ h4;omega
 have h3:=(zwm s []).1 h2;have at':∀m∈s,zgA m.Name=true/\m.Fields.length<=200/\msgF s.length [] m.Fields=none:=fun m hm=>by
  obtain ⟨i,hi,rfl⟩:=qA hm;have:=h3 i _ (xL hi);exact ⟨this.1,this.2.2.1,this.2.2.2⟩
 refine ⟨by omega,fun m hm=>(at' m hm).1,fun i j a b hij ha hb=>?_,fun m hm=>(at' m hm).2.1,fun m hm f hf=>?_,fun m hm i j f g hij hf hg=>?_⟩
 ·have:=(h3 j b hb).2.1;have hai:a∈([]++s.take j:List Mes):=by
   rw [xM];exact qn (i:=i) (by rw [yY,xu hij];exact ha)
  simpa using zrl this hai
 ·have h4:=(zrG m.Fields []).1 (at' m hm).2.2;obtain ⟨i,hi,rfl⟩:=qA hf;exact (ztX (h4 i _ (xL hi))).1
 ·have h4:=(zrG m.Fields []).1 (at' m hm).2.2;obtain ⟨_,k1,k2⟩:=ztX (h4 j g hg);have hai:f∈([]++m.Fields.take j:List Fld):=by
   rw [xM];exact qn (i:=i) (by rw [yY,xu hij];exact hf)
  exact ⟨by simpa using zrl k2 hai,by simpa using zrl k1 hai⟩
theorem zmA {α:Type} [DecidableEq α] (a b:List α) (F:Int->Option (Unit⊕Unit)) (hl:a.length=b.length) (h0:F (a.length:Int)=some (.inl ()))
  (hs:∀(i:Nat) (h:i<a.length) (h':i<b.length),F (i:Int)=if a[i]=b[i] then F ((i+1:Nat):Int) else some (.inr ())):
  ∀(d i:Nat),i+d=a.length->F (i:Int)=some (if a.drop i=b.drop i then .inl () else .inr ()):=by
 intro d
 induction d with
 | zero=>
  intro i hi;have e1:a.drop i=[]:=yC (by omega);have e2:b.drop i=[]:=yC (by omega);have:i=a.length:=by omega
  rw [e1,e2,xu rfl,this,h0]
 | succ d ih=>
  intro i hi;rw [hs i (by omega) (by omega),yq (l:=a) (by omega),yq (l:=b) (by omega)];by_cases h:a[i]'(by omega)=b[i]'(by omega)
  ·rw [xu h,ih (i+1) (by omega),h];simp only [qa,yV]
  ·rw [xt h,xt (fun e=>h (List.cons.inj e).1)]
theorem zDF {s:List Mes} {i:Nat} {m:Mes} (hi:∃h:i<s.length,s[i]=m) (hb:m.Fields.length<=140737488351232):∀(d k:Nat) (n:Int),k+d=m.Fields.length->∃r,zcX i s n k=some r:=by
 obtain ⟨hil,hm⟩:=hi;have e1:idx s (i:Int)=some m:=by rw [zaf rfl hil,hm]
 intro d
 induction d with
 | zero=>
  intro k n hk;refine ⟨n,zlC ?_⟩;unfold zby;rw [e1,sb,up]
 | succ d ih=>
  intro k n hk;obtain ⟨r,hr⟩:=ih (k+1) (i64.wrap (n+(i64.wrap (Int.tdiv (((m.Fields[k]'(by omega)).Name.length:Int)) 100)))) (by omega);refine ⟨r,(zlB (k':=((k+1:Nat):Int)) ?_).trans hr⟩;unfold zby;rw [e1,sb,uo,sb,zaf rfl (by omega),sb,zJ (x:=(k:Int)+1) (by omega)];push_cast;rfl
theorem zJj {s:List Mes} (hw:WS s):∃b,zfd s=some b:=by
 obtain ⟨hs,hm⟩:=hw;have key:∀(d i:Nat) (n:Int),i+d=s.length->∃r,zcW s n i=some r:=by
  intro d
  induction d with
  | zero=>
   intro i n hi;refine ⟨n,zlA ?_⟩;unfold zbx;rw [up]
  | succ d ih=>
   intro i n hi;have hil:i<s.length:=by omega
   obtain ⟨q,hq⟩:=zDF (s:=s) (i:=i) (m:=s[i]) ⟨hil,rfl⟩ (hm _ (xF hil)).2.1 (s[i]).Fields.length 0
    (i64.wrap ((i64.wrap ((i64.wrap (n+1))+(i64.wrap (Int.tdiv ((s[i]).Name.length:Int) 100))))+((s[i]).Fields.length:Int))) (by omega)
   have hq':zcX i s (i64.wrap ((i64.wrap ((i64.wrap (n+1))+(i64.wrap (Int.tdiv ((s[i]).Name.length:Int) 100))))+((s[i]).Fields.length:Int))) 0=some q:=hq;obtain ⟨r,hr⟩:=ih (i+1) q (by omega);refine ⟨r,(zlz (i':=((i+1:Nat):Int)) ?_).trans hr⟩;unfold zbx;rw [uo,zaf rfl hil,sb,sb,hq',sb,zJ (x:=(i:Int)+1) (by omega)];push_cast;rfl
 obtain ⟨r,hr⟩:=key s.length 0 0 (by omega);have hr':zcW s 0 0=some r:=hr;exact ⟨_,by unfold zfd;rw [hr',sb]⟩
def zgH (m:Mes) (p:Int):Int:=(m.Fields.getD p.toNat ⟨[],0,0,false,false,0⟩).Number
def insS (κ:Int->Int) (i:Int) (out:List Int):List Int:=out.takeWhile (fun x=>decide (κ x<=κ i))++i::out.dropWhile (fun x=>decide (κ x<=κ i))
def zfL (κ:Int->Int):Nat->List Int
 | 0=>[]
 | n+1=>insS κ n (zfL κ n)
theorem zwC (κ:Int->Int) (i:Int) (out:List Int):(insS κ i out).Perm (i::out):=by
 unfold insS;refine List.perm_middle.trans ?_;rw [qZ]
theorem zfk :∀{n:Nat} {x:Int},x∈zfL κ n↔0<=x/\x<n
 | 0,x=>by
  simp only [zfL,xO,false_iff];omega
 | n+1,x=>by
  rw [zfL,(zwC κ n _).mem_iff,xz,zfk];omega
theorem zxh (κ:Int->Int):∀(n:Nat),(zfL κ n).length=n
 | 0=>rfl
 | n+1=>by rw [zfL,(zwC κ n _).length_eq,xK,zxh κ n]
def zpm (κ:Int->Int) (a b:Int):Prop:=κ a<κ b\/κ a=κ b/\a<b
theorem zyA {κ:Int->Int} {c:Int}:∀{l:List Int},∀x∈l.takeWhile (fun x=>decide (κ x<=c)),κ x<=c/\x∈l:=by
 intro l
 induction l with
 | nil=>intro x hx;simp at hx
 | cons y l ih=>
  intro x hx;rw [List.takeWhile_cons] at hx;by_cases hy:κ y<=c
  ·rw [xu (by simpa using hy)] at hx;rcases xz.1 hx with rfl| hx
   ·exact ⟨hy,xw⟩
   ·exact ⟨(ih x hx).1,xx _ (ih x hx).2⟩
  ·rw [xt (by simpa using hy)] at hx;cases hx
theorem zxP :∀{l:List Int},l.Pairwise (zpm κ)->∀x∈l.dropWhile (fun x=>decide (κ x<=c)),c<κ x:=by
 intro l
 induction l with
 | nil=>intro _ x hx;simp at hx
 | cons y l ih=>
  intro hp x hx;rw [List.dropWhile_cons] at hx;have hp':=yd.1 hp;by_cases hy:κ y<=c
  ·rw [xu (by simpa using hy)] at hx;exact ih hp'.2 x hx
  ·rw [xt (by simpa using hy)] at hx;rcases xz.1 hx with rfl| hx
   ·omega
   ·have:=hp'.1 x hx;unfold zpm at this;omega
theorem zqO (κ:Int->Int):∀(n:Nat),(zfL κ n).Pairwise (zpm κ)
 | 0=> .nil
 | n+1=>by
  have ih:=zqO κ n;have hm:∀x∈zfL κ n,x<n:=fun x hx=>(zfk.1 hx).2
  rw [zfL,insS];have hsplit:(zfL κ n).takeWhile (fun x=>decide (κ x<=κ n))++(zfL κ n).dropWhile (fun x=>decide (κ x<=κ n))=zfL κ n:=qZ;have hp:((zfL κ n).takeWhile (fun x=>decide (κ x<=κ n))++(zfL κ n).dropWhile (fun x=>decide (κ x<=κ n))).Pairwise (zpm κ):=by rw [hsplit];exact ih
  have ht:=zyA (κ:=κ) (c:=κ n) (l:=zfL κ n);have hd:=zxP (c:=κ n) ih;have htm:∀x∈(zfL κ n).takeWhile (fun x=>decide (κ x<=κ n)),x<n:=fun x hx=>hm x (ht x hx).2
  rw [List.pairwise_append] at hp|-;refine ⟨hp.1,yd.2 ⟨fun x hx=> .inl (hd x hx),hp.2.1⟩,fun a ha b hb=>?_⟩;rcases xz.1 hb with rfl| hb
  ·have h1:=(ht a ha).1;have h2:=htm a ha;unfold zpm;omega
  ·exact hp.2.2 a ha b hb
def cont (c:UInt8):Bool:=decide (128<=c.toNat/\c.toNat<192)
def is1:List UInt8->Bool
 | a::_=>decide (a.toNat<128)
 | _=>false
def is2:List UInt8->Bool
 | a::b::_=>decide (194<=a.toNat/\a.toNat<224/\cont b=true)
 | _=>false
def is3:List UInt8->Bool
 | a::b::c::_=>decide (224<=a.toNat/\a.toNat<240/\cont b=true/\cont c=true/\(a.toNat=224->160<=b.toNat)/\(a.toNat=237->b.toNat<160))
 | _=>false
def is4:List UInt8->Bool
 | a::b::c::d::_=>decide (240<=a.toNat/\a.toNat<245/\cont b=true/\cont c=true/\cont d=true/\(a.toNat=240->144<=b.toNat)/\(a.toNat=244->b.toNat<144))
 | _=>false
def nxt (l:List UInt8):Nat:=if is1 l then 1 else if is2 l then 2 else if is3 l then 3 else if is4 l then 4 else 0
def isN (n:Nat) (l:List UInt8):Bool:=match n with
 | 1=>is1 l
 | 2=>is2 l
 | 3=>is3 l
 | 4=>is4 l
 | _=>false
theorem zkn (h:isN n l=true):∃a t,l=a::t/\n<=l.length/\(n=1/\a.toNat<128\/n=2/\194<=a.toNat/\a.toNat<224\/n=3/\224<=a.toNat/\a.toNat<240\/n=4/\240<=a.toNat):=by
 match n,l with
 | 1,a::t=>simp only [isN,is1,xY] at h;exact ⟨a,t,rfl,by simp,.inl ⟨rfl,h⟩⟩
 | 2,a::b::t=>simp only [isN,is2,xY] at h;exact ⟨a,_,rfl,by simp,.inr (.inl ⟨rfl,h.1,h.2.1⟩)⟩
 | 3,a::b::c::t=>simp only [isN,is3,xY] at h;exact ⟨a,_,rfl,by simp,.inr (.inr (.inl ⟨rfl,h.1,h.2.1⟩))⟩
 | 4,a::b::c::d::t=>simp only [isN,is4,xY] at h;exact ⟨a,_,rfl,by simp,.inr (.inr (.inr ⟨rfl,h.1⟩))⟩
 | 0,_=>cases h
 | 1,[]=>cases h
 | 2,[]=>cases h
 | 2,[_]=>cases h
 | 3,[]=>cases h
 | 3,[_]=>cases h
 | 3,[_,_]=>cases h
 | 4,[]=>cases h
 | 4,[_]=>cases h
 | 4,[_,_]=>cases h
 | 4,[_,_,_]=>cases h
 | _+5,_=>cases h
theorem zHt (h:isN n l=true) (h':isN m l=true):n=m:=by
 obtain ⟨a,t,e,_,g⟩:=zkn h;obtain ⟨a',t',e',_,g'⟩:=zkn h';rw [e] at e';cases e';omega
theorem zJD (h:isN n l=true):nxt l=n:=by
 obtain ⟨_,_,_,_,g⟩:=zkn h;have k:∀m,m≠n->isN m l=false:=fun m hm=>by
  cases hh:isN m l with
  | false=>rfl
  | true=>exact absurd (zHt hh h) hm
 have hn:n=1\/n=2\/n=3\/n=4:=by omega
 rcases hn with rfl| rfl| rfl| rfl
 ·simp only [isN] at h;simp [nxt,h]
 ·have j1:=k 1 (by omega);simp only [isN] at h j1;simp [nxt,h,j1]
 ·have j1:=k 1 (by omega);have j2:=k 2 (by omega);simp only [isN] at h j1 j2;simp [nxt,h,j1,j2]
 ·have j1:=k 1 (by omega);have j2:=k 2 (by omega);have j3:=k 3 (by omega);simp only [isN] at h j1 j2 j3;simp [nxt,h,j1,j2,j3]
theorem ztr (h:nxt l≠0):isN (nxt l) l=true:=by
 unfold nxt at h|-;by_cases h1:is1 l=true
 ·simp [h1,isN]
 ·by_cases h2:is2 l=true
  ·simp [h1,h2,isN]
  ·by_cases h3:is3 l=true
   ·simp [h1,h2,h3,isN]
   ·by_cases h4:is4 l=true
    ·simp [h1,h2,h3,h4,isN]
    ·simp [h1,h2,h3,h4] at h
theorem zuC (l:List UInt8):nxt l<=l.length:=by
 by_cases h:nxt l=0
 ·omega
 ·obtain ⟨_,_,_,g,_⟩:=zkn (ztr h);exact g
theorem zHN (l:List UInt8):nxt l<=4:=by
 by_cases h:nxt l=0
 ·omega
 ·obtain ⟨_,_,_,_,g⟩:=zkn (ztr h);omega
def fst4 (m:Int) (l:List UInt8):Nat×Nat:=
 if h:nxt l=0\/(nxt l:Int)>m then (0,0) else (nxt l+(fst4 (m - nxt l) (l.drop (nxt l))).1,(fst4 (m - nxt l) (l.drop (nxt l))).2+1)
termination_by l.length
decreasing_by all_goals (have:=zuC l;simp only [yf];omega)
theorem zrw (h:nxt l=0\/(nxt l:Int)>m):fst4 m l=(0,0):=by rw [fst4,dif_pos h]
theorem zxW (h:¬(nxt l=0\/(nxt l:Int)>m)):fst4 m l=(nxt l+(fst4 (m - nxt l) (l.drop (nxt l))).1,(fst4 (m - nxt l) (l.drop (nxt l))).2+1):=by rw [fst4,dif_neg h]
def pre4 (l:List UInt8):Nat×Nat:=fst4 l.length l
theorem zFp (h:(l.length:Int)<=m):fst4 m l=pre4 l:=by
 have key:∀(n:Nat) (l:List UInt8) (m m':Int),l.length=n->(l.length:Int)<=m->(l.length:Int)<=m'->fst4 m l=fst4 m' l:=by
  intro n
  induction n using Nat.strongRecOn with
  | _ n ih=>
   intro l m m' hn hm hm';have hle:=zuC l;by_cases h:nxt l=0
   ·rw [zrw (.inl h),zrw (.inl h)]
   ·rw [zxW (m:=m) (l:=l) (by omega),zxW (m:=m') (l:=l) (by omega),ih _ (by simp only [yf];omega) (l.drop (nxt l)) (m - nxt l) (m' - nxt l) rfl (by simp only [yf];omega) (by simp only [yf];omega)]
 exact key _ l m l.length rfl h (qf _)
theorem zEh (h:nxt l=0):pre4 l=(0,0):=zrw (.inl h)
theorem zHU (h:nxt l≠0):pre4 l=(nxt l+(pre4 (l.drop (nxt l))).1,(pre4 (l.drop (nxt l))).2+1):=by
 have hle:=zuC l;unfold pre4;rw [zxW (by omega),zFp (m:=(l.length:Int) - nxt l) (by simp only [yf];omega)];rfl
theorem zGe (P:List UInt8->Prop) (h0:∀l,nxt l=0->P l) (h1:∀l,nxt l≠0->P (l.drop (nxt l))->P l) (l:List UInt8):P l:=by
 generalize hn:l.length=n
 induction n using Nat.strongRecOn generalizing l with
 | _ n ih=>
  by_cases h:nxt l=0
  ·exact h0 l h
  ·have:=zuC l;exact h1 l h (ih _ (by simp only [yf];omega) _ rfl)
def zfB (l:List UInt8):Bool:=decide ((pre4 l).1=l.length)
def enc (v:Nat):List UInt8:=if v<128 then [UInt8.ofNat v] else UInt8.ofNat (128+v%128)::enc (v/128)
termination_by v
decreasing_by omega
def scan:Nat->Nat->List UInt8->Unit⊕(Int×Int×Int)
 | _,_,[]=> .inl ()
 | i,acc,c::t=>if i=9/\1<c.toNat then .inr (0,0,4) else if c.toNat<128 then .inr (((acc+c.toNat%128*128^i:Nat):Int),((i+1:Nat):Int),0) else scan (i+1) (acc+c.toNat%128*128^i) t
def rdR:Unit⊕(Int×Int×Int)->Int×Int×Int
 | .inl _=>(0,0,3)
 | .inr r=>r
def rd (b:List UInt8):Int×Int×Int:=rdR (scan 0 0 (b.take 10))
def hor:List UInt8->Nat
 | []=>0
 | c::t=>c.toNat%128+128*hor t
def lead:Nat->List UInt8->Nat
 | 0,_=>0
 | _+1,[]=>0
 | k+1,c::t=>if 128<=c.toNat then lead k t+1 else 0
theorem zIS (i:Nat):2^(7*i)=128^i:=by rw [Nat.pow_mul]
theorem zHf (c:Nat):c&&&127=c%128:=ug c 7
theorem zEl {acc i c:Nat} (hi:i<=9) (hacc:acc<128^i) (hc:c<256) (h9:i=9->c<=1):
  orI .u64 (acc:Int) (shlI .u64 (u64.wrap (andI .u8 (c:Int) 127)) ((7*i:Nat):Int))=((acc+c%128*128^i:Nat):Int):=by
 have e1:andI .u8 (c:Int) 127=((c%128:Nat):Int):=by
  have:=zyL (k:= .u8) rfl (a:=c) (b:=127) (by simpa [IntKind.bits] using hc) (by simp [IntKind.bits]);rw [zHf] at this;exact this
 have hp:128^i<=128^9:=qY (by omega) hi;have v8:c%128*128^i<18446744073709551616:=by
  by_cases h:i=9
  ·subst h;have:=h9 rfl;have h2:c%128<=1:=by omega
   have:=yl (128^9) h2;omega
  ·have h3:128^i<=128^8:=qY (by omega) (by omega);have:=pV (show c%128<=127 by omega) h3;omega
 have e2:shlI .u64 (u64.wrap ((c%128:Nat):Int)) ((7*i:Nat):Int)=((c%128*128^i:Nat):Int):=by
  unfold shlI;rw [zrj rfl (by simp [IntKind.bits];omega),xH,qx (by simp [IntKind.bits];omega)];have h4:((c%128:Nat):Int)*2^(7*i)=((c%128*128^i:Nat):Int):=by rw [<-zIS];push_cast;rfl
  rw [h4];exact zrj rfl (by simpa [IntKind.bits] using v8)
 rw [e1,e2,zts rfl (by simp [IntKind.bits];omega) (by simpa [IntKind.bits] using v8)];congr 1;rw [<-zIS] at hacc|-;exact zuI _ _ _ hacc
theorem zEk:∀(t:List UInt8) (v:List UInt8) (i acc:Nat),v.drop i=t->i+t.length=v.length->v.length<=10->acc<128^i->zfp v acc i=some (scan i acc t):=by
 intro t
 induction t with
 | nil=>
  intro v i acc _ hl _ _;refine zgV ?_;unfold zct;rw [itF (by simp at hl|-;omega)];rfl
 | cons c t ih=>
  intro v i acc hd hl hv hacc;simp only [xK] at hl;have hget:v[i]'(by omega)=c:=by
   have h1:v.drop i=v[i]'(by omega)::v.drop (i+1):=yq (by omega);rw [hd] at h1;exact (List.cons.inj h1).1.symm
  have hd':v.drop (i+1)=t:=by rw [<-yu,hd];rfl
  have hc:=c.toNat_lt;have hb:zct v acc i=if i=9/\1<c.toNat then some (.inr (.inr (0,0,4))) else if c.toNat<128 then some (.inr (.inr (((acc+c.toNat%128*128^i:Nat):Int),((i+1:Nat):Int),0))) else some (.inl (((acc+c.toNat%128*128^i:Nat):Int),((i+1:Nat):Int))):=by
   unfold zct;rw [uo,zaf rfl (show i<v.length by omega),sb,hget];by_cases h9:i=9/\1<c.toNat
   ·rw [xu h9,uo]
   ·rw [xt h9,up,uq];have e:((7:Int)*(i:Int))=((7*i:Nat):Int):=by push_cast;rfl
    rw [e,zAj,sb,zEl (by omega) hacc (by omega) (by omega),uq];by_cases h8:c.toNat<128
    ·rw [xu h8,uo];push_cast;rfl
    ·rw [xt h8,up];push_cast;rfl
  rw [scan];split at hb
  ·rename_i h9;rw [xu h9];exact zgV hb
  ·rename_i h9;rw [xt h9];split at hb
   ·rename_i h8;rw [xu h8];exact zgV hb
   ·rename_i h8;rw [xt h8,zpQ hb];refine ih v (i+1) _ hd' (by omega) hv ?_;rw [yD];have:=yl (128^i) (show c.toNat%128<=127 by omega);omega
theorem ztA (b:List UInt8):zfs b=some (rd b):=by
 unfold zfs rd;have e:(if (10:Int)<(b.length:Int) then (10:Int) else (b.length:Int))=((min 10 b.length:Nat):Int):=by split<;>omega
 have e2:b.take (min 10 b.length)=b.take 10:=by rw [List.take_eq_take_iff];omega
 rw [e,ztT rfl (by omega),sb,e2];have h:=zEk (b.take 10) (b.take 10) 0 0 rfl (by simp) (by simp;omega) (by simp);have h':zfp (b.take 10) 0 0=some (scan 0 0 (b.take 10)):=h;rw [h',sb];cases scan 0 0 (b.take 10)<;>rfl
theorem zDk (b:List UInt8):zhn b=some ((rd b).2.1,(rd b).2.2):=by unfold zhn;rw [ztA,sb]
theorem zCG:∀(k:Nat) (l:List UInt8),lead k l<=k/\lead k l<=l.length
 | 0,_=>⟨xA _,xI _⟩
 | _+1,[]=>⟨xI _,xA _⟩
 | k+1,c::t=>by
  have:=zCG k t;rw [lead];split<;>simp<;>omega
theorem zEp:∀(l:List UInt8) (i acc:Nat),i+l.length<=10->i<=9->
  scan i acc l=if i+lead (10 - i) l=10 then .inr (0,0,4) else if lead (10 - i) l=l.length then .inl () else if i+lead (10 - i) l=9/\1<(l.getD (lead (10 - i) l) 0).toNat then .inr (0,0,4) else
   .inr (((acc+hor (l.take (lead (10 - i) l+1))*128^i:Nat):Int),((i+lead (10 - i) l+1:Nat):Int),0):=by
 intro l
 induction l with
 | nil=>
  intro i acc _ hi;obtain ⟨k,hk⟩:∃k,10 - i=k+1:=⟨9 - i,by omega⟩;rw [hk];simp only [lead,scan,yF];rw [xt (by omega),xu trivial]
 | cons c t ih=>
  intro i acc hl hi;obtain ⟨k,hk⟩:∃k,10 - i=k+1:=⟨9 - i,by omega⟩;simp only [xK] at hl;rw [scan];by_cases hc:128<=c.toNat
  ·have e:lead (10 - i) (c::t)=lead k t+1:=by rw [hk,lead,xu hc]
   rw [e];by_cases h9:i=9
   ·have:k=0:=by omega
    subst this;rw [xu ⟨h9,by omega⟩,lead,xu (by omega)]
   ·rw [xt (by omega),xt (by omega),ih (i+1) _ (by omega) (by omega),show 10 - (i+1)=k by omega];by_cases h1:i+1+lead k t=10
    ·rw [xu h1,xu (show i+(lead k t+1)=10 by omega)]
    ·rw [xt h1,xt (show ¬i+(lead k t+1)=10 by omega)];by_cases h2:lead k t=t.length
     ·rw [xu h2,xu (show lead k t+1=(c::t).length by simp;omega)]
     ·rw [xt h2,xt (show ¬lead k t+1=(c::t).length by simp;omega)];have eg:(c::t).getD (lead k t+1) 0=t.getD (lead k t) 0:=by simp [List.getD]
      rw [eg];by_cases h3:i+1+lead k t=9/\1<(t.getD (lead k t) 0).toNat
      ·rw [xu h3,xu (show i+(lead k t+1)=9/\1<(t.getD (lead k t) 0).toNat by omega)]
      ·rw [xt h3,xt (show ¬(i+(lead k t+1)=9/\1<(t.getD (lead k t) 0).toNat) by omega)];rw [qN,hor,yD];have e5:acc+c.toNat%128*128^i+hor (t.take (lead k t+1))*(128^i*128)=acc+(c.toNat%128+128*hor (t.take (lead k t+1)))*128^i:=by
        rw [pq,qb 128,yL (128^i) 128,<-qb,yL _ 128,qb];omega
       rw [e5];congr 3;omega
  ·have e:lead (10 - i) (c::t)=0:=by rw [hk,lead,xt hc]
   rw [e];simp only [yy,xK,List.getD_cons_zero];rw [xt (show ¬i=10 by omega),xt (show ¬0=t.length+1 by omega)];by_cases h9:i=9/\1<c.toNat
   ·rw [xu h9,xu h9]
   ·rw [xt h9,xt h9,xu (show c.toNat<128 by omega)];simp [hor]
theorem zBj (x y:List UInt8):hor (x++y)=hor x+128^x.length*hor y:=by
 induction x with
 | nil=>simp [hor]
 | cons c t ih=>simp only [yk,hor,ih,xK,yD,Nat.mul_add];rw [yL (128^t.length) 128,qb];omega
theorem zFq (l:List UInt8):hor l<128^l.length:=by
 induction l with
 | nil=>simp [hor]
 | cons c t ih=>simp only [hor,xK,yD];omega
theorem zKd (hn:n<=9) (hC:C<256) (h9:¬(n=9/\1<C)) (hX:X<128^n):X+128^n*(C%128)<18446744073709551616:=by
 by_cases h9':n=9
 ·subst h9';have:C%128<=1:=by omega
  have:=pG (128^9) this;omega
 ·have h5:128^n<=128^8:=qY (by omega) (by omega);have h6:C%128<=127:=by omega
  have:=pV h5 h6;omega
theorem zwJ:∀(k:Nat) (l:List UInt8),lead k (l.take k)=lead k l
 | 0,_=>rfl
 | _+1,[]=>rfl
 | k+1,c::t=>by simp only [qN,lead,zwJ k t]
theorem zwI:∀(k:Nat) (l:List UInt8),(∀y∈l.take (lead k l),128<=y.toNat)/\∀(h:lead k l<l.length),lead k l<k->(l[lead k l]).toNat<128
 | 0,_=>⟨fun y hy=>by simp [lead] at hy,fun _ h=>by omega⟩
 | _+1,[]=>⟨fun y hy=>by simp at hy,fun h=>by simp at h⟩
 | k+1,c::t=>by
  obtain ⟨h1,h2⟩:=zwI k t;by_cases hc:128<=c.toNat
  ·have e:lead (k+1) (c::t)=lead k t+1:=by rw [lead,xu hc]
   constructor
   ·rw [e,qN];intro y hy;cases hy with
    | head=>exact hc
    | tail _ hy=>exact h1 y hy
   ·simp only [e,pX,xK];intro h hk;exact h2 (by omega) (by omega)
  ·have e:lead (k+1) (c::t)=0:=by rw [lead,xt hc]
   constructor
   ·rw [e];intro y hy;simp at hy
   ·simp only [e];intro _ _;simp;omega
theorem zks (b:List UInt8):rd b=(0,0,4)\/(rd b=(0,0,3)/\b.length<=9)\/
  ∃x c y,b=x++c::y/\(∀z∈x,128<=z.toNat)/\c.toNat<128/\x.length<=9/\hor (x++[c])<18446744073709551616/\rd b=(((hor (x++[c]):Nat):Int),((x.length+1:Nat):Int),0):=by
 have hle:=zCG 10 b;have hs:=zEp (b.take 10) 0 0 (by simp;omega) (by omega);simp only [xQ,qw,zwJ,Nat.pow_zero,Nat.mul_one] at hs;unfold rd;rw [hs];by_cases h10:lead 10 b=10
 ·rw [xu h10];exact .inl rfl
 ·rw [xt h10];by_cases hl:lead 10 b=(b.take 10).length
  ·rw [xu hl];refine .inr (.inl ⟨rfl,?_⟩);rw [yo] at hl;omega
  ·rw [xt hl];rw [yo] at hl;have v8:lead 10 b<b.length:=by omega
   have hg:(b.take 10).getD (lead 10 b) 0=b[lead 10 b]:=by
    rw [px,yY,xu (by omega),xL v8];rfl
   rw [hg,pr,qx (by omega)];have hc:=(b[lead 10 b]).toNat_lt;by_cases h9:lead 10 b=9/\1<(b[lead 10 b]).toNat
   ·rw [xu h9];exact .inl rfl
   ·rw [xt h9];obtain ⟨hf1,hf2⟩:=zwI 10 b;have hsp:b.take (lead 10 b+1)=b.take (lead 10 b)++[b[lead 10 b]]:=by
     rw [List.take_add_one,xL v8];rfl
    have wb:(b.take (lead 10 b)).length=lead 10 b:=by rw [yo];omega
    refine .inr (.inr ⟨b.take (lead 10 b),b[lead 10 b],b.drop (lead 10 b+1),?_,hf1,hf2 v8 (by omega),by omega,?_,?_⟩)
    ·rw [<-yq v8,qU]
    ·rw [zBj];have h3:=zFq (b.take (lead 10 b));rw [wb] at h3|-;simp only [hor,Nat.mul_zero,yy];exact zKd (by omega) (by omega) h9 h3
    ·rw [hsp,wb];simp [rdR]
theorem zmm (h:v<128):enc v=[UInt8.ofNat v]:=by rw [enc,xu h]
theorem ztV (h:¬v<128):enc v=UInt8.ofNat (128+v%128)::enc (v/128):=by rw [enc,xt h]
theorem zop:∀(v:Nat),(enc v).length=lenN v:=by
 intro v
 induction v using Nat.strongRecOn with
 | _ v ih=>
  by_cases h:v<128
  ·rw [zmm h,zhB h];rfl
  ·rw [ztV h,zjE h,xK,ih _ (by omega)]
theorem zli {v:Nat} (h:v<18446744073709551616):1<=(enc v).length/\(enc v).length<=10:=by
 rw [zop];exact ⟨zzH v,zuq h⟩
theorem zGs:∀(v i acc:Nat) (more:List UInt8),v*128^i<18446744073709551616->scan i acc (enc v++more)= .inr (((acc+v*128^i:Nat):Int),((i+(enc v).length:Nat):Int),0):=by
 intro v
 induction v using Nat.strongRecOn with
 | _ v ih=>
  intro i acc more hv;have h9:i=9->v<=1:=fun h=>by
   subst h;by_cases h1:v<=1
   ·exact h1
   ·have:=yl (128^9) (show 2<=v by omega);omega
  by_cases h:v<128
  ·have e:(UInt8.ofNat v).toNat=v:=by simp;omega
   rw [zmm h,py,scan,e,xt (by omega),xu h,qr h];rfl
  ·have e:(UInt8.ofNat (128+v%128)).toNat=128+v%128:=by simp;omega
   rw [ztV h,yk,scan,e,xt (by omega),xt (by omega)];have h2:v/128*128^(i+1)<=v*128^i:=by
    rw [yD,yL (128^i) 128,<-qb];exact yl _ (by omega)
   rw [ih (v/128) (by omega) (i+1) _ _ (by omega)];have e3:acc+(128+v%128)%128*128^i+v/128*128^(i+1)=acc+v*128^i:=by
    have e5:v/128*128^(i+1)=v/128*128*128^i:=by rw [yD,yL (128^i) 128,<-qb]
    rw [e5,show (128+v%128)%128=v%128 by omega,qB,<-pq,show v%128+v/128*128=v by omega]
   rw [e3,xK];congr 3;omega
theorem zuR {v:Nat} (more:List UInt8) (h:v<18446744073709551616):rd (enc v++more)=((v:Int),(((enc v).length:Nat):Int),0):=by
 unfold rd;rw [qi,yz (zli h).2,zGs v 0 0 _ (by simpa using h)];simp [rdR]
theorem zGw (v:Nat):shrI .u64 (v:Int) 7=((v/128:Nat):Int):=zqM (k:= .u64) (a:=v) (b:=7) (by simp [IntKind.bits])
theorem zFP:∀(w n:Nat),n+w<9223372036854775808+w->n+lz w<=1152921504606846976->zgZ w n=some ((n+lz w:Nat):Int):=by
 intro w
 induction w using Nat.strongRecOn with
 | _ w ih=>
  intro n hn hl;by_cases h:w=0
  ·subst h;refine zsO ?_;unfold zeA;rw [ul];rfl
  ·have e:=zJB h;refine (zsN (wv2':=((w/128:Nat):Int)) (n':=((n+1:Nat):Int)) ?_).trans ?_
   ·unfold zeA;rw [uo,zGw,uq];rfl
   ·rw [ih (w/128) (by omega) (n+1) (by omega) (by omega)];congr 2;omega
theorem zFO {v:Nat} (h:v<18446744073709551616):zlw (v:Int)=some ((lenN v:Nat):Int):=by
 unfold zlw;have h1:=zJA v;have h2:=zuq h;have h3:=zFP (v/128) 1 (by omega) (by omega);have h3':zgZ ((v/128:Nat):Int) 1=some ((1+lz (v/128):Nat):Int):=h3;rw [zGw,h3',sb,h1]
theorem zJH:∀n<256,n||| 128=n%128+128:=by decide+kernel
theorem zGh:∀(v:Nat) (l:List UInt8),v<18446744073709551616->l.length+(enc v).length<=1152921504606->∃(v':Nat) (l':List UInt8),zgL (v:Int) l=some ((v':Int),l')/\v'<128/\l'++[UInt8.ofNat v']=l++enc v:=by
 intro v
 induction v using Nat.strongRecOn with
 | _ v ih=>
  intro l hv hl;by_cases h:v<128
  ·refine ⟨v,l,zre ?_,h,by rw [zmm h]⟩;unfold zdu;rw [up]
  ·rw [ztV h,xK] at hl;obtain ⟨v',l',h1,h2,h3⟩:=ih (v/128) (by omega) (l++[UInt8.ofNat (128+v%128)]) (by omega) (by simp;omega);refine ⟨v',l',?_,h2,by rw [h3,ztV h];simp⟩;refine (zrd (wv2':=((v/128:Nat):Int)) (l':=l++[UInt8.ofNat (128+v%128)]) ?_).trans h1;unfold zdu;have e1:(v:Int)%256=((v%256:Nat):Int):=by omega
   have e2:orI .u8 ((v%256:Nat):Int) 128=((v%128+128:Nat):Int):=by
    have:=zts (k:= .u8) rfl (a:=v%256) (b:=128) (by simp [IntKind.bits];omega) (by simp [IntKind.bits]);rw [zJH _ (by omega)] at this;have e3:((128:Nat):Int)=128:=rfl;rw [e3] at this;rw [this];congr 1;omega
   rw [uo,zyI,e1,e2,zwj (n:=128+v%128) (by omega) (by omega),sb,zhw (by simp;omega),sb,zGw]
theorem zBE {v:Nat} (b:List UInt8) (h:v<18446744073709551616) (hb:b.length<=1099511627776):zgU b (v:Int)=some (b++enc v):=by
 unfold zgU;have h1:=zuq h;have h2:=(zli h).2;rw [zFO h,sb,uq,zHK (by omega) (by omega),sb,zhw (by simp;omega),sb];obtain ⟨v',l',h3,h4,h5⟩:=zGh v b h (by omega);have wb:l'.length+1=b.length+(enc v).length:=by have:=congrArg List.length h5;simpa using this
 simp only [xM];rw [h3,sb,zyI];simp only;rw [zwj (n:=v') (by omega) (by omega),sb,zhw (by simp;omega),sb,h5]
theorem zuY (a b:List UInt8):zeF a b=some (a==b):=rfl
def zck (n w:Int):Bool:=decide (1<=n/\n<=536870911/\(w=0\/w=1\/w=2\/w=5))
def tgR (r:Int×Int×Int):Int×Int×Int×Int:=
 if r.2.2≠0 then (0,0,0,r.2.2) else if 4294967295<r.1\/zck (r.1/8) (r.1%8)=false then (0,0,0,5) else (r.1/8,r.1%8,r.2.1,0)
def tg (l:List UInt8):Int×Int×Int×Int:=tgR (rd l)
def tW (n w:Int):Nat:=(8*n+w).toNat
theorem zdN :zck n w=true↔1<=n/\n<=536870911/\(w=0\/w=1\/w=2\/w=5):=by simp [zck]
theorem zhf (l:List UInt8):0<=(rd l).1/\(rd l).1<18446744073709551616/\0<=(rd l).2.1/\(rd l).2.1<=10/\(rd l).2.1<=l.length/\((rd l).2.2=0\/(rd l).2.2=3\/(rd l).2.2=4)/\((rd l).2.2=0->1<=(rd l).2.1):=by
 rcases zks l with h| ⟨h,_⟩| ⟨x,c,y,e,_,_,hl,hv,h⟩
 ·rw [h];simp
 ·rw [h];simp
 ·have:l.length=x.length+1+y.length:=by rw [e];simp;omega
  rw [h];refine ⟨?_,?_,?_,?_,?_,.inl rfl,fun _=>?_⟩<;>simp only<;>omega
theorem zDg (x:List UInt8) (c:UInt8) (y:List UInt8) (hx:∀z∈x,128<=z.toNat) (hc:c.toNat<128) (hl:x.length<=9) (hv:hor (x++[c])<18446744073709551616):
  rd (x++c::y)=(((hor (x++[c]):Nat):Int),((x.length+1:Nat):Int),0):=by
 have key:∀(x:List UInt8) (z:List UInt8) (i acc:Nat),(∀z∈x,128<=z.toNat)->i+x.length<=9->acc+hor (x++[c])*128^i<18446744073709551616->scan i acc (x++c::z)= .inr (((acc+hor (x++[c])*128^i:Nat):Int),((i+x.length+1:Nat):Int),0):=by
  intro x
  induction x with
  | nil=>
   intro z i acc _ hi hv;have e1:hor ([]++[c])=c.toNat:=by simp [hor];omega
   rw [e1] at hv|-;rw [xM,scan,xt,xu hc,qr hc]
   ·rfl
   ·rintro ⟨rfl,h2⟩;have:=yl (128^9) (show 2<=c.toNat by omega);omega
  | cons d x ih=>
   intro z i acc hx hi hv;simp only [xK] at hi;have hd:=hx d xw;have e5:acc+hor ((d::x)++[c])*128^i=acc+d.toNat%128*128^i+hor (x++[c])*128^(i+1):=by
    rw [yk,hor,yD,pq,yL (128^i) 128,<-qb,yL (hor (x++[c])) 128];omega
   rw [e5] at hv|-;rw [yk,scan,xt (by omega),xt (by omega),ih z (i+1) _ (fun z hz=>hx z (xx _ hz)) (by omega) hv,xK];congr 3;omega
 unfold rd;have e2:(x++c::y).take 10=x++c::y.take (9 - x.length):=by
  rw [qi,yz (by omega),show 10 - x.length=(9 - x.length)+1 by omega,qN]
 rw [e2,key x _ 0 0 hx (by omega) (by simpa using hv)];simp [rdR]
theorem zoC (l m:List UInt8) (h:(rd l).2.2=0):rd (l++m)=rd l:=by
 rcases zks l with h'| ⟨h',_⟩| ⟨x,c,y,e,hx,hc,hl,hv,h'⟩
 ·rw [h'] at h;cases h
 ·rw [h'] at h;cases h
 ·rw [h',e,ym,yk,zDg x c _ hx hc hl hv]
theorem zxn (l m:List UInt8) (h:(rd l).2.2=0):tg (l++m)=tg l:=by unfold tg;rw [zoC l m h]
theorem zDo (h:r.2.2≠0):tgR r=(0,0,0,r.2.2):=xu h
theorem zvh (h:r.2.2=0) (h2:4294967295<r.1\/zck (r.1/8) (r.1%8)=false):tgR r=(0,0,0,5):=by unfold tgR;rw [xt (by simp [h]),xu h2]
theorem zBQ (h:r.2.2=0) (h2:¬(4294967295<r.1\/zck (r.1/8) (r.1%8)=false)):tgR r=(r.1/8,r.1%8,r.2.1,0):=by unfold tgR;rw [xt (by simp [h]),xt h2]
theorem zAr (l:List UInt8):(∃c,tg l=(0,0,0,c)/\(c=3\/c=4\/c=5))\/∃n w k,tg l=(n,w,k,0)/\zck n w=true/\1<=k/\k<=10/\k<=l.length/\rd l=(8*n+w,k,0):=by
 obtain ⟨h1,h2,h3,h4,h5,h6,h7⟩:=zhf l;unfold tg;by_cases h:(rd l).2.2=0
 ·by_cases hg:4294967295<(rd l).1\/zck ((rd l).1/8) ((rd l).1%8)=false
  ·exact .inl ⟨5,zvh h hg,by omega⟩
  ·refine .inr ⟨_,_,_,zBQ h hg,?_,h7 h,h4,h5,?_⟩
   ·cases ht:zck ((rd l).1/8) ((rd l).1%8)
    ·exact absurd (.inr ht) hg
    ·rfl
   ·refine Prod.ext ?_ (Prod.ext rfl h);simp only;omega
 ·exact .inl ⟨_,zDo h,by omega⟩
theorem zvg {n w:Int} (h:zck n w=true):((tW n w:Nat):Int)=8*n+w/\tW n w<4294967296:=by
 have:=zdN.1 h;unfold tW;omega
theorem zHB {v:Nat} (h:v<34359738368):lenN v<=5:=by
 by_cases h1:v<128
 ·rw [zhB h1];omega
 ·rw [zjE h1];by_cases h2:v/128<128
  ·rw [zhB h2];omega
  ·rw [zjE h2];by_cases h3:v/128/128<128
   ·rw [zhB h3];omega
   ·rw [zjE h3];by_cases h4:v/128/128/128<128
    ·rw [zhB h4];omega
    ·rw [zjE h4,zhB (by omega)];omega
theorem zJY {n w:Int} (more:List UInt8) (h:zck n w=true):tg (enc (tW n w)++more)=(n,w,((enc (tW n w)).length:Int),0):=by
 have hr:=zdN.1 h;obtain ⟨e,v8⟩:=zvg h;unfold tg;rw [zuR more (by omega)];have e1:((tW n w:Nat):Int)/8=n:=by omega
 have e2:((tW n w:Nat):Int)%8=w:=by omega
 rw [zBQ rfl (by simp only [e1,e2,h];simp;omega)];simp only [e1,e2]
abbrev Rec:=zq
def zeC (w:Int) (k:Nat) (m:List UInt8):Int⊕(Nat×Nat):=
 if w=0 then (if (rd m).2.2≠0 then .inl (rd m).2.2 else .inr (k,k+(rd m).2.1.toNat))
 else if w=2 then (if (rd m).2.2≠0 then .inl (rd m).2.2 else if (m.length:Int) - (rd m).2.1<(rd m).1 then .inl 3 else .inr (k+(rd m).2.1.toNat,k+(rd m).2.1.toNat+(rd m).1.toNat))
 else if m.length<(if w=5 then 4 else 8) then .inl 3 else .inr (k,k+(if w=5 then 4 else 8))
def rec5 (l:List UInt8):Int⊕(Int×Int×Nat×Nat):=
 if (tg l).2.2.2≠0 then .inl (tg l).2.2.2 else match zeC (tg l).2.1 (tg l).2.2.1.toNat (l.drop (tg l).2.2.1.toNat) with
  | .inl c=> .inl c
  | .inr p=> .inr ((tg l).1,(tg l).2.1,p.1,p.2)
theorem ziL (w:Int) (k:Nat) (m:List UInt8):(∃c,zeC w k m= .inl c/\(c=3\/c=4))\/
  ∃a t,zeC w k m= .inr (a,t)/\k<=a/\a<=t/\t<=k+m.length/\
   (w=0/\a=k/\(rd m).2.2=0/\((t - k:Nat):Int)=(rd m).2.1/\k<t\/w=2/\(rd m).2.2=0/\((a - k:Nat):Int)=(rd m).2.1/\((t - a:Nat):Int)=(rd m).1\/w≠0/\w≠2/\a=k/\t=k+(if w=5 then 4 else 8)):=by
 obtain ⟨h1,h2,h3,h4,h5,h6,h7⟩:=zhf m;unfold zeC;by_cases w0:w=0
 ·rw [xu w0];by_cases h:(rd m).2.2=0
  ·have:=h7 h;rw [xt (by simpa using h)];exact .inr ⟨_,_,rfl,xA _,by omega,by omega,.inl ⟨w0,rfl,h,by omega,by omega⟩⟩
  ·rw [xu h];exact .inl ⟨_,rfl,by omega⟩
 ·rw [xt w0];by_cases w2:w=2
  ·rw [xu w2];by_cases h:(rd m).2.2=0
   ·rw [xt (by simpa using h)];by_cases h8:(m.length:Int) - (rd m).2.1<(rd m).1
    ·rw [xu h8];exact .inl ⟨_,rfl,by omega⟩
    ·rw [xt h8];exact .inr ⟨_,_,rfl,by omega,by omega,by omega,.inr (.inl ⟨w2,h,by omega,by omega⟩)⟩
   ·rw [xu h];exact .inl ⟨_,rfl,by omega⟩
  ·rw [xt w2];by_cases h8:m.length<(if w=5 then 4 else 8)
   ·rw [xu h8];exact .inl ⟨_,rfl,by omega⟩
   ·rw [xt h8];exact .inr ⟨_,_,rfl,xA _,by omega,by omega,.inr (.inr ⟨w0,w2,rfl,rfl⟩)⟩
theorem zxH (w:Int) (k:Nat) (m z:List UInt8) (h:zeC w k m= .inr p):zeC w k (m++z)= .inr p:=by
 unfold zeC at h|-;by_cases w0:w=0
 ·rw [xu w0] at h|-;by_cases h0:(rd m).2.2=0
  ·rw [zoC m z h0];exact h
  ·rw [xu h0] at h;cases h
 ·rw [xt w0] at h|-;by_cases w2:w=2
  ·rw [xu w2] at h|-;by_cases h0:(rd m).2.2=0
   ·rw [zoC m z h0];rw [xt (by simpa using h0)] at h|-;by_cases h8:(m.length:Int) - (rd m).2.1<(rd m).1
    ·rw [xu h8] at h;cases h
    ·rw [xt h8] at h;rw [xt (by simp only [xC];omega)];exact h
   ·rw [xu h0] at h;cases h
  ·rw [xt w2] at h|-;by_cases h8:m.length<(if w=5 then 4 else 8)
   ·rw [xu h8] at h;cases h
   ·rw [xt h8] at h;rw [xt (by simp only [xC];omega)];exact h
theorem ziq (l:List UInt8):(∃c,rec5 l= .inl c/\(c=3\/c=4\/c=5))\/
  ∃(n w:Int) (k a t:Nat),rec5 l= .inr (n,w,a,t)/\tg l=(n,w,(k:Int),0)/\zck n w=true/\zeC w k (l.drop k)= .inr (a,t)/\1<=k/\k<=l.length/\k<=a/\a<=t/\t<=l.length/\rd l=(8*n+w,(k:Int),0):=by
 rcases zAr l with ⟨c,h,hc⟩| ⟨n,w,k,h,hr,k1,k2,k3,hrd⟩
 ·refine .inl ⟨c,?_,hc⟩;unfold rec5;rw [h,xu (by simp only;omega)]
 ·obtain ⟨k,rfl⟩:∃j:Nat,k=j:=⟨k.toNat,by omega⟩
  have e:rec5 l=match zeC w k (l.drop k) with
   | .inl c=> .inl c
   | .inr p=> .inr (n,w,p.1,p.2):=by unfold rec5;rw [h];simp
  rcases ziL w k (l.drop k) with ⟨c,h2,hc⟩| ⟨a,t,h2,g1,g2,g3,_⟩
  ·exact .inl ⟨c,by rw [e,h2],by omega⟩
  ·simp only [yf] at g3;exact .inr ⟨n,w,k,a,t,by rw [e,h2],h,hr,h2,by omega,by omega,g1,g2,by omega,hrd⟩
theorem zAa (l z:List UInt8) (h:rec5 l= .inr r):rec5 (l++z)= .inr r:=by
 rcases ziq l with ⟨c,h',_⟩| ⟨n,w,k,a,t,h',htg,_,hb,_,hk,_,_,_,hrd⟩
 ·rw [h'] at h;cases h
 ·rw [h'] at h;have e:tg (l++z)=(n,w,(k:Int),0):=by rw [zxn l z (by rw [hrd]),htg]
  unfold rec5;rw [e];simp only [ne_eq,qg,yN,xH];rw [qV hk,zxH _ _ _ _ hb];exact h
def zrec:Rec:=⟨0,0,0,0,0⟩
def zeJ (b:List UInt8) (at5:Int):Rec×Int:=if at5<0\/at5>=b.length then (zrec,2) else match rec5 (b.drop at5.toNat) with
 | .inl c=>(zrec,c)
 | .inr (n,w,a,t)=>(⟨n,w,at5,at5+a,at5+t⟩,0)
def spl (base:Nat) (l:List UInt8):List Rec×Option (Nat×Int):=
 if hl:l=[] then ([],none) else match h:rec5 l with
  | .inl c=>([],some (base,c))
  | .inr (n,w,a,t)=>(⟨n,w,base,(base+a:Nat),(base+t:Nat)⟩::(spl (base+t) (l.drop t)).1,(spl (base+t) (l.drop t)).2)
termination_by l.length
decreasing_by
 all_goals
  rcases ziq l with ⟨c',h',_⟩| ⟨n',w',k',a',t',h',_,_,_,g1,g2,g3,g4,g5,_⟩
  ·rw [h'] at h;cases h
  ·rw [h'] at h;cases h;simp only [yf];omega
theorem zfD (base:Nat):spl base []=([],none):=by rw [spl,dif_pos rfl]
theorem zhN (hl:l≠[]) (h:rec5 l= .inl c):spl base l=([],some (base,c)):=by
 rw [spl,dif_neg hl];split
 ·rename_i c' h';rw [h] at h';cases h';rfl
 ·rename_i h';rw [h] at h';cases h'
theorem zeo (hl:l≠[]) (h:rec5 l= .inr (n,w,a,t)):
  spl base l=(⟨n,w,base,(base+a:Nat),(base+t:Nat)⟩::(spl (base+t) (l.drop t)).1,(spl (base+t) (l.drop t)).2):=by
 rw [spl,dif_neg hl];split
 ·rename_i c' h';rw [h] at h';cases h'
 ·rename_i n' w' a' t' h';rw [h] at h';cases h';rfl
theorem ziG (P:Nat->List UInt8->Prop) (h0:∀base,P base []) (he:∀base l c,l≠[]->rec5 l= .inl c->(c=3\/c=4\/c=5)->P base l)
  (hc:∀base l (n w:Int) (a t:Nat),l≠[]->rec5 l= .inr (n,w,a,t)->zck n w=true->1<=a->a<=t->t<=l.length->P (base+t) (l.drop t)->P base l) (base:Nat) (l:List UInt8):P base l:=by
 generalize hn:l.length=m
 induction m using Nat.strongRecOn generalizing base l with
 | _ m ih=>
  by_cases hl:l=[]
  ·subst hl;exact h0 base
  ·rcases ziq l with ⟨c,h,hc'⟩| ⟨n,w,k,a,t,h,_,hr,_,g1,g2,g3,g4,g5,_⟩
   ·exact he base l c hl h hc'
   ·exact hc base l n w a t hl h hr (by omega) g4 g5 (ih _ (by simp only [yf];omega) _ _ rfl)
theorem zId (base:Nat) (l:List UInt8):(spl base l).1.length<=l.length:=by
 refine ziG (fun base l=>(spl base l).1.length<=l.length) ?_ ?_ ?_ base l
 ·intro base;rw [zfD];simp
 ·intro base l c hl h _;rw [zhN hl h];simp
 ·intro base l n w a t hl h _ g1 g2 g3 ih;rw [zeo hl h];simp only [xK,yf] at ih|-;omega
theorem zGz (base:Nat) (l:List UInt8):∀p c,(spl base l).2=some (p,c)->(c=3\/c=4\/c=5)/\base<=p/\p<base+l.length:=by
 refine ziG (fun base l=>∀p c,(spl base l).2=some (p,c)->(c=3\/c=4\/c=5)/\base<=p/\p<base+l.length) ?_ ?_ ?_ base l
 ·intro base p c h;rw [zfD] at h;cases h
 ·intro base l c' hl h hc p c h2;rw [zhN hl h] at h2;cases h2;have:0<l.length:=qz.2 hl;exact ⟨hc,by omega,by omega⟩
 ·intro base l n w a t hl h _ g1 g2 g3 ih p c h2;rw [zeo hl h] at h2;have:=ih p c h2;simp only [yf] at this;omega
def zkB (d:Nat) (r:Rec):Rec:=⟨r.Number,r.Wire,r.From+d,r.At+d,r.To+d⟩
theorem zxi (d:Nat) (base:Nat) (l:List UInt8):spl (base+d) l=((spl base l).1.map (zkB d),(spl base l).2.map fun p=>(p.1+d,p.2)):=by
 refine ziG (fun base l=>spl (base+d) l=((spl base l).1.map (zkB d),(spl base l).2.map fun p=>(p.1+d,p.2))) ?_ ?_ ?_ base l
 ·intro base;rw [zfD,zfD];rfl
 ·intro base l c hl h _;rw [zhN hl h,zhN hl h];rfl
 ·intro base l n w a t hl h _ g1 g2 g3 ih;rw [zeo hl h,zeo hl h,show base+d+t=base+t+d by omega,ih];simp only [xJ,zkB,yx,qa,zq.mk.injEq,yV,qI];push_cast;omega
theorem zvc (m:List UInt8) (base:Nat) (l:List UInt8):(spl base l).2=none->spl base (l++m)=((spl base l).1++(spl (base+l.length) m).1,(spl (base+l.length) m).2):=by
 refine ziG (fun base l=>(spl base l).2=none->spl base (l++m)=((spl base l).1++(spl (base+l.length) m).1,(spl (base+l.length) m).2)) ?_ ?_ ?_ base l
 ·intro base _;rw [zfD];simp
 ·intro base l c hl h _ h2;rw [zhN hl h] at h2;cases h2
 ·intro base l n w a t hl h _ g1 g2 g3 ih h2;rw [zeo hl h] at h2|-;rw [zeo (by simp [hl]) (zAa l m h),qV g3,ih h2];simp only [yf,yk,show base+t+(l.length - t)=base+l.length by omega]
def zcB (w:Int) (v:List UInt8):Bool:=
 if w=0 then decide ((rd v).2.2=0/\(rd v).2.1=v.length) else decide (w=2\/w=1/\v.length=8\/w=5/\v.length=4)
def put5 (n w:Int) (v:List UInt8):List UInt8:=enc (tW n w)++(if w=2 then enc v.length else [])++v
theorem zHm (v:Nat):1<=(enc v).length:=by rw [zop];exact zzH v
theorem zGk {n w:Int} {v:List UInt8} (z:List UInt8) (h:zck n w=true) (hf:zcB w v=true) (hv:v.length<=1048576):
  rec5 (put5 n w v++z)= .inr (n,w,(put5 n w v).length - v.length,(put5 n w v).length):=by
 obtain ⟨_,v8⟩:=zvg h;have hen:=zli (v:=v.length) (by omega);have e:tg (put5 n w v++z)=(n,w,((enc (tW n w)).length:Int),0):=by
  unfold put5;rw [ym,ym];exact zJY _ h
 have hd:(put5 n w v++z).drop (enc (tW n w)).length=(if w=2 then enc v.length else [])++v++z:=by
  unfold put5;rw [ym,ym,q6,ym]
 unfold rec5;rw [e];simp only [ne_eq,qg,yN,xH];rw [hd];have hw:=(zdN.1 h).2.2;unfold zcB at hf;rcases hw with rfl| rfl| rfl| rfl
 ·rw [xu rfl] at hf;obtain ⟨f1,f2⟩:=yr hf;have hb:zeC 0 (enc (tW n 0)).length ((if (0:Int)=2 then enc v.length else [])++v++z)= .inr ((enc (tW n 0)).length,(enc (tW n 0)).length+v.length):=by
   rw [xt (by omega),xM];unfold zeC;rw [xu rfl,zoC v z f1,xt (by simpa using f1),f2,xH]
  rw [hb];simp [put5]
 ·have f:=yr hf;have f8:v.length=8:=by omega
  have hb:zeC 1 (enc (tW n 1)).length ((if (1:Int)=2 then enc v.length else [])++v++z)= .inr ((enc (tW n 1)).length,(enc (tW n 1)).length+8):=by
   rw [xt (by omega),xM];unfold zeC;rw [xt (by omega),xt (by omega),xt (by simp;omega)];rfl
  rw [hb];simp [put5,f8]
 ·have hb:zeC 2 (enc (tW n 2)).length ((if (2:Int)=2 then enc v.length else [])++v++z)= .inr ((enc (tW n 2)).length+(enc v.length).length,(enc (tW n 2)).length+(enc v.length).length+v.length):=by
   rw [xu rfl];unfold zeC;rw [xt (by omega),xu rfl,ym,zuR _ (by omega),xt (by simp),xt (by simp only [xC];omega)];simp
  rw [hb];simp [put5];omega
 ·have f:=yr hf;have f4:v.length=4:=by omega
  have hb:zeC 5 (enc (tW n 5)).length ((if (5:Int)=2 then enc v.length else [])++v++z)= .inr ((enc (tW n 5)).length,(enc (tW n 5)).length+4):=by
   rw [xt (by omega),xM];unfold zeC;rw [xt (by omega),xt (by omega),xt (by simp;omega)];rfl
  rw [hb];simp [put5,f4]
theorem ziU (n w:Int) (v:List UInt8):(put5 n w v).length=(enc (tW n w)).length+(if w=2 then (enc v.length).length else 0)+v.length:=by
 unfold put5;split
 ·simp;omega
 ·simp
theorem zIf {n w:Int} {v:List UInt8} (h:zck n w=true) (hf:zcB w v=true) (hv:v.length<=1048576):
  spl 0 (put5 n w v)=([⟨n,w,0,(((put5 n w v).length - v.length:Nat):Int),((put5 n w v).length:Int)⟩],none):=by
 have h1:=zGk [] h hf hv;rw [yw] at h1;have hne:put5 n w v≠[]:=fun e=>by
  have:=ziU n w v;have h2:=zHm (tW n w);rw [e] at this;simp at this;omega
 rw [zeo hne h1,q7,zfD];simp
theorem zCo {l:List UInt8} {k:Nat} (h:rd l=((rd l).1,(k:Int),0)):(enc (rd l).1.toNat).length<=k:=by
 rcases zks l with h'| ⟨h',_⟩| ⟨x,c,y,e,hx,hc,hl,hv,h'⟩
 ·rw [h'] at h;cases h
 ·rw [h'] at h;cases h
 ·rw [h'] at h|-;have hk:(x.length:Int)+1=k:=by have:=congrArg (fun p=>p.2.1) h;simpa using this
  simp only [xH];have h1:=zFq (x++[c]);rw [zop];have key:∀(j v:Nat),v<128^(j+1)->lenN v<=j+1:=by
   intro j
   induction j with
   | zero=>intro v hv;rw [zhB (by omega)];omega
   | succ j ih=>
    intro v hv;by_cases h2:v<128
    ·rw [zhB h2];omega
    ·rw [zjE h2];have:=ih (v/128) (by rw [yD] at hv;exact Nat.div_lt_of_lt_mul (by omega));omega
  have:=key x.length (hor (x++[c])) (by simpa using h1);omega
theorem zBH {l:List UInt8} {n w:Int} {a t:Nat} (h:rec5 l= .inr (n,w,a,t)):
  zcB w ((l.drop a).take (t - a))=true/\((l.drop a).take (t - a)).length=t - a/\(put5 n w ((l.drop a).take (t - a))).length<=t:=by
 rcases ziq l with ⟨c,h',_⟩| ⟨n',w',k,a',t',h',_,hr,hb,g1,g2,g3,g4,g5,hrd⟩
 ·rw [h'] at h;cases h
 ·rw [h'] at h;cases h;have wb:((l.drop a).take (t - a)).length=t - a:=by simp;omega
  have hm:=zCo (l:=l) (k:=k) (by rw [hrd]);have e1:(rd l).1.toNat=tW n w:=by rw [hrd];rfl
  rw [e1] at hm;refine ⟨?_,wb,?_⟩
  ·rcases ziL w k (l.drop k) with ⟨c,hc,_⟩| ⟨a2,t2,h2,k1,k2,k3,hcase⟩
   ·rw [hc] at hb;cases hb
   ·rw [h2] at hb;cases hb;unfold zcB;rcases hcase with ⟨rfl,rfl,f1,f2,f3⟩| ⟨rfl,f1,f2,f3⟩| ⟨w0,w2,rfl,f1⟩
    ·rw [xu rfl]
     -- what is read is the value alone
     have hv:rd ((l.drop a).take (t - a))=rd (l.drop a):=by
      rcases zks (l.drop a) with h6| ⟨h6,_⟩| ⟨x,c,y,e,hx,hc,hl,hv,h6⟩
      ·rw [h6] at f1;cases f1
      ·rw [h6] at f1;cases f1
      ·rw [h6] at f2;have e7:t - a=(x++[c]).length:=by simp at f2|-;omega
       have e8:(l.drop a).take (t - a)=x++c::[]:=by rw [e7,e,pz x c y,pY]
       rw [e8,zDg x c [] hx hc hl hv,h6]
     rw [hv];exact xN ⟨f1,by rw [<-f2,wb]⟩
    ·rw [xt (by omega)];exact xN (.inl rfl)
    ·have hw:=(zdN.1 hr).2.2;rw [xt w0];rw [wb,f1];refine xN ?_;rcases hw with rfl| rfl| rfl| rfl
     ·exact absurd rfl w0
     ·right;left;simp
     ·exact absurd rfl w2
     ·right;right;simp
  ·rw [ziU,wb];rcases ziL w k (l.drop k) with ⟨c,hc,_⟩| ⟨a2,t2,h2,k1,k2,k3,hcase⟩
   ·rw [hc] at hb;cases hb
   ·rw [h2] at hb;cases hb;by_cases hw2:w=2
    ·rw [xu hw2];rcases hcase with ⟨rfl,_⟩| ⟨_,f1,f2,f3⟩| ⟨_,w2,_⟩
     ·omega
     ·have hm2:=zCo (l:=l.drop k) (k:=a - k) (by rw [f2];exact Prod.ext rfl (Prod.ext rfl f1));have e3:(rd (l.drop k)).1.toNat=t - a:=by omega
      rw [e3] at hm2;omega
     ·exact absurd hw2 w2
    ·rw [xt hw2];omega
theorem zyo (l:List UInt8) {j:Nat} (h:(rd l).2.2=0) (hj:(rd l).2.1<=j):rd (l.take j)=rd l:=by
 rcases zks l with h6| ⟨h6,_⟩| ⟨x,c,y,e,hx,hc,hl,hv,h6⟩
 ·rw [h6] at h;cases h
 ·rw [h6] at h;cases h
 ·rw [h6] at hj;have hj':(x++[c]).length<=j:=by simp at hj|-;omega
  have:l.take j=x++c::y.take (j - (x++[c]).length):=by
   rw [e,pz x c y,qi,yz hj',<-pz]
  rw [this,zDg x c _ hx hc hl hv,h6]
theorem zAX (h:zeC w k m= .inr (a,t)):zeC w k (m.take (t - k))= .inr (a,t):=by
 rcases ziL w k m with ⟨c,hc,_⟩| ⟨a2,t2,h2,k1,k2,k3,hcase⟩
 ·rw [hc] at h;cases h
 ·rw [h2] at h;cases h;have hl:(m.take (t - k)).length=t - k:=by simp;omega
  rcases hcase with ⟨rfl,rfl,f1,f2,f3⟩| ⟨rfl,f1,f2,f3⟩| ⟨w0,w2,rfl,f1⟩
  ·have hr:=zyo m (j:=t - a) f1 (by omega);unfold zeC at h2|-;rw [xu rfl] at h2|-;rw [hr];exact h2
  ·have hr:=zyo m (j:=t - k) f1 (by omega);unfold zeC at h2|-;rw [xt (by omega),xu rfl] at h2|-;rw [hr];rw [xt (by simpa using f1)] at h2|-;split at h2
   ·cases h2
   ·rw [xt (by rw [hl];omega)];exact h2
  ·unfold zeC;rw [xt w0,xt w2,xt (by rw [hl];omega),<-f1]
theorem zEm (h:rec5 l= .inr (n,w,a,t)):rec5 (l.take t)= .inr (n,w,a,t):=by
 rcases ziq l with ⟨c,h',_⟩| ⟨n',w',k,a',t',h',htg,hr,hb,g1,g2,g3,g4,g5,hrd⟩
 ·rw [h'] at h;cases h
 ·rw [h'] at h;cases h;have hr1:=zyo l (j:=t) (by rw [hrd]) (by rw [hrd];simp only;omega);have e:tg (l.take t)=(n,w,(k:Int),0):=by
   have:=zxn (l.take t) (l.drop t) (by rw [hr1,hrd]);rw [qU,htg] at this;exact this.symm
  unfold rec5;rw [e];simp only [ne_eq,qg,yN,xH];rw [qH,zAX hb]
theorem zIe (b:List UInt8) (base:Nat) (l:List UInt8):l=b.drop base->base<=b.length->∀r∈(spl base l).1,∃(n w:Int) (f a t:Nat),r=⟨n,w,(f:Int),((f+a:Nat):Int),((f+t:Nat):Int)⟩/\rec5 (b.drop f)= .inr (n,w,a,t)/\1<=a/\a<=t/\f+t<=b.length:=by
 refine ziG (fun base l=>l=b.drop base->base<=b.length->∀r∈(spl base l).1,∃(n w:Int) (f a t:Nat),r=⟨n,w,(f:Int),((f+a:Nat):Int),((f+t:Nat):Int)⟩/\rec5 (b.drop f)= .inr (n,w,a,t)/\1<=a/\a<=t/\f+t<=b.length) ?_ ?_ ?_ base l
 ·intro base _ _ r hr;rw [zfD] at hr;cases hr
 ·intro base l c hl h _ _ _ r hr;rw [zhN hl h] at hr;cases hr
 ·intro base l n w a t hl h _ g1 g2 g3 ih hld hbase r hr;have wb:l.length=b.length - base:=by rw [hld];simp
  rw [zeo hl h] at hr;rcases xz.1 hr with rfl| hr
  ·exact ⟨n,w,base,a,t,rfl,by rw [<-hld];exact h,g1,g2,by omega⟩
  ·exact ih (by rw [hld,yu]) (by omega) r hr
def rawW (k:Int) (b:List UInt8):Int:=if zaW k=0 then (rd b).1 else (word (b.take 8):Nat)
def zlV (k:Int) (b:List UInt8):Int×Int:=if kNum k=false then (0,2) else if zcB (zaW k) b=false then (0,12) else (zbB k (rawW k b),0)
def ziu (k:Int) (c:Nat):List UInt8:=if 12<=k then zfy 8 c else if 9<=k then zfy 4 c else enc c
def sPut (k w:Int):List UInt8:=ziu k (zbB k w).toNat
theorem zqD (k:Int) :0<=rawW k b/\rawW k b<=18446744073709551615:=by
 unfold rawW;split
 ·have:=zhf b;omega
 ·have h:=zyG (b.take 8);have h2:(256:Nat)^(b.take 8).length<=256^8:=qY (by omega) (by simp;omega);omega
theorem zeH :kNum k=true↔1<=k/\k<=14:=by simp [kNum]
theorem znQ {k:Int} (hk:kNum k=true) {c:Nat} (hc:c<18446744073709551616):zcB (zaW k) (ziu k c)=true:=by
 have:=zeH.1 hk;unfold ziu;by_cases h1:12<=k
 ·have e:zaW k=1:=by unfold zaW;rw [xt (by omega),xu h1]
  rw [xu h1,e];simp [zcB,zaZ]
 ·rw [xt h1];by_cases h2:9<=k
  ·have e:zaW k=5:=by unfold zaW;rw [xt (by omega),xt h1,xu h2]
   rw [xu h2,e];simp [zcB,zaZ]
  ·have e:zaW k=0:=by unfold zaW;rw [xt (by omega),xt h1,xt h2]
   have hr:=zuR [] hc;rw [yw] at hr;rw [xt h2,e];unfold zcB;rw [xu rfl,hr];simp
theorem zBG {k:Int} (hk:kNum k=true) {c:Nat} (hc:c<18446744073709551616) (h32:9<=k->k<12->c<4294967296):rawW k (ziu k c)=(c:Int):=by
 have:=zeH.1 hk;unfold ziu rawW;by_cases h1:12<=k
 ·have e:zaW k=1:=by unfold zaW;rw [xt (by omega),xu h1]
  rw [xu h1,e,xt (by omega),yz (by rw [zaZ];omega),zoh,qr (by omega)]
 ·rw [xt h1];by_cases h2:9<=k
  ·have e:zaW k=5:=by unfold zaW;rw [xt (by omega),xt h1,xu h2]
   have:=h32 h2 (by omega);rw [xu h2,e,xt (by omega),yz (by rw [zaZ];omega),zoh,qr (by omega)]
  ·have e:zaW k=0:=by unfold zaW;rw [xt (by omega),xt h1,xt h2]
   have hr:=zuR [] hc;rw [yw] at hr;rw [xt h2,e,xu rfl,hr]
theorem zBK {k w:Int} (hk:kNum k=true) (h:0<=w/\w<=18446744073709551615):zlV k (sPut k w)=(zbB k w,0):=by
 have hc:=zgF k h;obtain ⟨c,hcc⟩:∃c:Nat,zbB k w=c:=⟨(zbB k w).toNat,by omega⟩;unfold zlV sPut;rw [hcc,xH,hk,xt (by simp),znQ hk (by omega),xt (by simp),zBG hk (by omega) (fun h9 h12=>by have:=zEX (w:=w) h9 h12;omega),<-hcc,znh k h]
theorem zkz {k w:Int} (h:0<=w/\w<=18446744073709551615):1<=(sPut k w).length/\(sPut k w).length<=10:=by
 have hc:=zgF k h;unfold sPut ziu;split
 ·rw [zaZ];omega
 ·split
  ·rw [zaZ];omega
  ·exact zli (by omega)
def zkG (k:Int) (l:List UInt8):Int⊕Nat:=
 if k<9 then (if (rd l).2.2≠0 then .inl (rd l).2.2 else .inr (rd l).2.1.toNat) else if l.length<(if k<12 then 4 else 8) then .inl 3 else .inr (if k<12 then 4 else 8)
theorem zob (k:Int) (l:List UInt8):(∃c,zkG k l= .inl c/\(c=3\/c=4))\/∃n,zkG k l= .inr n/\1<=n/\n<=l.length/\n<=10/\(k<9/\(rd l).2.2=0/\(rd l).2.1=(n:Int)\/¬k<9/\n=(if k<12 then 4 else 8)):=by
 obtain ⟨h1,h2,h3,h4,h5,h6,h7⟩:=zhf l;unfold zkG;by_cases h:k<9
 ·rw [xu h];by_cases h0:(rd l).2.2=0
  ·have:=h7 h0;rw [xt (by simpa using h0)];exact .inr ⟨_,rfl,by omega,by omega,by omega,.inl ⟨h,h0,by omega⟩⟩
  ·rw [xu h0];exact .inl ⟨_,rfl,by omega⟩
 ·rw [xt h];by_cases h8:l.length<(if k<12 then 4 else 8)
  ·rw [xu h8];exact .inl ⟨_,rfl,by omega⟩
  ·rw [xt h8];exact .inr ⟨_,rfl,by split<;>omega,by omega,by split<;>omega,.inr ⟨h,rfl⟩⟩
def pcs (k:Int) (l:List UInt8):List (List UInt8)×Int:=
 if hl:l=[] then ([],0) else match h:zkG k l with
  | .inl c=>([],c)
  | .inr n=>(l.take n::(pcs k (l.drop n)).1,(pcs k (l.drop n)).2)
termination_by l.length
decreasing_by
 all_goals
  rcases zob k l with ⟨c',h',_⟩| ⟨n',h',g1,g2,_⟩
  ·rw [h'] at h;cases h
  ·rw [h'] at h;cases h;simp only [yf];omega
theorem zoz (k:Int):pcs k []=([],0):=by rw [pcs,dif_pos rfl]
theorem ztu (hl:l≠[]) (h:zkG k l= .inl c):pcs k l=([],c):=by
 rw [pcs,dif_neg hl];split
 ·rename_i c' h';rw [h] at h';cases h';rfl
 ·rename_i h';rw [h] at h';cases h'
theorem zlO (hl:l≠[]) (h:zkG k l= .inr n):pcs k l=(l.take n::(pcs k (l.drop n)).1,(pcs k (l.drop n)).2):=by
 rw [pcs,dif_neg hl];split
 ·rename_i c' h';rw [h] at h';cases h'
 ·rename_i n' h';rw [h] at h';cases h';rfl
theorem ztv (k:Int) (P:List UInt8->Prop) (h0:P []) (he:∀l c,l≠[]->zkG k l= .inl c->(c=3\/c=4)->P l)
  (hc:∀l n,l≠[]->zkG k l= .inr n->1<=n->n<=l.length->n<=10->P (l.drop n)->P l) (l:List UInt8):P l:=by
 generalize hn:l.length=m
 induction m using Nat.strongRecOn generalizing l with
 | _ m ih=>
  by_cases hl:l=[]
  ·subst hl;exact h0
  ·rcases zob k l with ⟨c,h,hc'⟩| ⟨n,h,g1,g2,g3,_⟩
   ·exact he l c hl h hc'
   ·exact hc l n hl h g1 g2 g3 (ih _ (by simp only [yf];omega) _ rfl)
theorem zzV (k:Int) (l:List UInt8):(pcs k l).2=0\/(pcs k l).2=3\/(pcs k l).2=4:=by
 refine ztv k (fun l=>(pcs k l).2=0\/(pcs k l).2=3\/(pcs k l).2=4) ?_ ?_ ?_ l
 ·rw [zoz];exact .inl rfl
 ·intro l c hl h hc;rw [ztu hl h];exact .inr hc
 ·intro l n hl h _ _ _ ih;rw [zlO hl h];exact ih
theorem zDe (k:Int) (l:List UInt8):(pcs k l).1.length<=l.length:=by
 refine ztv k (fun l=>(pcs k l).1.length<=l.length) ?_ ?_ ?_ l
 ·rw [zoz];simp
 ·intro l c hl h _;rw [ztu hl h];simp
 ·intro l n hl h _ _ _ ih;rw [zlO hl h];simp only [xK,yf] at ih|-;have:=qz.2 hl;omega
theorem zBT (hk:kNum k=true) (h:zkG k l= .inr n):zcB (zaW k) (l.take n)=true:=by
 have hk':=zeH.1 hk;rcases zob k l with ⟨c,h',_⟩| ⟨n',h',g1,g2,g3,hcase⟩
 ·rw [h'] at h;cases h
 ·rw [h'] at h;cases h;have wb:(l.take n).length=n:=by simp;omega
  unfold zcB;rcases hcase with ⟨h9,f1,f2⟩| ⟨h9,f1⟩
  ·have e:zaW k=0:=by unfold zaW;rw [xt (by omega),xt (by omega),xt (by omega)]
   rw [xu e];rcases zks l with h6| ⟨h6,_⟩| ⟨x,c,y,e,hx,hc,hl,hv,h6⟩
   ·rw [h6] at f1;cases f1
   ·rw [h6] at f1;cases f1
   ·rw [h6] at f2;have e7:n=(x++[c]).length:=by simp at f2|-;omega
    have e8:l.take n=x++c::[]:=by rw [e7,e,pz x c y,pY]
    rw [e8,zDg x c [] hx hc hl hv];simp
  ·have h12:zaW k=1/\12<=k\/zaW k=5/\k<12:=by
    unfold zaW;rw [xt (by omega)];by_cases hh:12<=k
    ·rw [xu hh];exact .inl ⟨rfl,hh⟩
    ·rw [xt hh,xu (by omega)];exact .inr ⟨rfl,by omega⟩
   rw [xt (by omega),wb,f1];refine xN ?_;rcases h12 with ⟨e,hh⟩| ⟨e,hh⟩
   ·rw [e,xt (by omega)];right;left;exact ⟨rfl,rfl⟩
   ·rw [e,xu hh];right;right;exact ⟨rfl,rfl⟩
theorem zGc (hk:kNum k=true) (l:List UInt8):∀p∈(pcs k l).1,zcB (zaW k) p=true/\1<=p.length/\p.length<=10:=by
 refine ztv k (fun l=>∀p∈(pcs k l).1,zcB (zaW k) p=true/\1<=p.length/\p.length<=10) ?_ ?_ ?_ l
 ·rw [zoz];intro p hp;cases hp
 ·intro l c hl h _;rw [ztu hl h];intro p hp;cases hp
 ·intro l n hl h g1 g2 g3 ih;rw [zlO hl h];intro p hp;cases hp with
  | head=>exact ⟨zBT hk h,by simp;omega,by simp;omega⟩
  | tail _ hp=>exact ih p hp
def zgX (k:Int) (p:List UInt8):Int:=zbB k (rawW k p)
theorem zla (hk:kNum k=true) (hf:zcB (zaW k) p=true):zlV k p=(zgX k p,0):=by
 unfold zlV zgX;rw [hk,xt (by simp),hf,xt (by simp)]
theorem zBU {k w:Int} (hk:kNum k=true) (h:0<=w/\w<=18446744073709551615) (m:List UInt8):zkG k (sPut k w++m)= .inr (sPut k w).length:=by
 have hk':=zeH.1 hk;have hc:=zgF k h;unfold sPut ziu zkG;by_cases h12:12<=k
 ·rw [xt (by omega)];simp only [xu h12,xt (show ¬k<12 by omega)];rw [xt (by simp [zaZ]),zaZ]
 ·simp only [xt h12];by_cases h9:9<=k
  ·rw [xt (by omega)];simp only [xu h9,xu (show k<12 by omega)];rw [xt (by simp [zaZ]),zaZ]
  ·rw [xu (by omega)];simp only [xt h9];rw [zuR _ (by omega)];simp
theorem zuO {k:Int} (hk:kNum k=true):∀(l:List Int),(∀w∈l,0<=w/\w<=18446744073709551615)->pcs k (l.flatMap (sPut k))=(l.map (sPut k),0)
 | [],_=>zoz k
 | w::l,h=>by
  have hw:=h w xw;have wb:=zkz (k:=k) hw;have hne:sPut k w++l.flatMap (sPut k)≠[]:=fun e=>by
   have:=congrArg List.length e;simp only [xC,yF] at this;omega
  rw [xS,zlO hne (zBU hk hw _),pY,q6,zuO hk l fun v hv=>h v (xx _ hv)];rfl
def ends (base:Nat):List (List UInt8)->List Int
 | []=>[]
 | p::ps=>((base+p.length:Nat):Int)::ends (base+p.length) ps
def zkT (k:Int) (b:List UInt8):List Int×Int:=if kNum k=false then ([],2) else if (pcs k b).2=0 then (ends 0 (pcs k b).1,0) else ([],(pcs k b).2)
def zbt (k:Int) (b:List UInt8):List Int×Int:=if kNum k=false then ([],2) else if (pcs k b).2=0 then ((pcs k b).1.map (zgX k),0) else ([],(pcs k b).2)
abbrev Vw:=zvH
def zvw:Vw:=⟨zrec,0,false⟩
def zE (m:Mes) (i:Int):Fld:=m.Fields.getD i.toNat ⟨[],0,0,false,false,0⟩
def vw (m:Mes) (n w:Int):Int⊕(Int×Bool):=
 if fldI m n<0 then .inr (-1,false)
 else if (zE m (fldI m n)).Repeated=true/\kNum (zE m (fldI m n)).Kind=true/\w=2 then .inr (fldI m n,true)
 else if zbL (zE m (fldI m n)).Kind=false\/zaW (zE m (fldI m n)).Kind≠w then .inl 6 else .inr (fldI m n,false)
theorem zdM (m:Mes) (n:Int):fldI m n= -1/\(∀f∈m.Fields,f.Number≠n)\/∃(i:Nat) (h:i<m.Fields.length),fldI m n=i/\m.Fields[i].Number=n/\∀(j:Nat) (h:j<m.Fields.length),j<i->m.Fields[j].Number≠n:=by
 unfold fldI;cases h:m.Fields.findIdx? (fun f:Fld=>f.Number==n) with
 | none=>
  left;rw [pv] at h;exact ⟨zkU (pv.2 h),fun f hf=>by simpa using h f hf⟩
 | some i=>
  right;have h':=h;rw [pw] at h;obtain ⟨hi,hp,hj⟩:=h;exact ⟨i,hi,zkV h',by simpa using hp,fun j hjl hji=>by simpa using hj j hji⟩
theorem zcQ {m:Mes} {i:Nat} (h:i<m.Fields.length):zE m (i:Int)=m.Fields[i]:=by
 unfold zE;rw [xH,px,xL h];rfl
theorem zgo (m:Mes) (n w:Int):vw m n w= .inl 6\/vw m n w= .inr (-1,false)/\fldI m n= -1\/∃(i:Nat) (run:Bool),vw m n w= .inr ((i:Int),run)/\fldI m n=i/\i<m.Fields.length:=by
 unfold vw;rcases zdM m n with ⟨h,_⟩| ⟨i,hi,h,_⟩
 ·right;left;rw [h,xu (by omega)];exact ⟨rfl,rfl⟩
 ·rw [h,xt (by omega)];split
  ·right;right;exact ⟨i,true,rfl,rfl,hi⟩
  ·split
   ·left;rfl
   ·right;right;exact ⟨i,false,rfl,rfl,hi⟩
def zet (m:Mes) (b:List UInt8) (at5:Int):Vw×Int:=
 if (zeJ b at5).2≠0 then (zvw,(zeJ b at5).2) else match vw m (zeJ b at5).1.Number (zeJ b at5).1.Wire with
  | .inl c=>(zvw,c)
  | .inr (i,run)=>(⟨(zeJ b at5).1,i,run⟩,0)
def vws (m:Mes) (e:Option (Nat×Int)):List Rec->List Vw×Option (Int×Int)
 | []=>([],e.map fun p=>((p.1:Int),p.2))
 | r::l=>match vw m r.Number r.Wire with
  | .inl c=>([],some (r.From,c))
  | .inr (i,run)=>(⟨r,i,run⟩::(vws m e l).1,(vws m e l).2)
def vwR (r:List Vw×Option (Int×Int)):List Vw×Int×Int:=match r.2 with
 | none=>(r.1,0,0)
 | some (p,c)=>([],p,c)
def zfq (m:Mes) (b:List UInt8):List Vw×Int×Int:=vwR (vws m (spl 0 b).2 (spl 0 b).1)
def zx (s:List Mes) (i:Int):Mes:=s.getD i.toNat ⟨[],[]⟩
theorem zeI {s:List Mes} {i:Nat} (h:i<s.length):zx s (i:Int)=s[i]:=by
 unfold zx;rw [xH,px,xL h];rfl
def valB (b:List UInt8) (r:Rec):List UInt8:=(b.drop r.At.toNat).take (r.To.toNat - r.At.toNat)
abbrev zjr:=Option (Int->List UInt8->Option (Int×Int))
def zgz (f:Fld) (run:Bool) (sub:zjr) (r:Rec) (v:List UInt8):Option (Int×Int):=
 if run=true then (if (zkT f.Kind v).2≠0 then some (r.From,(zkT f.Kind v).2) else none)
 else if f.Kind=15/\zfB v=false then some (r.From,7)
 else if f.Kind=17 then (match sub with
  | none=>some (r.From,8)
  | some g=>match g f.Of v with
   | some (p,c)=>some (r.At+p,c)
   | none=>none)
 else none
def zcJ (m:Mes) (sub:zjr) (b:List UInt8) (r:Rec):Option (Int×Int):=match vw m r.Number r.Wire with
 | .inl c=>some (r.From,c)
 | .inr (i,run)=>if i<0 then none else zgz (zE m i) run sub r (valB b r)
def zdf (m:Mes) (sub:zjr) (b:List UInt8) (x:List Rec×Option (Nat×Int)):Option (Int×Int):=match x.1.findSome? (zcJ m sub b) with
 | some p=>some p
 | none=>x.2.map fun p=>((p.1:Int),p.2)
def zai (s:List Mes):Nat->Int->List UInt8->Option (Int×Int)
 | 0,k,b=>zdf (zx s k) none b (spl 0 b)
 | d+1,k,b=>zdf (zx s k) (some (zai s d)) b (spl 0 b)
def ztE (g:Int->List UInt8->Option (Int×Int)):Prop:=∀k v p c,g k v=some (p,c)->3<=c/\c<=8/\0<=p/\p<v.length
theorem zDD (k:Int) :(zkT k b).2=0\/(zkT k b).2=2/\kNum k=false\/(zkT k b).2=3\/(zkT k b).2=4:=by
 unfold zkT;have:=zzV k b;split
 ·rename_i h;exact .inr (.inl ⟨rfl,h⟩)
 ·split
  ·exact .inl rfl
  ·rename_i h;simp only;omega
theorem zBY (h:vw m n w= .inr (i,true)):kNum (zE m i).Kind=true/\(zE m i).Repeated=true/\w=2:=by
 unfold vw at h;split at h
 ·cases h
 ·split at h
  ·rename_i h1;cases h;exact ⟨h1.2.1,h1.1,h1.2.2⟩
  ·split at h<;>cases h
theorem zAA (hr:r.At=((base+a:Nat):Int)) (ht:r.To=((base+t:Nat):Int)) (h:base+t<=b.length) (hat:a<=t):(valB b r).length=t - a:=by
 unfold valB;rw [hr,ht];simp;omega
theorem zxl {m:Mes} {sub:zjr} {b:List UInt8} (hg:∀g,sub=some g->ztE g) {n w:Int} {base a t:Nat} (h1:1<=a) (hat:a<=t) (ht:base+t<=b.length) {p c:Int}
  (h:zcJ m sub b ⟨n,w,base,(base+a:Nat),(base+t:Nat)⟩=some (p,c)):3<=c/\c<=8/\0<=p/\p<b.length:=by
 unfold zcJ at h;rcases zgo m n w with hv| ⟨hv,_⟩| ⟨i,run,hv,_,hi⟩
 ·simp only [hv] at h;cases h;(try dsimp only);omega
 ·simp only [hv] at h;rw [xu (by omega)] at h;cases h
 ·simp only [hv] at h;rw [xt (by omega)] at h;unfold zgz at h;split at h
  ·rename_i hr;subst hr;have hk:=zBY hv;split at h
   ·cases h;have:=zDD (zE m i).Kind (b:=valB b ⟨n,w,base,(base+a:Nat),(base+t:Nat)⟩);rw [hk.1] at this;simp only [Bool.true_eq_false,and_false,false_or] at this
    (try dsimp only)
    omega
   ·cases h
  ·split at h
   ·cases h;(try dsimp only);omega
   ·split at h
    ·cases sub with
     | none=>simp only at h;cases h;(try dsimp only);omega
     | some g=>
      simp only at h;have hl:=zAA (b:=b) (r:=⟨n,w,base,(base+a:Nat),(base+t:Nat)⟩) rfl rfl ht hat;cases hgv:g (zE m i).Of (valB b ⟨n,w,base,(base+a:Nat),(base+t:Nat)⟩) with
      | none=>rw [hgv] at h;cases h
      | some q=>
       obtain ⟨q1,q2⟩:=q;rw [hgv] at h;have:=hg g rfl _ _ _ _ hgv;cases h
       (try dsimp only)
       omega
    ·cases h
theorem zwA {m:Mes} {sub:zjr} {b:List UInt8} (hg:∀g,sub=some g->ztE g) (base:Nat) (l:List UInt8):l=b.drop base->base<=b.length->∀p c,zdf m sub b (spl base l)=some (p,c)->3<=c/\c<=8/\0<=p/\p<b.length:=by
 refine ziG (fun base l=>l=b.drop base->base<=b.length->∀p c,zdf m sub b (spl base l)=some (p,c)->3<=c/\c<=8/\0<=p/\p<b.length) ?_ ?_ ?_ base l
 ·intro base _ _ p c h;unfold zdf at h;rw [zfD] at h;cases h
 ·intro base l c' hl h hc hld hb p c h2;have v8:base<b.length:=by subst hld;have:=qz.2 hl;simp at this;omega
  unfold zdf at h2;rw [zhN hl h] at h2;simp only [List.findSome?_nil,qu] at h2;cases h2;omega
 ·intro base l n w a t hl h _ g1 g2 g3 ih hld hb p c h2;have hbl:base+t<=b.length:=by subst hld;simp at g3;omega
  unfold zdf at h2 ih;rw [zeo hl h] at h2;simp only [List.findSome?_cons] at h2;cases hs:zcJ m sub b ⟨n,w,base,(base+a:Nat),(base+t:Nat)⟩ with
  | some q=>rw [hs] at h2;cases h2;exact zxl hg g1 g2 hbl hs
  | none=>
   rw [hs] at h2;exact ih (by rw [hld,yu]) hbl p c h2
theorem zmo (s:List Mes):∀(d:Nat),ztE (zai s d)
 | 0=>fun k v p c h=>zwA (fun g hg=>by cases hg) 0 v rfl (xI _) p c h
 | d+1=>fun k v p c h=>zwA (fun g hg=>by cases hg;exact zmo s d) 0 v rfl (xI _) p c h
def argS (s:List Mes) (root d:Int):Int:=if zfX s=false then 9 else if root<0\/root>=s.length\/d<0\/d>64 then 2 else 0
def zeD (s:List Mes) (root:Int) (b:List UInt8) (d:Int):Int×Int:=if argS s root d≠0 then (0,argS s root d) else (zai s d.toNat root b).getD (0,0)
theorem zom (h:argS s root d=0):zfa s/\0<=root/\root<s.length/\0<=d/\d<=64:=by
 unfold argS at h;split at h
 ·omega
 ·rename_i h1;split at h
  ·omega
  ·rename_i h2;exact ⟨zxd (by simpa using h1),by omega⟩
def is11 (s:List Mes) (root:Int) (b:List UInt8) (d:Int):Bool:=(zeD s root b d).2==0
def zIV (a b:zjr):Prop:=∀g,a=some g->∃g',b=some g'/\∀k v,g k v=none->g' k v=none
theorem zEu {m:Mes} {a c:zjr} (h:zIV a c) {b:List UInt8} {r:Rec} (hn:zcJ m a b r=none):zcJ m c b r=none:=by
 unfold zcJ at hn|-;cases hv:vw m r.Number r.Wire with
 | inl x=>rw [hv] at hn;cases hn
 | inr p=>
  obtain ⟨i,run⟩:=p;rw [hv] at hn;simp only at hn|-;by_cases hi:i<0
  ·rw [xu hi]
  ·rw [xt hi] at hn|-;unfold zgz at hn|-;by_cases hr:run=true
   ·rw [xu hr] at hn|-;exact hn
   ·rw [xt hr] at hn|-;by_cases h15:(zE m i).Kind=15/\zfB (valB b r)=false
    ·rw [xu h15] at hn;cases hn
    ·rw [xt h15] at hn|-;by_cases wa:(zE m i).Kind=17
     ·rw [xu wa] at hn|-;cases a with
      | none=>cases hn
      | some g=>
       obtain ⟨g',rfl,hg⟩:=h g rfl;simp only at hn|-;cases hgv:g (zE m i).Of (valB b r) with
       | some q=>rw [hgv] at hn;cases hn
       | none=>rw [hg _ _ hgv]
     ·rw [xt wa]
theorem zdE :zdf m sub b x=none↔(∀r∈x.1,zcJ m sub b r=none)/\x.2=none:=by
 unfold zdf;cases h:x.1.findSome? (zcJ m sub b) with
 | some p=>
  refine ⟨(fun h'=>nomatch h'),fun ⟨h1,_⟩=>?_⟩;obtain ⟨r,hr,hs⟩:=List.exists_of_findSome?_eq_some h;rw [h1 r hr] at hs;cases hs
 | none=>
  rw [List.findSome?_eq_none_iff] at h;cases hx:x.2 with
  | none=>exact ⟨fun _=>⟨h,rfl⟩,fun _=>rfl⟩
  | some p=>exact ⟨(fun h'=>nomatch h'),fun ⟨_,h2⟩=>nomatch h2⟩
theorem zwB {m:Mes} {a c:zjr} (h:zIV a c) {b:List UInt8} {x:List Rec×Option (Nat×Int)} (hn:zdf m a b x=none):zdf m c b x=none:=by
 rw [zdE] at hn|-;exact ⟨fun r hr=>zEu h (hn.1 r hr),hn.2⟩
theorem zuc (s:List Mes):∀(d:Nat) (k:Int) (b:List UInt8),zai s d k b=none->zai s (d+1) k b=none
 | 0,k,b,h=>zwB (a:=none) (fun g hg=>nomatch hg) h
 | d+1,k,b,h=>zwB (a:=some (zai s d)) (fun g hg=>by cases hg;exact ⟨_,rfl,fun k v hv=>zuc s d k v hv⟩) h
theorem zFl (s:List Mes) {d e:Nat} (hde:d<=e) (k:Int) (b:List UInt8) (h:zai s d k b=none):zai s e k b=none:=by
 induction hde with
 | refl=>exact h
 | step _ ih=>exact zuc s _ k b ih
theorem zsG (z:List UInt8) (h0:0<=r.To) (h:r.To<=b.length):valB (b++z) r=valB b r:=by
 unfold valB;by_cases ha:r.At.toNat<=b.length
 ·rw [qV ha,pS (by simp;omega)]
 ·have e:r.To.toNat - r.At.toNat=0:=by omega
  rw [e,yJ,yJ]
theorem zpO (a b:List UInt8) (h0:0<=r.At) (h1:r.At<=r.To):valB (a++b) (zkB a.length r)=valB b r:=by
 unfold valB zkB;simp only;have e1:(r.At+(a.length:Int)).toNat=a.length+r.At.toNat:=by omega
 have e2:(r.To+(a.length:Int)).toNat - (a.length+r.At.toNat)=r.To.toNat - r.At.toNat:=by omega
 rw [e1,e2,<-yu,q6]
theorem zvd (hn:r'.Number=r.Number) (hw:r'.Wire=r.Wire) (hv:valB b' r'=valB b r):zcJ m sub b' r'=none↔zcJ m sub b r=none:=by
 unfold zcJ;rw [hn,hw,hv];cases vw m r.Number r.Wire with
 | inl c=>simp
 | inr p=>
  simp only;by_cases hi:p.1<0
  ·simp [hi]
  ·rw [xt hi,xt hi];unfold zgz;by_cases hr:p.2=true
   ·rw [xu hr,xu hr];by_cases he:(zkT (zE m p.1).Kind (valB b r)).2≠0
    ·rw [xu he,xu he];simp
    ·rw [xt he,xt he]
   ·rw [xt hr,xt hr];by_cases h15:(zE m p.1).Kind=15/\zfB (valB b r)=false
    ·rw [xu h15,xu h15];simp
    ·rw [xt h15,xt h15];by_cases wa:(zE m p.1).Kind=17
     ·rw [xu wa,xu wa];cases sub with
      | none=>simp
      | some g=>simp only;cases g (zE m p.1).Of (valB b r)<;>simp
     ·rw [xt wa,xt wa]
theorem zrO (base:Nat) (l:List UInt8):∀r∈(spl base l).1,(base:Int)<=r.From/\r.From<r.At/\r.At<=r.To/\r.To<=base+l.length:=by
 refine ziG (fun base l=>∀r∈(spl base l).1,(base:Int)<=r.From/\r.From<r.At/\r.At<=r.To/\r.To<=base+l.length) ?_ ?_ ?_ base l
 ·intro base r hr;rw [zfD] at hr;cases hr
 ·intro base l c hl h _ r hr;rw [zhN hl h] at hr;cases hr
 ·intro base l n w a t hl h _ g1 g2 g3 ih r hr;rw [zeo hl h] at hr;rcases xz.1 hr with rfl| hr
  ·simp only;omega
  ·have:=ih r hr;simp only [yf] at this;omega
theorem zsn (z:List UInt8) (h:zdf m sub a (spl 0 a)=none):zdf m sub (a++z) (spl 0 (a++z))=none↔zdf m sub z (spl 0 z)=none:=by
 rw [zdE] at h;have hap:=zvc z 0 a h.2;have hsh:=zxi a.length 0 z;rw [xQ] at hap hsh;rw [hsh] at hap;rw [zdE,zdE,hap];simp only [xB,xD];constructor
 ·rintro ⟨h1,h2⟩;refine ⟨fun r hr=>?_,by cases hz:(spl 0 z).2 with| none=>rfl| some p=>rw [hz] at h2;cases h2⟩;have hb:=zrO 0 z r hr;have:=h1 (zkB a.length r) (.inr ⟨r,hr,rfl⟩);exact (zvd (r:=r) (r':=zkB a.length r) rfl rfl (zpO a z (by omega) (by omega))).1 this
 ·rintro ⟨h1,h2⟩;refine ⟨fun r hr=>?_,by rw [h2];rfl⟩;rcases hr with hr| ⟨r,hr,rfl⟩
  ·have hb:=zrO 0 a r hr;exact (zvd (r:=r) (r':=r) rfl rfl (zsG z (by omega) (by omega))).2 (h.1 r hr)
  ·have hb:=zrO 0 z r hr;exact (zvd (r:=r) (r':=zkB a.length r) rfl rfl (zpO a z (by omega) (by omega))).2 (h1 r hr)
theorem zjB (s:List Mes) (d:Nat) (k:Int) (z:List UInt8) (h:zai s d k a=none):zai s d k (a++z)=none↔zai s d k z=none:=by
 cases d with
 | zero=>exact zsn z h
 | succ d=>exact zsn z h
theorem zql :is11 s root b d=true↔argS s root d=0/\zai s d.toNat root b=none:=by
 unfold is11 zeD;by_cases h:argS s root d=0
 ·rw [xt (by simpa using h)];cases hf:zai s d.toNat root b with
  | none=>simp [h]
  | some p=>
   obtain ⟨p,c⟩:=p;have:=zmo s d.toNat root b p c hf;simp only [yP,h,yV];simp;omega
 ·rw [xu h];simp [h]
abbrev zaD:=List Int
def begB (way w:zaD):Bool:=w.isPrefixOf way
theorem zES :begB way w=true↔w<+:way:=List.isPrefixOf_iff_prefix
def zcu:zaD->zaD->Bool
 | [],b=> !b.isEmpty
 | _::_,[]=>false
 | x::a,y::b=>if x=y then zcu a b else decide (x<y)
theorem zjF:∀(a:zaD),zcu a a=false
 | []=>rfl
 | x::a=>by rw [zcu,xu rfl,zjF a]
theorem znx:∀(a b c:zaD),zcu a b=true->zcu b c=true->zcu a c=true
 | [],b,c,h1,h2=>by
  cases c with
  | nil=>cases b<;>simp [zcu] at h2
  | cons=>rfl
 | _::_,[],_,h1,_=>by simp [zcu] at h1
 | _::_,_::_,[],_,h2=>by simp [zcu] at h2
 | x::a,y::b,z::c,h1,h2=>by
  rw [zcu] at h1 h2|-;by_cases hxy:x=y
  ·rw [xu hxy] at h1;by_cases hyz:y=z
   ·rw [xu hyz] at h2;rw [xu (hxy.trans hyz)];exact znx a b c h1 h2
   ·rw [xt hyz] at h2;rw [xt (by rw [hxy];exact hyz),hxy];exact h2
  ·rw [xt hxy] at h1;have h1':x<y:=by simpa using h1
   by_cases hyz:y=z
   ·rw [xt (by rw [<-hyz];exact hxy),<-hyz];exact h1
   ·rw [xt hyz] at h2;have h2':y<z:=by simpa using h2
    rw [xt (by omega)];simp;omega
theorem zsq:∀(a b:zaD),a≠b->zcu a b=true\/zcu b a=true
 | [],[],h=>absurd rfl h
 | [],_::_,_=> .inl rfl
 | _::_,[],_=> .inr rfl
 | x::a,y::b,h=>by
  rw [zcu,zcu];by_cases hxy:x=y
  ·rw [xu hxy,xu hxy.symm];exact zsq a b (fun e=>h (by rw [hxy,e]))
  ·rw [xt hxy,xt (fun e=>hxy e.symm)];rcases Int.lt_or_gt_of_ne hxy with h'| h'
   ·left;simpa using h'
   ·right;simpa using h'
theorem zzI (h:zcu a b=true):zcu b a=false:=by
 cases hb:zcu b a with
 | false=>rfl
 | true=>have:=znx a b a h hb;rw [zjF] at this;cases this
theorem zsD:∀(l k:List zaD),l.Pairwise (fun a b=>zcu a b=true)->k.Pairwise (fun a b=>zcu a b=true)->(∀w,w∈l↔w∈k)->l=k
 | [],[],_,_,_=>rfl
 | [],y::k,_,_,h=>absurd ((h y).2 xw) (by simp)
 | x::l,[],_,_,h=>absurd ((h x).1 xw) (by simp)
 | x::l,y::k,hl,hk,h=>by
  have hl':=yd.1 hl;have hk':=yd.1 hk;have hxy:x=y:=by
   rcases xz.1 ((h x).1 xw) with h1| h1
   ·exact h1
   ·rcases xz.1 ((h y).2 xw) with h2| h2
    ·exact h2.symm
    ·have a1:=hk'.1 x h1;have a2:=hl'.1 y h2;rw [zzI a1] at a2;cases a2
  subst hxy;congr 1;refine zsD l k hl'.2 hk'.2 fun w=>?_
  have nl:x∉l:=fun hm=>by have:=hl'.1 x hm;rw [zjF] at this;cases this
  have nk:x∉k:=fun hm=>by have:=hk'.1 x hm;rw [zjF] at this;cases this
  have:=h w;simp only [xz] at this;constructor
  ·intro hw;rcases this.1 (.inr hw) with rfl| h'
   ·exact absurd hw nl
   ·exact h'
  ·intro hw;rcases this.2 (.inr hw) with rfl| h'
   ·exact absurd hw nk
   ·exact h'
def zDb (wi:List zaD) (i:Nat) (w:zaD) (k:Nat) (v:zaD):Bool:=decide (k≠i)&& !v.isEmpty&&begB w v&&(decide (v.length<w.length)|| decide (k<i))
def badW (wi:List zaD) (i:Nat) (w:zaD):Nat->List zaD->Bool
 | _,[]=>false
 | k,v::l=>zDb wi i w k v|| badW wi i w (k+1) l
def insL (w:zaD) (out:List zaD):List zaD:=out.takeWhile (fun x=>zcu x w)++w::out.dropWhile (fun x=>zcu x w)
def ofK (wi:List zaD):Nat->List zaD
 | 0=>[]
 | i+1=>match wi[i]? with
  | some w=>if !w.isEmpty&& !badW wi i w 0 wi then insL w (ofK wi i) else ofK wi i
  | none=>ofK wi i
def ofW (wi:List zaD):List zaD:=ofK wi wi.length
theorem zFt :x∈insL w out↔x=w\/x∈out:=by
 unfold insL;have hs:out.takeWhile (fun x=>zcu x w)++out.dropWhile (fun x=>zcu x w)=out:=qZ;constructor
 ·intro h;rcases xB.1 h with h| h
  ·exact .inr (by rw [<-hs];exact yh _ h)
  ·rcases xz.1 h with h| h
   ·exact .inl h
   ·exact .inr (by rw [<-hs];exact yb _ h)
 ·intro h;rcases h with rfl| h
  ·exact yb _ xw
  ·rw [<-hs] at h;rcases xB.1 h with h| h
   ·exact yh _ h
   ·exact yb _ (xx _ h)
theorem zBP :∀{l:List zaD},∀x∈l.takeWhile (fun x=>zcu x w),zcu x w=true:=by
 intro l
 induction l with
 | nil=>intro x hx;simp at hx
 | cons y l ih=>
  intro x hx;rw [List.takeWhile_cons] at hx;by_cases hy:zcu y w=true
  ·rw [xu hy] at hx;rcases xz.1 hx with rfl| hx
   ·exact hy
   ·exact ih x hx
  ·rw [xt hy] at hx;cases hx
theorem zBf :∀{l:List zaD},l.Pairwise (fun a b=>zcu a b=true)->(w∉l)->∀x∈l.dropWhile (fun x=>zcu x w),zcu w x=true:=by
 intro l
 induction l with
 | nil=>intro _ _ x hx;simp at hx
 | cons y l ih=>
  intro hp hn x hx;rw [List.dropWhile_cons] at hx;have hp':=yd.1 hp;by_cases hy:zcu y w=true
  ·rw [xu hy] at hx;exact ih hp'.2 (fun h=>hn (xx _ h)) x hx
  ·rw [xt hy] at hx;have hwy:zcu w y=true:=by
    rcases zsq w y (fun e=>hn (by rw [e];exact xw)) with h| h
    ·exact h
    ·exact absurd h hy
   rcases xz.1 hx with rfl| hx
   ·exact hwy
   ·exact znx _ _ _ hwy (hp'.1 x hx)
theorem zzq (hs:out.Pairwise (fun a b=>zcu a b=true)) (hn:w∉out):(insL w out).Pairwise (fun a b=>zcu a b=true):=by
 unfold insL;have hsp:out.takeWhile (fun x=>zcu x w)++out.dropWhile (fun x=>zcu x w)=out:=qZ;have hp:(out.takeWhile (fun x=>zcu x w)++out.dropWhile (fun x=>zcu x w)).Pairwise (fun a b=>zcu a b=true):=by rw [hsp];exact hs
 rw [List.pairwise_append] at hp|-;have ht:=zBP (w:=w) (l:=out);have hd:=zBf hs hn;refine ⟨hp.1,yd.2 ⟨hd,hp.2.1⟩,fun a ha b hb=>?_⟩;rcases xz.1 hb with rfl| hb
 ·exact ht a ha
 ·exact hp.2.2 a ha b hb
theorem zyQ {wi:List zaD} {i:Nat} {w:zaD}:∀(l:List zaD) (k:Nat),badW wi i w k l=true↔∃j v,l[j]? =some v/\zDb wi i w (k+j) v=true
 | [],k=>by simp [badW]
 | v::l,k=>by
  rw [badW,qv,zyQ l (k+1)];constructor
  ·rintro (h| ⟨j,u,h1,h2⟩)
   ·exact ⟨0,v,rfl,by simpa using h⟩
   ·exact ⟨j+1,u,by simpa using h1,by rw [show k+(j+1)=k+1+j by omega];exact h2⟩
  ·rintro ⟨j,u,h1,h2⟩;cases j with
   | zero=>left;simp at h1;subst h1;simpa using h2
   | succ j=>right;exact ⟨j,u,by simpa using h1,by rw [show k+1+j=k+(j+1) by omega];exact h2⟩
def zAP (wi:List zaD) (w:zaD):Prop:=w∈wi/\w≠[]/\∀v∈wi,v≠[]->v<+:w->v=w
theorem zuh {wi:List zaD} {i:Nat} {w:zaD} (hi:wi[i]? =some w):(!w.isEmpty&& !badW wi i w 0 wi)=true↔zAP wi w/\∀j<i,wi[j]? ≠some w:=by
 rw [xy,x9,x9,<-Bool.not_eq_true,<-Bool.not_eq_true,zyQ];have hw:w∈wi:=qn hi;have we:∀(k:Nat) (v:zaD),zDb wi i w k v=true↔k≠i/\v≠[]/\v<+:w/\(v.length<w.length\/k<i):=by
  intro k v;unfold zDb;simp only [xy,qv,xY,zES,x9,List.isEmpty_eq_false_iff];constructor
  ·rintro ⟨⟨⟨h1,h2⟩,h3⟩,h4⟩;exact ⟨h1,h2,h3,h4⟩
  ·rintro ⟨h1,h2,h3,h4⟩;exact ⟨⟨⟨h1,h2⟩,h3⟩,h4⟩
 constructor
 ·rintro ⟨h1,h2⟩;refine ⟨⟨hw,by simpa using h1,fun v hv hv0 hp=>?_⟩,fun j hj hje=>?_⟩
  ·obtain ⟨k,hk,rfl⟩:=qA hv;rcases yB (wi[k]).length w.length with hl| hl
   ·exfalso;refine h2 ⟨k,wi[k],xL hk,(we _ _).2 ⟨fun e=>?_,hv0,hp,.inl hl⟩⟩;rw [xQ] at e;subst e;rw [xL hk] at hi;cases hi;omega
   ·exact hp.eq_of_length (by have:=hp.length_le;omega)
  ·refine h2 ⟨j,w,hje,(we _ _).2 ⟨by omega,by simpa using h1,List.prefix_refl w,.inr (by omega)⟩⟩
 ·rintro ⟨⟨_,h1,h2⟩,h3⟩;refine ⟨by simpa using h1,?_⟩;rintro ⟨k,v,hk,hv⟩;rw [xQ] at hv;obtain ⟨g1,g2,g3,g4⟩:=(we _ _).1 hv;have:=h2 v (qn hk) g2 g3;subst this;rcases g4 with g4| g4
  ·omega
  ·exact h3 k g4 hk
theorem zyl {wi:List zaD}:∀(i:Nat),i<=wi.length->∀w,w∈ofK wi i↔zAP wi w/\∃j<i,wi[j]? =some w
 | 0,_,w=>by simp [ofK]
 | i+1,hi,w=>by
  have hil:i<wi.length:=hi;have ih:=zyl (wi:=wi) i (Nat.le_of_lt hil) w;obtain ⟨u,hg⟩:∃u,wi[i]? =some u:=⟨wi[i],xL hil⟩;rw [ofK,hg];simp only;by_cases hu:(!u.isEmpty&& !badW wi i u 0 wi)=true
  ·rw [xu hu,zFt,ih];obtain ⟨h1,h2⟩:=(zuh hg).1 hu;constructor
   ·rintro (rfl| ⟨h3,j,hj,hje⟩)
    ·exact ⟨h1,i,by omega,hg⟩
    ·exact ⟨h3,j,by omega,hje⟩
   ·rintro ⟨h3,j,hj,hje⟩;by_cases hji:j=i
    ·subst hji;rw [hg] at hje;cases hje;exact .inl rfl
    ·exact .inr ⟨h3,j,by omega,hje⟩
  ·rw [xt hu,ih];constructor
   ·rintro ⟨h3,j,hj,hje⟩;exact ⟨h3,j,by omega,hje⟩
   ·rintro ⟨h3,j,hj,hje⟩;by_cases hji:j=i
    ·subst hji;rw [hg] at hje;cases hje
     -- it stood there zpm
     have hn:¬∀k<j,wi[k]? ≠some w:=fun hk=>hu ((zuh hg).2 ⟨h3,hk⟩)
     simp only [Classical.not_forall,Classical.not_not] at hn;obtain ⟨k,hk,hke⟩:=hn;exact ⟨h3,k,hk,hke⟩
    ·exact ⟨h3,j,by omega,hje⟩
theorem zCY {wi:List zaD} {w:zaD}:w∈ofW wi↔zAP wi w:=by
 unfold ofW;rw [zyl _ (xA _)];refine ⟨fun h=>h.1,fun h=>⟨h,?_⟩⟩;obtain ⟨j,hj,rfl⟩:=qA h.1;exact ⟨j,hj,xL hj⟩
theorem zuD {wi:List zaD}:∀(i:Nat),i<=wi.length->(ofK wi i).Pairwise (fun a b=>zcu a b=true)
 | 0,_=> .nil
 | i+1,hi=>by
  have hil:i<wi.length:=hi;have ih:=zuD (wi:=wi) i (Nat.le_of_lt hil);obtain ⟨u,hg⟩:∃u,wi[i]? =some u:=⟨wi[i],xL hil⟩;rw [ofK,hg];simp only;by_cases hu:(!u.isEmpty&& !badW wi i u 0 wi)=true
  ·rw [xu hu];obtain ⟨h1,h2⟩:=(zuh hg).1 hu;refine zzq ih fun hm=>?_
   obtain ⟨_,j,hj,hje⟩:=(zyl i (by omega) u).1 hm;exact h2 j hj hje
  ·rw [xt hu];exact ih
theorem zBB (wi:List zaD):(ofW wi).Pairwise (fun a b=>zcu a b=true):=zuD _ (xA _)
theorem zCX {wi:List zaD}:∀(i:Nat),(ofK wi i).length<=i
 | 0=>xA _
 | i+1=>by
  have ih:=zCX (wi:=wi) i;rw [ofK];split
  ·split
   ·unfold insL;have hs:∀(p:zaD->Bool),((ofK wi i).takeWhile p).length+((ofK wi i).dropWhile p).length=(ofK wi i).length:=fun p=>by rw [<-xC,qZ]
    rename_i w _ _;have:=hs (fun x=>zcu x w);simp only [xC,xK];omega
   ·omega
  ·omega
theorem zHO (wi:List zaD):(ofW wi).length<=wi.length:=zCX _
def hasB (wi:List zaD) (way:zaD):Bool:=wi.any fun v=> !v.isEmpty&&begB way v
def zmE (m:List zaD) (n:Int):Bool:=m.any fun v=>v==[n]
def zJK (n:Int):zaD->Option zaD
 | x::y::v=>if x=n then some (y::v) else none
 | _=>none
def zls (m:List zaD) (n:Int):List zaD:=m.filterMap (zJK n)
def zgO (s:List Mes) (root:Int):Int:=if zfX s=false then 9 else if root<0\/root>=s.length then 2 else 0
theorem zyP (h:zgO s root=0):zfa s/\0<=root/\root<s.length:=by
 unfold zgO at h;split at h
 ·omega
 ·rename_i h1;split at h
  ·omega
  ·exact ⟨zxd (by simpa using h1),by omega⟩
abbrev Msg:=zc
abbrev Vlu:=zb
mutual
def szM:Msg->Nat
 | ⟨vs,_⟩=>1+szVs vs
def szVs:List Vlu->Nat
 | []=>0
 | v::l=>szV v+szVs l
def szV:Vlu->Nat
 | ⟨_,_,_,s⟩=>1+szMs s
def szMs:List Msg->Nat
 | []=>0
 | x::l=>szM x+szMs l
end
theorem zcg (x:Msg):szM x=1+szVs x.Values:=by cases x;rw [szM]
theorem zdX (v:Vlu):szV v=1+szMs v.Subs:=by cases v;rw [szV]
theorem zdB :∀{l:List Vlu},v∈l->szV v<=szVs l
 | [],h=>by cases h
 | u::l,h=>by
  rw [szVs];rcases xz.1 h with rfl| h
  ·omega
  ·have:=zdB h;omega
theorem zdA :∀{l:List Msg},x∈l->szM x<=szMs l
 | [],h=>by cases h
 | u::l,h=>by
  rw [szMs];rcases xz.1 h with rfl| h
  ·omega
  ·have:=zdA h;omega
mutual
/-- Within the reach of what a law is handed. -/
def bdM:Msg->Prop
 | ⟨vs,u⟩=>vs.length*80<=140737488351232/\(u.length*16<=140737488351232/\∀t∈u,t.length<=140737488351232)/\bdVs vs
def bdVs:List Vlu->Prop
 | []=>True
 | v::l=>bdV v/\bdVs l
def bdV:Vlu->Prop
 | ⟨n,w,t,s⟩=>(Lit.int .i64 n).wf=true/\(w.length*8<=140737488351232/\∀x∈w,0<=x/\x<=18446744073709551615)/\(t.length*16<=140737488351232/\∀x∈t,x.length<=140737488351232)/\s.length*48<=140737488351232/\bdMs s
def bdMs:List Msg->Prop
 | []=>True
 | x::l=>bdM x/\bdMs l
end
theorem zgP (x:Msg):bdM x↔x.Values.length*80<=140737488351232/\(x.Unknown.length*16<=140737488351232/\∀t∈x.Unknown,t.length<=140737488351232)/\bdVs x.Values:=by cases x;simp only [bdM]
theorem zfT (v:Vlu):bdV v↔(Lit.int .i64 v.Number).wf=true/\(v.Words.length*8<=140737488351232/\∀x∈v.Words,0<=x/\x<=18446744073709551615)/\(v.Texts.length*16<=140737488351232/\∀x∈v.Texts,x.length<=140737488351232)/\v.Subs.length*48<=140737488351232/\bdMs v.Subs:=by cases v;simp only [bdV]
theorem zdi:∀{l:List Vlu},bdVs l↔∀v∈l,bdV v
 | []=>by simp [bdVs]
 | v::l=>by rw [bdVs,zdi (l:=l)];simp
theorem zdO:∀{l:List Msg},bdMs l↔∀v∈l,bdM v
 | []=>by simp [bdMs]
 | v::l=>by rw [bdMs,zdO (l:=l)];simp
section
open Classical
noncomputable def zkA {α:Type} (x y:α):Bool:=decide (x=y)
theorem zev {α:Type} {x y:α}:zkA x y=true↔x=y:=by unfold zkA;simp
end
def zci (v:Vlu):Nat:=v.Words.length+v.Texts.length+v.Subs.length
mutual
def dM:Msg->Nat
 | ⟨vs,_⟩=>dVs vs
def dVs:List Vlu->Nat
 | []=>0
 | v::l=>max (dV v) (dVs l)
def dV:Vlu->Nat
 | ⟨_,_,_,s⟩=>dMs s
def dMs:List Msg->Nat
 | []=>0
 | x::l=>max (1+dM x) (dMs l)
end
theorem zza (x:Msg):dM x=dVs x.Values:=by cases x;rw [dM]
theorem zwo (v:Vlu):dV v=dMs v.Subs:=by cases v;rw [dV]
theorem ztc :∀{l:List Vlu},v∈l->dV v<=dVs l
 | [],h=>by cases h
 | u::l,h=>by
  rw [dVs];rcases xz.1 h with rfl| h
  ·omega
  ·have:=ztc h;omega
theorem zxO :∀{l:List Msg},x∈l->1+dM x<=dMs l
 | [],h=>by cases h
 | u::l,h=>by
  rw [dMs];rcases xz.1 h with rfl| h
  ·omega
  ·have:=zxO h;omega
structure Th where
 fi:Int
 run:Bool
 val:List UInt8
 raw:List UInt8
def rawB (b:List UInt8) (r:Rec):List UInt8:=(b.drop r.From.toNat).take (r.To.toNat - r.From.toNat)
def thOf (b:List UInt8) (t:Vw):Th:=⟨t.Field,t.Run,valB b t.R,rawB b t.R⟩
def ths (m:Mes) (b:List UInt8):List Th:=(zfq m b).1.map (thOf b)
def wt:List Th->Nat
 | []=>0
 | t::l=>t.val.length+1+wt l
theorem zse:∀(l:List Th),l.length<=wt l
 | []=>by simp [wt]
 | t::l=>by have:=zse l;simp only [xK,wt];omega
theorem zvD :∀{l:List Th},t∈l->t.val.length+1<=wt l
 | [],h=>by cases h
 | u::l,h=>by
  rw [wt];rcases xz.1 h with rfl| h
  ·omega
  ·have:=zvD h;omega
theorem zDs :∀{l:List Rec} {t:Vw},t∈(vws m e l).1->t.R∈l
 | [],t,h=>by simp [vws] at h
 | r::l,t,h=>by
  rw [vws] at h;cases hv:vw m r.Number r.Wire with
  | inl c=>rw [hv] at h;simp at h
  | inr p=>
   rw [hv] at h;rcases xz.1 h with rfl| h
   ·exact xw
   ·exact xx _ (zDs h)
theorem zDA (h:t∈(zfq m b).1):t.R∈(spl 0 b).1:=by
 unfold zfq vwR at h;split at h
 ·exact zDs h
 ·simp at h
theorem zEP (h:t∈(zfq m b).1):0<=t.R.From/\t.R.From<t.R.At/\t.R.At<=t.R.To/\t.R.To<=b.length:=by
 have:=zrO 0 b _ (zDA h);simpa using this
theorem zKg (b:List UInt8):∀(base:Nat) (l:List UInt8),l=b.drop base->base<=b.length->wt ((vws m e (spl base l).1).1.map (thOf b))<=l.length:=by
 intro base l;refine ziG (fun base l=>l=b.drop base->base<=b.length->wt ((vws m e (spl base l).1).1.map (thOf b))<=l.length) ?_ ?_ ?_ base l
 ·intro base _ _;rw [zfD];simp [vws,wt]
 ·intro base l c hl h _ _ _;rw [zhN hl h];simp [vws,wt]
 ·intro base l n w a t hl h _ g1 g2 g3 ih hld hbase;have wb:l.length=b.length - base:=by rw [hld];simp
  have ih':=ih (by rw [hld,yu]) (by omega);rw [zeo hl h,vws];cases hv:vw m n w with
  | inl c=>simp [wt]
  | inr p=>
   simp only [xJ,wt,thOf,yf] at ih'|-;rw [zAA (b:=b) (base:=base) (a:=a) (t:=t) rfl rfl (by omega) g2];omega
theorem zvi (m:Mes) (b:List UInt8):wt (ths m b)<=b.length:=by
 unfold ths zfq vwR;split
 ·exact zKg b 0 b rfl (xI _)
 ·simp [wt]
abbrev zez:=List UInt8×Bool×List Int×List Str×List Msg
def stp (g:Int->List UInt8->Msg) (f:Fld) (a:zez) (t:Th):zez:=
 if t.run=true then (a.1,true,(if f.Repeated=true then a.2.2.1 else [])++(zbt f.Kind t.val).1,(if f.Repeated=true then a.2.2.2.1 else []),a.2.2.2.2)
 else if kNum f.Kind=true then (a.1,true,(if f.Repeated=true then a.2.2.1 else [])++[(zlV f.Kind t.val).1],(if f.Repeated=true then a.2.2.2.1 else []),a.2.2.2.2)
 else if f.Kind=17/\f.Repeated=true then (a.1,true,(if f.Repeated=true then a.2.2.1 else []),(if f.Repeated=true then a.2.2.2.1 else []),a.2.2.2.2++[g f.Of t.val])
 else if f.Kind=17 then (a.1++t.val,true,(if f.Repeated=true then a.2.2.1 else []),(if f.Repeated=true then a.2.2.2.1 else []),a.2.2.2.2)
 else (a.1,true,(if f.Repeated=true then a.2.2.1 else []),(if f.Repeated=true then a.2.2.2.1 else [])++[t.val],a.2.2.2.2)
def accF (g:Int->List UInt8->Msg) (f:Fld) (i:Int):zez->List Th->zez
 | a,[]=>a
 | a,t::l=>accF g f i (if t.fi=i then stp g f a t else a) l
theorem znd (g:Int->List UInt8->Msg) (f:Fld) (i:Int):∀(a:zez) (l m:List Th),accF g f i a (l++m)=accF g f i (accF g f i a l) m
 | a,[],m=>rfl
 | a,t::l,m=>by simp only [yk,accF];exact znd g f i _ l m
def wA (a:zez):Nat:=a.1.length+a.2.2.1.length+a.2.2.2.1.length+a.2.2.2.2.length
def wJ (a:zez):Nat:=a.1.length+(if a.2.1=true then 1 else 0)
theorem zxu (k:Int) (v:List UInt8):(zbt k v).1.length<=v.length:=by
 unfold zbt;have:=zDe k v;split
 ·simp
 ·split
  ·simpa using this
  ·simp
theorem zJT (g:Int->List UInt8->Msg) (f:Fld) (a:zez) (t:Th):wA (stp g f a t)<=wA a+t.val.length+1/\wJ (stp g f a t)<=wJ a+t.val.length+1:=by
 have h1:(if f.Repeated=true then a.2.2.1 else []).length<=a.2.2.1.length:=by split<;>simp
 have h2:(if f.Repeated=true then a.2.2.2.1 else []).length<=a.2.2.2.1.length:=by split<;>simp
 have h3:=zxu f.Kind t.val;unfold stp wA wJ;split
 ·simp only [xC,yi];omega
 ·split
  ·simp only [xC,y9,yi];omega
  ·split
   ·simp only [xC,y9,yi];omega
   ·split
    ·simp only [xC,yi];omega
    ·simp only [xC,y9,yi];omega
theorem zxA (g:Int->List UInt8->Msg) (f:Fld) (i:Int):∀(a:zez) (l:List Th),wA (accF g f i a l)<=wA a+wt l/\wJ (accF g f i a l)<=wJ a+wt l
 | a,[]=>by simp [accF,wt]
 | a,t::l=>by
  have h:=zxA g f i (if t.fi=i then stp g f a t else a) l;have h2:=zJT g f a t;rw [accF,wt];split at h
  ·rename_i ht;rw [xu ht];omega
  ·rename_i ht;rw [xt ht];omega
def acc0:zez:=([],false,[],[],[])
def valO (g:Int->List UInt8->Msg) (f:Fld) (q:zez):Vlu:=⟨f.Number,q.2.2.1,q.2.2.2.1,if q.2.1=true/\f.Kind=17/\f.Repeated=false then [g f.Of q.1] else q.2.2.2.2⟩
def zsH (g:Int->List UInt8->Msg) (m:Mes) (l:List Th) (o:List Int):List Vlu:=(o.map fun i=>valO g (zE m i) (accF g (zE m i) i acc0 l)).filter fun v=>decide (0<zci v)
def unkO (l:List Th):List Str:=(l.filter fun t=>decide (t.fi<0)).map (·.raw)
def zgv (g:Int->List UInt8->Msg) (m:Mes) (l:List Th):Msg:=⟨zsH g m l (zfL (zgH m) m.Fields.length),unkO l⟩
def ofN (s:List Mes):Nat->Int->List UInt8->Msg
 | 0,_,_=>⟨[],[]⟩
 | n+1,k,b=>zgv (ofN s n) (zx s k) (ths (zx s k) b)
theorem zEv (a:zez) (h:f.Kind=17->g f.Of t.val=g' f.Of t.val):stp g f a t=stp g' f a t:=by
 unfold stp;by_cases wa:f.Kind=17
 ·rw [h wa]
 ·rw [xt (c:=f.Kind=17/\_) (fun hh=>wa hh.1),xt (c:=f.Kind=17/\_) (fun hh=>wa hh.1)]
theorem ztH (i:Int):∀(a:zez) {l:List Th},(f.Kind=17->∀v:List UInt8,v.length+1<=wt l->g f.Of v=g' f.Of v)->accF g f i a l=accF g' f i a l
 | a,[],h=>rfl
 | a,t::l,h=>by
  rw [accF,accF,zEv a (fun wa=>h wa t.val (by rw [wt];omega))];exact ztH i _ (fun wa v hv=>h wa v (by rw [wt];omega))
theorem zBV (i:Int) (h:f.Kind=17->∀v:List UInt8,v.length+1<=wt l->g f.Of v=g' f.Of v):valO g f (accF g f i acc0 l)=valO g' f (accF g' f i acc0 l):=by
 rw [ztH i acc0 h];have hw:=(zxA g' f i acc0 l).2;unfold valO;by_cases hc:(accF g' f i acc0 l).2.1=true/\f.Kind=17/\f.Repeated=false
 ·rw [xu hc,xu hc,h hc.2.1 _ (by
   have h0:wJ acc0=0:=rfl;rw [h0,wJ,xu hc.1] at hw;omega)]
 ·rw [xt hc,xt hc]
theorem zst (h:∀k:Int,∀v:List UInt8,v.length+1<=wt l->g k v=g' k v):zgv g m l=zgv g' m l:=by
 unfold zgv zsH;congr 2;exact qy fun i _=>zBV i (fun _ v hv=>h _ v hv)
theorem zuF (s:List Mes):∀(n n':Nat) (k:Int) (b:List UInt8),b.length<n->b.length<n'->ofN s n k b=ofN s n' k b
 | 0,n',k,b,h,_=>by omega
 | n+1,0,k,b,_,h=>by omega
 | n+1,n'+1,k,b,h,h'=>by
  rw [ofN,ofN];have hw:=zvi (zx s k) b;exact zst fun k v hv=>zuF s n n' k v (by omega) (by omega)
def ofM (s:List Mes) (k:Int) (b:List UInt8):Msg:=ofN s (b.length+1) k b
theorem zuE (s:List Mes) (k:Int) (b:List UInt8):ofM s k b=zgv (ofM s) (zx s k) (ths (zx s k) b):=by
 have hw:=zvi (zx s k) b;unfold ofM;rw [ofN];exact zst fun k v hv=>zuF s _ _ _ _ (by omega) (Nat.lt_succ_self _)
theorem zIn (b:List UInt8) (r:Rec) (h:r.At<=r.To) (h0:0<=r.From) (h1:r.From<r.At) (h2:r.To<=b.length):(valB b r).length+1<=b.length:=by
 unfold valB;simp;omega
mutual
/-- How much a meaning is, all together. -/
def wgM:Msg->Nat
 | ⟨vs,u⟩=>1+(u.map fun t=>1+t.length).sum+wgVs vs
def wgVs:List Vlu->Nat
 | []=>0
 | v::l=>wgV v+wgVs l
def wgV:Vlu->Nat
 | ⟨_,w,t,s⟩=>1+w.length+(t.map fun t=>1+t.length).sum+wgMs s
def wgMs:List Msg->Nat
 | []=>0
 | x::l=>wgM x+wgMs l
end
theorem zhR (x:Msg):wgM x=1+(x.Unknown.map fun t=>1+t.length).sum+wgVs x.Values:=by cases x;rw [wgM]
theorem zgW (v:Vlu):wgV v=1+v.Words.length+(v.Texts.map fun t=>1+t.length).sum+wgMs v.Subs:=by cases v;rw [wgV]
theorem zog :∀{l:List Vlu},v∈l->wgV v<=wgVs l
 | [],h=>by cases h
 | u::l,h=>by
  rw [wgVs];rcases xz.1 h with rfl| h
  ·omega
  ·have:=zog h;omega
theorem zji :∀{l:List Msg},x∈l->wgM x<=wgMs l
 | [],h=>by cases h
 | u::l,h=>by
  rw [wgMs];rcases xz.1 h with rfl| h
  ·omega
  ·have:=zji h;omega
theorem zmB :∀{l:List Str},t∈l->1+t.length<=(l.map fun t=>1+t.length).sum
 | [],h=>by cases h
 | u::l,h=>by
  rw [xJ,yG];rcases xz.1 h with rfl| h
  ·omega
  ·have:=zmB h;omega
theorem zyy:∀{l:List Str},l.length<=(l.map fun t=>1+t.length).sum
 | []=>by simp
 | u::l=>by
  rw [xJ,yG,xK];have:=zyy (l:=l);omega
theorem zAH:∀(l:List Vlu),l.length<=wgVs l
 | []=>by simp [wgVs]
 | u::l=>by rw [wgVs,xK,zgW];have:=zAH l;omega
theorem zAF:∀(l:List Msg),l.length<=wgMs l
 | []=>by simp [wgMs]
 | u::l=>by rw [wgMs,xK,zhR];have:=zAF l;omega
def unkR (m:Mes) (u:Str):Bool:=(zeJ u 0).2==0&&(zeJ u 0).1.To==(u.length:Int)&&decide (fldI m (zeJ u 0).1.Number<0)
def zia (f:Fld) (w:Int):Bool:=kNum f.Kind&&zbB f.Kind w==w
def zkD (f:Fld) (t:Str):Bool:=f.Kind==16|| (f.Kind==15&&zfB t)
def zpd (f:Fld) (v:Vlu):Bool:=decide (0<zci v)&&(decide (zci v<=1)|| f.Repeated)&&zbL f.Kind
mutual
def zaN (s:List Mes):Msg->Int->Bool
 | ⟨vs,u⟩,k=>decide (0<=k/\k<s.length)&&zeK s vs (zx s k) none&&u.all (unkR (zx s k))
def zeK (s:List Mes):List Vlu->Mes->Option Int->Bool
 | [],_,_=>true
 | v::l,m,p=>decide (0<=fldI m v.Number)&&p.all (fun n=>decide (n<v.Number))&&zhU s v (zE m (fldI m v.Number))&&zeK s l m (some v.Number)
def zhU (s:List Mes):Vlu->Fld->Bool
 | ⟨n,w,t,sub⟩,f=>zpd f ⟨n,w,t,sub⟩&&w.all (zia f)&&t.all (zkD f)&&zoG s sub f
def zoG (s:List Mes):List Msg->Fld->Bool
 | [],_=>true
 | x::l,f=>(f.Kind==17&&zaN s x f.Of)&&zoG s l f
end
theorem zjU (s:List Mes) (x:Msg) (k:Int):zaN s x k=(decide (0<=k/\k<s.length)&&zeK s x.Values (zx s k) none&&x.Unknown.all (unkR (zx s k))):=by cases x;rw [zaN]
theorem zqe (s:List Mes) (v:Vlu) (f:Fld):zhU s v f=(zpd f v&&v.Words.all (zia f)&&v.Texts.all (zkD f)&&zoG s v.Subs f):=by cases v;rw [zhU]
theorem zkw (s:List Mes) (f:Fld):∀(l:List Msg),zoG s l f=l.all fun x=>f.Kind==17&&zaN s x f.Of
 | []=>by rw [zoG];rfl
 | x::l=>by rw [zoG,zkw s f l];rfl
mutual
/-- No list is long. -/
def smM:Msg->Prop
 | ⟨vs,u⟩=>vs.length<=1048576/\(u.length<=1048576/\∀t∈u,t.length<=1048576)/\smVs vs
def smVs:List Vlu->Prop
 | []=>True
 | v::l=>smV v/\smVs l
def smV:Vlu->Prop
 | ⟨n,w,t,s⟩=>w.length<=1048576/\(t.length<=1048576/\∀x∈t,x.length<=1048576)/\s.length<=1048576/\smMs s
def smMs:List Msg->Prop
 | []=>True
 | x::l=>smM x/\smMs l
end
theorem zpJ (x:Msg):smM x↔x.Values.length<=1048576/\(x.Unknown.length<=1048576/\∀t∈x.Unknown,t.length<=1048576)/\smVs x.Values:=by cases x;simp only [smM]
theorem zpK (v:Vlu):smV v↔v.Words.length<=1048576/\(v.Texts.length<=1048576/\∀x∈v.Texts,x.length<=1048576)/\v.Subs.length<=1048576/\smMs v.Subs:=by cases v;simp only [smV]
theorem zhM:∀{l:List Vlu},smVs l↔∀v∈l,smV v
 | []=>by simp [smVs]
 | v::l=>by rw [smVs,zhM (l:=l)];simp
theorem zhL:∀{l:List Msg},smMs l↔∀v∈l,smM v
 | []=>by simp [smMs]
 | v::l=>by rw [smMs,zhL (l:=l)];simp
theorem zrT (l:List Str) (F:Int->Int->Option Int) (h0:∀n,F n (l.length:Int)=some n)
  (hs:∀(i:Nat) (h:i<l.length) (n:Int),F n (i:Int)=F (i64.wrap (i64.wrap (n+1)+(l[i].length:Int))) ((i+1:Nat):Int)):∀(c i:Nat) (n:Int),i+c=l.length->
  ∃r,F n (i:Int)=some r/\((∀t∈l,t.length<=1048576)->0<=n->n+1048577*c<=4611686018427387904->r=n+(((l.drop i).map fun t=>1+t.length).sum:Nat)/\r<=n+1048577*c)
 | 0,i,n,h=>by
  have hi:i=l.length:=by omega
  refine ⟨n,by rw [hi,h0],fun _ _ _=>?_⟩;rw [hi,q7];simp
 | c+1,i,n,h=>by
  have hil:i<l.length:=by omega
  obtain ⟨r,hr,hw⟩:=zrT l F h0 hs c (i+1) (i64.wrap (i64.wrap (n+1)+(l[i].length:Int))) (by omega);refine ⟨r,by rw [hs i hil,hr],fun ht hn hc=>?_⟩;have:=ht _ (xF hil);have e:i64.wrap (i64.wrap (n+1)+(l[i].length:Int))=n+1+(l[i].length:Int):=by
   rw [zJ (x:=n+1) (by omega),uq]
  rw [e] at hw;have hd:l.drop i=l[i]::l.drop (i+1):=yq hil;obtain ⟨w1,w2⟩:=hw ht (by omega) (by omega);rw [hd,xJ,yG];push_cast at w1|-;omega
theorem zrx {α:Type} (l:List α) (g:α->Int) (F:Int->Int->Option (Int⊕Unit)) (h0:∀n,F n (l.length:Int)=some (.inl n))
  (hs:∀(i:Nat) (h:i<l.length) (n:Int),F n (i:Int)=if i64.wrap (n+g l[i])>=5000 then some (.inr ()) else F (i64.wrap (n+g l[i])) ((i+1:Nat):Int)):∀(c i:Nat) (n:Int),i+c=l.length->
  ∃q,F n (i:Int)=some q/\((∀a∈l,0<=g a/\g a<=4398046511104)->0<=n->n<=4398046511104->∀u,q= .inl u->u=n+((l.drop i).map g).sum/\0<=u/\(u<=n\/u<5000)/\∀a∈l.drop i,g a<5000)
 | 0,i,n,h=>by
  have hi:i=l.length:=by omega
  refine ⟨.inl n,by rw [hi,h0],fun _ _ _ u hu=>?_⟩;cases hu;rw [hi,q7];simp;omega
 | c+1,i,n,h=>by
  have hil:i<l.length:=by omega
  have hd:l.drop i=l[i]::l.drop (i+1):=yq hil;rw [hs i hil];by_cases h5:i64.wrap (n+g l[i])>=5000
  ·exact ⟨.inr (),by rw [xu h5],fun _ _ _ u hu=>by cases hu⟩
  ·obtain ⟨q,hq,hw⟩:=zrx l g F h0 hs c (i+1) (i64.wrap (n+g l[i])) (by omega);refine ⟨q,by rw [xt h5,hq],fun hg hn hnb u hu=>?_⟩;have hgi:=hg _ (xF hil);have e:i64.wrap (n+g l[i])=n+g l[i]:=by rw [uq]
   rw [e] at hw h5;obtain ⟨w1,w2,w3,w4⟩:=hw hg (by omega) (by omega) u hu;rw [hd,xJ,yG];refine ⟨by omega,w2,by omega,fun a ha=>?_⟩;rcases xz.1 ha with rfl| ha
   ·omega
   ·exact w4 a ha
theorem zBM:∀(fuel:Nat),(∀(x:Msg) (d:Int),szM x<fuel->bdM x-> -1<=d->d<=1048576->∃r,zbe fuel x d=some r/\(smM x->0<=r/\r<=4398046511104/\(r<5000->r=wgM x/\(dM x:Int)<=d)))/\
  ∀(v:Vlu) (d:Int),szV v<fuel->bdV v->0<=d->d<=1048576->∃r,zbb fuel v d=some r/\(smV v->0<=r/\r<=4398046511104/\(r<5000->r=wgV v/\(dV v:Int)<=d))
 | 0=>⟨fun x d h=>by omega,fun v d h=>by omega⟩
 | fuel+1=>by
  obtain ⟨ih1,ih2⟩:=zBM fuel;refine ⟨fun x d wh hb hd hd2=>?_,fun v d wh hb hd hd2=>?_⟩
  ·obtain ⟨b1,⟨b2,b3⟩,b4⟩:=(zgP x).1 hb;rw [zcg] at wh;show∃r,zdP (zbe fuel) (zbb fuel) x d=some r/\_;unfold zdP;by_cases hneg:d<0
   ·exact ⟨5000,by rw [itT (by simpa using hneg)],fun _=>⟨by omega,by omega,fun h=>by omega⟩⟩
   rw [itF (by simpa using hneg)];obtain ⟨n,hn,hnw⟩:=zrT x.Unknown (fun n i=>zcy x n i) (fun n=>by
     refine zlg ?_;unfold zbs;rw [ul])
    (fun i hi n=>by
     refine zlf ?_;unfold zbs;have hw1:i64.wrap ((i:Int)+1)=((i+1:Nat):Int):=by rw [uq];push_cast;rfl
     rw [uo,zaf rfl hi,sb,hw1]) x.Unknown.length 0 1 (xQ _)
   have hn':zcy x 1 0=some n:=hn;have hgg:∀v∈x.Values,∃r,zbb fuel v d=some r/\(smV v->0<=r/\r<=4398046511104/\(r<5000->r=wgV v/\(dV v:Int)<=d)):=fun v hv=>by
    have:=zdB hv;exact ih2 v d (by omega) (zdi.1 b4 _ hv) (by omega) hd2
   obtain ⟨q,hq,hqw⟩:=zrx x.Values (fun v=>(zbb fuel v d).getD 0) (fun n i=>zcz d (zbb fuel) x n i) (fun n=>by
     refine zgG ?_;unfold zbc;rw [ul])
    (fun i hi n=>by
     obtain ⟨r,hr,_⟩:=hgg _ (xF hi);have hw1:i64.wrap ((i:Int)+1)=((i+1:Nat):Int):=by rw [uq];push_cast;rfl
     simp only [hr,yP];split
     ·rename_i h5;refine zgG ?_;unfold zbc;rw [uo,zaf rfl hi,sb,hr,sb,itT (by simpa using h5)]
     ·rename_i h5;refine zlh ?_;unfold zbc;rw [uo,zaf rfl hi,sb,hr,sb,itF (by simpa using h5),hw1]) x.Values.length 0 n (xQ _)
   have hq':zcz d (zbb fuel) x n 0=some q:=hq;rw [hn',sb,hq',sb];cases q with
   | inr u=>exact ⟨5000,rfl,fun _=>⟨by omega,by omega,fun h=>by omega⟩⟩
   | inl u=>
    refine ⟨u,rfl,fun hsm=>?_⟩;obtain ⟨s1,⟨s2,s3⟩,s4⟩:=(zpJ x).1 hsm;obtain ⟨n1,n2⟩:=hnw s3 (by omega) (by omega);rw [xR] at n1;obtain ⟨u1,u2,u3,u4⟩:=hqw (fun v hv=>by
     obtain ⟨r,hr,hrw⟩:=hgg v hv;have:=hrw (zhM.1 s4 v hv);simp only [hr,yP];exact ⟨this.1,this.2.1⟩) (by omega) (by omega) u rfl
    rw [xR] at u1 u4;refine ⟨u2,by omega,fun _=>?_⟩;have hall:∀l:List Vlu,(∀v∈l,v∈x.Values)->(l.map fun v=>(zbb fuel v d).getD 0).sum=(wgVs l:Int)/\(dVs l:Int)<=d:=by
     intro l
     induction l with
     | nil=>intro _;simp [wgVs,dVs];omega
     | cons v l ih=>
      intro hl;have hv:=hl v xw;obtain ⟨r,hr,hrw⟩:=hgg v hv;obtain ⟨_,_,hr3⟩:=hrw (zhM.1 s4 v hv);have h5:=u4 v hv;simp only [hr,yP] at h5;obtain ⟨e1,e2⟩:=hr3 h5;obtain ⟨i1,i2⟩:=ih fun w hw=>hl w (xx _ hw)
      rw [xJ,yG,i1,hr,yP,wgVs,dVs];push_cast;omega
    obtain ⟨a1,a2⟩:=hall x.Values fun v hv=>hv
    rw [zhR,zza];push_cast;refine ⟨?_,a2⟩;push_cast at n1;omega
  ·obtain ⟨_,⟨b1,_⟩,⟨b2,b3⟩,b4,b5⟩:=(zfT v).1 hb;rw [zdX] at wh;show∃r,zcr (zbe fuel) (zbb fuel) v d=some r/\_;unfold zcr;rw [zJ (x:=1+(v.Words.length:Int)) (by omega)];obtain ⟨n,hn,hnw⟩:=zrT v.Texts (fun n i=>zbI v n i) (fun n=>by
     refine ziN ?_;unfold zaL;rw [ul])
    (fun i hi n=>by
     refine ziM ?_;unfold zaL;have hw1:i64.wrap ((i:Int)+1)=((i+1:Nat):Int):=by rw [uq];push_cast;rfl
     rw [uo,zaf rfl hi,sb,hw1]) v.Texts.length 0 (1+(v.Words.length:Int)) (xQ _)
   have hn':zbI v (1+(v.Words.length:Int)) 0=some n:=hn;have hgg:∀x∈v.Subs,∃r,zbe fuel x (d - 1)=some r/\(smM x->0<=r/\r<=4398046511104/\(r<5000->r=wgM x/\(dM x:Int)<=d - 1)):=fun x hx=>by
    have:=zdA hx;exact ih1 x (d - 1) (by omega) (zdO.1 b5 _ hx) (by omega) (by omega)
   have hd1:i64.wrap (d - 1)=d - 1:=by rw [uq]
   obtain ⟨q,hq,hqw⟩:=zrx v.Subs (fun x=>(zbe fuel x (d - 1)).getD 0) (fun n i=>zbJ d (zbe fuel) v n i) (fun n=>by
     refine zfr ?_;unfold zaB;rw [ul])
    (fun i hi n=>by
     obtain ⟨r,hr,_⟩:=hgg _ (xF hi);have hw1:i64.wrap ((i:Int)+1)=((i+1:Nat):Int):=by rw [uq];push_cast;rfl
     simp only [hr,yP];split
     ·rename_i h5;refine zfr ?_;unfold zaB;rw [uo,zaf rfl hi,sb,hd1,hr,sb,itT (by simpa using h5)]
     ·rename_i h5;refine ziO ?_;unfold zaB;rw [uo,zaf rfl hi,sb,hd1,hr,sb,itF (by simpa using h5),hw1]) v.Subs.length 0 n (xQ _)
   have hq':zbJ d (zbe fuel) v n 0=some q:=hq;rw [hn',sb,hq',sb];cases q with
   | inr u=>exact ⟨5000,rfl,fun _=>⟨by omega,by omega,fun h=>by omega⟩⟩
   | inl u=>
    refine ⟨u,rfl,fun hsm=>?_⟩;obtain ⟨s1,⟨s2,s3⟩,s5,s4⟩:=(zpK v).1 hsm;obtain ⟨n1,n2⟩:=hnw s3 (by omega) (by omega);rw [xR] at n1;obtain ⟨u1,u2,u3,u4⟩:=hqw (fun x hx=>by
     obtain ⟨r,hr,hrw⟩:=hgg x hx;have:=hrw (zhL.1 s4 x hx);simp only [hr,yP];exact ⟨this.1,this.2.1⟩) (by omega) (by omega) u rfl
    rw [xR] at u1 u4;refine ⟨u2,by omega,fun _=>?_⟩;have hall:∀l:List Msg,(∀x∈l,x∈v.Subs)->(l.map fun x=>(zbe fuel x (d - 1)).getD 0).sum=(wgMs l:Int)/\(dMs l:Int)<=d:=by
     intro l
     induction l with
     | nil=>intro _;simp [wgMs,dMs];omega
     | cons x l ih=>
      intro hl;have hx:=hl x xw;obtain ⟨r,hr,hrw⟩:=hgg x hx;obtain ⟨_,_,hr3⟩:=hrw (zhL.1 s4 x hx);have h5:=u4 x hx;simp only [hr,yP] at h5;obtain ⟨e1,e2⟩:=hr3 h5;obtain ⟨i1,i2⟩:=ih fun w hw=>hl w (xx _ hw)
      rw [xJ,yG,i1,hr,yP,wgMs,dMs];push_cast;omega
    obtain ⟨a1,a2⟩:=hall v.Subs fun v hv=>hv
    rw [zgW,zwo];push_cast;refine ⟨?_,a2⟩;push_cast at n1;omega
def zAm (s:List Mes):Nat->zjr
 | 0=>none
 | e+1=>some (zai s e)
theorem zig (s:List Mes) (d:Nat) (k:Int) (b:List UInt8):zai s d k b=zdf (zx s k) (zAm s d) b (spl 0 b):=by cases d<;>rfl
theorem znm (s:List Mes) (d:Nat) (k:Int):zai s d k []=none:=by rw [zig,zfD];rfl
def vwG (m:Mes) (r:Rec):Int×Bool:=match vw m r.Number r.Wire with
 | .inl _=>(-1,false)
 | .inr p=>p
def thR (m:Mes) (b:List UInt8) (r:Rec):Th:=⟨(vwG m r).1,(vwG m r).2,valB b r,rawB b r⟩
theorem zGS :∀{l:List Rec},(∀r∈l,∃p,vw m r.Number r.Wire= .inr p)->vws m none l=(l.map fun r=>⟨r,(vwG m r).1,(vwG m r).2⟩,none)
 | [],_=>rfl
 | r::l,h=>by
  obtain ⟨p,hp⟩:=h r xw;rw [vws,hp,zGS fun x hx=>h x (xx _ hx)];simp only [xJ,vwG,hp]
theorem zIh (h:zcJ m sub b r=none):∃p,vw m r.Number r.Wire= .inr p:=by
 unfold zcJ at h;cases hv:vw m r.Number r.Wire with
 | inl c=>rw [hv] at h;cases h
 | inr p=>exact ⟨p,rfl⟩
theorem zpL (h:zai s d k b=none):ths (zx s k) b=(spl 0 b).1.map (thR (zx s k) b):=by
 rw [zig,zdE] at h;unfold ths zfq;rw [h.2,zGS fun r hr=>zIh (h.1 r hr)];unfold vwR;simp only [yM];rfl
theorem zzZ {b:List UInt8} (z:List UInt8) {r:Rec} (h0:0<=r.To) (h:r.To<=b.length):rawB (b++z) r=rawB b r:=by
 unfold rawB;by_cases ha:r.From.toNat<=b.length
 ·rw [qV ha,pS (by simp;omega)]
 ·have e:r.To.toNat - r.From.toNat=0:=by omega
  rw [e,yJ,yJ]
theorem zBF (a b:List UInt8) {r:Rec} (h0:0<=r.From) (h1:r.From<=r.To):rawB (a++b) (zkB a.length r)=rawB b r:=by
 unfold rawB zkB;simp only;have e1:(r.From+(a.length:Int)).toNat=a.length+r.From.toNat:=by omega
 have e2:(r.To+(a.length:Int)).toNat - (a.length+r.From.toNat)=r.To.toNat - r.From.toNat:=by omega
 rw [e1,e2,<-yu,q6]
theorem zBR {s:List Mes} {d:Nat} {k:Int} {a z:List UInt8} (ha:zai s d k a=none) (hz:zai s d k z=none):ths (zx s k) (a++z)=ths (zx s k) a++ths (zx s k) z:=by
 rw [zpL ((zjB s d k z ha).2 hz),zpL ha,zpL hz];rw [zig,zdE] at ha;have hap:=zvc z 0 a ha.2;have hsh:=zxi a.length 0 z;rw [xQ] at hap hsh;rw [hap,hsh];simp only [yA,yM];congr 1
 ·refine qy fun r hr=>?_
  have:=zrO 0 a r hr;unfold thR;rw [zsG z (by omega) (by omega),zzZ z (by omega) (by omega)]
 ·refine qy fun r hr=>?_
  have:=zrO 0 z r hr;show thR _ _ (zkB a.length r)=_;unfold thR;rw [zpO a z (by omega) (by omega),zBF a z (by omega) (by omega)];rfl
structure OkT (s:List Mes) (d:Nat) (m:Mes) (t:Th):Prop where
 fi:t.fi= -1\/0<=t.fi/\t.fi<m.Fields.length
 unk:t.fi<0->unkR m t.raw=true
 run:0<=t.fi->t.run=true->kNum (zE m t.fi).Kind=true/\(zE m t.fi).Repeated=true/\(zkT (zE m t.fi).Kind t.val).2=0
 one:0<=t.fi->t.run=false->zbL (zE m t.fi).Kind=true/\zcB (zaW (zE m t.fi).Kind) t.val=true/\((zE m t.fi).Kind=15->zfB t.val=true)/\((zE m t.fi).Kind=17->∃e,d=e+1/\zai s e (zE m t.fi).Of t.val=none)
theorem zIW (h:zai s d k b=none):∀t∈ths (zx s k) b,OkT s d (zx s k) t:=by
 intro t ht;rw [zpL h] at ht;obtain ⟨r,hr,rfl⟩:=xD.1 ht;obtain ⟨n,w,f,a,u,hre,hrec,h1,h2,h3⟩:=zIe b 0 b rfl (xI _) r hr;rw [zig,zdE] at h;have hs:=h.1 r hr
 generalize zx s k=m at hs|-
 have hraw:rawB b r=(b.drop f).take u:=by
  unfold rawB;rw [hre];simp only [xH];rw [show f+u - f=u by omega]
 have hval:valB b r=((b.drop f).drop a).take (u - a):=by
  unfold valB;rw [hre];simp only [xH];rw [yu,show f+u - (f+a)=u - a by omega]
 have hfit:=(zBH hrec).1;have hn:r.Number=n:=by rw [hre]
 have hw:r.Wire=w:=by rw [hre]
 have hrl:((b.drop f).take u).length=u:=by simp;omega
 have hnx:zeJ ((b.drop f).take u) 0=(⟨n,w,0,0+(a:Int),0+(u:Int)⟩,0):=by
  unfold zeJ;rw [xt (by rw [hrl];omega)];simp only [Int.toNat_zero,xR,zEm hrec]
 unfold zcJ at hs;rcases zgo m r.Number r.Wire with hv| ⟨hv,hf⟩| ⟨i,run,hv,hfi,hi⟩
 ·rw [hv] at hs;cases hs
 ·have e:vwG m r=(-1,false):=by unfold vwG;rw [hv]
  refine ⟨.inl (by simp only [thR,e]),fun _=>?_,fun hh=>by simp only [thR,e] at hh;omega,fun hh=>by simp only [thR,e] at hh;omega⟩;simp only [thR,hraw];unfold unkR;rw [hnx,hrl];simp only [beq_self_eq_true,xZ,Int.zero_add];rw [<-hn,hf];rfl
 ·have e:vwG m r=((i:Int),run):=by unfold vwG;rw [hv]
  rw [hv] at hs;simp only at hs;rw [xt (by omega)] at hs;refine ⟨.inr (by simp only [thR,e];omega),fun hh=>by simp only [thR,e] at hh;omega,fun _ hrn=>?_,fun _ hrn=>?_⟩
  ·simp only [thR,e] at hrn|-;subst hrn;obtain ⟨v1,v2,_⟩:=zBY hv;refine ⟨v1,v2,?_⟩;unfold zgz at hs;rw [xu rfl] at hs;by_cases he:(zkT (zE m i).Kind (valB b r)).2=0
   ·exact he
   ·rw [xu he] at hs;cases hs
  ·simp only [thR,e] at hrn|-;subst hrn;have hk:zbL (zE m i).Kind=true/\zaW (zE m i).Kind=r.Wire:=by
    unfold vw at hv;rw [hfi] at hv;split at hv
    ·cases hv
    ·split at hv
     ·cases hv
     ·split at hv
      ·cases hv
      ·rename_i h4;cases hr:zbL (zE m i).Kind with
       | false=>exact absurd (.inl hr) h4
       | true=>exact ⟨rfl,by by_cases hq:zaW (zE m i).Kind=r.Wire;exact hq;exact absurd (.inr hq) h4⟩
   refine ⟨hk.1,by rw [hk.2,hw,hval];exact hfit,fun h15=>?_,fun wa=>?_⟩
   ·unfold zgz at hs;rw [xt (by simp)] at hs;cases hr4:zfB (valB b r) with
    | true=>rfl
    | false=>rw [xu ⟨h15,hr4⟩] at hs;cases hs
   ·unfold zgz at hs;rw [xt (by simp),xt (by omega),xu wa] at hs;cases d with
    | zero=>simp only [zAm] at hs;cases hs
    | succ e=>
     simp only [zAm] at hs;refine ⟨e,rfl,?_⟩;cases hg:zai s e (zE m i).Of (valB b r) with
     | none=>rfl
     | some q=>rw [hg] at hs;cases hs
structure zwd (s:List Mes) (d:Nat) (f:Fld) (a:zez):Prop where
 words:∀w∈a.2.2.1,zia f w=true
 texts:∀t∈a.2.2.2.1,zkD f t=true
 numT:kNum f.Kind=true->a.2.2.2.1=[]
 subs:∀x∈a.2.2.2.2,f.Kind=17/\zaN s x f.Of=true/\1+dM x<=d
 join:f.Kind=17->∀e,d=e+1->zai s e f.Of a.1=none
 met:a.2.1=true->f.Kind=17->∃e,d=e+1
 one:f.Repeated=false->a.2.2.1.length<=1/\a.2.2.2.1.length<=1/\a.2.2.2.2=[]
theorem zhE {k:Int} (h:kNum k=true):k≠17/\k≠15/\k≠16:=by rw [zeH] at h;omega
theorem zAM {f:Fld} (hk:kNum f.Kind=true) (v:List UInt8):∀w∈(zbt f.Kind v).1,zia f w=true:=by
 intro w hw;unfold zbt at hw;rw [xt (by rw [hk];simp)] at hw;split at hw
 ·obtain ⟨p,_,rfl⟩:=xD.1 hw;unfold zia zgX;rw [hk,znh _ (zqD _)];simp
 ·cases hw
theorem zAi {f:Fld} (hk:kNum f.Kind=true) {v:List UInt8} (hf:zcB (zaW f.Kind) v=true):zia f (zlV f.Kind v).1=true:=by
 rw [zla hk hf];unfold zia zgX;rw [hk,znh _ (zqD _)];simp
theorem zHc (s:List Mes) (d:Nat) (f:Fld):zwd s d f acc0 where
 words:=fun w hw=>nomatch hw
 texts:=fun w hw=>nomatch hw
 numT:=fun _=>rfl
 subs:=fun w hw=>nomatch hw
 join:=fun _ e _=>znm s e _
 met:=fun h=>nomatch h
 one:=fun _=>⟨xI _,xI _,rfl⟩
theorem zJS {s:List Mes} {d:Nat} {m:Mes} {f:Fld} {g:Int->List UInt8->Msg} {a:zez} {t:Th} (ha:zwd s d f a) (ht:OkT s d m t) (hi:0<=t.fi) (hf:zE m t.fi=f)
  (hg:f.Kind=17->∀e,d=e+1->zai s e f.Of t.val=none->zaN s (g f.Of t.val) f.Of=true/\dM (g f.Of t.val)<=e):zwd s d f (stp g f a t):=by
 obtain ⟨h1,h2,hnt,h3,h4,h5,h6⟩:=ha;have ws:=ht.run hi;have hone:=ht.one hi;rw [hf] at ws hone;have w0:∀w∈(if f.Repeated=true then a.2.2.1 else []),zia f w=true:=fun w hw=>by
  split at hw
  ·exact h1 w hw
  ·cases hw
 have t0:∀w∈(if f.Repeated=true then a.2.2.2.1 else []),zkD f w=true:=fun w hw=>by
  split at hw
  ·exact h2 w hw
  ·cases hw
 have tn:kNum f.Kind=true->(if f.Repeated=true then a.2.2.2.1 else [])=[]:=fun hk=>by
  split
  ·exact hnt hk
  ·rfl
 have wl:f.Repeated=false->(if f.Repeated=true then a.2.2.1 else [])=[]:=fun h=>by rw [h];rfl
 have tl:f.Repeated=false->(if f.Repeated=true then a.2.2.2.1 else [])=[]:=fun h=>by rw [h];rfl
 unfold stp;by_cases hr:t.run=true
 ·obtain ⟨r1,r2,r3⟩:=ws hr;rw [xu hr];refine ⟨fun w hw=>?_,t0,tn,h3,h4,fun _ hk=>absurd hk (zhE r1).1,fun hh=>by rw [r2] at hh;cases hh⟩;rcases xB.1 hw with hw| hw
  ·exact w0 w hw
  ·exact zAM r1 _ w hw
 ·have hr':t.run=false:=by simpa using hr
  obtain ⟨o1,o2,o3,o4⟩:=hone hr';rw [xt hr];by_cases hn:kNum f.Kind=true
  ·rw [xu hn];refine ⟨fun w hw=>?_,t0,tn,h3,h4,fun _ hk=>absurd hk (zhE hn).1,fun hh=>?_⟩
   ·rcases xB.1 hw with hw| hw
    ·exact w0 w hw
    ·rw [xT.1 hw];exact zAi hn o2
   ·have:=h6 hh;simp only [wl hh,tl hh];exact ⟨xA _,xI _,this.2.2⟩
  ·rw [xt hn];by_cases hk:f.Kind=17/\f.Repeated=true
   ·rw [xu hk];obtain ⟨e,he,hv⟩:=o4 hk.1;obtain ⟨g1,g2⟩:=hg hk.1 e he hv;refine ⟨w0,t0,tn,fun x hx=>?_,h4,fun _ _=>⟨e,he⟩,fun hh=>by rw [hk.2] at hh;cases hh⟩;rcases xB.1 hx with hx| hx
    ·exact h3 x hx
    ·rw [xT.1 hx];exact ⟨hk.1,g1,by omega⟩
   ·rw [xt hk];by_cases hk2:f.Kind=17
    ·rw [xu hk2];obtain ⟨e,he,hv⟩:=o4 hk2;refine ⟨w0,t0,tn,h3,fun _ e' he'=>?_,fun _ _=>⟨e,he⟩,fun hh=>?_⟩
     ·have:e'=e:=by omega
      subst this;exact (zjB s e' f.Of t.val (h4 hk2 e' he')).2 hv
     ·simp only [wl hh,tl hh];exact ⟨xI _,xI _,(h6 hh).2.2⟩
    ·rw [xt hk2];have hk15:f.Kind=15\/f.Kind=16:=by
      have:¬(1<=f.Kind/\f.Kind<=14):=fun hh=>hn (zeH.2 hh)
      have wa:1<=f.Kind/\f.Kind<=17:=by simpa [zbL] using o1
      omega
     refine ⟨w0,fun x hx=>?_,fun hh=>absurd hh hn,h3,h4,fun _ hh=>absurd hh hk2,fun hh=>?_⟩
     ·rcases xB.1 hx with hx| hx
      ·exact t0 x hx
      ·rw [xT.1 hx];unfold zkD;rcases hk15 with hh| hh
       ·simp [hh,o3 hh]
       ·simp [hh]
     ·simp only [wl hh,tl hh];exact ⟨xI _,xA _,(h6 hh).2.2⟩
theorem zCd {s:List Mes} {d:Nat} {m:Mes} {f:Fld} {g:Int->List UInt8->Msg} {i:Int} (hi:0<=i) (hf:zE m i=f):∀(a:zez) (l:List Th),zwd s d f a->(∀t∈l,OkT s d m t)->
  (∀t∈l,f.Kind=17->∀e,d=e+1->zai s e f.Of t.val=none->zaN s (g f.Of t.val) f.Of=true/\dM (g f.Of t.val)<=e)->zwd s d f (accF g f i a l)
 | a,[],ha,_,_=>ha
 | a,t::l,ha,ht,hg=>by
  rw [accF];refine zCd hi hf _ l ?_ (fun x hx=>ht x (xx _ hx)) (fun x hx=>hg x (xx _ hx));split
  ·rename_i h;exact zJS ha (ht t xw) (by omega) (by rw [h];exact hf) (hg t xw)
  ·exact ha
theorem zFg {d:Nat}:∀{l:List Msg},(∀x∈l,1+dM x<=d)->dMs l<=d
 | [],_=>by simp [dMs]
 | x::l,h=>by
  rw [dMs];have:=h x xw;have:=zFg fun y hy=>h y (xx _ hy)
  omega
theorem zFh {d:Nat}:∀{l:List Vlu},(∀x∈l,dV x<=d)->dVs l<=d
 | [],_=>by simp [dVs]
 | x::l,h=>by
  rw [dVs];have:=h x xw;have:=zFh fun y hy=>h y (xx _ hy)
  omega
theorem zIo {s:List Mes} {d:Nat} {f:Fld} {g:Int->List UInt8->Msg} {q:zez} (hq:zwd s d f q) (hkr:zbL f.Kind=true)
  (hg:f.Kind=17->q.2.1=true->∀e,d=e+1->zai s e f.Of q.1=none->zaN s (g f.Of q.1) f.Of=true/\dM (g f.Of q.1)<=e) (hm:0<zci (valO g f q)):
  zhU s (valO g f q) f=true/\dV (valO g f q)<=d:=by
 obtain ⟨h1,h2,hnt,h3,h4,h5,h6⟩:=hq;have hsubs:∀x∈(valO g f q).Subs,f.Kind=17/\zaN s x f.Of=true/\1+dM x<=d:=by
  unfold valO;simp only;intro x hx;split at hx
  ·rename_i hc;obtain ⟨e,he⟩:=h5 hc.1 hc.2.1;obtain ⟨g1,g2⟩:=hg hc.2.1 hc.1 e he (h4 hc.2.1 e he);rw [xT.1 hx];exact ⟨hc.2.1,g1,by omega⟩
  ·exact h3 x hx
 constructor
 ·rw [zqe,zkw];have hmany:zpd f (valO g f q)=true:=by
   unfold zpd;rw [xN hm,hkr,xZ,qJ];cases hr:f.Repeated with
   | true=>simp
   | false=>
    rw [qK];refine xN ?_;obtain ⟨o1,o2,o3⟩:=h6 hr;unfold zci valO;simp only;by_cases hk:f.Kind=17
    ·have e1:q.2.2.1=[]:=by
      cases hw:q.2.2.1 with
      | nil=>rfl
      | cons w l=>
       have:=h1 w (by rw [hw];exact xw);unfold zia at this;simp only [xy] at this;exact absurd hk (zhE this.1).1
     have e2:q.2.2.2.1=[]:=by
      cases hw:q.2.2.2.1 with
      | nil=>rfl
      | cons w l=>
       have:=h2 w (by rw [hw];exact xw);unfold zkD at this;rw [hk] at this;simp at this
     rw [e1,e2];split
     ·simp
     ·rw [o3];simp
    ·rw [xt (fun hh=>hk hh.2.1),o3];by_cases hn:kNum f.Kind=true
     ·rw [hnt hn];simp;exact o1
     ·have e1:q.2.2.1=[]:=by
       cases hw:q.2.2.1 with
       | nil=>rfl
       | cons w l=>
        have:=h1 w (by rw [hw];exact xw);unfold zia at this;simp only [xy] at this;exact absurd this.1 hn
      rw [e1];simp;exact o2
  rw [hmany,xZ,xy,xy];refine ⟨⟨xG.2 h1,xG.2 h2⟩,xG.2 fun x hx=>?_⟩;obtain ⟨x1,x2,_⟩:=hsubs x hx;simp [x1,x2]
 ·rw [zwo];exact zFg fun x hx=>(hsubs x hx).2.2
theorem znu (m:Mes) (i:Int):zgH m i=(zE m i).Number:=rfl
theorem zFV (hs:zfa s) (hm:m∈s) (hi:i<m.Fields.length) (hj:j<m.Fields.length) (h:m.Fields[i].Number=m.Fields[j].Number):i=j:=by
 rcases Nat.lt_trichotomy i j with v8| h'| v8
 ·exact absurd h (hs.nums m hm i j _ _ v8 (xL hi) (xL hj)).1
 ·exact h'
 ·exact absurd h.symm (hs.nums m hm j i _ _ v8 (xL hj) (xL hi)).1
theorem zqg {s:List Mes} (hs:zfa s) {m:Mes} (hm:m∈s) {i:Int} (h0:0<=i) (hi:i<m.Fields.length):fldI m (zE m i).Number=i:=by
 obtain ⟨n,rfl⟩:∃n:Nat,i=n:=⟨i.toNat,by omega⟩;have hn:n<m.Fields.length:=by omega
 rw [zcQ hn];rcases zdM m m.Fields[n].Number with ⟨_,h⟩| ⟨j,hj,h,hjn,_⟩
 ·exact absurd rfl (h _ (xF hn))
 ·rw [h,zFV hs hm hj hn hjn]
theorem zqN {s:List Mes} (hs:zfa s) {m:Mes} (hm:m∈s):(zfL (zgH m) m.Fields.length).Pairwise fun a b=>zgH m a<zgH m b:=by
 refine (zqO (zgH m) m.Fields.length).imp_of_mem fun {a b} ha hb h=>?_
 rcases h with h| ⟨h,v8⟩
 ·exact h
 ·exfalso;obtain ⟨a0,a1⟩:=zfk.1 ha;obtain ⟨b0,b1⟩:=zfk.1 hb;rw [znu,znu] at h;have:=zqg hs hm a0 a1;rw [h,zqg hs hm b0 b1] at this;omega
theorem zqG {s:List Mes} (hs:zfa s) {m:Mes} (hm:m∈s) (v:Int->Vlu) (hn:∀i,(v i).Number=zgH m i):∀(o:List Int) (p:Option Int),(∀i∈o,0<=i/\i<m.Fields.length)->(o.Pairwise fun a b=>zgH m a<zgH m b)->
  (∀i∈o,p.all (fun n=>decide (n<zgH m i))=true)->(∀i∈o,0<zci (v i)->zhU s (v i) (zE m i)=true)->zeK s ((o.map v).filter fun x=>decide (0<zci x)) m p=true
 | [],p,_,_,_,_=>by rw [yQ,List.filter_nil,zeK]
 | i::o,p,h1,h2,h3,h4=>by
  obtain ⟨h2a,h2b⟩:=yd.1 h2;have ih:=fun p hp=>zqG hs hm v hn o p (fun j hj=>h1 j (xx _ hj)) h2b hp (fun j hj=>h4 j (xx _ hj))
  rw [xJ,yW];by_cases hp:0<zci (v i)
  ·rw [xu (by simpa using hp),zeK,ih _ (fun j hj=>by rw [hn];simpa using h2a j hj)];obtain ⟨i0,i1⟩:=h1 i xw;have hfi:=zqg hs hm i0 i1;rw [hn,znu,hfi,h4 i xw hp,<-znu,h3 i xw,xN i0];rfl
  ·rw [xt (by simpa using hp)];exact ih p fun j hj=>h3 j (xx _ hj)
theorem zwQ {s:List Mes} (hs:zfa s):∀(N:Nat) (b:List UInt8) (d k:Nat),b.length=N->k<s.length->zai s d k b=none->zaN s (ofM s k b) k=true/\dM (ofM s k b)<=d:=by
 intro N
 induction N using Nat.strongRecOn with
 | _ N IH=>
  intro b d k hN hk hv;have hmm:zx s (k:Int)∈s:=by rw [zeI hk];exact xF hk
  have hth:=zIW hv;have hwt:=zvi (zx s (k:Int)) b;rw [zuE]
  generalize hl:ths (zx s (k:Int)) b=l at hth hwt
  generalize hm:zx s (k:Int)=m at hmm hth hwt
  have hsub:∀f∈m.Fields,f.Kind=17->∀v:List UInt8,v.length+1<=b.length->∀e,zai s e f.Of v=none->zaN s (ofM s f.Of v) f.Of=true/\dM (ofM s f.Of v)<=e:=fun f hf wa v hvl e he=>by
   have hof:=(hs.fld _ hmm f hf).sub wa;obtain ⟨q,hq⟩:∃q:Nat,f.Of=q:=⟨f.Of.toNat,by omega⟩;rw [hq] at he|-;exact IH v.length (by omega) v e q rfl (by omega) he
  have hval:∀i∈zfL (zgH m) m.Fields.length,0<zci (valO (ofM s) (zE m i) (accF (ofM s) (zE m i) i acc0 l))->
    zhU s (valO (ofM s) (zE m i) (accF (ofM s) (zE m i) i acc0 l)) (zE m i)=true/\dV (valO (ofM s) (zE m i) (accF (ofM s) (zE m i) i acc0 l))<=d:=fun i hi hp=>by
   obtain ⟨i0,i1⟩:=zfk.1 hi;obtain ⟨n,hn⟩:∃n:Nat,i=n:=⟨i.toNat,by omega⟩;have hnl:n<m.Fields.length:=by omega
   have hfm:zE m i∈m.Fields:=by rw [hn,zcQ hnl];exact xF _
   have hacc:=zCd (g:=ofM s) i0 rfl acc0 l (zHc s d (zE m i)) hth (fun t ht wa e he hv=>hsub _ hfm wa _ (by have:=zvD ht;omega) e hv);have hw:=(zxA (ofM s) (zE m i) i acc0 l).2;refine zIo hacc (hs.fld _ hmm _ hfm).kind (fun wa hmet e he hv=>hsub _ hfm wa _ ?_ e hv) hp;have h0:wJ acc0=0:=rfl;rw [h0,wJ,xu hmet] at hw;omega
  constructor
  ·rw [zjU,hm,xN (by omega),xZ,xy];constructor
   ·unfold zgv zsH;exact zqG hs hmm (fun i=>valO (ofM s) (zE m i) (accF (ofM s) (zE m i) i acc0 l)) (fun i=>rfl) _ none (fun i hi=>zfk.1 hi) (zqN hs hmm) (fun _ _=>rfl) (fun i hi hp=>(hval i hi hp).1)
   ·unfold zgv unkO;refine xG.2 fun u hu=>?_
    obtain ⟨t,ht,rfl⟩:=xD.1 hu;obtain ⟨ht1,ht2⟩:=yc.1 ht;exact (hth t ht1).unk (by simpa using ht2)
  ·rw [zza];unfold zgv zsH;refine zFh fun x hx=>?_
   obtain ⟨hx1,hx2⟩:=yc.1 hx;obtain ⟨i,hi,rfl⟩:=xD.1 hx1;exact (hval i hi (by simpa using hx2)).2
theorem zFr (h: -9223372036854775808<=n/\n<=9223372036854775807):(Lit.int .i64 n).wf=true:=by
 simpa [Lit.wf,IntKind.min,IntKind.max,IntKind.bits,IntKind.signed] using h
structure zyJ (a:zez):Prop where
 words:∀w∈a.2.2.1,0<=w/\w<=18446744073709551615
 texts:∀t∈a.2.2.2.1,t.length<=1048576
 subs:∀x∈a.2.2.2.2,bdM x/\smM x
theorem zHb:zyJ acc0:=⟨fun w h=>(nomatch h),fun w h=>(nomatch h),fun w h=>(nomatch h)⟩
theorem zGX (k:Int) (v:List UInt8):∀w∈(zbt k v).1,0<=w/\w<=18446744073709551615:=by
 intro w hw;unfold zbt at hw;split at hw
 ·cases hw
 ·split at hw
  ·obtain ⟨p,_,rfl⟩:=xD.1 hw;exact zgF k (zqD k)
  ·cases hw
theorem zGr (k:Int) (v:List UInt8):0<=(zlV k v).1/\(zlV k v).1<=18446744073709551615:=by
 unfold zlV;split
 ·simp
 ·split
  ·simp
  ·exact zgF k (zqD k)
theorem zJR {g:Int->List UInt8->Msg} {f:Fld} {a:zez} {t:Th} (ha:zyJ a) (ht:t.val.length<=1048576) (hg:f.Kind=17->bdM (g f.Of t.val)/\smM (g f.Of t.val)):zyJ (stp g f a t):=by
 obtain ⟨h1,h2,h3⟩:=ha;have w0:∀w∈(if f.Repeated=true then a.2.2.1 else []),0<=w/\w<=18446744073709551615:=fun w hw=>by
  split at hw
  ·exact h1 w hw
  ·cases hw
 have t0:∀w∈(if f.Repeated=true then a.2.2.2.1 else []),w.length<=1048576:=fun w hw=>by
  split at hw
  ·exact h2 w hw
  ·cases hw
 unfold stp;split
 ·refine ⟨fun w hw=>?_,t0,h3⟩;rcases xB.1 hw with hw| hw
  ·exact w0 w hw
  ·exact zGX _ _ w hw
 ·split
  ·refine ⟨fun w hw=>?_,t0,h3⟩;rcases xB.1 hw with hw| hw
   ·exact w0 w hw
   ·rw [xT.1 hw];exact zGr _ _
  ·split
   ·rename_i hk;refine ⟨w0,t0,fun x hx=>?_⟩;rcases xB.1 hx with hx| hx
    ·exact h3 x hx
    ·rw [xT.1 hx];exact hg hk.1
   ·split
    ·exact ⟨w0,t0,h3⟩
    ·refine ⟨w0,fun x hx=>?_,h3⟩;rcases xB.1 hx with hx| hx
     ·exact t0 x hx
     ·rw [xT.1 hx];exact ht
theorem zCc {g:Int->List UInt8->Msg} {f:Fld} {i:Int}:∀{l:List Th} {a:zez},zyJ a->(∀t∈l,t.val.length<=1048576)->(f.Kind=17->∀t∈l,bdM (g f.Of t.val)/\smM (g f.Of t.val))->zyJ (accF g f i a l)
 | [],a,ha,_,_=>ha
 | t::l,a,ha,ht,hg=>by
  rw [accF];refine zCc ?_ (fun x hx=>ht x (xx _ hx)) fun wa x hx=>hg wa x (xx _ hx)
  split
  ·exact zJR ha (ht t xw) fun wa=>hg wa t xw
  ·exact ha
theorem zJE {s:List Mes} (hs:zfa s):∀(N:Nat) (b:List UInt8) (k:Nat),b.length=N->N<=1048576->k<s.length->bdM (ofM s k b)/\smM (ofM s k b):=by
 intro N
 induction N using Nat.strongRecOn with
 | _ N IH=>
  intro b k hN hb hk;have hmm:zx s (k:Int)∈s:=by rw [zeI hk];exact xF hk
  have hwt:=zvi (zx s (k:Int)) b;have hraw:∀t∈ths (zx s (k:Int)) b,t.raw.length<=b.length:=fun t ht=>by
   unfold ths at ht;obtain ⟨r,_,rfl⟩:=xD.1 ht;show (rawB b r.R).length<=_;unfold rawB;simp;omega
  have hfew:=hs.few _ hmm;rw [zuE]
  generalize ths (zx s (k:Int)) b=l at hwt hraw
  generalize zx s (k:Int)=m at hmm hfew|-
  have hsub:∀f∈m.Fields,f.Kind=17->∀v:List UInt8,v.length+1<=b.length->bdM (ofM s f.Of v)/\smM (ofM s f.Of v):=fun f hf wa v hvl=>by
   have hof:=(hs.fld _ hmm f hf).sub wa;obtain ⟨q,hq⟩:∃q:Nat,f.Of=q:=⟨f.Of.toNat,by omega⟩;rw [hq];exact IH v.length (by omega) v q rfl (by omega) (by omega)
  have hval:∀i∈zfL (zgH m) m.Fields.length,bdV (valO (ofM s) (zE m i) (accF (ofM s) (zE m i) i acc0 l))/\smV (valO (ofM s) (zE m i) (accF (ofM s) (zE m i) i acc0 l)):=fun i hi=>by
   obtain ⟨i0,i1⟩:=zfk.1 hi;obtain ⟨n,hn⟩:∃n:Nat,i=n:=⟨i.toNat,by omega⟩;have hnl:n<m.Fields.length:=by omega
   have hfm:zE m i∈m.Fields:=by rw [hn,zcQ hnl];exact xF _
   have hfo:=hs.fld _ hmm _ hfm;have hacc:=zCc (g:=ofM s) (f:=zE m i) (i:=i) (l:=l) zHb (fun t ht=>by have:=zvD ht;omega) (fun wa t ht=>hsub _ hfm wa _ (by have:=zvD ht;omega));have hw:=zxA (ofM s) (zE m i) i acc0 l;have w0:wA acc0=0:=rfl;have j0:wJ acc0=0:=rfl;rw [w0,j0] at hw
   generalize zE m i=f at hfm hfo hacc hw|-
   generalize accF (ofM s) f i acc0 l=q at hacc hw|-
   obtain ⟨a1,a2,a3⟩:=hacc;have hsubs:(valO (ofM s) f q).Subs.length<=1048576/\∀x∈(valO (ofM s) f q).Subs,bdM x/\smM x:=by
    unfold valO;simp only;split
    ·rename_i hc;refine ⟨by simp,fun x hx=>?_⟩;rw [xT.1 hx];have h2:=hw.2;rw [wJ,xu hc.1] at h2;exact hsub f hfm hc.2.1 _ (by omega)
    ·exact ⟨by have:=hw.1;unfold wA at this;omega,a3⟩
   have h1:=hw.1;unfold wA at h1;have e1:(valO (ofM s) f q).Words=q.2.2.1:=rfl;have e2:(valO (ofM s) f q).Texts=q.2.2.2.1:=rfl;have e3:(valO (ofM s) f q).Number=f.Number:=rfl
   refine ⟨(zfT _).2 ⟨by rw [e3];exact zFr (by have:=hfo.lo;have:=hfo.hi;omega),⟨by rw [e1];omega,by rw [e1];exact a1⟩,⟨by rw [e2];omega,fun x hx=>by rw [e2] at hx;have:=a2 x hx;omega⟩,by have:=hsubs.1;omega,zdO.2 fun x hx=>(hsubs.2 x hx).1⟩,
    (zpK _).2 ⟨by rw [e1];omega,⟨by rw [e2];omega,by rw [e2];exact a2⟩,hsubs.1,zhL.2 fun x hx=>(hsubs.2 x hx).2⟩⟩
  have hvl:(zgv (ofM s) m l).Values.length<=200:=by
   unfold zgv zsH;simp only;refine yn (q8 _ _) ?_;rw [yE,zxh];exact hfew
  have hul:(zgv (ofM s) m l).Unknown.length<=1048576:=by
   unfold zgv unkO;simp only;rw [yE];refine yn (q8 _ _) ?_;have:=zse l;omega
  have hum:∀t∈(zgv (ofM s) m l).Unknown,t.length<=1048576:=fun u hu=>by
   unfold zgv unkO at hu;obtain ⟨t,ht,rfl⟩:=xD.1 hu;have:=hraw t (yc.1 ht).1;omega
  have hvm:∀v∈(zgv (ofM s) m l).Values,bdV v/\smV v:=fun v hv=>by
   unfold zgv zsH at hv;obtain ⟨hx1,_⟩:=yc.1 hv;obtain ⟨i,hi,rfl⟩:=xD.1 hx1;exact hval i hi
  refine ⟨(zgP _).2 ⟨by omega,⟨by omega,fun t ht=>by have:=hum t ht;omega⟩,zdi.2 fun v hv=>(hvm v hv).1⟩,(zpJ _).2 ⟨by omega,⟨hul,hum⟩,zhM.2 fun v hv=>(hvm v hv).2⟩⟩
def zdV (l:List Vlu):Prop:=l.Pairwise fun a b=>a.Number<b.Number
def look (l:List Vlu) (n:Int):Option Vlu:=l.find? fun v=>v.Number==n
theorem zcd (v:Vlu) (l:List Vlu) (n:Int):look (v::l) n=if v.Number=n then some v else look l n:=by
 unfold look;rw [List.find?_cons];by_cases h:v.Number=n
 ·rw [xu h];simp [h]
 ·rw [xt h];have:(v.Number==n)=false:=by simpa using h
  rw [this]
theorem zfg (h:look l n=some v):v.Number=n/\v∈l:=by
 unfold look at h;exact ⟨by simpa using List.find?_some h,List.mem_of_find?_eq_some h⟩
theorem zow (h:∀v∈l,n<v.Number):look l n=none:=by
 unfold look;rw [List.find?_eq_none];intro v hv;have:=h v hv;simp;omega
theorem zuu (hr:zdV l) (h:v∈l):look l v.Number=some v:=by
 induction l with
 | nil=>cases h
 | cons u l ih=>
  obtain ⟨h1,h2⟩:=yd.1 hr;rw [zcd];rcases xz.1 h with rfl| h
  ·rw [xu rfl]
  ·have:=h1 v h;rw [xt (by omega),ih h2 h]
theorem zzO:∀{l k:List Vlu},zdV l->zdV k->(∀n,look l n=look k n)->l=k
 | [],[],_,_,_=>rfl
 | [],u::k,_,_,h=>by
  have:=h u.Number;rw [zcd,xu rfl] at this;cases this
 | v::l,[],_,_,h=>by
  have:=h v.Number;rw [zcd,xu rfl] at this;cases this
 | v::l,u::k,hl,hk,h=>by
  obtain ⟨l1,l2⟩:=yd.1 hl;obtain ⟨k1,k2⟩:=yd.1 hk;have e:v=u:=by
   have hv:=h v.Number;have hu:=h u.Number;rw [zcd,xu rfl] at hv;rw [zcd (n:=u.Number) (v:=u),xu rfl] at hu;rcases Int.lt_trichotomy v.Number u.Number with v8| heq| v8
   ·rw [zow (l:=u::k) (fun x hx=>by
     rcases xz.1 hx with rfl| hx
     ·exact v8
     ·have:=k1 x hx;omega)] at hv
    cases hv
   ·rw [zcd,xu heq.symm] at hv;exact yU hv
   ·rw [zow (l:=v::l) (fun x hx=>by
     rcases xz.1 hx with rfl| hx
     ·exact v8
     ·have:=l1 x hx;omega)] at hu
    cases hu
  subst e;rw [zzO l2 k2 fun n=>by
   by_cases hn:v.Number<n
   ·have:=h n;rw [zcd,zcd,xt (by omega),xt (by omega)] at this;exact this
   ·rw [zow fun x hx=>by have:=l1 x hx;omega,zow fun x hx=>by have:=k1 x hx;omega]]
def putL (v:Vlu):Bool->List Vlu->List Vlu
 | done,[]=>if done=true then [] else [v]
 | done,u::l=>(if done=false/\v.Number<=u.Number then [v] else [])++((if u.Number=v.Number then [] else [u])++putL v (done|| decide (v.Number<=u.Number)) l)
theorem zzX (v:Vlu):∀(d:Bool) (l:List Vlu),(putL v d l).length<=l.length+(if d=true then 0 else 1)
 | d,[]=>by rw [putL];cases d<;>simp
 | d,u::l=>by
  have:=zzX v (d|| decide (v.Number<=u.Number)) l;rw [putL];simp only [xC,xK];cases d
  ·by_cases h:v.Number<=u.Number
   ·rw [xu ⟨rfl,h⟩];simp only [h,decide_true,qT,yi] at this|-;split<;>simp<;>omega
   ·rw [xt (fun hh=>h hh.2)];simp only [h,decide_false,qK,qW,yN] at this|-;split<;>simp<;>omega
  ·rw [xt (by simp)];simp only [Bool.true_or,yi] at this|-;split<;>simp<;>omega
theorem zzY :∀{d:Bool} {l:List Vlu} {x:Vlu},x∈putL v d l->x=v/\d=false\/x∈l/\x.Number≠v.Number
 | d,[],x,h=>by
  rw [putL] at h;cases d
  ·rw [xt (by simp)] at h;exact .inl ⟨xT.1 h,rfl⟩
  ·rw [xu rfl] at h;cases h
 | d,u::l,x,h=>by
  rw [putL] at h;rcases xB.1 h with h| h
  ·split at h
   ·rename_i hc;exact .inl ⟨xT.1 h,hc.1⟩
   ·cases h
  ·rcases xB.1 h with h| h
   ·split at h
    ·cases h
    ·rename_i hc;rw [xT.1 h];exact .inr ⟨xw,hc⟩
   ·rcases zzY h with ⟨h1,h2⟩| ⟨h1,h2⟩
    ·refine .inl ⟨h1,?_⟩;cases d
     ·rfl
     ·simp at h2
    ·exact .inr ⟨xx _ h1,h2⟩
theorem znK :∀{d:Bool} {l:List Vlu},zdV l->zdV (putL v d l)
 | d,[],_=>by rw [putL];cases d<;>simp [zdV]
 | d,u::l,h=>by
  obtain ⟨h1,h2⟩:=yd.1 h;have ih:=znK (v:=v) (d:=d|| decide (v.Number<=u.Number)) h2;have hrest:∀x∈putL v (d|| decide (v.Number<=u.Number)) l,u.Number<x.Number:=fun x hx=>by
   rcases zzY hx with ⟨rfl,hd⟩| ⟨hx,_⟩
   ·simp at hd;omega
   ·exact h1 x hx
  rw [putL];have htail:zdV ((if u.Number=v.Number then [] else [u])++putL v (d|| decide (v.Number<=u.Number)) l):=by
   split
   ·exact ih
   ·exact yd.2 ⟨hrest,ih⟩
  split
  ·rename_i hc;rw [py];refine yd.2 ⟨fun x hx=>?_,htail⟩;rcases xB.1 hx with hx| hx
   ·split at hx
    ·cases hx
    ·rw [xT.1 hx];omega
   ·have:=hrest x hx;omega
  ·exact htail
theorem znz (l k:List Vlu) (n:Int):look (l++k) n=match look l n with| some v=>some v| none=>look k n:=by
 unfold look;rw [List.find?_append];cases l.find? (fun v=>v.Number==n)<;>rfl
theorem zuw :∀{d:Bool} {l:List Vlu},zdV l->∀n,look (putL v d l) n=if n=v.Number then (if d=true then none else some v) else look l n
 | d,[],_,n=>by
  rw [putL];cases d
  ·rw [xt (show ¬(false=true) by simp),xt (show ¬(false=true) by simp),zcd];by_cases h:n=v.Number
   ·rw [xu h,xu h.symm]
   ·rw [xt h,xt (fun hh=>h hh.symm)]
  ·rw [xu rfl,xu rfl];split<;>rfl
 | d,u::l,h,n=>by
  obtain ⟨h1,h2⟩:=yd.1 h;have ih:=zuw (v:=v) (d:=d|| decide (v.Number<=u.Number)) h2 n;rw [putL,znz,znz,ih,zcd u l n];by_cases hn:n=v.Number
  ·rw [xu hn,xu hn];have hu:look (if u.Number=v.Number then [] else [u]) n=none:=by
    split
    ·rfl
    ·rw [zcd,xt (by omega)];rfl
   rw [hu];cases d
   ·by_cases hle:v.Number<=u.Number
    ·rw [xu ⟨rfl,hle⟩,zcd,xu hn.symm];simp
    ·rw [xt (fun hh=>hle hh.2)];simp [look,hle]
   ·rw [xt (by simp)];simp [look]
  ·rw [xt hn,xt hn];have hv:look (if d=false/\v.Number<=u.Number then [v] else []) n=none:=by
    split
    ·rw [zcd,xt (fun hh=>hn hh.symm)];rfl
    ·rfl
   rw [hv];by_cases hu:u.Number=v.Number
   ·rw [xu hu,xt (by omega)];rfl
   ·rw [xt hu,zcd];by_cases hun:u.Number=n
    ·rw [xu hun,xu hun]
    ·rw [xt hun,xt hun];rfl
def putM (x:Msg) (v:Vlu):Msg:=⟨putL v (decide (zci v=0)) x.Values,x.Unknown⟩
theorem zkY :∀{l:List Vlu} {p:Option Int},zeK s l m p=true->∀v∈l,0<=fldI m v.Number/\zhU s v (zE m (fldI m v.Number))=true/\p.all (fun n=>decide (n<v.Number))=true
 | [],p,_,v,hv=>by cases hv
 | u::l,p,h,v,hv=>by
  rw [zeK] at h;simp only [xy,xY] at h;obtain ⟨⟨⟨h1,h2⟩,h3⟩,h4⟩:=h;rcases xz.1 hv with rfl| hv
  ·exact ⟨h1,h3,h2⟩
  ·obtain ⟨g1,g2,g3⟩:=zkY h4 v hv;refine ⟨g1,g2,?_⟩;cases p with
   | none=>rfl
   | some n=>
    simp at h2 g3|-;omega
theorem znO :∀{l:List Vlu} {p:Option Int},zeK s l m p=true->zdV l
 | [],p,_=> .nil
 | u::l,p,h=>by
  rw [zeK] at h;simp only [xy,xY] at h;refine yd.2 ⟨fun v hv=>?_,znO h.2⟩;have:=(zkY h.2 v hv).2.2;simpa using this
theorem zuV :∀{l:List Vlu} {p:Option Int},zdV l->(∀v∈l,0<=fldI m v.Number/\zhU s v (zE m (fldI m v.Number))=true/\p.all (fun n=>decide (n<v.Number))=true)->zeK s l m p=true
 | [],p,_,_=>by rw [zeK]
 | u::l,p,hr,h=>by
  obtain ⟨h1,h2⟩:=yd.1 hr;obtain ⟨a1,a2,a3⟩:=h u xw;rw [zeK,zuV h2 fun v hv=>⟨(h v (xx _ hv)).1,(h v (xx _ hv)).2.1,by simpa using h1 v hv⟩,a2,a3,xN a1];rfl
theorem zcm (h:zaN s x k=true):0<=k/\k<s.length/\zdV x.Values/\(∀v∈x.Values,0<=fldI (zx s k) v.Number/\zhU s v (zE (zx s k) (fldI (zx s k) v.Number))=true)/\∀u∈x.Unknown,unkR (zx s k) u=true:=by
 rw [zjU] at h;simp only [xy,xY] at h;exact ⟨h.1.1.1,h.1.1.2,znO h.1.2,fun v hv=>⟨(zkY h.1.2 v hv).1,(zkY h.1.2 v hv).2.1⟩,xG.1 h.2⟩
theorem zxe (h1:0<=k) (h2:k<s.length) (h3:zdV x.Values) (h4:∀v∈x.Values,0<=fldI (zx s k) v.Number/\zhU s v (zE (zx s k) (fldI (zx s k) v.Number))=true) (h5:∀u∈x.Unknown,unkR (zx s k) u=true):zaN s x k=true:=by
 rw [zjU,xN ⟨h1,h2⟩,zuV h3 fun v hv=>⟨(h4 v hv).1,(h4 v hv).2,rfl⟩,xG.2 h5];rfl
structure zgY (s:List Mes) (v:Vlu) (f:Fld):Prop where
 many:0<zci v
 one:f.Repeated=false->zci v=1
 kind:zbL f.Kind=true
 words:∀w∈v.Words,zia f w=true
 texts:∀t∈v.Texts,zkD f t=true
 subs:∀x∈v.Subs,f.Kind=17/\zaN s x f.Of=true
theorem zef (h:zhU s v f=true):zgY s v f:=by
 rw [zqe,zkw] at h;unfold zpd at h;simp only [xy,qv,xY,xG,qL] at h;obtain ⟨⟨⟨⟨⟨h1,h2⟩,h3⟩,h4⟩,h5⟩,h6⟩:=h;refine ⟨h1,fun hr=>?_,h3,h4,h5,fun x hx=>?_⟩
 ·rw [hr] at h2;simp at h2;omega
 ·exact h6 x hx
theorem zCq (h:zgY s v f):zhU s v f=true:=by
 obtain ⟨h1,h2,h3,h4,h5,h6⟩:=h;rw [zqe,zkw];unfold zpd;simp only [xy,qv,xY,xG,qL];refine ⟨⟨⟨⟨⟨h1,?_⟩,h3⟩,h4⟩,h5⟩,fun x hx=>h6 x hx⟩;cases hr:f.Repeated with
 | true=>exact .inr rfl
 | false=>exact .inl (by have:=h2 hr;omega)
theorem zgY.noWords (h:zgY s v f) (hk:kNum f.Kind=false):v.Words=[]:=by
 cases hw:v.Words with
 | nil=>rfl
 | cons w l=>
  have:=h.words w (by rw [hw];exact xw);unfold zia at this;rw [hk] at this;simp at this
theorem zgY.noTexts (h:zgY s v f) (hk:f.Kind≠15/\f.Kind≠16):v.Texts=[]:=by
 cases hw:v.Texts with
 | nil=>rfl
 | cons w l=>
  have:=h.texts w (by rw [hw];exact xw);unfold zkD at this;simp at this;omega
theorem zgY.noSubs {s:List Mes} {v:Vlu} {f:Fld} (h:zgY s v f) (hk:f.Kind≠17):v.Subs=[]:=by
 cases hw:v.Subs with
 | nil=>rfl
 | cons w l=>exact absurd (h.subs w (by rw [hw];exact xw)).1 hk
theorem zgY.msg (h:zgY s v f) (hk:f.Kind=17) (hr:f.Repeated=false):∃x,v=⟨v.Number,[],[],[x]⟩/\zaN s x f.Of=true:=by
 have h1:=h.noWords (by rw [hk];rfl);have h2:=h.noTexts (by omega);have h3:=h.one hr;have h4:=h.subs;obtain ⟨n,w,t,sub⟩:=v;simp only at h1 h2 h4;subst h1 h2;unfold zci at h3;simp at h3;obtain ⟨x,rfl⟩:∃x,sub=[x]:=by
  cases sub with
  | nil=>simp at h3
  | cons x l=>cases l with
   | nil=>exact ⟨x,rfl⟩
   | cons _ _=>simp at h3
 exact ⟨x,rfl,(h4 x xw).2⟩
mutual
/-- b zfU a. -/
def zmH (s:List Mes):Msg->Msg->Int->Msg
 | ⟨vs,u⟩,a,k=>⟨zil s vs a (zx s k) a.Values,a.Unknown++u⟩
def zil (s:List Mes):List Vlu->Msg->Mes->List Vlu->List Vlu
 | [],_,_,acc=>acc
 | v::l,a,m,acc=>zil s l a m (putM ⟨acc,[]⟩ (zhA s v (look a.Values v.Number) (zE m (fldI m v.Number)))).Values
def zhA (s:List Mes):Vlu->Option Vlu->Fld->Vlu
 | ⟨n,w,t,sub⟩,none,f=>⟨n,w,t,sub⟩
 | ⟨n,w,t,sub⟩,some u,f=>if f.Repeated=true then ⟨n,u.Words++w,u.Texts++t,u.Subs++sub⟩ else if f.Kind=17 then ⟨n,[],[],zll s sub u.Subs f.Of⟩ else ⟨n,w,t,sub⟩
def zll (s:List Mes):List Msg->List Msg->Int->List Msg
 | [],_,_=>[]
 | x::_,ys,k=>match ys with
  | []=>[]
  | y::_=>[zmH s x y k]
end
theorem znr (s:List Mes) (b a:Msg) (k:Int):zmH s b a k=⟨zil s b.Values a (zx s k) a.Values,a.Unknown++b.Unknown⟩:=by cases b;rw [zmH]
theorem zns (s:List Mes) (v:Vlu) (o:Option Vlu) (f:Fld):zhA s v o f=match o with
  | none=>v
  | some u=>if f.Repeated=true then ⟨v.Number,u.Words++v.Words,u.Texts++v.Texts,u.Subs++v.Subs⟩ else if f.Kind=17 then ⟨v.Number,[],[],zll s v.Subs u.Subs f.Of⟩ else v:=by
 cases v;cases o<;>rw [zhA]
theorem zwG (s:List Mes) (v:Vlu) (o:Option Vlu) (f:Fld):(zhA s v o f).Number=v.Number:=by
 rw [zns];cases o with
 | none=>rfl
 | some u=>simp only;split;rfl;split<;>rfl
theorem zGg (acc:List Vlu) (u:List Str) (v:Vlu):(putM ⟨acc,u⟩ v).Values.length<=acc.length+1:=by
 have:=zzX v (decide (zci v=0)) acc;unfold putM;simp only;split at this<;>omega
theorem zss :∀{l acc:List Vlu},zdV acc->zdV l->(∀v∈l,0<zci (zhA s v (look a.Values v.Number) (zE m (fldI m v.Number))))->
  zdV (zil s l a m acc)/\∀n,look (zil s l a m acc) n=match look l n with
   | some v=>some (zhA s v (look a.Values n) (zE m (fldI m n)))
   | none=>look acc n
 | [],acc,h1,_,_=>by rw [zil];exact ⟨h1,fun n=>rfl⟩
 | v::l,acc,h1,h2,h3=>by
  obtain ⟨l1,l2⟩:=yd.1 h2;have hv:=h3 v xw;have hnum:=zwG s v (look a.Values v.Number) (zE m (fldI m v.Number));rw [zil];have hacc:zdV (putM ⟨acc,[]⟩ (zhA s v (look a.Values v.Number) (zE m (fldI m v.Number)))).Values:=znK h1;obtain ⟨r1,r2⟩:=zss (s:=s) (a:=a) (m:=m) hacc l2 fun u hu=>h3 u (xx _ hu)
  refine ⟨r1,fun n=>?_⟩;rw [r2 n,zcd];have hlk:look (putM ⟨acc,[]⟩ (zhA s v (look a.Values v.Number) (zE m (fldI m v.Number)))).Values n=if n=v.Number then some (zhA s v (look a.Values v.Number) (zE m (fldI m v.Number))) else look acc n:=by
   unfold putM;simp only;rw [zuw h1 n,hnum];by_cases hn:n=v.Number
   ·rw [xu hn,xu hn,xt fun hh=>by have:=yr hh;omega]
   ·rw [xt hn,xt hn]
  by_cases hn:v.Number=n
  ·rw [xu hn,zow fun u hu=>by have:=l1 u hu;omega,hlk,xu hn.symm];simp only [hn]
  ·rw [xt hn,hlk,xt fun hh=>hn hh.symm]
theorem zum (hv:zgY s v f) (ho:∀u,o=some u->zgY s u f):0<zci (zhA s v o f):=by
 rw [zns];cases o with
 | none=>exact hv.many
 | some u=>
  have:=hv.many;simp only;by_cases hr:f.Repeated=true
  ·rw [xu hr];unfold zci at this|-;simp only [xC];omega
  ·rw [xt hr];by_cases wa:f.Kind=17
   ·rw [xu wa];obtain ⟨x,hvx,_⟩:=hv.msg wa (by simpa using hr);obtain ⟨y,huy,_⟩:=(ho u rfl).msg wa (by simpa using hr);rw [hvx,huy,zll];simp [zci]
   ·rw [xt wa];exact this
theorem zwN (ha:zaN s a k=true) (hb:zaN s b k=true):zdV (zmH s b a k).Values/\∀n,look (zmH s b a k).Values n=match look b.Values n with
   | some v=>some (zhA s v (look a.Values n) (zE (zx s k) (fldI (zx s k) n)))
   | none=>look a.Values n:=by
 obtain ⟨_,_,ra,ha',_⟩:=zcm ha;obtain ⟨_,_,rb,hb',_⟩:=zcm hb;rw [znr];exact zss ra rb fun v hv=>zum (zef (hb' v hv).2) fun u hu=>by
  obtain ⟨e,hm⟩:=zfg hu;have:=zef (ha' u hm).2;rw [e] at this;exact this
def zvq (g:Int->List UInt8->Msg) (m:Mes) (l:List Th) (i:Int):Vlu:=valO g (zE m i) (accF g (zE m i) i acc0 l)
theorem zDY {s:List Mes} (hs:zfa s) {m:Mes} (hm:m∈s) {g:Int->List UInt8->Msg} {l:List Th} (hr:zdV (zgv g m l).Values) (n:Int):
  look (zgv g m l).Values n=if 0<=fldI m n/\0<zci (zvq g m l (fldI m n)) then some (zvq g m l (fldI m n)) else none:=by
 have hmem:∀v,v∈(zgv g m l).Values↔∃i:Int,(0<=i/\i<m.Fields.length)/\zvq g m l i=v/\0<zci v:=fun v=>by
  unfold zgv zsH;simp only [yc,xD,zfk,xY];constructor
  ·rintro ⟨⟨i,hi,rfl⟩,h2⟩;exact ⟨i,hi,rfl,h2⟩
  ·rintro ⟨i,hi,rfl,h2⟩;exact ⟨⟨i,hi,rfl⟩,h2⟩
 have hnum:∀i,(zvq g m l i).Number=(zE m i).Number:=fun i=>rfl
 by_cases hc:0<=fldI m n/\0<zci (zvq g m l (fldI m n))
 ·rw [xu hc];rcases zdM m n with ⟨hf,_⟩| ⟨j,hj,hf,hjn,_⟩
  ·omega
  ·have h:=zuu hr ((hmem (zvq g m l (fldI m n))).2 ⟨fldI m n,by omega,rfl,hc.2⟩);rw [hnum,hf,zcQ hj,hjn] at h;rw [hf];exact h
 ·rw [xt hc];cases hlk:look (zgv g m l).Values n with
  | none=>rfl
  | some v=>
   exfalso;obtain ⟨hn,hv⟩:=zfg hlk;obtain ⟨i,hi,rfl,hp⟩:=(hmem v).1 hv;rw [hnum] at hn;have:=zqg hs hm hi.1 hi.2;rw [hn] at this;rw [this] at hc;exact hc ⟨hi.1,hp⟩
def zgI (s:List Mes) (root:Int) (l:List Msg):Int:=if zgO s root≠0 then zgO s root else if l.all (fun x=>zaN s x root)=true then 0 else 12
mutual
/-- Kept or left by ways. -/
def zqA (s:List Mes):Msg->Int->List zaD->Bool->Msg
 | ⟨vs,u⟩,k,w,keep=>⟨zhF s vs (zx s k) w keep,if keep=true then [] else u⟩
def zhF (s:List Mes):List Vlu->Mes->List zaD->Bool->List Vlu
 | [],_,_,_=>[]
 | v::l,m,w,keep=>zuN s v (zE m (fldI m v.Number)) w keep++zhF s l m w keep
def zuN (s:List Mes):Vlu->Fld->List zaD->Bool->List Vlu
 | ⟨n,a,t,sub⟩,f,w,keep=>if zmE w n=false/\zls w n≠[]/\f.Kind=17/\f.Repeated=false then [⟨n,[],[],znG s sub f.Of (zls w n) keep⟩]
  else if zmE w n=keep then [⟨n,a,t,sub⟩] else []
def znG (s:List Mes):List Msg->Int->List zaD->Bool->List Msg
 | [],_,_,_=>[]
 | x::_,k,w,keep=>[zqA s x k w keep]
end
theorem zuL (s:List Mes) (x:Msg) (k:Int) (w:List zaD) (keep:Bool):zqA s x k w keep=⟨zhF s x.Values (zx s k) w keep,if keep=true then [] else x.Unknown⟩:=by cases x;rw [zqA]
theorem zqB (s:List Mes) (v:Vlu) (f:Fld) (w:List zaD) (keep:Bool):zuN s v f w keep=if zmE w v.Number=false/\zls w v.Number≠[]/\f.Kind=17/\f.Repeated=false then [⟨v.Number,[],[],znG s v.Subs f.Of (zls w v.Number) keep⟩]
  else if zmE w v.Number=keep then [v] else []:=by cases v;rw [zuN]
theorem zEb (s:List Mes) (v:Vlu) (f:Fld) (w:List zaD) (keep:Bool):(zuN s v f w keep).length<=1:=by
 rw [zqB];split;simp;split<;>simp
theorem zBm (hv:zgY s v f) (ho:∀u,o=some u->zgY s u f)
  (ih:∀x∈v.Subs,∀y:Msg,zaN s x f.Of=true->zaN s y f.Of=true->zaN s (zmH s x y f.Of) f.Of=true):zgY s (zhA s v o f) f:=by
 have hm:=zum hv ho;rw [zns] at hm|-;cases o with
 | none=>exact hv
 | some u=>
  have hu:=ho u rfl;simp only at hm|-;by_cases hr:f.Repeated=true
  ·rw [xu hr] at hm|-;refine ⟨hm,(fun h=>by rw [hr] at h;cases h),hv.kind,fun w hw=>?_,fun w hw=>?_,fun w hw=>?_⟩
   ·rcases xB.1 hw with hw| hw
    ·exact hu.words w hw
    ·exact hv.words w hw
   ·rcases xB.1 hw with hw| hw
    ·exact hu.texts w hw
    ·exact hv.texts w hw
   ·rcases xB.1 hw with hw| hw
    ·exact hu.subs w hw
    ·exact hv.subs w hw
  ·rw [xt hr] at hm|-;by_cases wa:f.Kind=17
   ·rw [xu wa] at hm|-;obtain ⟨x,hvx,hx⟩:=hv.msg wa (by simpa using hr);obtain ⟨y,huy,hy⟩:=hu.msg wa (by simpa using hr);have hvs:v.Subs=[x]:=by rw [hvx]
    have hus:u.Subs=[y]:=by rw [huy]
    rw [hvs,hus,zll];refine ⟨by simp [zci],(fun _=>by simp [zci]),hv.kind,(fun w hw=>nomatch hw),(fun w hw=>nomatch hw),fun w hw=>?_⟩;rw [xT.1 hw];exact ⟨wa,ih x (by rw [hvs];exact xw) y hx hy⟩
   ·rw [xt wa] at hm|-;exact hv
theorem zso :∀(N:Nat) (b a:Msg) (k:Int),szM b<=N->zaN s a k=true->zaN s b k=true->zaN s (zmH s b a k) k=true
 | 0,b,a,k,h,_,_=>by rw [zcg] at h;omega
 | N+1,b,a,k,wh,ha,hb=>by
  obtain ⟨k0,k1,ra,ha',ua⟩:=zcm ha;obtain ⟨_,_,rb,hb',ub⟩:=zcm hb;obtain ⟨j1,j2⟩:=zwN ha hb;rw [zcg] at wh;refine zxe k0 k1 j1 (fun v hv=>?_) fun u hu=>?_
  ·have hl:=zuu j1 hv;rw [j2] at hl;cases hbl:look b.Values v.Number with
   | none=>
    rw [hbl] at hl;simp only at hl;exact ha' v (zfg hl).2
   | some w=>
    rw [hbl] at hl;simp only at hl;obtain ⟨wn,wm⟩:=zfg hbl;obtain ⟨w0,wf⟩:=hb' w wm;rw [wn] at w0 wf;have hfw:=zef wf;have s1:=zdB wm;rw [zdX] at s1;refine ⟨w0,zCq ?_⟩;have hvj:zhA s w (look a.Values v.Number) (zE (zx s k) (fldI (zx s k) v.Number))=v:=yU hl;have:=zBm (o:=look a.Values v.Number) hfw (fun u hu=>by
     obtain ⟨un,um⟩:=zfg hu;have:=zef (ha' u um).2;rw [un] at this;exact this) fun x hx y hxr hyr=>by
      have:=zdA hx;exact zso N x y _ (by omega) hyr hxr
    rw [hvj] at this;exact this
  ·rw [znr] at hu;rcases xB.1 hu with hu| hu
   ·exact ua u hu
   ·exact ub u hu
theorem zxf (hg:∀v u,g v=some u->u.Number=v.Number):∀{l:List Vlu},zdV l->zdV (l.filterMap g)
 | [],_=> .nil
 | v::l,h=>by
  obtain ⟨h1,h2⟩:=yd.1 h;have ih:=zxf hg h2;cases e:g v with
  | none=>rw [List.filterMap_cons_none e];exact ih
  | some u=>
   rw [List.filterMap_cons_some e];refine yd.2 ⟨fun w hw=>?_,ih⟩;obtain ⟨w',hw',e'⟩:=List.mem_filterMap.1 hw;rw [hg _ _ e,hg _ _ e'];exact h1 w' hw'
def goB (m:Mes) (w:List zaD) (v:Vlu):Bool:= !zmE w v.Number&&decide (zls w v.Number≠[])&&decide ((zE m (fldI m v.Number)).Kind=17)&& !(zE m (fldI m v.Number)).Repeated
theorem zxY :goB m w v=true↔zmE w v.Number=false/\zls w v.Number≠[]/\(zE m (fldI m v.Number)).Kind=17/\(zE m (fldI m v.Number)).Repeated=false:=by
 unfold goB;simp only [xy,x9,xY,and_assoc]
def inV (s:List Mes) (m:Mes) (w:List zaD) (keep:Bool) (v:Vlu):Vlu:=⟨v.Number,[],[],znG s v.Subs (zE m (fldI m v.Number)).Of (zls w v.Number) keep⟩
def zuM (s:List Mes) (m:Mes) (w:List zaD) (keep:Bool) (v:Vlu):Option Vlu:=if goB m w v=true then some (inV s m w keep v) else if zmE w v.Number=keep then some v else none
theorem zwU (v u:Vlu) (h:zuM s m w keep v=some u):u.Number=v.Number:=by
 unfold zuM at h;split at h
 ·cases h;rfl
 ·split at h
  ·cases h;rfl
  ·cases h
theorem zwV (s:List Mes) (m:Mes) (w:List zaD) (keep:Bool):∀l:List Vlu,zhF s l m w keep=l.filterMap (zuM s m w keep)
 | []=>by rw [zhF];rfl
 | v::l=>by
  rw [zhF,zwV s m w keep l,zqB];by_cases hg:goB m w v=true
  ·rw [xu (zxY.1 hg),List.filterMap_cons_some (b:=inV s m w keep v) (by unfold zuM;rw [xu hg])];rfl
  ·rw [xt (fun h=>hg (zxY.2 h))];by_cases hk:zmE w v.Number=keep
   ·rw [xu hk,List.filterMap_cons_some (b:=v) (by unfold zuM;rw [xt hg,xu hk])];rfl
   ·rw [xt hk,List.filterMap_cons_none (by unfold zuM;rw [xt hg,xt hk])];rfl
theorem zHq (hg:goB m w v=true) (hf:zgY s v (zE m (fldI m v.Number))):∃y,v=⟨v.Number,[],[],[y]⟩/\zaN s y (zE m (fldI m v.Number)).Of=true/\∀keep,inV s m w keep v=⟨v.Number,[],[],[zqA s y (zE m (fldI m v.Number)).Of (zls w v.Number) keep]⟩:=by
 obtain ⟨_,_,h3,h4⟩:=zxY.1 hg;obtain ⟨y,e,hy⟩:=hf.msg h3 h4;have hs:v.Subs=[y]:=by rw [e]
 refine ⟨y,e,hy,fun keep=>?_⟩;unfold inV;rw [hs,znG]
theorem zFm (hf:zgY s ⟨n,[],[],[y]⟩ f) (hz:zaN s z f.Of=true):zgY s ⟨k,[],[],[z]⟩ f:=
 ⟨by simp [zci],(fun _=>by simp [zci]),hf.kind,(fun w hw=>nomatch hw),(fun w hw=>nomatch hw),fun w hw=>by rw [xT.1 hw];exact ⟨(hf.subs y xw).1,hz⟩⟩
theorem zJX (hv:v∈x.Values) (e:v=⟨v.Number,[],[],[y]⟩):szM y<szM x:=by
 have s1:=zdB hv;rw [zdX] at s1;have hs:v.Subs=[y]:=by rw [e]
 have s2:szM y<=szMs v.Subs:=zdA (by rw [hs];exact xw);rw [zcg x];omega
theorem zsy :∀(N:Nat) (x:Msg) (k:Int) (w:List zaD) (keep:Bool),szM x<=N->zaN s x k=true->zaN s (zqA s x k w keep) k=true
 | 0,x,k,w,keep,h,_=>by rw [zcg] at h;omega
 | N+1,x,k,w,keep,wh,hx=>by
  obtain ⟨k0,k1,rx,hx',ux⟩:=zcm hx;rw [zuL,zwV];refine zxe k0 k1 (zxf zwU rx) (fun v hv=>?_) fun u hu=>?_
  ·obtain ⟨v0,hv0,e⟩:=List.mem_filterMap.1 hv;obtain ⟨w0,wf⟩:=hx' v0 hv0;have hn:=zwU _ _ e;unfold zuM at e;by_cases hg:goB (zx s k) w v0=true
   ·rw [xu hg] at e;have hf:=zef wf;obtain ⟨y,e1,hy,hin⟩:=zHq hg hf;rw [hin] at e;have hsy:=zJX hv0 e1;rw [hn];refine ⟨w0,zCq ?_⟩;rw [<-yU e];rw [e1] at hf;exact zFm hf (zsy N y _ _ _ (by omega) hy)
   ·rw [xt hg] at e;by_cases hk:zmE w v0.Number=keep
    ·rw [xu hk] at e;rw [<-yU e];exact ⟨w0,wf⟩
    ·rw [xt hk] at e;cases e
  ·cases keep with
   | true=>exact absurd hu (by simp)
   | false=>exact ux u hu
theorem zun (s:List Mes) (a:Msg) (m:Mes):∀(l acc:List Vlu),(zil s l a m acc).length<=acc.length+l.length
 | [],acc=>by rw [zil];simp
 | v::l,acc=>by
  rw [zil];have h1:=zun s a m l (putM ⟨acc,[]⟩ (zhA s v (look a.Values v.Number) (zE m (fldI m v.Number)))).Values;have h2:=zGg acc [] (zhA s v (look a.Values v.Number) (zE m (fldI m v.Number)));simp only [xK];omega
theorem zCy :∀(N:Nat) (b a:Msg) (k:Int),szM b<=N->zaN s a k=true->zaN s b k=true->bdM a->bdM b->smM a->smM b->bdM (zmH s b a k)
 | 0,b,a,k,h,_,_,_,_,_,_=>by rw [zcg] at h;omega
 | N+1,b,a,k,wh,ha,hb,ba,bb,sa,sb'=>by
  obtain ⟨_,_,ra,ha',_⟩:=zcm ha;obtain ⟨_,_,rb,hb',_⟩:=zcm hb;obtain ⟨j1,j2⟩:=zwN ha hb;obtain ⟨a1,⟨a2,a3⟩,a4⟩:=(zgP a).1 ba;obtain ⟨b1,⟨b2,b3⟩,b4⟩:=(zgP b).1 bb;obtain ⟨sa1,⟨sa2,sa3⟩,sa4⟩:=(zpJ a).1 sa;obtain ⟨sb1,⟨sb2,sb3⟩,sb4⟩:=(zpJ b).1 sb';rw [zcg] at wh;have wb:(zmH s b a k).Values.length<=a.Values.length+b.Values.length:=by rw [znr];exact zun s a _ _ _
  have hun:(zmH s b a k).Unknown=a.Unknown++b.Unknown:=by rw [znr]
  refine (zgP _).2 ⟨by omega,⟨by rw [hun];simp;omega,fun t ht=>by
   rw [hun] at ht;rcases xB.1 ht with h| h
   ·exact a3 t h
   ·exact b3 t h⟩,zdi.2 fun x hx=>?_⟩
  have hl:=zuu j1 hx;rw [j2] at hl;cases hlb:look b.Values x.Number with
  | none=>rw [hlb] at hl;exact zdi.1 a4 x (zfg hl).2
  | some v=>
   rw [hlb] at hl;have e:x=zhA s v (look a.Values x.Number) (zE (zx s k) (fldI (zx s k) x.Number)):=(yU hl).symm;obtain ⟨hvn,hvm⟩:=zfg hlb;have bv:=zdi.1 b4 v hvm;have sv:=zhM.1 sb4 v hvm;rw [e,zns];cases hla:look a.Values x.Number with
   | none=>exact bv
   | some u=>
    obtain ⟨hun',hum⟩:=zfg hla;have bu:=zdi.1 a4 u hum;have su:=zhM.1 sa4 u hum;obtain ⟨v1,⟨v2,v3⟩,⟨v4,v5⟩,v6,v7⟩:=(zfT v).1 bv;obtain ⟨u1,⟨u2,u3⟩,⟨u4,u5⟩,u6,u7⟩:=(zfT u).1 bu;obtain ⟨q1,⟨q2,q3⟩,q4,q5⟩:=(zpK v).1 sv;obtain ⟨r1,⟨r2,r3⟩,r4,r5⟩:=(zpK u).1 su;simp only;split
    ·refine (zfT _).2 ⟨v1,⟨by simp;omega,fun w hw=>?_⟩,⟨by simp;omega,fun w hw=>?_⟩,by simp;omega,zdO.2 fun w hw=>?_⟩
     ·rcases xB.1 hw with h| h
      ·exact u3 w h
      ·exact v3 w h
     ·rcases xB.1 hw with h| h
      ·exact u5 w h
      ·exact v5 w h
     ·rcases xB.1 hw with h| h
      ·exact zdO.1 u7 w h
      ·exact zdO.1 v7 w h
    ·split
     ·rename_i hrep wa;have fv:=hb' v hvm;have fu:=ha' u hum;rw [hvn] at fv;rw [hun'] at fu;have ov:=zef fv.2;have ou:=zef fu.2;refine (zfT _).2 ⟨v1,⟨by simp,by simp⟩,⟨by simp,by simp⟩,?_⟩;cases hvs:v.Subs with
      | nil=>rw [zll];exact ⟨by simp,by rw [bdMs];trivial⟩
      | cons y ys=>
       cases hus:u.Subs with
       | nil=>rw [zll];exact ⟨by simp,by rw [bdMs];trivial⟩
       | cons z zs=>
        rw [zll];simp only;have hy:y∈v.Subs:=by rw [hvs];exact xw
        have hz:z∈u.Subs:=by rw [hus];exact xw
        have hsv:=zdB hvm;rw [zdX] at hsv;have hsy:=zdA hy;have hj:=zCy N y z _ (by omega) (ou.subs z hz).2 (ov.subs y hy).2 (zdO.1 u7 z hz) (zdO.1 v7 y hy) (zhL.1 r5 z hz) (zhL.1 q5 y hy);exact ⟨by simp,by rw [bdMs,bdMs];exact ⟨hj,trivial⟩⟩
     ·exact bv
theorem zsE:∀(l m:List Vlu),szVs (l++m)=szVs l+szVs m
 | [],m=>by rw [xM,szVs];omega
 | v::l,m=>by rw [yk,szVs,szVs,zsE l m];omega
theorem zDc :∀(N:Nat) (x:Msg) (k:Int) (w:List zaD) (keep:Bool),szM x<=N->bdM x->bdM (zqA s x k w keep)/\szM (zqA s x k w keep)<=szM x
 | 0,x,k,w,keep,h,_=>by rw [zcg] at h;omega
 | N+1,x,k,w,keep,wh,hb=>by
  obtain ⟨b1,⟨b2,b3⟩,b4⟩:=(zgP x).1 hb;rw [zcg] at wh;have key:∀v∈x.Values,∀f:Fld,(∀u∈zuN s v f w keep,bdV u)/\szVs (zuN s v f w keep)<=szV v:=fun v hv f=>by
   have bv:=zdi.1 b4 v hv;obtain ⟨v1,v2,v3,v6,v7⟩:=(zfT v).1 bv;have hsv:=zdB hv;have hve:=zdX v;rw [zqB];split
   ·cases hs:v.Subs with
    | nil=>
     rw [znG];refine ⟨fun u hu=>?_,?_⟩
     ·rw [xT.1 hu];exact (zfT _).2 ⟨v1,⟨by simp,by simp⟩,⟨by simp,by simp⟩,by simp,by rw [bdMs];trivial⟩
     ·rw [szVs,szVs,zdX];simp only;rw [szMs];omega
    | cons y ys=>
     have hy:y∈v.Subs:=by rw [hs];exact xw
     have hsy:=zdA hy;obtain ⟨p1,p2⟩:=zDc N y f.Of (zls w v.Number) keep (by omega) (zdO.1 v7 y hy);rw [znG];refine ⟨fun u hu=>?_,?_⟩
     ·rw [xT.1 hu];exact (zfT _).2 ⟨v1,⟨by simp,by simp⟩,⟨by simp,by simp⟩,by simp,by rw [bdMs,bdMs];exact ⟨p1,trivial⟩⟩
     ·rw [szVs,szVs,zdX];simp only;rw [szMs,szMs];omega
   ·split
    ·refine ⟨(fun u hu=>by rw [xT.1 hu];exact bv),?_⟩;rw [szVs,szVs];omega
    ·exact ⟨(fun u hu=>by cases hu),(by rw [szVs];omega)⟩
  have all:∀l:List Vlu,(∀v∈l,v∈x.Values)->(∀u∈zhF s l (zx s k) w keep,bdV u)/\szVs (zhF s l (zx s k) w keep)<=szVs l/\(zhF s l (zx s k) w keep).length<=l.length:=by
   intro l
   induction l with
   | nil=>intro _;rw [zhF];exact ⟨(fun u hu=>by cases hu),xA _,xA _⟩
   | cons v l ih=>
    intro h;obtain ⟨i1,i2,i3⟩:=ih fun u hu=>h u (xx _ hu)
    obtain ⟨k1,k2⟩:=key v (h v xw) (zE (zx s k) (fldI (zx s k) v.Number));have k3:=zEb s v (zE (zx s k) (fldI (zx s k) v.Number)) w keep;rw [zhF];refine ⟨fun u hu=>?_,?_,?_⟩
    ·rcases xB.1 hu with hu| hu
     ·exact k1 u hu
     ·exact i1 u hu
    ·rw [zsE,szVs];omega
    ·rw [xC,xK];omega
  obtain ⟨a1,a2,a3⟩:=all x.Values fun v hv=>hv
  rw [zuL];refine ⟨(zgP _).2 ⟨by simp only;omega,⟨?_,?_⟩,zdi.2 a1⟩,by rw [zcg,zcg];simp only;omega⟩
  ·simp only;cases keep<;>simp<;>omega
  ·simp only;cases keep with
   | true=>intro t ht;cases ht
   | false=>exact b3
theorem zxs:∀(N:Nat) (x:Msg),szM x<=N->szM x<=wgM x
 | 0,x,h=>by rw [zcg] at h;omega
 | N+1,x,h=>by
  rw [zcg] at h;have hv:∀v∈x.Values,szV v<=wgV v:=fun v hv=>by
   have h1:=zdB hv;have he:=zdX v;have:∀l:List Msg,(∀y∈l,y∈v.Subs)->szMs l<=wgMs l:=by
    intro l
    induction l with
    | nil=>intro _;rw [szMs];omega
    | cons y l ih=>
     intro hl;have hy:=hl y xw;have h2:=zdA hy;have:=zxs N y (by omega);have:=ih fun z hz=>hl z (xx _ hz)
     rw [szMs,wgMs];omega
   have:=this v.Subs fun y hy=>hy
   rw [he,zgW];omega
  have:∀l:List Vlu,(∀v∈l,v∈x.Values)->szVs l<=wgVs l:=by
   intro l
   induction l with
   | nil=>intro _;rw [szVs];omega
   | cons v l ih=>
    intro hl;have:=hv v (hl v xw);have:=ih fun z hz=>hl z (xx _ hz)
    rw [szVs,wgVs];omega
  have:=this x.Values fun v hv=>hv
  rw [zcg,zhR];omega
theorem zGT:∀(N:Nat) (x:Msg),szM x<=N->wgM x<=1048576->smM x
 | 0,x,h,_=>by rw [zcg] at h;omega
 | N+1,x,h,hw=>by
  rw [zcg] at h;rw [zhR] at hw;have hl:=zAH x.Values;have hu:=zyy (l:=x.Unknown);refine (zpJ _).2 ⟨by omega,⟨by omega,fun t ht=>by have:=zmB ht;omega⟩,zhM.2 fun v hv=>?_⟩;have h1:=zdB hv;have h2:=zog hv;rw [zdX] at h1;rw [zgW] at h2;have ht:=zyy (l:=v.Texts);have hs:=zAF v.Subs;refine (zpK _).2 ⟨by omega,⟨by omega,fun t ht=>by have:=zmB ht;omega⟩,by omega,zhL.2 fun y hy=>?_⟩;have h3:=zdA hy;have h4:=zji hy;exact zGT N y (by omega) (by omega)
theorem zrh:∀(l m:List Vlu),wgVs (l++m)=wgVs l+wgVs m
 | [],m=>by rw [xM,wgVs];omega
 | v::l,m=>by rw [yk,wgVs,wgVs,zrh l m];omega
theorem zAE:∀(l m:List Msg),wgMs (l++m)=wgMs l+wgMs m
 | [],m=>by rw [xM,wgMs];omega
 | v::l,m=>by rw [yk,wgMs,wgMs,zAE l m];omega
def wgO:Option Vlu->Nat
 | none=>0
 | some u=>wgV u
theorem zGi (v:Vlu):∀(d:Bool) (l:List Vlu),zdV l->wgVs (putL v d l)+wgO (look l v.Number)<=wgVs l+(if d=true then 0 else wgV v)
 | d,[],_=>by
  rw [putL];cases d
  ·show wgVs [v]+0<=_;simp [wgVs]
  ·show wgVs []+0<=_;simp
 | d,u::l,h=>by
  obtain ⟨h1,h2⟩:=yd.1 h;have ih:=zGi v (d|| decide (v.Number<=u.Number)) l h2;rw [putL,zrh,zrh,zcd,wgVs];by_cases he:u.Number=v.Number
  ·rw [xu he,xu he];have hn:look l v.Number=none:=zow fun x hx=>by have:=h1 x hx;omega
   rw [hn] at ih;have hle:decide (v.Number<=u.Number)=true:=by simp;omega
   rw [hle,qT,xu rfl] at ih;simp only [wgO,wgVs,hle,qT] at ih|-;cases d
   ·rw [xu ⟨rfl,by omega⟩,wgVs,wgVs];simp;omega
   ·rw [xt (by simp),wgVs];simp;omega
  ·rw [xt he,xt he,wgVs,wgVs];cases d
   ·by_cases hv:v.Number<=u.Number
    ·rw [xu ⟨rfl,hv⟩,wgVs,wgVs];simp only [hv,decide_true,qT,yi,qW,yN] at ih|-;omega
    ·rw [xt (fun hh=>hv hh.2),wgVs];simp only [hv,decide_false,qK,qW,yN] at ih|-;omega
   ·rw [xt (by simp),wgVs];simp only [Bool.true_or,yi] at ih|-;omega
theorem zwH :∀(l acc:List Vlu),zdV l->zdV acc->(∀v∈l,look acc v.Number=look a.Values v.Number)->(∀v∈l,wgV (zhA s v (look a.Values v.Number) (zE m (fldI m v.Number)))<=wgV v+wgO (look a.Values v.Number))->wgVs (zil s l a m acc)<=wgVs acc+wgVs l
 | [],acc,_,_,_,_=>by rw [zil];omega
 | v::l,acc,hl,ha,he,hw=>by
  obtain ⟨l1,l2⟩:=yd.1 hl;have hv:=he v xw;have hwv:=hw v xw;have hn:=zwG s v (look a.Values v.Number) (zE m (fldI m v.Number));rw [zil]
  generalize zhA s v (look a.Values v.Number) (zE m (fldI m v.Number))=v' at hn hwv|-
  have hp:=zGi v' (decide (zci v'=0)) acc ha;have ih:=zwH (s:=s) (a:=a) (m:=m) l (putM ⟨acc,[]⟩ v').Values l2 (znK ha) (fun u hu=>by
   show look (putL v' _ acc) u.Number=_;have:=l1 u hu;rw [zuw ha,xt (by omega)];exact he u (xx _ hu)) (fun u hu=>hw u (xx _ hu))
  have hq:wgVs (putM ⟨acc,[]⟩ v').Values=wgVs (putL v' (decide (zci v'=0)) acc):=rfl;rw [hn,hv] at hp;rw [wgVs];split at hp<;>omega
theorem zCz :∀(N:Nat) (b a:Msg) (k:Int),szM b<=N->zaN s a k=true->zaN s b k=true->wgM (zmH s b a k)<=wgM a+wgM b
 | 0,b,a,k,h,_,_=>by rw [zcg] at h;omega
 | N+1,b,a,k,wh,ha,hb=>by
  obtain ⟨_,_,ra,ha',_⟩:=zcm ha;obtain ⟨_,_,rb,hb',_⟩:=zcm hb;rw [zcg] at wh;have:=zwH (s:=s) (a:=a) (m:=zx s k) b.Values a.Values rb ra (fun _ _=>rfl) fun v hv=>by
   rw [zns];cases hla:look a.Values v.Number with
   | none=>simp only [wgO];omega
   | some u=>
    obtain ⟨hun,hum⟩:=zfg hla;have hve:=zgW v;have hue:=zgW u;simp only [wgO];split
    ·rw [zgW];simp only [xC,yA,List.sum_append,zAE];omega
    ·split
     ·rename_i hrep wa;have ov:=zef (hb' v hv).2;have ou:=zef (ha' u hum).2;rw [hun] at ou;have hsv:=zdB hv;rw [zdX] at hsv;rw [zgW];simp only [yF,yQ,List.sum_nil];cases hvs:v.Subs with
      | nil=>rw [zll,wgMs];omega
      | cons y ys=>
       cases hus:u.Subs with
       | nil=>rw [zll,wgMs];omega
       | cons z zs=>
        rw [zll];have hy:y∈v.Subs:=by rw [hvs];exact xw
        have hz:z∈u.Subs:=by rw [hus];exact xw
        have hsy:=zdA hy;have hj:=zCz N y z _ (by omega) (ou.subs z hz).2 (ov.subs y hy).2;have w1:=zji hy;have w2:=zji hz;rw [wgMs,wgMs];omega
     ·omega
  rw [znr,zhR,zhR,zhR];simp only [yA,List.sum_append];omega
theorem zDd :∀(N:Nat) (x:Msg) (k:Int) (w:List zaD) (keep:Bool),szM x<=N->wgM (zqA s x k w keep)<=wgM x
 | 0,x,k,w,keep,h=>by rw [zcg] at h;omega
 | N+1,x,k,w,keep,wh=>by
  rw [zcg] at wh;have key:∀v∈x.Values,∀f:Fld,wgVs (zuN s v f w keep)<=wgV v:=fun v hv f=>by
   have hsv:=zdB hv;rw [zdX] at hsv;have hve:=zgW v;rw [zqB];split
   ·cases hs:v.Subs with
    | nil=>
     rw [znG,wgVs,wgVs,zgW];simp only [yF,yQ,List.sum_nil];rw [wgMs];omega
    | cons y ys=>
     have hy:y∈v.Subs:=by rw [hs];exact xw
     have hsy:=zdA hy;have hwy:=zji hy;have:=zDd (s:=s) N y f.Of (zls w v.Number) keep (by omega);rw [znG,wgVs,wgVs,zgW];simp only [yF,yQ,List.sum_nil];rw [wgMs,wgMs];omega
   ·split
    ·rw [wgVs,wgVs];omega
    ·rw [wgVs];omega
  have all:∀l:List Vlu,(∀v∈l,v∈x.Values)->wgVs (zhF s l (zx s k) w keep)<=wgVs l:=by
   intro l
   induction l with
   | nil=>intro _;rw [zhF];exact xA _
   | cons v l ih=>
    intro h;have i2:=ih fun u hu=>h u (xx _ hu)
    have k2:=key v (h v xw) (zE (zx s k) (fldI (zx s k) v.Number));rw [zhF,zrh,wgVs];omega
  have:=all x.Values fun v hv=>hv
  rw [zuL,zhR,zhR];simp only;cases keep<;>simp<;>omega
theorem zuz (s:List Mes) (root:Int) (l:List Msg):zgI s root l=0\/zgI s root l=2\/zgI s root l=9\/zgI s root l=12:=by
 unfold zgI;by_cases h0:zgO s root=0
 ·rw [xt (show ¬zgO s root≠0 from fun hh=>hh h0)];by_cases ha:l.all (fun x=>zaN s x root)=true
  ·rw [xu ha];simp
  ·rw [xt ha];simp
 ·rw [xu h0];unfold zgO;split
  ·simp
  ·split<;>simp
theorem zpy (h:zgI s root l=0):zfa s/\0<=root/\root<s.length/\∀x∈l,zaN s x root=true:=by
 unfold zgI at h;by_cases h0:zgO s root=0
 ·rw [xt (show ¬zgO s root≠0 from fun hh=>hh h0)] at h;obtain ⟨h1,h2,h3⟩:=zyP h0;by_cases ha:l.all (fun x=>zaN s x root)=true
  ·exact ⟨h1,h2,h3,xG.1 ha⟩
  ·rw [xt ha] at h;cases h
 ·rw [xu h0] at h;exact absurd h h0
theorem zFS {s:List Mes} {root:Int} {l:List Msg} (h1:zfX s=true) (h2:0<=root/\root<s.length) (h:∀x∈l,zaN s x root=true):zgI s root l=0:=by
 have h0:zgO s root=0:=by unfold zgO;rw [h1,xt (by simp),xt (by omega)]
 unfold zgI;rw [xt (show ¬zgO s root≠0 from fun hh=>hh h0),xu (xG.2 h)]
structure Gd (s:List Mes) (root:Int) (n:Nat) (x:Msg):Prop where
 r:zaN s x root=true
 b:bdM x
 w:wgM x<=n
theorem Gd.s {s:List Mes} {root:Int} {n:Nat} {x:Msg} (h:Gd s root n x) (hn:n<=1048576):smM x:=zGT _ x (xA _) (yn h.w hn)
theorem Gd.z {s:List Mes} {root:Int} {n fuel:Nat} {x:Msg} (h:Gd s root n x) (hn:n<fuel):szM x<fuel:=Nat.lt_of_le_of_lt (yn (zxs _ x (xA _)) h.w) hn
theorem Gd.join {s:List Mes} {root:Int} {n m:Nat} {a b:Msg} (ha:Gd s root n a) (hb:Gd s root m b) (hn:n<=1048576) (hm:m<=1048576):Gd s root (n+m) (zmH s b a root):=
 ⟨zso _ b a root (xA _) ha.r hb.r,zCy _ b a root (xA _) ha.r hb.r ha.b hb.b (ha.s hn) (hb.s hm),yn (zCz _ b a root (xA _) ha.r hb.r) (Nat.add_le_add ha.w hb.w)⟩
theorem Gd.part {s:List Mes} {root:Int} {n:Nat} {a:Msg} (ha:Gd s root n a) (w:List zaD) (keep:Bool):Gd s root n (zqA s a root w keep):=
 ⟨zsy _ a root w keep (xA _) ha.r,(zDc _ a root w keep (xA _) ha.b).1,yn (zDd _ a root w keep (xA _)) ha.w⟩
def znX (s:List Mes) (root:Int) (b:List UInt8) (d:Int):Msg×Int:=if (zeD s root b d).2≠0 then (⟨[],[]⟩,(zeD s root b d).2) else (ofM s root b,0)
theorem zxJ (h:(zeD s root b d).2=0):argS s root d=0:=by
 unfold zeD at h;by_cases h0:argS s root d=0
 ·exact h0
 ·rw [xu h0] at h;exact h
theorem zIB:∀n:Nat,(∀x:Msg,szM x<=n->dM x<szM x)/\(∀l:List Msg,szMs l<=n->dMs l<=szMs l)/\(∀v:Vlu,szV v<=n->dV v<szV v)/\∀l:List Vlu,szVs l<=n->dVs l<=szVs l
 | 0=>⟨fun x h=>by rw [zcg] at h;omega,fun l h=>by
   cases l with
   | nil=>simp [dMs]
   | cons x l=>rw [szMs,zcg] at h;omega,fun v h=>by rw [zdX] at h;omega,fun l h=>by
   cases l with
   | nil=>simp [dVs]
   | cons x l=>rw [szVs,zdX] at h;omega⟩
 | n+1=>by
  obtain ⟨i1,i2,i3,i4⟩:=zIB n;have h2:∀l:List Msg,szMs l<=n->dMs l<=szMs l:=i2;have h4:∀l:List Vlu,szVs l<=n->dVs l<=szVs l:=i4;have k1:∀x:Msg,szM x<=n+1->dM x<szM x:=fun x h=>by rw [zcg] at h|-;rw [zza];have:=h4 x.Values (by omega);omega
  have k3:∀v:Vlu,szV v<=n+1->dV v<szV v:=fun v h=>by rw [zdX] at h|-;rw [zwo];have:=h2 v.Subs (by omega);omega
  refine ⟨k1,fun l=>?_,k3,fun l=>?_⟩
  ·induction l with
   | nil=>intro _;simp [dMs]
   | cons x l ih=>intro h;rw [szMs] at h|-;rw [dMs];have:=ih (by omega);have:=k1 x (by omega);omega
  ·induction l with
   | nil=>intro _;simp [dVs]
   | cons x l ih=>intro h;rw [szVs] at h|-;rw [dVs];have:=ih (by omega);have:=k3 x (by omega);omega
theorem zCm (x:Msg):dM x<szM x:=(zIB (szM x)).1 x (xA _)
theorem zDn:∀(fuel:Nat) (x:Msg) (wr:Nat),szM x<fuel->bdM x->dM x<=wr->wr<=1048576->zeW fuel x wr=some ((dM x:Nat):Int)
 | 0,x,_,h,_,_,_=>by omega
 | fuel+1,x,wr,hs,hb,hd,hm=>by
  obtain ⟨b1,_,b4⟩:=(zgP x).1 hb;rw [zcg] at hs;rw [zza] at hd|-;show zhO (zeW fuel) x wr=_;unfold zhO;have inner:∀(v:Vlu),v∈x.Values->∀(c i d:Nat),i+c=v.Subs.length->d<=wr->zfQ wr (zeW fuel) v d i=some (.inl ((max d (dMs (v.Subs.drop i)):Nat):Int)):=by
   intro v hv c;have wh:=zdB hv;have hdv:=ztc hv;obtain ⟨_,_,_,c1,c2⟩:=(zfT _).1 (zdi.1 b4 _ hv);rw [zdX] at wh;rw [zwo] at hdv
   induction c with
   | zero=>
    intro i d hi hdm;have e:v.Subs.drop i=[]:=yC (by omega);rw [e,dMs];refine zqT ?_;unfold zdr;rw [up,Nat.max_zero]
   | succ c ih=>
    intro i d hi hdm;have hil:i<v.Subs.length:=by omega
    have hm2:=xF hil;have s2:=zdA hm2;have d2:=zxO hm2;rw [yq hil,dMs];have hr:=zDn fuel v.Subs[i] (wr - 1) (by omega) (zdO.1 c2 _ hm2) (by omega) (by omega);have hmost:i64.wrap ((wr:Int) - 1)=((wr - 1:Nat):Int):=by rw [uq];omega
    have hw:i64.wrap (1+((dM v.Subs[i]:Nat):Int))=1+((dM v.Subs[i]:Nat):Int):=by rw [uq]
    have hmax:(if (d:Int)<1+((dM v.Subs[i]:Nat):Int) then 1+((dM v.Subs[i]:Nat):Int) else (d:Int))=((max d (1+dM v.Subs[i]):Nat):Int):=by
     split<;>omega
    refine (zqS (deep3':=((max d (1+dM v.Subs[i]):Nat):Int)) (v3':=((i+1:Nat):Int)) ?_).trans ?_
    ·unfold zdr;rw [uo,zaf rfl hil,sb,up,hmost,hr,sb,hw,hmax,up,uq];push_cast;rfl
    ·rw [ih (i+1) (max d (1+dM v.Subs[i])) (by omega) (by omega)];congr 3;omega
  have outer:∀(c i d:Nat),i+c=x.Values.length->d<=wr->zfP wr (zeW fuel) x d i=some (.inl ((max d (dVs (x.Values.drop i)):Nat):Int)):=by
   intro c
   induction c with
   | zero=>
    intro i d hi hdm;have e:x.Values.drop i=[]:=yC (by omega);rw [e,dVs];refine zqR ?_;unfold zdq;rw [up,Nat.max_zero]
   | succ c ih=>
    intro i d hi hdm;have hil:i<x.Values.length:=by omega
    have hmem:=xF hil;have hdv:=ztc hmem;rw [yq hil,dVs];have h2:=inner x.Values[i] hmem (x.Values[i]).Subs.length 0 d (xQ _) hdm;rw [xR,<-zwo] at h2;have h2':zfQ wr (zeW fuel) x.Values[i] d 0=_:=h2;refine (zqQ (deep':=((max d (dV x.Values[i]):Nat):Int)) (v':=((i+1:Nat):Int)) ?_).trans ?_
    ·unfold zdq;rw [uo,zaf rfl hil,sb,h2',sb,uq];push_cast;rfl
    ·rw [ih (i+1) (max d (dV x.Values[i])) (by omega) (by omega)];congr 3;omega
  have h:=outer x.Values.length 0 0 (xQ _) (xI _);have h':zfP wr (zeW fuel) x 0 0=_:=h;rw [h',sb,xR,Nat.zero_max]
theorem zxm (hf:szM x<fuel) (hb:bdM x) (hd:dM x<=131072):zgj fuel x=some ((dM x:Nat):Int):=by
 unfold zgj;have h:=zDn fuel x 131072 hf hb hd (by omega);have h':zeW fuel x 131072=_:=h;rw [h',sb]
theorem zAq (hf:szM x<fuel) (hb:bdM x) (hd:dM x<=131072):zjY fuel x=some true:=by
 unfold zjY;rw [zxm hf hb hd,sb];congr 1;simp;omega
theorem zDE (ha:a.length<=1152921504606846976):zbH a b=some (decide (a=b)):=by
 unfold zbH;by_cases hl:a.length=b.length
 ·rw [itF (by simp [hl])];have h:=zmA a b (fun i=>zaY a b i) hl (by
    refine zdS ?_;unfold zao;rw [ul])
   (fun i hi hi'=>by
    by_cases hp:a[i]=b[i]
    ·rw [xu hp];refine zgD ?_;unfold zao;rw [uo,zaf rfl hi,sb,zaf rfl hi',sb,itF (by simp [hp]),uq];push_cast;rfl
    ·rw [xt hp];refine zdS ?_;unfold zao;rw [uo,zaf rfl hi,sb,zaf rfl hi',sb,itT (by simp [hp])])
   a.length 0 (by omega)
  have h':zaY a b 0=_:=h;rw [h',sb];simp only [xR];by_cases e:a=b
  ·rw [xu e];simp [e]
  ·rw [xt e];simp [e]
 ·rw [uo];have:a≠b:=fun e=>hl (by rw [e])
  simp [this]
theorem zwq (ha:a.length<=1152921504606846976):zbm a b=some (decide (a=b)):=by
 unfold zbm;by_cases hl:a.length=b.length
 ·rw [itF (by simp [hl])];have h:=zmA a b (fun i=>zaX a b i) hl (by
    refine zdR ?_;unfold zan;rw [ul])
   (fun i hi hi'=>by
    by_cases hp:a[i]=b[i]
    ·rw [xu hp];refine zgC ?_;unfold zan;rw [uo,zaf rfl hi,sb,zaf rfl hi',sb,itF (by simp [hp]),uq];push_cast;rfl
    ·rw [xt hp];refine zdR ?_;unfold zan;rw [uo,zaf rfl hi,sb,zaf rfl hi',sb,itT (by simp [hp])])
   a.length 0 (by omega)
  have h':zaX a b 0=_:=h;rw [h',sb];simp only [xR];by_cases e:a=b
  ·rw [xu e];simp [e]
  ·rw [xt e];simp [e]
 ·rw [uo];have:a≠b:=fun e=>hl (by rw [e])
  simp [this]
section
open Classical
theorem zdG {α:Type} {x y:α} (h:x≠y):zkA x y=false:=by
 cases hq:zkA x y with
 | false=>rfl
 | true=>exact absurd (zev.1 hq) h
theorem zDp:∀(fuel:Nat),(∀x y:Msg,2*szM x<fuel->bdM x->zfn fuel x y=some (zkA x y))/\(∀v u:Vlu,2*szV v<fuel->bdV v->zcV fuel v u=some (zkA v u))/\
  (∀a b:List Vlu,2*szVs a+1<fuel->a.length<=1152921504606846976->bdVs a->zD fuel a b=some (zkA a b))/\
  ∀a b:List Msg,2*szMs a+1<fuel->a.length<=1152921504606846976->bdMs a->zO fuel a b=some (zkA a b)
 | 0=>⟨fun x y h=>by omega,fun v u h=>by omega,fun a b h=>by omega,fun a b h=>by omega⟩
 | fuel+1=>by
  obtain ⟨ih1,ih2,ih3,ih4⟩:=zDp fuel;refine ⟨fun x y hs hb=>?_,fun v u hs hb=>?_,fun a b hs hl hb=>?_,fun a b hs hl hb=>?_⟩
  ·obtain ⟨b1,⟨b2,b3⟩,b4⟩:=(zgP x).1 hb;rw [zcg] at hs;show zjf (zfn fuel) (zcV fuel) (zD fuel) (zO fuel) x y=_;unfold zjf;rw [ih3 x.Values y.Values (by omega) (by omega) b4,sb];by_cases e1:x.Values=y.Values
   ·rw [zev.2 e1,uj,zwq (by omega),sb,sb];by_cases e2:x.Unknown=y.Unknown
    ·rw [xN e2,zev.2 (by cases x;cases y;simp only at e1 e2;rw [e1,e2])]
    ·rw [ya e2,zdG fun e=>e2 (by rw [e])]
   ·rw [zdG e1,uk,sb,zdG fun e=>e1 (by rw [e])]
  ·obtain ⟨b0,⟨b1,_⟩,⟨b2,b3⟩,b4,b5⟩:=(zfT v).1 hb;rw [zdX] at hs;show zfo (zfn fuel) (zcV fuel) (zD fuel) (zO fuel) v u=_;unfold zfo;by_cases e0:v.Number=u.Number
   ·rw [itT (by simp [e0]),zDE (by omega),sb];by_cases e1:v.Words=u.Words
    ·rw [itT (by simp [e1]),zwq (by omega),sb];by_cases e2:v.Texts=u.Texts
     ·rw [itT (by simp [e2]),ih4 v.Subs u.Subs (by omega) (by omega) b5,sb,sb];by_cases e3:v.Subs=u.Subs
      ·rw [zev.2 e3,zev.2 (by cases v;cases u;simp only at e0 e1 e2 e3;rw [e0,e1,e2,e3])]
      ·rw [zdG e3,zdG fun e=>e3 (by rw [e])]
     ·rw [itF (by simp [e2]),sb,zdG fun e=>e2 (by rw [e])]
    ·rw [itF (by simp [e1]),sb,zdG fun e=>e1 (by rw [e])]
   ·rw [itF (by simp [e0]),sb,zdG fun e=>e0 (by rw [e])]
  ·show zK (zfn fuel) (zcV fuel) (zD fuel) (zO fuel) a b=_;unfold zK;by_cases hll:a.length=b.length
   ·rw [itF (by simp [hll])];have hv:∀(i:Nat) (hi:i<a.length) (hi':i<b.length),zcV fuel a[i] b[i]=some (zkA a[i] b[i]):=fun i hi hi'=>by
     have hm:=xF hi;have:=zdB hm;exact ih2 _ _ (by omega) (zdi.1 hb _ hm)
    have h:=zmA a b (fun i=>zC (zcV fuel) a b i) hll (by
      refine zaz ?_;unfold zp;rw [ul])
     (fun i hi hi'=>by
      by_cases hp:a[i]=b[i]
      ·rw [xu hp];refine zbw ?_;unfold zp;rw [uo,zaf rfl hi,sb,zaf rfl hi',sb,hv i hi hi',sb,itF (by rw [zev.2 hp];rfl),uq];push_cast;rfl
      ·rw [xt hp];refine zaz ?_;unfold zp;rw [uo,zaf rfl hi,sb,zaf rfl hi',sb,hv i hi hi',sb,itT (by rw [zdG hp];rfl)])
     a.length 0 (by omega)
    have h':zC (zcV fuel) a b 0=_:=h;rw [h',sb];simp only [xR];by_cases e:a=b
    ·rw [xu e,zev.2 e]
    ·rw [xt e,zdG e]
   ·rw [uo,zdG fun e=>hll (by rw [e])]
  ·show zS (zfn fuel) (zcV fuel) (zD fuel) (zO fuel) a b=_;unfold zS;by_cases hll:a.length=b.length
   ·rw [itF (by simp [hll])];have hv:∀(i:Nat) (hi:i<a.length) (hi':i<b.length),zfn fuel a[i] b[i]=some (zkA a[i] b[i]):=fun i hi hi'=>by
     have hm:=xF hi;have:=zdA hm;exact ih1 _ _ (by omega) (zdO.1 hb _ hm)
    have h:=zmA a b (fun i=>zL (zfn fuel) a b i) hll (by
      refine zaO ?_;unfold zv;rw [ul])
     (fun i hi hi'=>by
      by_cases hp:a[i]=b[i]
      ·rw [xu hp];refine zbW ?_;unfold zv;rw [uo,zaf rfl hi,sb,zaf rfl hi',sb,hv i hi hi',sb,itF (by rw [zev.2 hp];rfl),uq];push_cast;rfl
      ·rw [xt hp];refine zaO ?_;unfold zv;rw [uo,zaf rfl hi,sb,zaf rfl hi',sb,hv i hi hi',sb,itT (by rw [zdG hp];rfl)])
     a.length 0 (by omega)
    have h':zL (zfn fuel) a b 0=_:=h;rw [h',sb];simp only [xR];by_cases e:a=b
    ·rw [xu e,zev.2 e]
    ·rw [xt e,zdG e]
   ·rw [uo,zdG fun e=>hll (by rw [e])]
end
theorem zGL (y:Msg) (hf:2*szM x<fuel) (hb:bdM x) (hd:dM x<=131072):ziy fuel x y=some (zkA x y):=by
 unfold ziy;rw [zAq (by omega) hb hd,sb,uj,(zDp fuel).1 x y hf hb,sb,sb]
theorem zHP:∀a<256,zrc ((a:Nat):Int)=some (if a<128 then (1,(a:Int)) else if a/32=6 then (2,((a%32:Nat):Int)) else if a/16=14 then (3,((a%16:Nat):Int)) else if a/8=30 then (4,((a%8:Nat):Int)) else (0,0)):=by decide+kernel
theorem zyu (w k:Nat) (h:k<=32):shrI .u32 (w:Int) (k:Int)=((w/2^k:Nat):Int):=zqM (k:= .u32) (a:=w) (b:=k) (by simpa [IntKind.bits] using h)
theorem ztp (w:Nat):zmc (w:Int)=some (if w<128 then 1 else if w<2048 then 2 else if 55296<=w/\w<=57343 then 0 else if w<65536 then 3 else if w<=1114111 then 4 else 0):=by
 unfold zmc;have e7:shrI .u32 (w:Int) 7=((w/128:Nat):Int):=zyu w 7 (by omega);have e11:shrI .u32 (w:Int) 11=((w/2048:Nat):Int):=zyu w 11 (by omega);have e16:shrI .u32 (w:Int) 16=((w/65536:Nat):Int):=zyu w 16 (by omega);rw [e7,e11,e16];by_cases h1:w<128
 ·rw [uo,xu h1]
 ·rw [up,xt h1];by_cases h2:w<2048
  ·rw [uo,xu h2]
  ·rw [up,xt h2];by_cases h3:55296<=w/\w<=57343
   ·rw [uo,xu h3]
   ·rw [up,xt h3];by_cases h4:w<65536
    ·rw [uo,xu h4]
    ·rw [up,xt h4];by_cases h5:w<=1114111
     ·rw [uo,xu h5]
     ·rw [up,xt h5]
theorem zDR:∀c<256,shrI .u8 ((c:Nat):Int) 6=((c/64:Nat):Int)/\u32.wrap (andI .u8 ((c:Nat):Int) 63)=((c%64:Nat):Int):=by decide+kernel
theorem zjT {v:List UInt8} {w i:Nat} (h:i<v.length) (hv:v.length<=1000) (hw:w<=1000000):
  zcn v w i=if cont v[i] then zcn v ((64*w+v[i].toNat%64:Nat):Int) ((i+1:Nat):Int) else some (.inr ()):=by
 have hc:=v[i].toNat_lt;obtain ⟨e1,e2⟩:=zDR v[i].toNat (by omega);have hb:zee v w i=if cont v[i] then some (.inl (((64*w+v[i].toNat%64:Nat):Int),((i+1:Nat):Int))) else some (.inr (.inr ())):=by
  unfold zee;rw [uo,zaf rfl h,sb,e1,e2];by_cases hk:cont v[i]=true
  ·rw [xu hk];unfold cont at hk;simp only [xY] at hk;rw [up,uq];have e3:shlI .u32 (w:Int) 6=((w*64:Nat):Int):=by
    have:shlI .u32 (w:Int) 6=((w*64%4294967296:Nat):Int):=by simp [shlI,IntKind.bits,zAN]
    rw [this,qr (by omega)]
   rw [e3,zts rfl (by simp [IntKind.bits];omega) (by simp [IntKind.bits];omega),pt,zuI _ w 6 (by omega)];have e4:v[i].toNat%64+w*2^6=64*w+v[i].toNat%64:=by omega
   rw [e4];rfl
  ·rw [xt hk];unfold cont at hk;simp only [xY] at hk;rw [uo]
 by_cases hk:cont v[i]=true
 ·rw [xu hk] at hb|-;exact zsW hb
 ·rw [xt hk] at hb|-;exact zmN hb
theorem zqq (h:v.length<=i):zcn v w i=some (.inl (w:Int)):=by
 refine zmN ?_;unfold zee;rw [up]
theorem zKu {w:Nat} {b:UInt8} (hw:w<=100):zcn [b] w 0=if cont b then some (.inl ((64*w+b.toNat%64:Nat):Int)) else some (.inr ()):=by
 have h:=zjT (v:=[b]) (w:=w) (i:=0) (by simp) (by simp) (by omega);refine Eq.trans h ?_;simp only [pZ];rw [zqq (by simp)]
theorem zKv {w:Nat} {b c:UInt8} (hw:w<=100):zcn [b,c] w 0=if cont b then (if cont c then some (.inl ((64*(64*w+b.toNat%64)+c.toNat%64:Nat):Int)) else some (.inr ())) else some (.inr ()):=by
 have h:=zjT (v:=[b,c]) (w:=w) (i:=0) (by simp) (by simp) (by omega);refine Eq.trans h ?_;rw [zjT (i:=0+1) (by simp) (by simp) (by omega)];simp only [pZ,pX,xQ];rw [zqq (by simp)]
theorem zKw {w:Nat} {b c d:UInt8} (hw:w<=100):zcn [b,c,d] w 0=if cont b then (if cont c then (if cont d then some (.inl ((64*(64*(64*w+b.toNat%64)+c.toNat%64)+d.toNat%64:Nat):Int)) else some (.inr ())) else some (.inr ())) else some (.inr ()):=by
 have h:=zjT (v:=[b,c,d]) (w:=w) (i:=0) (by simp) (by simp) (by omega);refine Eq.trans h ?_;rw [zjT (i:=0+1) (by simp) (by simp) (by omega),zjT (i:=0+1+1) (by simp) (by simp) (by omega)];simp only [pZ,pX,xQ];rw [zqq (by simp)]
theorem zFW (n:Nat) (h:∀m,m≠n->isN m l=false):nxt l=if isN n l then n else 0:=by
 by_cases hn:isN n l=true
 ·rw [xu hn,zJD hn]
 ·rw [xt hn];by_cases h0:nxt l=0
  ·exact h0
  ·have h1:=ztr h0;by_cases h2:nxt l=n
   ·rw [h2] at h1;exact absurd h1 hn
   ·rw [h _ h2] at h1;cases h1
theorem zlM (n:Nat) (h:n=1/\a.toNat<128\/n=2/\192<=a.toNat/\a.toNat<224\/n=3/\224<=a.toNat/\a.toNat<240\/n=4/\240<=a.toNat):nxt (a::t)=if isN n (a::t) then n else 0:=by
 refine zFW n fun m hm=>?_
 cases hh:isN m (a::t) with
 | false=>rfl
 | true=>
  obtain ⟨a',t',e,_,g⟩:=zkn hh;cases e;omega
theorem zCF (b:List UInt8):zmb b=some ((nxt b:Nat):Int):=by
 cases b with
 | nil=>rfl
 | cons a t=>
  have ha:=a.toNat_lt;unfold zmb;have e00:idx (a::t) (0:Int)=some a:=zaf (n:=0) rfl (by simp);rw [up,e00,sb];rw [zHP _ (by omega),sb];by_cases h1:a.toNat<128
  ·rw [zlM 1 (.inl ⟨rfl,h1⟩),xu h1];simp only;rw [up,zhx (i:=1) (j:=1) (a:=1) (b:=1) rfl rfl (by omega) (by simp),sb];have e0:zcn (((a::t).drop 1).take (1 - 1)) (a.toNat:Int) 0=some (.inl (a.toNat:Int)):=zqq (i:=0) (by simp);rw [e0,sb];simp only;rw [ztp,sb,xu h1,uk];simp [isN,is1,h1]
  ·rw [xt h1];by_cases h2:a.toNat/32=6
   ·rw [zlM 2 (.inr (.inl ⟨rfl,by omega,by omega⟩)),xu h2];simp only
    match t with
    | []=>rw [itT (by simp)];rfl
    | b::t=>
     rw [up,zhx (i:=1) (j:=2) (a:=1) (b:=2) rfl rfl (by omega) (by simp),sb];have e0:=zKu (w:=a.toNat%32) (b:=b) (by omega);have e0':zcn (((a::b::t).drop 1).take (2 - 1)) ((a.toNat%32:Nat):Int) 0=_:=e0;rw [e0'];have hb:=b.toNat_lt;by_cases c1:cont b=true
     ·rw [xu c1,sb];simp only;have hn:=ztp (64*(a.toNat%32)+b.toNat%64);simp only [isN,is2,c1,qI,xY];simp only [cont,xY] at c1;by_cases h:194<=a.toNat
      ·rw [xt (by omega),xu (by omega)] at hn;rw [hn,sb,uk,xu (by omega)];rfl
      ·rw [xu (by omega)] at hn;rw [hn,sb,uj,xt (by omega)];rfl
     ·rw [xt c1,sb];simp only;simp [isN,is2,c1]
   ·rw [xt h2];by_cases h3:a.toNat/16=14
    ·rw [zlM 3 (.inr (.inr (.inl ⟨rfl,by omega,by omega⟩))),xu h3];simp only
     match t with
     | []=>rw [itT (by simp)];rfl
     | [b]=>rw [itT (by simp)];rfl
     | b::c::t=>
      rw [up,zhx (i:=1) (j:=3) (a:=1) (b:=3) rfl rfl (by omega) (by simp),sb];have e0:=zKv (w:=a.toNat%16) (b:=b) (c:=c) (by omega);have e0':zcn (((a::b::c::t).drop 1).take (3 - 1)) ((a.toNat%16:Nat):Int) 0=_:=e0;rw [e0'];have hb:=b.toNat_lt;have hc:=c.toNat_lt;by_cases c1:cont b=true
      ·rw [xu c1];by_cases c2:cont c=true
       ·rw [xu c2,sb];simp only;have hn:=ztp (64*(64*(a.toNat%16)+b.toNat%64)+c.toNat%64);simp only [isN,is3,c1,c2,yV,xY];simp only [cont,xY] at c1 c2;by_cases h:(a.toNat=224->160<=b.toNat)/\(a.toNat=237->b.toNat<160)
        ·rw [xt (by omega),xt (by omega),xt (by omega),xu (by omega)] at hn;rw [hn,sb,uk,xu (by omega)];rfl
        ·by_cases g:64*(64*(a.toNat%16)+b.toNat%64)+c.toNat%64<2048
         ·by_cases g':64*(64*(a.toNat%16)+b.toNat%64)+c.toNat%64<128
          ·rw [xu g'] at hn;rw [hn,sb,uj,xt (by omega)];rfl
          ·rw [xt g',xu g] at hn;rw [hn,sb,uj,xt (by omega)];rfl
         ·rw [xt (by omega),xt g,xu (by omega)] at hn;rw [hn,sb,uj,xt (by omega)];rfl
       ·rw [xt c2,sb];simp only;simp [isN,is3,c2]
      ·rw [xt c1,sb];simp only;simp [isN,is3,c1]
    ·rw [xt h3];by_cases h4:a.toNat/8=30
     ·rw [zlM 4 (.inr (.inr (.inr ⟨rfl,by omega⟩))),xu h4];simp only
      match t with
      | []=>rw [itT (by simp)];rfl
      | [b]=>rw [itT (by simp)];rfl
      | [b,c]=>rw [itT (by simp)];rfl
      | b::c::d::t=>
       rw [up,zhx (i:=1) (j:=4) (a:=1) (b:=4) rfl rfl (by omega) (by simp),sb];have e0:=zKw (w:=a.toNat%8) (b:=b) (c:=c) (d:=d) (by omega);have e0':zcn (((a::b::c::d::t).drop 1).take (4 - 1)) ((a.toNat%8:Nat):Int) 0=_:=e0;rw [e0'];have hb:=b.toNat_lt;have hc:=c.toNat_lt;have hd:=d.toNat_lt;by_cases c1:cont b=true
       ·rw [xu c1];by_cases c2:cont c=true
        ·rw [xu c2];by_cases c3:cont d=true
         ·rw [xu c3,sb];simp only;have hn:=ztp (64*(64*(64*(a.toNat%8)+b.toNat%64)+c.toNat%64)+d.toNat%64);simp only [isN,is4,c1,c2,c3,yV,xY];simp only [cont,xY] at c1 c2 c3;by_cases h:a.toNat<245/\(a.toNat=240->144<=b.toNat)/\(a.toNat=244->b.toNat<144)
          ·rw [xt (by omega),xt (by omega),xt (by omega),xt (by omega),xu (by omega)] at hn;rw [hn,sb,uk,xu (by omega)];rfl
          ·have hw:¬(65536<=64*(64*(64*(a.toNat%8)+b.toNat%64)+c.toNat%64)+d.toNat%64/\64*(64*(64*(a.toNat%8)+b.toNat%64)+c.toNat%64)+d.toNat%64<=1114111):=by omega
           generalize 64*(64*(64*(a.toNat%8)+b.toNat%64)+c.toNat%64)+d.toNat%64=w at hn hw
           have hx:∃x:Int,zmc w=some x/\x≠4:=⟨_,hn,by (repeat' split)<;>omega⟩;obtain ⟨x,hx,h4⟩:=hx;rw [hx,sb,uo,xt (by omega)];rfl
         ·rw [xt c3,sb];simp only;simp [isN,is4,c3]
        ·rw [xt c2,sb];simp only;simp [isN,is4,c2]
       ·rw [xt c1,sb];simp only;simp [isN,is4,c1]
     ·rw [xt h4,uj];by_cases h5:240<=a.toNat
      ·rw [zlM 4 (.inr (.inr (.inr ⟨rfl,h5⟩)))];cases hh:isN 4 (a::t) with
       | false=>rfl
       | true=>
        match t,hh with
        | b::c::d::t,hh=>simp only [isN,is4,xY] at hh;omega
      ·by_cases h0:nxt (a::t)=0
       ·rw [h0];rfl
       ·obtain ⟨a',t',e,_,g⟩:=zkn (ztr h0);cases e;omega
theorem zEH (hb:b.length<=1152921504606846976) (l:List UInt8):∀(a c:Nat),c<=a->a<=b.length->l=b.drop a->
  zgm b a c ((nxt l:Nat):Int)=some (((a+(pre4 l).1:Nat):Int),((c+(pre4 l).2:Nat):Int)):=by
 refine zGe (fun l=>∀(a c:Nat),c<=a->a<=b.length->l=b.drop a->zgm b a c ((nxt l:Nat):Int)=some (((a+(pre4 l).1:Nat):Int),((c+(pre4 l).2:Nat):Int))) ?_ ?_ l
 ·intro l h a c hc ha hl;rw [h,zEh h];refine zsY ?_;unfold zeR;rw [uk];rfl
 ·intro l h ih a c hc ha hl;subst hl;have h4:=zHN (b.drop a);have hle:=zuC (b.drop a);simp only [yf] at hle;have e1:(b.drop a).drop (nxt (b.drop a))=b.drop (a+nxt (b.drop a)):=by rw [yu]
  refine (zsX (atv':=((a+nxt (b.drop a):Nat):Int)) (points':=((c+1:Nat):Int)) (size':=((nxt (b.drop (a+nxt (b.drop a))):Nat):Int)) ?_).trans ?_
  ·unfold zeR;rw [uo,uq,zpY (a:=a+nxt (b.drop a)) (by push_cast;rfl) rfl (by omega),sb,zCF,sb,uq];rfl
  ·rw [<-e1,ih (a+nxt (b.drop a)) (c+1) (by omega) (by omega) e1,zHU h];simp only [qB,pu 1]
theorem zGO (hb:b.length<=1152921504606846976):zoc b=some (((pre4 b).1:Int),((pre4 b).2:Int)):=by
 unfold zoc;rw [zCF,sb];have h:=zEH hb b 0 0 (xA _) (xI _) rfl;simp only [xQ] at h;have h':zgm b 0 0 ((nxt b:Nat):Int)=some (((pre4 b).1:Int),((pre4 b).2:Int)):=h;rw [h',sb]
theorem zEB (hb:b.length<=1152921504606846976):zma b=some ((pre4 b).1:Int):=by
 unfold zma;rw [zGO hb,sb]
theorem zsb (hb:b.length<=1152921504606846976):ziA b=some (zfB b):=by
 unfold ziA zfB;rw [zEB hb,sb,zCg]
def zJC:List Str:=[[],[105,110,116,51,50],[105,110,116,54,52],[117,105,110,116,51,50],[117,105,110,116,54,52],[115,105,110,116,51,50],[115,105,110,116,54,52],[98,111,111,108],[101,110,117,109],[102,105,120,101,100,51,50],[115,102,105,120,101,100,51,50],[102,108,111,97,116],[102,105,120,101,100,54,52],[115,102,105,120,101,100,54,52],[100,111,117,98,108,101],[115,116,114,105,110,103],[98,121,116,101,115],[109,101,115,115,97,103,101]]
def zFC (k:Int):Str:=(zJC[k.toNat]?).getD []
def kT:List (Int×zr):=[(1,⟨[105,110,116,51,50],0⟩),(2,⟨[105,110,116,54,52],0⟩),(3,⟨[117,105,110,116,51,50],0⟩),(4,⟨[117,105,110,116,54,52],0⟩),(5,⟨[115,105,110,116,51,50],0⟩),(6,⟨[115,105,110,116,54,52],0⟩),(7,⟨[98,111,111,108],0⟩),(8,⟨[101,110,117,109],0⟩),(9,⟨[102,105,120,101,100,51,50],5⟩),(10,⟨[115,102,105,120,101,100,51,50],5⟩),(11,⟨[102,108,111,97,116],5⟩),(12,⟨[102,105,120,101,100,54,52],1⟩),(13,⟨[115,102,105,120,101,100,54,52],1⟩),(14,⟨[100,111,117,98,108,101],1⟩),(15,⟨[115,116,114,105,110,103],2⟩),(16,⟨[98,121,116,101,115],2⟩),(17,⟨[109,101,115,115,97,103,101],2⟩)]
theorem zzD:zkp=some kT:=rfl
theorem zsz (h:zbL k=true):k=1\/k=2\/k=3\/k=4\/k=5\/k=6\/k=7\/k=8\/k=9\/k=10\/k=11\/k=12\/k=13\/k=14\/k=15\/k=16\/k=17:=by
 have:=yr h;omega
theorem zJn (h:zbL k=true):mget kT k=some ⟨zFC k,zaW k⟩:=by
 rcases zsz h with rfl| rfl| rfl| rfl| rfl| rfl| rfl| rfl| rfl| rfl| rfl| rfl| rfl| rfl| rfl| rfl| rfl<;>rfl
theorem zHw (h:e∈kT):zbL e.1=true/\e.2=⟨zFC e.1,zaW e.1⟩:=by
 have:kT.all (fun e=>zbL e.1&&decide (e.2=⟨zFC e.1,zaW e.1⟩))=true:=by decide
 have h1:=xG.1 this e h;simp only [xy,xY] at h1;exact h1
theorem zHx (h:zbL k=false):mget kT k=none:=by
 cases hg:mget kT k with
 | none=>rfl
 | some x=>
  have mem:∀{m:List (Int×zr)} {x:zr},mget m k=some x->(k,x)∈m:=fun {m x} hg=>by
   induction m with
   | nil=>cases hg
   | cons p m ih=>
    rw [mget] at hg;split at hg
    ·rename_i e;cases hg;rw [e];exact xw
    ·exact xx _ (ih hg)
  have h1:=(zHw (mem hg)).1;simp only at h1;rw [h] at h1;cases h1
theorem zzF (k:Int):zjS k=some (if zbL k then (zaW k,0) else (0,2)):=by
 unfold zjS;rw [zzD,sb];cases h:zbL k with
 | true=>rw [zJn h];rfl
 | false=>rw [zHx h];rfl
theorem zuo (k:Int):zhc k=some (kNum k):=by
 unfold zhc;rw [zzF,sb];cases h:zbL k with
 | true=>
  rcases zsz h with rfl| rfl| rfl| rfl| rfl| rfl| rfl| rfl| rfl| rfl| rfl| rfl| rfl| rfl| rfl| rfl| rfl<;>rfl
 | false=>
  have h1:=p4 h;have:kNum k=false:=ya (by omega);rw [this];rfl
theorem zHz:kT.map Prod.fst=[1,2,3,4,5,6,7,8,9,10,11,12,13,14,15,16,17]:=rfl
theorem zHy:znv=some [1,2,3,4,5,6,7,8,9,10,11,12,13,14,15,16,17]:=by
 have e:zqm kT=some [1,2,3,4,5,6,7,8,9,10,11,12,13,14,15,16,17]:=by
  unfold zqm;rw [xu ⟨by decide,by decide⟩,zHz,List.mergeSort_of_pairwise (by decide)]
 unfold znv;rw [zzD,sb,e,sb]
theorem zjR (k:Int) (h:0<=w/\w<=18446744073709551615):zgc k w=some (if kNum k then (zbB k w,0) else (0,2)):=by
 have hs:=zBL w;have hc:=zgF k h;unfold zgc;by_cases h1:k=1\/k=8
 ·have e:(if (k==1)=true then some (k==1) else some (k==8))=some true:=by rcases h1 with rfl| rfl<;>rfl
  have hn:kNum k=true:=xN (by omega);rw [e,sb,itT rfl,zEr,sb,zEI (by omega),sb,hn];unfold zbB;rw [xu h1];rfl
 ·have e:(if (k==1)=true then some (k==1) else some (k==8))=some false:=by rw [up];simp;omega
  rw [e,sb,itF rfl];by_cases h2:k=3\/k=5\/k=9\/k=10\/k=11
  ·have e2:(if (k==3)=true then some (k==3) else if (k==5)=true then some (k==5) else if (k==9)=true then some (k==9) else if (k==10)=true then some (k==10) else some (k==11))=some true:=by
    rcases h2 with rfl| rfl| rfl| rfl| rfl<;>rfl
   have hn:kNum k=true:=xN (by omega);have hw:u64.wrap (w%4294967296)=w%4294967296:=by rw [wrap_u64];omega
   rw [e2,sb,itT rfl,zzP,sb,hn,hw];unfold zbB;rw [xt h1,xu h2];rfl
  ·have e2:(if (k==3)=true then some (k==3) else if (k==5)=true then some (k==5) else if (k==9)=true then some (k==9) else if (k==10)=true then some (k==10) else some (k==11))=some false:=by
    rw [up,up,up,up];simp;omega
   rw [e2,sb,itF rfl];by_cases h7:k=7
   ·have hn:kNum k=true:=xN (by omega);rw [itT (by simpa using h7),hn];unfold zmp zbB;rw [sb,xt h1,xt h2,xu h7];by_cases h0:0<w
    ·rw [xu h0];by_cases h10:1<w
     ·rw [xu h10];rfl
     ·rw [xt h10,show w=1 by omega];rfl
    ·rw [xt h0,xt (by omega),show w=0 by omega];rfl
   ·rw [itF (by simpa using h7)];by_cases hn:kNum k=true
    ·have hk:=yr hn;have e3:(if (k==2)=true then some (k==2) else if (k==4)=true then some (k==4) else if (k==6)=true then some (k==6) else if (k==12)=true then some (k==12) else if (k==13)=true then some (k==13) else some (k==14))=some true:=by
      have:k=2\/k=4\/k=6\/k=12\/k=13\/k=14:=by omega
      rcases this with rfl| rfl| rfl| rfl| rfl| rfl<;>rfl
     rw [e3,sb,itT rfl,hn];unfold zbB;rw [xt h1,xt h2,xt h7];rfl
    ·have hn:kNum k=false:=by simpa using hn
     have hk:=p4 hn;have e3:(if (k==2)=true then some (k==2) else if (k==4)=true then some (k==4) else if (k==6)=true then some (k==6) else if (k==12)=true then some (k==12) else if (k==13)=true then some (k==13) else some (k==14))=some false:=by
      rw [up,up,up,up,up];simp;omega
     rw [e3,sb,itF rfl,hn];rfl
end Go.Proofs.YtkgohoggipdokaaGreat

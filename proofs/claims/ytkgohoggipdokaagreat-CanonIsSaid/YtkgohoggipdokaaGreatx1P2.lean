/-
  What the plain functions are. No condition.
-/
import Derived.Test.YtkgohoggipdokaaGreatx1P1
import Derived.Test.YtkgohoggipdokaaGreatx1S1
import Derived.Test.YtkgohoggipdokaaGreatx1K3
import Derived.Test.YtkgohoggipdokaaGreatx1K1
set_option autoImplicit true
set_option relaxedAutoImplicit true
namespace Go.Proofs.YtkgohoggipdokaaGreat
open Go.IntKind (i64 u32 u64)
open Go
set_option linter.unusedVariables false
theorem zAH (hg:∀v u,g v=some u->u.Number=v.Number):∀{l:List Vlu},zhd l->zhd (l.filterMap g)
 | [],_=> .nil
 | v::l,h=>by
  obtain ⟨h1,h2⟩:=yB.1 h;have ih:=zAH hg h2;cases e:g v with
  | none=>rw [List.filterMap_cons_none e];exact ih
  | some u=>
   rw [List.filterMap_cons_some e];refine yB.2 ⟨fun w hw=>?_,ih⟩;obtain ⟨w',hw',e'⟩:=List.mem_filterMap.1 hw;rw [hg _ _ e,hg _ _ e'];exact h1 w' hw'
def goB (m:Mes) (w:List zen) (v:Vlu):Bool:= !zpG w v.Number&&decide (zoe w v.Number≠[])&&decide ((zE m (fldI m v.Number)).Kind=17)&& !(zE m (fldI m v.Number)).Repeated
theorem zBB :goB m w v=true↔zpG w v.Number=false/\zoe w v.Number≠[]/\(zE m (fldI m v.Number)).Kind=17/\(zE m (fldI m v.Number)).Repeated=false:=by
 unfold goB;simp only [xB,yh,xZ,and_assoc]
def inV (s:List Mes) (m:Mes) (w:List zen) (keep:Bool) (v:Vlu):Vlu:=⟨v.Number,[],[],zqY s v.Subs (zE m (fldI m v.Number)).Of (zoe w v.Number) keep⟩
def zyh (s:List Mes) (m:Mes) (w:List zen) (keep:Bool) (v:Vlu):Option Vlu:=if goB m w v=true then some (inV s m w keep v) else if zpG w v.Number=keep then some v else none
theorem zAx (v u:Vlu) (h:zyh s m w keep v=some u):u.Number=v.Number:=by
 unfold zyh at h;split at h
 ·cases h;rfl
 ·split at h
  ·cases h;rfl
  ·cases h
theorem zAy (s:List Mes) (m:Mes) (w:List zen) (keep:Bool):∀l:List Vlu,zjI s l m w keep=l.filterMap (zyh s m w keep)
 | []=>by rw [zjI];rfl
 | v::l=>by
  rw [zjI,zAy s m w keep l,ztS];by_cases hg:goB m w v=true
  ·rw [xy (zBB.1 hg),List.filterMap_cons_some (b:=inV s m w keep v) (by unfold zyh;rw [xy hg])];rfl
  ·rw [xx (fun h=>hg (zBB.2 h))];by_cases hk:zpG w v.Number=keep
   ·rw [xy hk,List.filterMap_cons_some (b:=v) (by unfold zyh;rw [xx hg,xy hk])];rfl
   ·rw [xx hk,List.filterMap_cons_none (by unfold zyh;rw [xx hg,xx hk])];rfl
theorem zLs (hg:goB m w v=true) (hf:zjT s v (zE m (fldI m v.Number))):∃y,v=⟨v.Number,[],[],[y]⟩/\zaP s y (zE m (fldI m v.Number)).Of=true/\∀keep,inV s m w keep v=⟨v.Number,[],[],[ztR s y (zE m (fldI m v.Number)).Of (zoe w v.Number) keep]⟩:=by
 obtain ⟨_,_,h3,h4⟩:=zBB.1 hg;obtain ⟨y,e,hy⟩:=hf.msg h3 h4;have hs:v.Subs=[y]:=by rw [e]
 refine ⟨y,e,hy,fun keep=>?_⟩;unfold inV;rw [hs,zqY]
theorem zJg (hf:zjT s ⟨n,[],[],[y]⟩ f) (hz:zaP s z f.Of=true):zjT s ⟨k,[],[],[z]⟩ f:=
 ⟨by simp [zcs],(fun _=>by simp [zcs]),hf.kind,(fun w hw=>nomatch hw),(fun w hw=>nomatch hw),fun w hw=>by rw [yf.1 hw];exact ⟨(hf.subs y xz).1,hz⟩⟩
theorem zNY (hv:v∈x.Values) (e:v=⟨v.Number,[],[],[y]⟩):szM y<szM x:=by
 have s1:=zfX hv;rw [zgK] at s1;have hs:v.Subs=[y]:=by rw [e]
 have s2:szM y<=szMs v.Subs:=zfW (by rw [hs];exact xz);rw [zdO x];omega
theorem zvR :∀(N:Nat) (x:Msg) (k:Int) (w:List zen) (keep:Bool),szM x<=N->zaP s x k=true->zaP s (ztR s x k w keep) k=true
 | 0,x,k,w,keep,h,_=>by rw [zdO] at h;omega
 | N+1,x,k,w,keep,ko,hx=>by
  obtain ⟨k0,k1,rx,hx',ux⟩:=zdI hx;rw [zyg,zAy];refine zAG k0 k1 (zAH zAx rx) (fun v hv=>?_) fun u hu=>?_
  ·obtain ⟨v0,hv0,e⟩:=List.mem_filterMap.1 hv;obtain ⟨w0,wf⟩:=hx' v0 hv0;have hn:=zAx _ _ e;unfold zyh at e;by_cases hg:goB (zK s k) w v0=true
   ·rw [xy hg] at e;have hf:=zgg wf;obtain ⟨y,e1,hy,hin⟩:=zLs hg hf;rw [hin] at e;have hsy:=zNY hv0 e1;rw [hn];refine ⟨w0,zGl ?_⟩;rw [<-qk e];rw [e1] at hf;exact zJg hf (zvR N y _ _ _ (by omega) hy)
   ·rw [xx hg] at e;by_cases hk:zpG w v0.Number=keep
    ·rw [xy hk] at e;rw [<-qk e];exact ⟨w0,wf⟩
    ·rw [xx hk] at e;cases e
  ·cases keep with
   | true=>exact absurd hu (by simp)
   | false=>exact ux u hu
theorem zxK (s:List Mes) (a:Msg) (m:Mes):∀(l acc:List Vlu),(zkn s l a m acc).length<=acc.length+l.length
 | [],acc=>by rw [zkn];simp
 | v::l,acc=>by
  rw [zkn];have h1:=zxK s a m l (putM ⟨acc,[]⟩ (zjE s v (look a.Values v.Number) (zE m (fldI m v.Number)))).Values;have h2:=zKa acc [] (zjE s v (look a.Values v.Number) (zE m (fldI m v.Number)));simp only [xR];omega
theorem zGz :∀(N:Nat) (b a:Msg) (k:Int),szM b<=N->zaP s a k=true->zaP s b k=true->bdM a->bdM b->smM a->smM b->bdM (zpJ s b a k)
 | 0,b,a,k,h,_,_,_,_,_,_=>by rw [zdO] at h;omega
 | N+1,b,a,k,ko,ha,hb,ba,bb,sa,sb'=>by
  obtain ⟨_,_,ra,ha',_⟩:=zdI ha;obtain ⟨_,_,rb,hb',_⟩:=zdI hb;obtain ⟨j1,j2⟩:=zAp ha hb;obtain ⟨a1,⟨a2,a3⟩,a4⟩:=(zke a).1 ba;obtain ⟨b1,⟨b2,b3⟩,b4⟩:=(zke b).1 bb;obtain ⟨sa1,⟨sa2,sa3⟩,sa4⟩:=(zyE a).1 sa;obtain ⟨sb1,⟨sb2,sb3⟩,sb4⟩:=(zyE b).1 sb';rw [zdO] at ko;have ke:(zpJ s b a k).Values.length<=a.Values.length+b.Values.length:=by rw [zqK];exact zxK s a _ _ _
  have hun:(zpJ s b a k).Unknown=a.Unknown++b.Unknown:=by rw [zqK]
  refine (zke _).2 ⟨by omega,⟨by rw [hun];simp;omega,fun t ht=>by
   rw [hun] at ht;rcases xG.1 ht with h| h
   ·exact a3 t h
   ·exact b3 t h⟩,zfG.2 fun x hx=>?_⟩
  have hl:=zDy j1 hx;rw [j2] at hl;cases hlb:look b.Values x.Number with
  | none=>rw [hlb] at hl;exact zfG.1 a4 x (zjd hl).2
  | some v=>
   rw [hlb] at hl;have e:x=zjE s v (look a.Values x.Number) (zE (zK s k) (fldI (zK s k) x.Number)):=(qk hl).symm;obtain ⟨hvn,hvm⟩:=zjd hlb;have bv:=zfG.1 b4 v hvm;have sv:=zoK.1 sb4 v hvm;rw [e,zqL];cases hla:look a.Values x.Number with
   | none=>exact bv
   | some u=>
    obtain ⟨hun',hum⟩:=zjd hla;have bu:=zfG.1 a4 u hum;have su:=zoK.1 sa4 u hum;obtain ⟨v1,⟨v2,v3⟩,⟨v4,v5⟩,v6,v7⟩:=(ziR v).1 bv;obtain ⟨u1,⟨u2,u3⟩,⟨u4,u5⟩,u6,u7⟩:=(ziR u).1 bu;obtain ⟨q1,⟨q2,q3⟩,q4,q5⟩:=(zyF v).1 sv;obtain ⟨r1,⟨r2,r3⟩,r4,r5⟩:=(zyF u).1 su;simp only;split
    ·refine (ziR _).2 ⟨v1,⟨by simp;omega,fun w hw=>?_⟩,⟨by simp;omega,fun w hw=>?_⟩,by simp;omega,zfF.2 fun w hw=>?_⟩
     ·rcases xG.1 hw with h| h
      ·exact u3 w h
      ·exact v3 w h
     ·rcases xG.1 hw with h| h
      ·exact u5 w h
      ·exact v5 w h
     ·rcases xG.1 hw with h| h
      ·exact zfF.1 u7 w h
      ·exact zfF.1 v7 w h
    ·split
     ·rename_i hrep kh;have fv:=hb' v hvm;have fu:=ha' u hum;rw [hvn] at fv;rw [hun'] at fu;have ov:=zgg fv.2;have ou:=zgg fu.2;refine (ziR _).2 ⟨v1,⟨by simp,by simp⟩,⟨by simp,by simp⟩,?_⟩;cases hvs:v.Subs with
      | nil=>rw [znX];exact ⟨by simp,by rw [bdMs];trivial⟩
      | cons y ys=>
       cases hus:u.Subs with
       | nil=>rw [znX];exact ⟨by simp,by rw [bdMs];trivial⟩
       | cons z zs=>
        rw [znX];simp only;have hy:y∈v.Subs:=by rw [hvs];exact xz
        have hz:z∈u.Subs:=by rw [hus];exact xz
        have hsv:=zfX hvm;rw [zgK] at hsv;have hsy:=zfW hy;have hj:=zGz N y z _ (by omega) (ou.subs z hz).2 (ov.subs y hy).2 (zfF.1 u7 z hz) (zfF.1 v7 y hy) (zoJ.1 r5 z hz) (zoJ.1 q5 y hy);exact ⟨by simp,by rw [bdMs,bdMs];exact ⟨hj,trivial⟩⟩
     ·exact bv
theorem zvZ:∀(l m:List Vlu),szVs (l++m)=szVs l+szVs m
 | [],m=>by rw [yb,szVs];omega
 | v::l,m=>by rw [yv,szVs,szVs,zvZ l m];omega
theorem zGY :∀(N:Nat) (x:Msg) (k:Int) (w:List zen) (keep:Bool),szM x<=N->bdM x->bdM (ztR s x k w keep)/\szM (ztR s x k w keep)<=szM x
 | 0,x,k,w,keep,h,_=>by rw [zdO] at h;omega
 | N+1,x,k,w,keep,ko,hb=>by
  obtain ⟨b1,⟨b2,b3⟩,b4⟩:=(zke x).1 hb;rw [zdO] at ko;have key:∀v∈x.Values,∀f:Fld,(∀u∈zyi s v f w keep,bdV u)/\szVs (zyi s v f w keep)<=szV v:=fun v hv f=>by
   have bv:=zfG.1 b4 v hv;obtain ⟨v1,v2,v3,v6,v7⟩:=(ziR v).1 bv;have hsv:=zfX hv;have hve:=zgK v;rw [ztS];split
   ·cases hs:v.Subs with
    | nil=>
     rw [zqY];refine ⟨fun u hu=>?_,?_⟩
     ·rw [yf.1 hu];exact (ziR _).2 ⟨v1,⟨by simp,by simp⟩,⟨by simp,by simp⟩,by simp,by rw [bdMs];trivial⟩
     ·rw [szVs,szVs,zgK];simp only;rw [szMs];omega
    | cons y ys=>
     have hy:y∈v.Subs:=by rw [hs];exact xz
     have hsy:=zfW hy;obtain ⟨p1,p2⟩:=zGY N y f.Of (zoe w v.Number) keep (by omega) (zfF.1 v7 y hy);rw [zqY];refine ⟨fun u hu=>?_,?_⟩
     ·rw [yf.1 hu];exact (ziR _).2 ⟨v1,⟨by simp,by simp⟩,⟨by simp,by simp⟩,by simp,by rw [bdMs,bdMs];exact ⟨p1,trivial⟩⟩
     ·rw [szVs,szVs,zgK];simp only;rw [szMs,szMs];omega
   ·split
    ·refine ⟨(fun u hu=>by rw [yf.1 hu];exact bv),?_⟩;rw [szVs,szVs];omega
    ·exact ⟨(fun u hu=>by cases hu),(by rw [szVs];omega)⟩
  have all:∀l:List Vlu,(∀v∈l,v∈x.Values)->(∀u∈zjI s l (zK s k) w keep,bdV u)/\szVs (zjI s l (zK s k) w keep)<=szVs l/\(zjI s l (zK s k) w keep).length<=l.length:=by
   intro l
   induction l with
   | nil=>intro _;rw [zjI];exact ⟨(fun u hu=>by cases hu),xC _,xC _⟩
   | cons v l ih=>
    intro h;obtain ⟨i1,i2,i3⟩:=ih fun u hu=>h u (xA _ hu)
    obtain ⟨k1,k2⟩:=key v (h v xz) (zE (zK s k) (fldI (zK s k) v.Number));have k3:=zIa s v (zE (zK s k) (fldI (zK s k) v.Number)) w keep;rw [zjI];refine ⟨fun u hu=>?_,?_,?_⟩
    ·rcases xG.1 hu with hu| hu
     ·exact k1 u hu
     ·exact i1 u hu
    ·rw [zvZ,szVs];omega
    ·rw [xE,xR];omega
  obtain ⟨a1,a2,a3⟩:=all x.Values fun v hv=>hv
  rw [zyg];refine ⟨(zke _).2 ⟨by simp only;omega,⟨?_,?_⟩,zfG.2 a1⟩,by rw [zdO,zdO];simp only;omega⟩
  ·simp only;cases keep<;>simp<;>omega
  ·simp only;cases keep with
   | true=>intro t ht;cases ht
   | false=>exact b3
theorem zzc:∀(N:Nat) (x:Msg),szM x<=N->szM x<=wgM x
 | 0,x,h=>by rw [zdO] at h;omega
 | N+1,x,h=>by
  rw [zdO] at h;have hv:∀v∈x.Values,szV v<=wgV v:=fun v hv=>by
   have h1:=zfX hv;have he:=zgK v;have:∀l:List Msg,(∀y∈l,y∈v.Subs)->szMs l<=wgMs l:=by
    intro l
    induction l with
    | nil=>intro _;rw [szMs];omega
    | cons y l ih=>
     intro hl;have hy:=hl y xz;have h2:=zfW hy;have:=zzc N y (by omega);have:=ih fun z hz=>hl z (xA _ hz)
     rw [szMs,wgMs];omega
   have:=this v.Subs fun y hy=>hy
   rw [he,ziX];omega
  have:∀l:List Vlu,(∀v∈l,v∈x.Values)->szVs l<=wgVs l:=by
   intro l
   induction l with
   | nil=>intro _;rw [szVs];omega
   | cons v l ih=>
    intro hl;have:=hv v (hl v xz);have:=ih fun z hz=>hl z (xA _ hz)
    rw [szVs,wgVs];omega
  have:=this x.Values fun v hv=>hv
  rw [zdO,zjR];omega
theorem zKV:∀(N:Nat) (x:Msg),szM x<=N->wgM x<=1048576->smM x
 | 0,x,h,_=>by rw [zdO] at h;omega
 | N+1,x,h,hw=>by
  rw [zdO] at h;rw [zjR] at hw;have hl:=zEx x.Values;have hu:=zwT (l:=x.Unknown);refine (zyE _).2 ⟨by omega,⟨by omega,fun t ht=>by have:=zpD ht;omega⟩,zoK.2 fun v hv=>?_⟩;have h1:=zfX hv;have h2:=zrA hv;rw [zgK] at h1;rw [ziX] at h2;have ht:=zwT (l:=v.Texts);have hs:=zzb v.Subs;refine (zyF _).2 ⟨by omega,⟨by omega,fun t ht=>by have:=zpD ht;omega⟩,by omega,zoJ.2 fun y hy=>?_⟩;have h3:=zfW hy;have h4:=zln hy;exact zKV N y (by omega) (by omega)
theorem zuz:∀(l m:List Vlu),wgVs (l++m)=wgVs l+wgVs m
 | [],m=>by rw [yb,wgVs];omega
 | v::l,m=>by rw [yv,wgVs,wgVs,zuz l m];omega
theorem zEv:∀(l m:List Msg),wgMs (l++m)=wgMs l+wgMs m
 | [],m=>by rw [yb,wgMs];omega
 | v::l,m=>by rw [yv,wgMs,wgMs,zEv l m];omega
def wgO:Option Vlu->Nat
 | none=>0
 | some u=>wgV u
theorem zKc (v:Vlu):∀(d:Bool) (l:List Vlu),zhd l->wgVs (putL v d l)+wgO (look l v.Number)<=wgVs l+(if d=true then 0 else wgV v)
 | d,[],_=>by
  rw [putL];cases d
  ·show wgVs [v]+0<=_;simp [wgVs]
  ·show wgVs []+0<=_;simp
 | d,u::l,h=>by
  obtain ⟨h1,h2⟩:=yB.1 h;have ih:=zKc v (d|| decide (v.Number<=u.Number)) l h2;rw [putL,zuz,zuz,zhb,wgVs];by_cases he:u.Number=v.Number
  ·rw [xy he,xy he];have hn:look l v.Number=none:=zGN fun x hx=>by have:=h1 x hx;omega
   rw [hn] at ih;have hle:decide (v.Number<=u.Number)=true:=by simp;omega
   rw [hle,pk,xy rfl] at ih;simp only [wgO,wgVs,hle,pk] at ih|-;cases d
   ·rw [xy ⟨rfl,by omega⟩,wgVs,wgVs];simp;omega
   ·rw [xx (by simp),wgVs];simp;omega
  ·rw [xx he,xx he,wgVs,wgVs];cases d
   ·by_cases hv:v.Number<=u.Number
    ·rw [xy ⟨rfl,hv⟩,wgVs,wgVs];simp only [hv,decide_true,pk,yj,ql,yo] at ih|-;omega
    ·rw [xx (fun hh=>hv hh.2),wgVs];simp only [hv,decide_false,q8,ql,yo] at ih|-;omega
   ·rw [xx (by simp),wgVs];simp only [pO,yj] at ih|-;omega
theorem zAk :∀(l acc:List Vlu),zhd l->zhd acc->(∀v∈l,look acc v.Number=look a.Values v.Number)->(∀v∈l,wgV (zjE s v (look a.Values v.Number) (zE m (fldI m v.Number)))<=wgV v+wgO (look a.Values v.Number))->wgVs (zkn s l a m acc)<=wgVs acc+wgVs l
 | [],acc,_,_,_,_=>by rw [zkn];omega
 | v::l,acc,hl,ha,he,hw=>by
  obtain ⟨l1,l2⟩:=yB.1 hl;have hv:=he v xz;have hwv:=hw v xz;have hn:=zAj s v (look a.Values v.Number) (zE m (fldI m v.Number));rw [zkn]
  generalize zjE s v (look a.Values v.Number) (zE m (fldI m v.Number))=v' at hn hwv|-
  have hp:=zKc v' (decide (zcs v'=0)) acc ha;have ih:=zAk (s:=s) (a:=a) (m:=m) l (putM ⟨acc,[]⟩ v').Values l2 (zrc ha) (fun u hu=>by
   show look (putL v' _ acc) u.Number=_;have:=l1 u hu;rw [zxU ha,xx (by omega)];exact he u (xA _ hu)) (fun u hu=>hw u (xA _ hu))
  have hq:wgVs (putM ⟨acc,[]⟩ v').Values=wgVs (putL v' (decide (zcs v'=0)) acc):=rfl;rw [hn,hv] at hp;rw [wgVs];split at hp<;>omega
theorem zGA :∀(N:Nat) (b a:Msg) (k:Int),szM b<=N->zaP s a k=true->zaP s b k=true->wgM (zpJ s b a k)<=wgM a+wgM b
 | 0,b,a,k,h,_,_=>by rw [zdO] at h;omega
 | N+1,b,a,k,ko,ha,hb=>by
  obtain ⟨_,_,ra,ha',_⟩:=zdI ha;obtain ⟨_,_,rb,hb',_⟩:=zdI hb;rw [zdO] at ko;have:=zAk (s:=s) (a:=a) (m:=zK s k) b.Values a.Values rb ra (fun _ _=>rfl) fun v hv=>by
   rw [zqL];cases hla:look a.Values v.Number with
   | none=>simp only [wgO];omega
   | some u=>
    obtain ⟨hun,hum⟩:=zjd hla;have hve:=ziX v;have hue:=ziX u;simp only [wgO];split
    ·rw [ziX];simp only [xE,yV,List.sum_append,zEv];omega
    ·split
     ·rename_i hrep kh;have ov:=zgg (hb' v hv).2;have ou:=zgg (ha' u hum).2;rw [hun] at ou;have hsv:=zfX hv;rw [zgK] at hsv;rw [ziX];simp only [yR,qj,List.sum_nil];cases hvs:v.Subs with
      | nil=>rw [znX,wgMs];omega
      | cons y ys=>
       cases hus:u.Subs with
       | nil=>rw [znX,wgMs];omega
       | cons z zs=>
        rw [znX];have hy:y∈v.Subs:=by rw [hvs];exact xz
        have hz:z∈u.Subs:=by rw [hus];exact xz
        have hsy:=zfW hy;have hj:=zGA N y z _ (by omega) (ou.subs z hz).2 (ov.subs y hy).2;have w1:=zln hy;have w2:=zln hz;rw [wgMs,wgMs];omega
     ·omega
  rw [zqK,zjR,zjR,zjR];simp only [yV,List.sum_append];omega
theorem zGZ :∀(N:Nat) (x:Msg) (k:Int) (w:List zen) (keep:Bool),szM x<=N->wgM (ztR s x k w keep)<=wgM x
 | 0,x,k,w,keep,h=>by rw [zdO] at h;omega
 | N+1,x,k,w,keep,ko=>by
  rw [zdO] at ko;have key:∀v∈x.Values,∀f:Fld,wgVs (zyi s v f w keep)<=wgV v:=fun v hv f=>by
   have hsv:=zfX hv;rw [zgK] at hsv;have hve:=ziX v;rw [ztS];split
   ·cases hs:v.Subs with
    | nil=>
     rw [zqY,wgVs,wgVs,ziX];simp only [yR,qj,List.sum_nil];rw [wgMs];omega
    | cons y ys=>
     have hy:y∈v.Subs:=by rw [hs];exact xz
     have hsy:=zfW hy;have hwy:=zln hy;have:=zGZ (s:=s) N y f.Of (zoe w v.Number) keep (by omega);rw [zqY,wgVs,wgVs,ziX];simp only [yR,qj,List.sum_nil];rw [wgMs,wgMs];omega
   ·split
    ·rw [wgVs,wgVs];omega
    ·rw [wgVs];omega
  have all:∀l:List Vlu,(∀v∈l,v∈x.Values)->wgVs (zjI s l (zK s k) w keep)<=wgVs l:=by
   intro l
   induction l with
   | nil=>intro _;rw [zjI];exact xC _
   | cons v l ih=>
    intro h;have i2:=ih fun u hu=>h u (xA _ hu)
    have k2:=key v (h v xz) (zE (zK s k) (fldI (zK s k) v.Number));rw [zjI,zuz,wgVs];omega
  have:=all x.Values fun v hv=>hv
  rw [zyg,zjR,zjR];simp only;cases keep<;>simp<;>omega
theorem zFm (h:zsy s root l=0):zfE s/\0<=root/\root<s.length/\∀x∈l,zaP s x root=true:=by
 unfold zsy at h;by_cases h0:znH s root=0
 ·rw [xx (show ¬znH s root≠0 from fun hh=>hh h0)] at h;obtain ⟨h1,h2,h3⟩:=zCD h0;by_cases ha:l.all (fun x=>zaP s x root)=true
  ·exact ⟨h1,h2,h3,xM.1 ha⟩
  ·rw [xx ha] at h;cases h
 ·rw [xy h0] at h;exact absurd h h0
theorem zJM {s:List Mes} {root:Int} {l:List Msg} (h1:zhT s=true) (h2:0<=root/\root<s.length) (h:∀x∈l,zaP s x root=true):zsy s root l=0:=by
 have h0:znH s root=0:=by unfold znH;rw [h1,xx (by simp),xx (by omega)]
 unfold zsy;rw [xx (show ¬znH s root≠0 from fun hh=>hh h0),xy (xM.2 h)]
structure Gd (s:List Mes) (root:Int) (n:Nat) (x:Msg):Prop where
 r:zaP s x root=true
 b:bdM x
 w:wgM x<=n
theorem Gd.s {s:List Mes} {root:Int} {n:Nat} {x:Msg} (h:Gd s root n x) (hn:n<=1048576):smM x:=zKV _ x (xC _) (yC h.w hn)
theorem Gd.z {s:List Mes} {root:Int} {n fuel:Nat} {x:Msg} (h:Gd s root n x) (hn:n<fuel):szM x<fuel:=Nat.lt_of_le_of_lt (yC (zzc _ x (xC _)) h.w) hn
theorem Gd.join {s:List Mes} {root:Int} {n m:Nat} {a b:Msg} (ha:Gd s root n a) (hb:Gd s root m b) (hn:n<=1048576) (hm:m<=1048576):Gd s root (n+m) (zpJ s b a root):=
 ⟨zvK _ b a root (xC _) ha.r hb.r,zGz _ b a root (xC _) ha.r hb.r ha.b hb.b (ha.s hn) (hb.s hm),yC (zGA _ b a root (xC _) ha.r hb.r) (Nat.add_le_add ha.w hb.w)⟩
theorem Gd.part {s:List Mes} {root:Int} {n:Nat} {a:Msg} (ha:Gd s root n a) (w:List zen) (keep:Bool):Gd s root n (ztR s a root w keep):=
 ⟨zvR _ a root w keep (xC _) ha.r,(zGY _ a root w keep (xC _) ha.b).1,yC (zGZ _ a root w keep (xC _)) ha.w⟩
def zvn (s:List Mes) (root:Int) (b:List UInt8) (d:Int):Msg×Int:=if (zfZ s root b d).2≠0 then (⟨[],[]⟩,(zfZ s root b d).2) else (ofM s root b,0)
theorem zBo (h:(zfZ s root b d).2=0):argS s root d=0:=by
 unfold zfZ at h;by_cases h0:argS s root d=0
 ·exact h0
 ·rw [xy h0] at h;exact h
theorem zMD:∀n:Nat,(∀x:Msg,szM x<=n->dM x<szM x)/\(∀l:List Msg,szMs l<=n->dMs l<=szMs l)/\(∀v:Vlu,szV v<=n->dV v<szV v)/\∀l:List Vlu,szVs l<=n->dVs l<=szVs l
 | 0=>⟨fun x h=>by rw [zdO] at h;omega,fun l h=>by
   cases l with
   | nil=>simp [dMs]
   | cons x l=>rw [szMs,zdO] at h;omega,fun v h=>by rw [zgK] at h;omega,fun l h=>by
   cases l with
   | nil=>simp [dVs]
   | cons x l=>rw [szVs,zgK] at h;omega⟩
 | n+1=>by
  obtain ⟨i1,i2,i3,i4⟩:=zMD n;have h2:∀l:List Msg,szMs l<=n->dMs l<=szMs l:=i2;have h4:∀l:List Vlu,szVs l<=n->dVs l<=szVs l:=i4;have k1:∀x:Msg,szM x<=n+1->dM x<szM x:=fun x h=>by rw [zdO] at h|-;rw [zJa];have:=h4 x.Values (by omega);omega
  have k3:∀v:Vlu,szV v<=n+1->dV v<szV v:=fun v h=>by rw [zgK] at h|-;rw [zGh];have:=h2 v.Subs (by omega);omega
  refine ⟨k1,fun l=>?_,k3,fun l=>?_⟩
  ·induction l with
   | nil=>intro _;simp [dMs]
   | cons x l ih=>intro h;rw [szMs] at h|-;rw [dMs];have:=ih (by omega);have:=k1 x (by omega);omega
  ·induction l with
   | nil=>intro _;simp [dVs]
   | cons x l ih=>intro h;rw [szVs] at h|-;rw [dVs];have:=ih (by omega);have:=k3 x (by omega);omega
theorem zGf (x:Msg):dM x<szM x:=(zMD (szM x)).1 x (xC _)
theorem zHk:∀(fuel:Nat) (x:Msg) (km:Nat),szM x<fuel->bdM x->dM x<=km->km<=1048576->zgM fuel x km=some ((dM x:Nat):Int)
 | 0,x,_,h,_,_,_=>by omega
 | fuel+1,x,km,hs,hb,hd,hm=>by
  obtain ⟨b1,_,b4⟩:=(zke x).1 hb;rw [zdO] at hs;rw [zJa] at hd|-;show zjO (zgM fuel) x km=_;unfold zjO;have inner:∀(v:Vlu),v∈x.Values->∀(c i d:Nat),i+c=v.Subs.length->d<=km->zhM km (zgM fuel) v d i=some (.inl ((max d (dMs (v.Subs.drop i)):Nat):Int)):=by
   intro v hv c;have ko:=zfX hv;have hdv:=zBu hv;obtain ⟨_,_,_,c1,c2⟩:=(ziR _).1 (zfG.1 b4 _ hv);rw [zgK] at ko;rw [zGh] at hdv
   induction c with
   | zero=>
    intro i d hi hdm;have e:v.Subs.drop i=[]:=yq (by omega);rw [e,dMs];refine zum ?_;unfold zeF;rw [uQ,Nat.max_zero]
   | succ c ih=>
    intro i d hi hdm;have hil:i<v.Subs.length:=by omega
    have hm2:=xF hil;have s2:=zfW hm2;have d2:=zGg hm2;rw [yk hil,dMs];have hr:=zHk fuel v.Subs[i] (km - 1) (by omega) (zfF.1 c2 _ hm2) (by omega) (by omega);have hmost:i64.wrap ((km:Int) - 1)=((km - 1:Nat):Int):=by rw [uR];omega
    have hw:i64.wrap (1+((dM v.Subs[i]:Nat):Int))=1+((dM v.Subs[i]:Nat):Int):=by rw [uR]
    have hmax:(if (d:Int)<1+((dM v.Subs[i]:Nat):Int) then 1+((dM v.Subs[i]:Nat):Int) else (d:Int))=((max d (1+dM v.Subs[i]):Nat):Int):=by
     split<;>omega
    refine (zul (deep3':=((max d (1+dM v.Subs[i]):Nat):Int)) (v3':=((i+1:Nat):Int)) ?_).trans ?_
    ·unfold zeF;rw [uP,zR rfl hil,sb,uQ,hmost,hr,sb,hw,hmax,uQ,uR];push_cast;rfl
    ·rw [ih (i+1) (max d (1+dM v.Subs[i])) (by omega) (by omega)];congr 3;omega
  have outer:∀(c i d:Nat),i+c=x.Values.length->d<=km->zhL km (zgM fuel) x d i=some (.inl ((max d (dVs (x.Values.drop i)):Nat):Int)):=by
   intro c
   induction c with
   | zero=>
    intro i d hi hdm;have e:x.Values.drop i=[]:=yq (by omega);rw [e,dVs];refine zuk ?_;unfold zeE;rw [uQ,Nat.max_zero]
   | succ c ih=>
    intro i d hi hdm;have hil:i<x.Values.length:=by omega
    have hmem:=xF hil;have hdv:=zBu hmem;rw [yk hil,dVs];have h2:=inner x.Values[i] hmem (x.Values[i]).Subs.length 0 d (xQ _) hdm;rw [xN,<-zGh] at h2;have h2':zhM km (zgM fuel) x.Values[i] d 0=_:=h2;refine (zuj (deep':=((max d (dV x.Values[i]):Nat):Int)) (v':=((i+1:Nat):Int)) ?_).trans ?_
    ·unfold zeE;rw [uP,zR rfl hil,sb,h2',sb,uR];push_cast;rfl
    ·rw [ih (i+1) (max d (dV x.Values[i])) (by omega) (by omega)];congr 3;omega
  have h:=outer x.Values.length 0 0 (xQ _) (xI _);have h':zhL km (zgM fuel) x 0 0=_:=h;rw [h',sb,xN,Nat.zero_max]
theorem zAP (hf:szM x<fuel) (hb:bdM x) (hd:dM x<=131072):zky fuel x=some ((dM x:Nat):Int):=by
 unfold zky;have h:=zHk fuel x 131072 hf hb hd (by omega);have h':zgM fuel x 131072=_:=h;rw [h',sb]
theorem zEj (hf:szM x<fuel) (hb:bdM x) (hd:dM x<=131072):zma fuel x=some true:=by
 unfold zma;rw [zAP hf hb hd,sb];congr 1;simp;omega
theorem zHD (ha:a.length<=1152921504606846976):zeP a b=some (decide (a=b)):=by
 unfold zeP;by_cases hl:a.length=b.length
 ·rw [itF (by simp [hl])];have h:=zpB a b (fun i=>zaY a b i) hl (by
    refine zfj ?_;unfold zax;rw [uO])
   (fun i hi hi'=>by
    by_cases hp:a[i]=b[i]
    ·rw [xy hp];refine ziG ?_;unfold zax;rw [uP,zR rfl hi,sb,zR rfl hi',sb,itF (by simp [hp]),uR];push_cast;rfl
    ·rw [xx hp];refine zfj ?_;unfold zax;rw [uP,zR rfl hi,sb,zR rfl hi',sb,itT (by simp [hp])])
   a.length 0 (by omega)
  have h':zaY a b 0=_:=h;rw [h',sb];simp only [xN];by_cases e:a=b
  ·rw [xy e];simp [e]
  ·rw [xx e];simp [e]
 ·rw [uP];have:a≠b:=fun e=>hl (by rw [e])
  simp [this]
theorem zzU (ha:a.length<=1152921504606846976):zdd a b=some (decide (a=b)):=by
 unfold zdd;by_cases hl:a.length=b.length
 ·rw [itF (by simp [hl])];have h:=zpB a b (fun i=>zaX a b i) hl (by
    refine zfi ?_;unfold zaw;rw [uO])
   (fun i hi hi'=>by
    by_cases hp:a[i]=b[i]
    ·rw [xy hp];refine ziF ?_;unfold zaw;rw [uP,zR rfl hi,sb,zR rfl hi',sb,itF (by simp [hp]),uR];push_cast;rfl
    ·rw [xx hp];refine zfi ?_;unfold zaw;rw [uP,zR rfl hi,sb,zR rfl hi',sb,itT (by simp [hp])])
   a.length 0 (by omega)
  have h':zaX a b 0=_:=h;rw [h',sb];simp only [xN];by_cases e:a=b
  ·rw [xy e];simp [e]
  ·rw [xx e];simp [e]
 ·rw [uP];have:a≠b:=fun e=>hl (by rw [e])
  simp [this]
section
open Classical
theorem zfa {α:Type} {x y:α} (h:x≠y):zpN x y=false:=by
 cases hq:zpN x y with
 | false=>rfl
 | true=>exact absurd (ziq.1 hq) h
theorem zHl:∀(fuel:Nat),(∀x y:Msg,2*szM x<fuel->bdM x->ziu fuel x y=some (zpN x y))/\(∀v u:Vlu,2*szV v<fuel->bdV v->zeR fuel v u=some (zpN v u))/\
  (∀a b:List Vlu,2*szVs a+1<fuel->a.length<=1152921504606846976->bdVs a->zQ fuel a b=some (zpN a b))/\
  ∀a b:List Msg,2*szMs a+1<fuel->a.length<=1152921504606846976->bdMs a->zY fuel a b=some (zpN a b)
 | 0=>⟨fun x y h=>by omega,fun v u h=>by omega,fun a b h=>by omega,fun a b h=>by omega⟩
 | fuel+1=>by
  obtain ⟨ih1,ih2,ih3,ih4⟩:=zHl fuel;refine ⟨fun x y hs hb=>?_,fun v u hs hb=>?_,fun a b hs hl hb=>?_,fun a b hs hl hb=>?_⟩
  ·obtain ⟨b1,⟨b2,b3⟩,b4⟩:=(zke x).1 hb;rw [zdO] at hs;show zrv (ziu fuel) (zeR fuel) (zQ fuel) (zY fuel) x y=_;unfold zrv;rw [ih3 x.Values y.Values (by omega) (by omega) b4,sb];by_cases e1:x.Values=y.Values
   ·rw [ziq.2 e1,uM,zzU (by omega),sb,sb];by_cases e2:x.Unknown=y.Unknown
    ·rw [xO e2,ziq.2 (by cases x;cases y;simp only at e1 e2;rw [e1,e2])]
    ·rw [xV e2,zfa fun e=>e2 (by rw [e])]
   ·rw [zfa e1,uN,sb,zfa fun e=>e1 (by rw [e])]
  ·obtain ⟨b0,⟨b1,_⟩,⟨b2,b3⟩,b4,b5⟩:=(ziR v).1 hb;rw [zgK] at hs;show zkA (ziu fuel) (zeR fuel) (zQ fuel) (zY fuel) v u=_;unfold zkA;by_cases e0:v.Number=u.Number
   ·rw [itT (by simp [e0]),zHD (by omega),sb];by_cases e1:v.Words=u.Words
    ·rw [itT (by simp [e1]),zzU (by omega),sb];by_cases e2:v.Texts=u.Texts
     ·rw [itT (by simp [e2]),ih4 v.Subs u.Subs (by omega) (by omega) b5,sb,sb];by_cases e3:v.Subs=u.Subs
      ·rw [ziq.2 e3,ziq.2 (by cases v;cases u;simp only at e0 e1 e2 e3;rw [e0,e1,e2,e3])]
      ·rw [zfa e3,zfa fun e=>e3 (by rw [e])]
     ·rw [itF (by simp [e2]),sb,zfa fun e=>e2 (by rw [e])]
    ·rw [itF (by simp [e1]),sb,zfa fun e=>e1 (by rw [e])]
   ·rw [itF (by simp [e0]),sb,zfa fun e=>e0 (by rw [e])]
  ·show zah (ziu fuel) (zeR fuel) (zQ fuel) (zY fuel) a b=_;unfold zah;by_cases hll:a.length=b.length
   ·rw [itF (by simp [hll])];have hv:∀(i:Nat) (hi:i<a.length) (hi':i<b.length),zeR fuel a[i] b[i]=some (zpN a[i] b[i]):=fun i hi hi'=>by
     have hm:=xF hi;have:=zfX hm;exact ih2 _ _ (by omega) (zfG.1 hb _ hm)
    have h:=zpB a b (fun i=>zD (zeR fuel) a b i) hll (by
      refine zaC ?_;unfold zv;rw [uO])
     (fun i hi hi'=>by
      by_cases hp:a[i]=b[i]
      ·rw [xy hp];refine zbU ?_;unfold zv;rw [uP,zR rfl hi,sb,zR rfl hi',sb,hv i hi hi',sb,itF (by rw [ziq.2 hp];rfl),uR];push_cast;rfl
      ·rw [xx hp];refine zaC ?_;unfold zv;rw [uP,zR rfl hi,sb,zR rfl hi',sb,hv i hi hi',sb,itT (by rw [zfa hp];rfl)])
     a.length 0 (by omega)
    have h':zD (zeR fuel) a b 0=_:=h;rw [h',sb];simp only [xN];by_cases e:a=b
    ·rw [xy e,ziq.2 e]
    ·rw [xx e,zfa e]
   ·rw [uP,zfa fun e=>hll (by rw [e])]
  ·show zat (ziu fuel) (zeR fuel) (zQ fuel) (zY fuel) a b=_;unfold zat;by_cases hll:a.length=b.length
   ·rw [itF (by simp [hll])];have hv:∀(i:Nat) (hi:i<a.length) (hi':i<b.length),ziu fuel a[i] b[i]=some (zpN a[i] b[i]):=fun i hi hi'=>by
     have hm:=xF hi;have:=zfW hm;exact ih1 _ _ (by omega) (zfF.1 hb _ hm)
    have h:=zpB a b (fun i=>zN (ziu fuel) a b i) hll (by
      refine zaQ ?_;unfold zB;rw [uO])
     (fun i hi hi'=>by
      by_cases hp:a[i]=b[i]
      ·rw [xy hp];refine zcB ?_;unfold zB;rw [uP,zR rfl hi,sb,zR rfl hi',sb,hv i hi hi',sb,itF (by rw [ziq.2 hp];rfl),uR];push_cast;rfl
      ·rw [xx hp];refine zaQ ?_;unfold zB;rw [uP,zR rfl hi,sb,zR rfl hi',sb,hv i hi hi',sb,itT (by rw [zfa hp];rfl)])
     a.length 0 (by omega)
    have h':zN (ziu fuel) a b 0=_:=h;rw [h',sb];simp only [xN];by_cases e:a=b
    ·rw [xy e,ziq.2 e]
    ·rw [xx e,zfa e]
   ·rw [uP,zfa fun e=>hll (by rw [e])]
end
theorem zKM (y:Msg) (hf:2*szM x<fuel) (hb:bdM x) (hd:dM x<=131072):zvo fuel x y=some (zpN x y):=by
 unfold zvo;rw [zEj (by omega) hb hd,sb,uM,(zHl fuel).1 x y hf hb,sb,sb]
theorem zLQ:∀a<256,zuu ((a:Nat):Int)=some (if a<128 then (1,(a:Int)) else if a/32=6 then (2,((a%32:Nat):Int)) else if a/16=14 then (3,((a%16:Nat):Int)) else if a/8=30 then (4,((a%8:Nat):Int)) else (0,0)):=by decide+kernel
theorem zCj (w k:Nat) (h:k<=32):shrI .u32 (w:Int) (k:Int)=((w/2^k:Nat):Int):=zuf (k:= .u32) (a:=w) (b:=k) (by simpa [IntKind.bits] using h)
theorem zwH (w:Nat):zoP (w:Int)=some (if w<128 then 1 else if w<2048 then 2 else if 55296<=w/\w<=57343 then 0 else if w<65536 then 3 else if w<=1114111 then 4 else 0):=by
 unfold zoP;have e7:shrI .u32 (w:Int) 7=((w/128:Nat):Int):=zCj w 7 (by omega);have e11:shrI .u32 (w:Int) 11=((w/2048:Nat):Int):=zCj w 11 (by omega);have e16:shrI .u32 (w:Int) 16=((w/65536:Nat):Int):=zCj w 16 (by omega);rw [e7,e11,e16];by_cases h1:w<128
 ·rw [uP,xy h1]
 ·rw [uQ,xx h1];by_cases h2:w<2048
  ·rw [uP,xy h2]
  ·rw [uQ,xx h2];by_cases h3:55296<=w/\w<=57343
   ·rw [uP,xy h3]
   ·rw [uQ,xx h3];by_cases h4:w<65536
    ·rw [uP,xy h4]
    ·rw [uQ,xx h4];by_cases h5:w<=1114111
     ·rw [uP,xy h5]
     ·rw [uQ,xx h5]
theorem zHQ:∀c<256,shrI .u8 ((c:Nat):Int) 6=((c/64:Nat):Int)/\u32.wrap (andI .u8 ((c:Nat):Int) 63)=((c%64:Nat):Int):=by decide+kernel
theorem zlU {v:List UInt8} {w i:Nat} (h:i<v.length) (hv:v.length<=1000) (hw:w<=1000000):
  zde v w i=if cont v[i] then zde v ((64*w+v[i].toNat%64:Nat):Int) ((i+1:Nat):Int) else some (.inr ()):=by
 have hc:=v[i].toNat_lt;obtain ⟨e1,e2⟩:=zHQ v[i].toNat (by omega);have hb:zfz v w i=if cont v[i] then some (.inl (((64*w+v[i].toNat%64:Nat):Int),((i+1:Nat):Int))) else some (.inr (.inr ())):=by
  unfold zfz;rw [uP,zR rfl h,sb,e1,e2];by_cases hk:cont v[i]=true
  ·rw [xy hk];unfold cont at hk;simp only [xZ] at hk;rw [uQ,uR];have e3:shlI .u32 (w:Int) 6=((w*64:Nat):Int):=by
    have:shlI .u32 (w:Int) 6=((w*64%4294967296:Nat):Int):=by simp [shlI,IntKind.bits,zED]
    rw [this,qt (by omega)]
   rw [e3,zwK rfl (by simp [IntKind.bits];omega) (by simp [IntKind.bits];omega),pI,zyd _ w 6 (by omega)];have e4:v[i].toNat%64+w*2^6=64*w+v[i].toNat%64:=by omega
   rw [e4];rfl
  ·rw [xx hk];unfold cont at hk;simp only [xZ] at hk;rw [uP]
 by_cases hk:cont v[i]=true
 ·rw [xy hk] at hb|-;exact zwo hb
 ·rw [xx hk] at hb|-;exact zpQ hb
theorem ztI (h:v.length<=i):zde v w i=some (.inl (w:Int)):=by
 refine zpQ ?_;unfold zfz;rw [uQ]
theorem zOz {w:Nat} {b:UInt8} (hw:w<=100):zde [b] w 0=if cont b then some (.inl ((64*w+b.toNat%64:Nat):Int)) else some (.inr ()):=by
 have h:=zlU (v:=[b]) (w:=w) (i:=0) (by simp) (by simp) (by omega);refine Eq.trans h ?_;simp only [uz];rw [ztI (by simp)]
theorem zOA {w:Nat} {b c:UInt8} (hw:w<=100):zde [b,c] w 0=if cont b then (if cont c then some (.inl ((64*(64*w+b.toNat%64)+c.toNat%64:Nat):Int)) else some (.inr ())) else some (.inr ()):=by
 have h:=zlU (v:=[b,c]) (w:=w) (i:=0) (by simp) (by simp) (by omega);refine Eq.trans h ?_;rw [zlU (i:=0+1) (by simp) (by simp) (by omega)];simp only [uz,uw,xQ];rw [ztI (by simp)]
theorem zOB {w:Nat} {b c d:UInt8} (hw:w<=100):zde [b,c,d] w 0=if cont b then (if cont c then (if cont d then some (.inl ((64*(64*(64*w+b.toNat%64)+c.toNat%64)+d.toNat%64:Nat):Int)) else some (.inr ())) else some (.inr ())) else some (.inr ()):=by
 have h:=zlU (v:=[b,c,d]) (w:=w) (i:=0) (by simp) (by simp) (by omega);refine Eq.trans h ?_;rw [zlU (i:=0+1) (by simp) (by simp) (by omega),zlU (i:=0+1+1) (by simp) (by simp) (by omega)];simp only [uz,uw,xQ];rw [ztI (by simp)]
theorem zJQ (n:Nat) (h:∀m,m≠n->isN m l=false):nxt l=if isN n l then n else 0:=by
 by_cases hn:isN n l=true
 ·rw [xy hn,zNF hn]
 ·rw [xx hn];by_cases h0:nxt l=0
  ·exact h0
  ·have h1:=zwJ h0;by_cases h2:nxt l=n
   ·rw [h2] at h1;exact absurd h1 hn
   ·rw [h _ h2] at h1;cases h1
theorem zoy (n:Nat) (h:n=1/\a.toNat<128\/n=2/\192<=a.toNat/\a.toNat<224\/n=3/\224<=a.toNat/\a.toNat<240\/n=4/\240<=a.toNat):nxt (a::t)=if isN n (a::t) then n else 0:=by
 refine zJQ n fun m hm=>?_
 cases hh:isN m (a::t) with
 | false=>rfl
 | true=>
  obtain ⟨a',t',e,_,g⟩:=zmy hh;cases e;omega
theorem zGE (b:List UInt8):zoO b=some ((nxt b:Nat):Int):=by
 cases b with
 | nil=>rfl
 | cons a t=>
  have ha:=a.toNat_lt;unfold zoO;have e00:idx (a::t) (0:Int)=some a:=zR (n:=0) rfl (by simp);rw [uQ,e00,sb];rw [zLQ _ (by omega),sb];by_cases h1:a.toNat<128
  ·rw [zoy 1 (.inl ⟨rfl,h1⟩),xy h1];simp only;rw [uQ,zhn (i:=1) (j:=1) (a:=1) (b:=1) rfl rfl (by omega) (by simp),sb];have e0:zde (((a::t).drop 1).take (1 - 1)) (a.toNat:Int) 0=some (.inl (a.toNat:Int)):=ztI (i:=0) (by simp);rw [e0,sb];simp only;rw [zwH,sb,xy h1,uN];simp [isN,is1,h1]
  ·rw [xx h1];by_cases h2:a.toNat/32=6
   ·rw [zoy 2 (.inr (.inl ⟨rfl,by omega,by omega⟩)),xy h2];simp only
    match t with
    | []=>rw [itT (by simp)];rfl
    | b::t=>
     rw [uQ,zhn (i:=1) (j:=2) (a:=1) (b:=2) rfl rfl (by omega) (by simp),sb];have e0:=zOz (w:=a.toNat%32) (b:=b) (by omega);have e0':zde (((a::b::t).drop 1).take (2 - 1)) ((a.toNat%32:Nat):Int) 0=_:=e0;rw [e0'];have hb:=b.toNat_lt;by_cases c1:cont b=true
     ·rw [xy c1,sb];simp only;have hn:=zwH (64*(a.toNat%32)+b.toNat%64);simp only [isN,is2,c1,qM,xZ];simp only [cont,xZ] at c1;by_cases h:194<=a.toNat
      ·rw [xx (by omega),xy (by omega)] at hn;rw [hn,sb,uN,xy (by omega)];rfl
      ·rw [xy (by omega)] at hn;rw [hn,sb,uM,xx (by omega)];rfl
     ·rw [xx c1,sb];simp only;simp [isN,is2,c1]
   ·rw [xx h2];by_cases h3:a.toNat/16=14
    ·rw [zoy 3 (.inr (.inr (.inl ⟨rfl,by omega,by omega⟩))),xy h3];simp only
     match t with
     | []=>rw [itT (by simp)];rfl
     | [b]=>rw [itT (by simp)];rfl
     | b::c::t=>
      rw [uQ,zhn (i:=1) (j:=3) (a:=1) (b:=3) rfl rfl (by omega) (by simp),sb];have e0:=zOA (w:=a.toNat%16) (b:=b) (c:=c) (by omega);have e0':zde (((a::b::c::t).drop 1).take (3 - 1)) ((a.toNat%16:Nat):Int) 0=_:=e0;rw [e0'];have hb:=b.toNat_lt;have hc:=c.toNat_lt;by_cases c1:cont b=true
      ·rw [xy c1];by_cases c2:cont c=true
       ·rw [xy c2,sb];simp only;have hn:=zwH (64*(64*(a.toNat%16)+b.toNat%64)+c.toNat%64);simp only [isN,is3,c1,c2,qb,xZ];simp only [cont,xZ] at c1 c2;by_cases h:(a.toNat=224->160<=b.toNat)/\(a.toNat=237->b.toNat<160)
        ·rw [xx (by omega),xx (by omega),xx (by omega),xy (by omega)] at hn;rw [hn,sb,uN,xy (by omega)];rfl
        ·by_cases g:64*(64*(a.toNat%16)+b.toNat%64)+c.toNat%64<2048
         ·by_cases g':64*(64*(a.toNat%16)+b.toNat%64)+c.toNat%64<128
          ·rw [xy g'] at hn;rw [hn,sb,uM,xx (by omega)];rfl
          ·rw [xx g',xy g] at hn;rw [hn,sb,uM,xx (by omega)];rfl
         ·rw [xx (by omega),xx g,xy (by omega)] at hn;rw [hn,sb,uM,xx (by omega)];rfl
       ·rw [xx c2,sb];simp only;simp [isN,is3,c2]
      ·rw [xx c1,sb];simp only;simp [isN,is3,c1]
    ·rw [xx h3];by_cases h4:a.toNat/8=30
     ·rw [zoy 4 (.inr (.inr (.inr ⟨rfl,by omega⟩))),xy h4];simp only
      match t with
      | []=>rw [itT (by simp)];rfl
      | [b]=>rw [itT (by simp)];rfl
      | [b,c]=>rw [itT (by simp)];rfl
      | b::c::d::t=>
       rw [uQ,zhn (i:=1) (j:=4) (a:=1) (b:=4) rfl rfl (by omega) (by simp),sb];have e0:=zOB (w:=a.toNat%8) (b:=b) (c:=c) (d:=d) (by omega);have e0':zde (((a::b::c::d::t).drop 1).take (4 - 1)) ((a.toNat%8:Nat):Int) 0=_:=e0;rw [e0'];have hb:=b.toNat_lt;have hc:=c.toNat_lt;have hd:=d.toNat_lt;by_cases c1:cont b=true
       ·rw [xy c1];by_cases c2:cont c=true
        ·rw [xy c2];by_cases c3:cont d=true
         ·rw [xy c3,sb];simp only;have hn:=zwH (64*(64*(64*(a.toNat%8)+b.toNat%64)+c.toNat%64)+d.toNat%64);simp only [isN,is4,c1,c2,c3,qb,xZ];simp only [cont,xZ] at c1 c2 c3;by_cases h:a.toNat<245/\(a.toNat=240->144<=b.toNat)/\(a.toNat=244->b.toNat<144)
          ·rw [xx (by omega),xx (by omega),xx (by omega),xx (by omega),xy (by omega)] at hn;rw [hn,sb,uN,xy (by omega)];rfl
          ·have hw:¬(65536<=64*(64*(64*(a.toNat%8)+b.toNat%64)+c.toNat%64)+d.toNat%64/\64*(64*(64*(a.toNat%8)+b.toNat%64)+c.toNat%64)+d.toNat%64<=1114111):=by omega
           generalize 64*(64*(64*(a.toNat%8)+b.toNat%64)+c.toNat%64)+d.toNat%64=w at hn hw
           have hx:∃x:Int,zoP w=some x/\x≠4:=⟨_,hn,by (repeat' split)<;>omega⟩;obtain ⟨x,hx,h4⟩:=hx;rw [hx,sb,uP,xx (by omega)];rfl
         ·rw [xx c3,sb];simp only;simp [isN,is4,c3]
        ·rw [xx c2,sb];simp only;simp [isN,is4,c2]
       ·rw [xx c1,sb];simp only;simp [isN,is4,c1]
     ·rw [xx h4,uM];by_cases h5:240<=a.toNat
      ·rw [zoy 4 (.inr (.inr (.inr ⟨rfl,h5⟩)))];cases hh:isN 4 (a::t) with
       | false=>rfl
       | true=>
        match t,hh with
        | b::c::d::t,hh=>simp only [isN,is4,xZ] at hh;omega
      ·by_cases h0:nxt (a::t)=0
       ·rw [h0];rfl
       ·obtain ⟨a',t',e,_,g⟩:=zmy (zwJ h0);cases e;omega
theorem zIG (hb:b.length<=1152921504606846976) (l:List UInt8):∀(a c:Nat),c<=a->a<=b.length->l=b.drop a->
  zij b a c ((nxt l:Nat):Int)=some (((a+(pre4 l).1:Nat):Int),((c+(pre4 l).2:Nat):Int)):=by
 refine zJY (fun l=>∀(a c:Nat),c<=a->a<=b.length->l=b.drop a->zij b a c ((nxt l:Nat):Int)=some (((a+(pre4 l).1:Nat):Int),((c+(pre4 l).2:Nat):Int))) ?_ ?_ l
 ·intro l h a c hc ha hl;rw [h,zIe h];refine zwq ?_;unfold zgE;rw [uN];rfl
 ·intro l h ih a c hc ha hl;subst hl;have h4:=zBR (b.drop a);have hle:=zsU (b.drop a);simp only [yd] at hle;have e1:(b.drop a).drop (nxt (b.drop a))=b.drop (a+nxt (b.drop a)):=by rw [yi]
  refine (zwp (atv':=((a+nxt (b.drop a):Nat):Int)) (points':=((c+1:Nat):Int)) (size':=((nxt (b.drop (a+nxt (b.drop a))):Nat):Int)) ?_).trans ?_
  ·unfold zgE;rw [uP,uR,zqu (a:=a+nxt (b.drop a)) (by push_cast;rfl) rfl (by omega),sb,zGE,sb,uR];rfl
  ·rw [<-e1,ih (a+nxt (b.drop a)) (c+1) (by omega) (by omega) e1,zLU h];simp only [qo,pn 1]
theorem zKP (hb:b.length<=1152921504606846976):zrw b=some (((pre4 b).1:Int),((pre4 b).2:Int)):=by
 unfold zrw;rw [zGE,sb];have h:=zIG hb b 0 0 (xC _) (xI _) rfl;simp only [xQ] at h;have h':zij b 0 0 ((nxt b:Nat):Int)=some (((pre4 b).1:Int),((pre4 b).2:Int)):=h;rw [h',sb]
theorem zIz (hb:b.length<=1152921504606846976):zoN b=some ((pre4 b).1:Int):=by
 unfold zoN;rw [zKP hb,sb]
theorem zvv (hb:b.length<=1152921504606846976):zkC b=some (zfq b):=by
 unfold zkC zfq;rw [zIz hb,sb,zpb]
def zNE:List Str:=[[],[105,110,116,51,50],[105,110,116,54,52],[117,105,110,116,51,50],[117,105,110,116,54,52],[115,105,110,116,51,50],[115,105,110,116,54,52],[98,111,111,108],[101,110,117,109],[102,105,120,101,100,51,50],[115,102,105,120,101,100,51,50],[102,108,111,97,116],[102,105,120,101,100,54,52],[115,102,105,120,101,100,54,52],[100,111,117,98,108,101],[115,116,114,105,110,103],[98,121,116,101,115],[109,101,115,115,97,103,101]]
def zJv (k:Int):Str:=(zNE[k.toNat]?).getD []
def kT:List (Int×zt):=[(1,⟨[105,110,116,51,50],0⟩),(2,⟨[105,110,116,54,52],0⟩),(3,⟨[117,105,110,116,51,50],0⟩),(4,⟨[117,105,110,116,54,52],0⟩),(5,⟨[115,105,110,116,51,50],0⟩),(6,⟨[115,105,110,116,54,52],0⟩),(7,⟨[98,111,111,108],0⟩),(8,⟨[101,110,117,109],0⟩),(9,⟨[102,105,120,101,100,51,50],5⟩),(10,⟨[115,102,105,120,101,100,51,50],5⟩),(11,⟨[102,108,111,97,116],5⟩),(12,⟨[102,105,120,101,100,54,52],1⟩),(13,⟨[115,102,105,120,101,100,54,52],1⟩),(14,⟨[100,111,117,98,108,101],1⟩),(15,⟨[115,116,114,105,110,103],2⟩),(16,⟨[98,121,116,101,115],2⟩),(17,⟨[109,101,115,115,97,103,101],2⟩)]
theorem zDp:zmz=some kT:=rfl
theorem zvV (h:zbO k=true):k=1\/k=2\/k=3\/k=4\/k=5\/k=6\/k=7\/k=8\/k=9\/k=10\/k=11\/k=12\/k=13\/k=14\/k=15\/k=16\/k=17:=by
 have:=yO h;omega
theorem zNn (h:zbO k=true):mget kT k=some ⟨zJv k,zaM k⟩:=by
 rcases zvV h with rfl| rfl| rfl| rfl| rfl| rfl| rfl| rfl| rfl| rfl| rfl| rfl| rfl| rfl| rfl| rfl| rfl<;>rfl
theorem zLx (h:e∈kT):zbO e.1=true/\e.2=⟨zJv e.1,zaM e.1⟩:=by
 have:kT.all (fun e=>zbO e.1&&decide (e.2=⟨zJv e.1,zaM e.1⟩))=true:=by decide
 have h1:=xM.1 this e h;simp only [xB,xZ] at h1;exact h1
theorem zLy (h:zbO k=false):mget kT k=none:=by
 cases hg:mget kT k with
 | none=>rfl
 | some x=>
  have mem:∀{m:List (Int×zt)} {x:zt},mget m k=some x->(k,x)∈m:=fun {m x} hg=>by
   induction m with
   | nil=>cases hg
   | cons p m ih=>
    rw [mget] at hg;split at hg
    ·rename_i e;cases hg;rw [e];exact xz
    ·exact xA _ (ih hg)
  have h1:=(zLx (mem hg)).1;simp only at h1;rw [h] at h1;cases h1
theorem zDr (k:Int):zlT k=some (if zbO k then (zaM k,0) else (0,2)):=by
 unfold zlT;rw [zDp,sb];cases h:zbO k with
 | true=>rw [zNn h];rfl
 | false=>rw [zLy h];rfl
theorem zxL (k:Int):zjc k=some (kNum k):=by
 unfold zjc;rw [zDr,sb];cases h:zbO k with
 | true=>
  rcases zvV h with rfl| rfl| rfl| rfl| rfl| rfl| rfl| rfl| rfl| rfl| rfl| rfl| rfl| rfl| rfl| rfl| rfl<;>rfl
 | false=>
  have h1:=uA h;have:kNum k=false:=xV (by omega);rw [this];rfl
theorem zLA:kT.map Prod.fst=[1,2,3,4,5,6,7,8,9,10,11,12,13,14,15,16,17]:=rfl
theorem zLz:zqO=some [1,2,3,4,5,6,7,8,9,10,11,12,13,14,15,16,17]:=by
 have e:ztE kT=some [1,2,3,4,5,6,7,8,9,10,11,12,13,14,15,16,17]:=by
  unfold ztE;rw [xy ⟨by decide,by decide⟩,zLA,List.mergeSort_of_pairwise (by decide)]
 unfold zqO;rw [zDp,sb,e,sb]
theorem zlS (k:Int) (h:0<=w/\w<=18446744073709551615):zib k w=some (if kNum k then (zbE k w,0) else (0,2)):=by
 have hs:=zCi w;have hc:=ziJ k h;unfold zib;by_cases h1:k=1\/k=8
 ·have e:(if (k==1)=true then some (k==1) else some (k==8))=some true:=by rcases h1 with rfl| rfl<;>rfl
  have hn:kNum k=true:=xO (by omega);rw [e,sb,itT rfl,zIr,sb,zIH (by omega),sb,hn];unfold zbE;rw [xy h1];rfl
 ·have e:(if (k==1)=true then some (k==1) else some (k==8))=some false:=by rw [uQ];simp;omega
  rw [e,sb,itF rfl];by_cases h2:k=3\/k=5\/k=9\/k=10\/k=11
  ·have e2:(if (k==3)=true then some (k==3) else if (k==5)=true then some (k==5) else if (k==9)=true then some (k==9) else if (k==10)=true then some (k==10) else some (k==11))=some true:=by
    rcases h2 with rfl| rfl| rfl| rfl| rfl<;>rfl
   have hn:kNum k=true:=xO (by omega);have hw:u64.wrap (w%4294967296)=w%4294967296:=by rw [wrap_u64];omega
   rw [e2,sb,itT rfl,zDz,sb,hn,hw];unfold zbE;rw [xx h1,xy h2];rfl
  ·have e2:(if (k==3)=true then some (k==3) else if (k==5)=true then some (k==5) else if (k==9)=true then some (k==9) else if (k==10)=true then some (k==10) else some (k==11))=some false:=by
    rw [uQ,uQ,uQ,uQ];simp;omega
   rw [e2,sb,itF rfl];by_cases h7:k=7
   ·have hn:kNum k=true:=xO (by omega);rw [itT (by simpa using h7),hn];unfold zpp zbE;rw [sb,xx h1,xx h2,xy h7];by_cases h0:0<w
    ·rw [xy h0];by_cases h10:1<w
     ·rw [xy h10];rfl
     ·rw [xx h10,show w=1 by omega];rfl
    ·rw [xx h0,xx (by omega),show w=0 by omega];rfl
   ·rw [itF (by simpa using h7)];by_cases hn:kNum k=true
    ·have hk:=yO hn;have e3:(if (k==2)=true then some (k==2) else if (k==4)=true then some (k==4) else if (k==6)=true then some (k==6) else if (k==12)=true then some (k==12) else if (k==13)=true then some (k==13) else some (k==14))=some true:=by
      have:k=2\/k=4\/k=6\/k=12\/k=13\/k=14:=by omega
      rcases this with rfl| rfl| rfl| rfl| rfl| rfl<;>rfl
     rw [e3,sb,itT rfl,hn];unfold zbE;rw [xx h1,xx h2,xx h7];rfl
    ·have hn:kNum k=false:=by simpa using hn
     have hk:=uA hn;have e3:(if (k==2)=true then some (k==2) else if (k==4)=true then some (k==4) else if (k==6)=true then some (k==6) else if (k==12)=true then some (k==12) else if (k==13)=true then some (k==13) else some (k==14))=some false:=by
      rw [uQ,uQ,uQ,uQ,uQ];simp;omega
     rw [e3,sb,itF rfl,hn];rfl
def lt7 (c:UInt8):Bool:=decide (97<=c.toNat/\c.toNat<=122\/65<=c.toNat/\c.toNat<=90\/c.toNat=95)
def dg7 (c:UInt8):Bool:=decide (48<=c.toNat/\c.toNat<=57)
theorem zxG (c:UInt8):zhe (c.toNat:Int)=some (dg7 c):=by
 unfold zhe dg7;congr 1;rw [yM];simp;omega
theorem zDe (c:UInt8):zhF (c.toNat:Int)=some (lt7 c):=by
 unfold zhF lt7;congr 1;by_cases h1:(c.toNat:Int)>=97<;>by_cases h2:(c.toNat:Int)>=65<;>simp only [h1,h2,decide_true,decide_false,yj,yo,ql]<;>rw [yM]<;>simp<;>omega
theorem zDf (s:List UInt8) (hs:s.length<=1152921504606846976):∀(l:List UInt8) (i:Nat),s.drop i=l->zfB s i=some (if (l.all fun c=>lt7 c|| dg7 c)=true then .inl () else .inr ()):=by
 intro l
 induction l with
 | nil=>
  intro i hd;have:=zim hd;refine zlf ?_;unfold zcT;rw [uQ];rfl
 | cons c l ih=>
  intro i hd;obtain ⟨hi,hc,hd'⟩:=zho hd;have hb:zcT s i=if (lt7 c|| dg7 c)=true then some (.inl ((i+1:Nat):Int)) else some (.inr (.inr ())):=by
   unfold zcT;rw [uP,zR rfl hi,sb,hc,zDe,sb,sb,zxG,uR];cases lt7 c<;>cases dg7 c<;>rfl
  rw [yT];cases hk:(lt7 c|| dg7 c) with
  | false=>
   rw [hk] at hb;rw [zlf hb];rfl
  | true=>
   rw [hk] at hb;rw [zrn hb,ih _ hd',yc]
theorem zGU:∀(l:List UInt8) (i:Nat),0<i->nmA i l=l.all fun c=>lt7 c|| dg7 c
 | [],_,_=>rfl
 | c::l,i,h=>by
  rw [nmA,zGU l (i+1) (by omega),yT];congr 1;unfold nmc lt7 dg7;rw [yM];simp;omega
theorem zAg (hs:s.length<=1152921504606846976):zhK s=some (zgf s):=by
 unfold zhK zgf;have hl:=zDf s hs s 0 rfl;have hl':zfB s 0=_:=hl;cases s with
 | nil=>rfl
 | cons c l=>
  rw [uO];by_cases h60:((c::l).length:Int)>60
  ·rw [itT (by simpa using h60),sb,itT rfl];have:decide (1<=(c::l).length/\(c::l).length<=60)=false:=by simp only [ut];omega
   rw [this,q9]
  ·have hd:decide (1<=(c::l).length/\(c::l).length<=60)=true:=by simp only [xZ];refine ⟨by simp,by omega⟩
   have hc:idx (c::l) 0=some c:=by simp [idx]
   rw [itF (by simpa using h60),hc,sb,zxG,sb,sb,hd,q7,hl',sb];have e:nmA 0 (c::l)=(lt7 c&&l.all fun c=>lt7 c|| dg7 c):=by
    rw [nmA,zGU l 1 (by omega)];congr 1;unfold nmc lt7;rw [yM];simp;omega
   have hx:lt7 c=true->dg7 c=false:=by
    unfold lt7 dg7;simp only [xZ,ut];omega
   rw [e,yT];cases h1:lt7 c<;>cases h2:dg7 c<;>first| (rw [hx h1] at h2;cases h2;done)| skip
   ·rfl
   ·rfl
   ·cases l.all fun c=>lt7 c|| dg7 c<;>rfl
theorem zJn (hl:l.length<=1152921504606846976) (v:Int):zdK l v=some (zjA (fun x=>v==x) l):=by
 unfold zdK;have h:=zrG (fun x=>v==x) l (fun i=>zcc l v i) (zhf (by unfold zaI;rw [uO])) (fun i hi=>by
  by_cases hp:(v==l[i])=true
  ·rw [xy hp];exact zhf (by unfold zaI;rw [uP,zR rfl hi,sb,itT hp])
  ·rw [xx hp];exact zkx (by unfold zaI;rw [uP,zR rfl hi,sb,itF (by simpa using hp),uR];rfl)) l.length 0 (by omega) (fun j _ h=>by omega)
 have h':zcc l v 0=_:=h;rw [h',sb];unfold zjA;cases l.findIdx? (fun x=>v==x)<;>rfl
theorem zzo {α:Type} (p:α->Bool) (l:List α):decide (zjA p l>=0)=l.any p:=by
 cases h:l.findIdx? p with
 | none=>
  rw [zns h];rw [pM] at h
  symm
  rw [List.any_eq_false.2 fun x hx=>by simpa using h x hx];rfl
 | some i=>
  rw [znt h];rw [pN] at h;obtain ⟨hi,hp,_⟩:=h
  symm
  rw [List.any_eq_true.2 ⟨l[i],xF hi,hp⟩];simp
theorem zCN (hl:l.length<=1152921504606846976) (v:Int):zcI l v=some (l.any fun x=>v==x):=by
 unfold zcI;rw [zJn hl,sb,zzo]
def K17:List Int:=[1,2,3,4,5,6,7,8,9,10,11,12,13,14,15,16,17]
theorem zHN (k:Int):(K17.any fun x=>k==x)=zbO k:=by
 unfold zbO K17;rw [yM];simp;omega
def hasN (m:List (zu×Bool)) (i:Int) (n:Str):Bool:=(mget m (⟨i,n⟩:zu)).getD false
def hasU (m:List (zw×Bool)) (i:Int) (n:Int):Bool:=(mget m (⟨i,n⟩:zw)).getD false
theorem zot (m:List (zu×Bool)) (i j:Int) (n k:Str):hasN (mput m ⟨i,n⟩ true) j k=(decide (j=i/\k=n)|| hasN m j k):=by
 unfold hasN;rw [zje];by_cases h:j=i/\k=n
 ·obtain ⟨rfl,rfl⟩:=h;simp
 ·rw [xx (fun e=>h (by injection e with e1 e2;exact ⟨e1,e2⟩))];simp [h]
theorem zDb (m:List (zw×Bool)) (i j:Int) (n k:Int):hasU (mput m ⟨i,n⟩ true) j k=(decide (j=i/\k=n)|| hasU m j k):=by
 unfold hasU;rw [zje];by_cases h:j=i/\k=n
 ·obtain ⟨rfl,rfl⟩:=h;simp
 ·rw [xx (fun e=>h (by injection e with e1 e2;exact ⟨e1,e2⟩))];simp [h]
theorem zDg (n:Int):zhG n=some (decide ¬(n<1\/n>536870911\/(19000<=n/\n<20000))):=by
 unfold zhG;congr 1;rw [yM];simp;omega
theorem zFn (f:Fld):zif f=some (f.Repeated&&kNum f.Kind):=by
 unfold zif;rw [zxL];cases f.Repeated<;>rfl
theorem zJF (n:Int) (K:List Int) (nm:List (zu×Bool)) (nu:List (zw×Bool)) (f:Fld):zfV ⟨n,K,nm,nu⟩ f=some (decide ¬(f.Kind=17/\(f.Of<0\/f.Of>=n)\/f.Kind≠17/\f.Of≠0)):=by
 unfold zfV;by_cases h:f.Kind=17
 ·rw [itT (by simpa using h)];congr 1;rw [yM];simp [h]
 ·rw [itF (by simpa using h)];congr 1;rw [yM];simp [h]
theorem zJe (hf:f.Name.length<=1152921504606846976) (hN:hasN nm i f.Name=prev.any fun g=>g.Name==f.Name) (hU:hasU nu i f.Number=prev.any fun g=>g.Number==f.Number):
  zfU ⟨n,K17,nm,nu⟩ i f=some (zdp n prev f,if zdp n prev f=0 then (mput nm ⟨i,f.Name⟩ true,mput nu ⟨i,f.Number⟩ true) else (nm,nu)):=by
 unfold zfU;rw [zAg hf,sb];have e1:(mget nm (⟨i,f.Name⟩:zu)).getD false=hasN nm i f.Name:=rfl;have e2:(mget nu (⟨i,f.Number⟩:zw)).getD false=hasU nu i f.Number:=rfl;simp only [e1,e2,hN,hU];have hz:∀(k:Int) (x y:List (zu×Bool)×List (zw×Bool)),k≠0->(if k=0 then x else y)=y:=fun k x y h=>xx h
 by_cases h1:zgf f.Name=false
 ·have hF:zdp n prev f=5:=by unfold zdp;rw [xy h1]
  rw [hF,hz 5 _ _ (by decide),itT (by rw [h1];rfl)]
 rw [itF (show (!zgf f.Name)=false by simpa using h1)];by_cases h2:(prev.any fun g=>g.Name==f.Name)=true
 ·have hF:zdp n prev f=6:=by unfold zdp;rw [xx h1,xy h2]
  rw [hF,hz 6 _ _ (by decide),itT h2]
 have h2':(prev.any fun g=>g.Name==f.Name)=false:=pt h2;rw [itF h2',zDg,sb];by_cases h3:f.Number<1\/f.Number>536870911\/(19000<=f.Number/\f.Number<20000)
 ·have hF:zdp n prev f=7:=by unfold zdp;rw [xx h1,xx h2,xy h3]
  rw [hF,hz 7 _ _ (by decide),itT (by rw [xV (fun h=>h h3)];rfl)]
 rw [itF (by rw [xO h3];rfl)];by_cases h4:(prev.any fun g=>g.Number==f.Number)=true
 ·have hF:zdp n prev f=8:=by unfold zdp;rw [xx h1,xx h2,xx h3,xy h4]
  rw [hF,hz 8 _ _ (by decide),itT h4]
 have h4':(prev.any fun g=>g.Number==f.Number)=false:=pt h4;rw [itF h4',zCN (by decide),sb,zHN];by_cases h5:zbO f.Kind=false
 ·have hF:zdp n prev f=9:=by unfold zdp;rw [xx h1,xx h2,xx h3,xx h4,xy h5]
  rw [hF,hz 9 _ _ (by decide),itT (by rw [h5];rfl)]
 rw [itF (show (!zbO f.Kind)=false by simpa using h5),zFn];have hg:(if f.Packed=true then (some (f.Repeated&&kNum f.Kind)>>=fun kq=>some (!kq)) else some false)=some (decide (f.Packed=true/\¬(f.Repeated=true/\kNum f.Kind=true))):=by
  cases f.Packed<;>cases f.Repeated<;>cases kNum f.Kind<;>rfl
 rw [hg,sb];by_cases h6:f.Packed=true/\¬(f.Repeated=true/\kNum f.Kind=true)
 ·have hF:zdp n prev f=10:=by unfold zdp;rw [xx h1,xx h2,xx h3,xx h4,xx h5,xy h6]
  rw [hF,hz 10 _ _ (by decide),itT (xO h6)]
 rw [itF (xV h6),zJF,sb];by_cases h7:f.Kind=17/\(f.Of<0\/f.Of>=n)\/f.Kind≠17/\f.Of≠0
 ·have hF:zdp n prev f=11:=by unfold zdp;rw [xx h1,xx h2,xx h3,xx h4,xx h5,xx h6,xy h7]
  rw [hF,hz 11 _ _ (by decide),itT (by rw [xV (fun h=>h h7)];rfl)]
 have hF:zdp n prev f=0:=by unfold zdp;rw [xx h1,xx h2,xx h3,xx h4,xx h5,xx h6,xx h7]
 rw [hF,xy rfl,itF (by rw [xO h7];rfl)]
theorem zFo {n:Int} {nm:List (zu×Bool)} {nu:List (zw×Bool)} {prev:List Mes} {m:Mes} (hm:m.Name.length<=1152921504606846976) (hN:hasN nm (-1) m.Name=prev.any fun g=>g.Name==m.Name):
  zeO ⟨n,K17,nm,nu⟩ m=some (if zgf m.Name=false then (2,nm,nu) else if (prev.any fun g=>g.Name==m.Name)=true then (3,nm,nu) else if 200<m.Fields.length then (4,nm,nu) else (0,mput nm ⟨-1,m.Name⟩ true,nu)):=by
 unfold zeO;rw [zAg hm,sb];have e1:(mget nm (⟨(-1),m.Name⟩:zu)).getD false=hasN nm (-1) m.Name:=rfl;simp only [e1,hN];by_cases h1:zgf m.Name=false
 ·rw [xy h1,itT (show (!zgf m.Name)=true by rw [h1];rfl)]
 rw [xx h1,itF (show (!zgf m.Name)=false by simpa using h1)];by_cases h2:(prev.any fun g=>g.Name==m.Name)=true
 ·rw [xy h2,itT h2]
 have h2':(prev.any fun g=>g.Name==m.Name)=false:=pt h2;rw [xx h2,itF h2'];by_cases h3:200<m.Fields.length
 ·rw [xy h3,itT (show decide ((m.Fields.length:Int)>200)=true by simp;omega)]
 rw [xx h3,itF (show decide ((m.Fields.length:Int)>200)=false by simp;omega)]
structure Met (nm:List (zu×Bool)) (nu:List (zw×Bool)) (i:Nat) (prev:List Mes) (p:List Fld):Prop where
 mes:∀n,hasN nm (-1) n=prev.any fun g=>g.Name==n
 nam:∀n,hasN nm i n=p.any fun g=>g.Name==n
 num:∀n,hasU nu i n=p.any fun g=>g.Number==n
 later:∀(j:Nat) n,i<j->hasN nm j n=false
 laterU:∀(j:Nat) n,i<j->hasU nu j n=false
theorem Met.step (h:Met nm nu i prev p) (f:Fld):Met (mput nm ⟨i,f.Name⟩ true) (mput nu ⟨i,f.Number⟩ true) i prev (p++[f]):=by
 refine ⟨fun n=>?_,fun n=>?_,fun n=>?_,fun j n hj=>?_,fun j n hj=>?_⟩
 ·rw [zot,h.mes,xV (by omega),pp]
 ·rw [zot,h.nam,uB,Bool.or_comm];congr 1;simp only [qZ,List.any_nil,q8];rw [yM];simp;exact eq_comm
 ·rw [zDb,h.num,uB,Bool.or_comm];congr 1;simp only [qZ,List.any_nil,q8];rw [yM];simp;exact eq_comm
 ·rw [zot,h.later j n hj,xV (by omega)];rfl
 ·rw [zDb,h.laterU j n hj,xV (by omega)];rfl
theorem zIX (hb:m.Fields.length<=140737488351232) (hn:∀f∈m.Fields,f.Name.length<=140737488351232):
  ∀(l:List Fld) (k:Nat) (nm:List (zu×Bool)) (nu:List (zw×Bool)),m.Fields.drop k=l->k<=m.Fields.length->Met nm nu i prev (m.Fields.take k)->
   (∃j w,msgF s.length (m.Fields.take k) l=some (j,w)/\zei K17 s i m k nm nu=some (.inr ((j:Int),w)))\/
   (msgF s.length (m.Fields.take k) l=none/\∃nm' nu',zei K17 s i m k nm nu=some (.inl (nm',nu'))/\Met nm' nu' i prev m.Fields):=by
 intro l
 induction l with
 | nil=>
  intro k nm nu hd hk hM;have:=zim hd;have hkl:k=m.Fields.length:=by omega
  subst hkl;refine .inr ⟨rfl,nm,nu,zly ?_,by simpa using hM⟩;unfold zco;rw [uO]
 | cons f l ih=>
  intro k nm nu hd hk hM;obtain ⟨hi,hc,hd'⟩:=zho hd;have hf:=hn f (by rw [<-hc];exact xF hi);have hfld:=zJe (n:=(s.length:Int)) (i:=(i:Int)) (nm:=nm) (nu:=nu) (prev:=m.Fields.take k) (f:=f) (by omega) (hM.nam _) (hM.num _);have htk:m.Fields.take (k+1)=m.Fields.take k++[f]:=by rw [q6 hi,hc]
  have ke:(m.Fields.take k).length=k:=by simp;omega
  obtain ⟨bd,_⟩:=zxs (s.length:Int) (m.Fields.take k) f;rw [msgF];by_cases h0:zdp s.length (m.Fields.take k) f=0
  ·rw [xx (by omega)];rw [h0,xy rfl] at hfld;have hstep:zco K17 s i m k nm nu=some (.inl (((k+1:Nat):Int),mput nm ⟨i,f.Name⟩ true,mput nu ⟨i,f.Number⟩ true)):=by
    unfold zco;rw [uP,zR rfl hi,sb,hc,hfld,sb];dsimp only;rw [itF (show ((0:Int) !=0)=false from rfl),uR];rfl
   rw [zso hstep,<-htk];exact ih (k+1) _ _ hd' (by omega) (by rw [htk];exact hM.step f)
  ·rw [xy (by omega)];rw [xx h0] at hfld;refine .inl ⟨k,_,by rw [ke],zly ?_⟩;unfold zco;rw [uP,zR rfl hi,sb,hc,hfld,sb];dsimp only;rw [itT (show (zdp (s.length:Int) (m.Fields.take k) f !=0)=true by simpa using h0)]
theorem zIW {s:List Mes} (hw:WS s):∀(l:List Mes) (i:Nat) (nm:List (zu×Bool)) (nu:List (zw×Bool)),s.drop i=l->i<=s.length->Met nm nu i (s.take i) []->
  zgi K17 s i nm nu=some (match chkF s.length (s.take i) l with| some (j,k,w)=> .inr ((j:Int),k,w)| none=> .inl ()):=by
 intro l
 induction l with
 | nil=>
  intro i nm nu hd hi hM;have:=zim hd;refine zfh ?_;unfold zbl;rw [uQ];rfl
 | cons m l ih=>
  intro i nm nu hd hi hM;obtain ⟨hil,hc,hd'⟩:=zho hd;obtain ⟨w1,w2⟩:=hw;obtain ⟨m1,m2,m3⟩:=w2 m (by rw [<-hc];exact xF hil);have hmes:=zFo (n:=(s.length:Int)) (nm:=nm) (nu:=nu) (prev:=s.take i) (m:=m) (by omega) (hM.mes _);have htk:s.take (i+1)=s.take i++[m]:=by rw [q6 hil,hc]
  have ke:(s.take i).length=i:=by simp;omega
  rw [chkF];by_cases h1:zgf m.Name=false
  ·rw [xy h1] at hmes|-;refine zfh ?_;unfold zbl;rw [uP,zR rfl hil,sb,hc,hmes,sb];dsimp only;rw [itT (show ((2:Int) !=0)=true from rfl),ke]
  rw [xx h1] at hmes|-;by_cases h2:((s.take i).any fun g=>g.Name==m.Name)=true
  ·rw [xy h2] at hmes|-;refine zfh ?_;unfold zbl;rw [uP,zR rfl hil,sb,hc,hmes,sb];dsimp only;rw [itT (show ((3:Int) !=0)=true from rfl),ke]
  rw [xx h2] at hmes|-;by_cases h3:200<m.Fields.length
  ·rw [xy h3] at hmes|-;refine zfh ?_;unfold zbl;rw [uP,zR rfl hil,sb,hc,hmes,sb];dsimp only;rw [itT (show ((4:Int) !=0)=true from rfl),ke]
  rw [xx h3] at hmes|-;have hM0:Met (mput nm ⟨-1,m.Name⟩ true) nu i (s.take i++[m]) (m.Fields.take 0):=by
   refine ⟨fun n=>?_,fun n=>?_,fun n=>?_,fun j n hj=>?_,fun j n hj=>hM.laterU j n hj⟩
   ·rw [zot,hM.mes,uB,Bool.or_comm];congr 1;simp only [qZ,List.any_nil,q8];rw [yM];simp;exact eq_comm
   ·rw [zot,hM.nam,xV (by omega)];rfl
   ·rw [hM.num];rfl
   ·rw [zot,hM.later j n hj,xV (by omega)];rfl
  have hl2:=zIX (s:=s) (i:=i) m2 m3 m.Fields 0 _ nu rfl (by omega) hM0;simp only [yx] at hl2;rcases hl2 with ⟨j,w,g1,g2⟩| ⟨g1,nm',nu',g2,g3⟩
  ·rw [g1];refine zfh ?_;unfold zbl;have g2':zei K17 s i m 0 (mput nm ⟨-1,m.Name⟩ true) nu=_:=g2;rw [uP,zR rfl hil,sb,hc,hmes,sb];dsimp only;rw [itF (show ((0:Int) !=0)=false from rfl),g2',sb];simp only [ke]
  ·rw [g1];have hstep:zbl K17 s i nm nu=some (.inl (((i+1:Nat):Int),nm',nu')):=by
    unfold zbl;have g2':zei K17 s i m 0 (mput nm ⟨-1,m.Name⟩ true) nu=_:=g2;rw [uP,zR rfl hil,sb,hc,hmes,sb];dsimp only;rw [itF (show ((0:Int) !=0)=false from rfl),g2',sb];dsimp only;rw [uR];rfl
   rw [zsn hstep];simp only [];rw [<-htk];refine ih (i+1) nm' nu' hd' (by omega) ⟨fun n=>?_,fun n=>?_,fun n=>?_,fun j n hj=>g3.later j n (by omega),fun j n hj=>g3.laterU j n (by omega)⟩
   ·rw [htk];exact g3.mes n
   ·rw [g3.later (i+1) n (by omega)];rfl
   ·rw [g3.laterU (i+1) n (by omega)];rfl
theorem zIV (hw:WS s):zjN s=some (⟨(zkg s).1,(zkg s).2.1,(zkg s).2.2⟩,if (zkg s).2.2=0 then 0 else 9):=by
 unfold zjN zkg;by_cases h:s.length=0\/100<s.length
 ·rw [uP,xy h];rfl
 ·rw [uQ,xx h,zLz,sb];have hl:=zIW hw s 0 [] [] rfl (by omega) ⟨fun n=>rfl,fun n=>rfl,fun n=>rfl,fun j n _=>rfl,fun j n _=>rfl⟩;simp only [yx] at hl;have hl':zgi [1,2,3,4,5,6,7,8,9,10,11,12,13,14,15,16,17] s 0 [] []=_:=hl;rw [hl',sb];cases hc:chkF s.length [] s with
  | none=>rfl
  | some q=>
   obtain ⟨i,k,w⟩:=q;have:=zGc _ _ _ _ _ _ hc;simp only;rw [xx (by omega)]
theorem zDX (hw:WS s):zir s=some (zhT s):=by
 unfold zir zhT;rw [zIV hw,sb];by_cases h:(zkg s).2.2=0<;>simp [h]
theorem zwd (h:(zbC k b).2=0):kNum k=true/\(pcs k b).2=0/\(zbC k b).1=(pcs k b).1.map (ziH k):=by
 unfold zbC at h|-;cases hn:kNum k with
 | false=>rw [hn,xy rfl] at h;simp at h
 | true=>
  rw [hn,xx (by simp)] at h;rw [xx (by simp)];by_cases h0:(pcs k b).2=0
  ·rw [xy h0];exact ⟨rfl,h0,rfl⟩
  ·rw [xx h0] at h;exact absurd h h0
theorem zzd (h:(zbC k b).2≠0):(zbC k b).1=[]/\((zbC k b).2=2\/(zbC k b).2=3\/(zbC k b).2=4):=by
 unfold zbC at h|-;by_cases hn:kNum k=false
 ·rw [xy hn];simp
 ·rw [xx hn] at h|-;by_cases h0:(pcs k b).2=0
  ·rw [xy h0] at h;exact absurd rfl h
  ·rw [xx h0];rcases zDF k b with h1| h1| h1
   ·exact absurd h1 h0
   ·rw [h1];simp
   ·rw [h1];simp
theorem zJq {α:Type} (x y:α):(if (true:Bool)=false then x else y)=y:=rfl
def wid (k:Int):Nat:=if 12<=k then 8 else if 9<=k then 4 else 0
theorem zvk (k:Int):zhx k=some (if kNum k then ((wid k:Int),0) else (0,2)):=by
 cases hn:kNum k with
 | true=>
  have h:=zhC.1 hn;have hk:k=1\/k=2\/k=3\/k=4\/k=5\/k=6\/k=7\/k=8\/k=9\/k=10\/k=11\/k=12\/k=13\/k=14:=by omega
  rcases hk with rfl| rfl| rfl| rfl| rfl| rfl| rfl| rfl| rfl| rfl| rfl| rfl| rfl| rfl<;>rfl
 | false=>
  have h:=uA hn;unfold zhx;have hne:∀c:Int,1<=c->c<=14->(k==c)=false:=fun c h1 h2=>by simp;omega
  simp only [hne 1 (by omega) (by omega),hne 2 (by omega) (by omega),hne 3 (by omega) (by omega),hne 4 (by omega) (by omega),hne 5 (by omega) (by omega),hne 6 (by omega) (by omega),hne 7 (by omega) (by omega),hne 8 (by omega) (by omega),hne 9 (by omega) (by omega),hne 10 (by omega) (by omega),hne 11 (by omega) (by omega),hne 12 (by omega) (by omega),hne 13 (by omega) (by omega),hne 14 (by omega) (by omega)];rfl
theorem zHM (hk:kNum k=true):(zaM k=0↔wid k=0)/\(wid k≠0->∀b:List UInt8,zdF (zaM k) b=decide (wid k=b.length))/\(wid k=0\/wid k=4\/wid k=8):=by
 have:=zhC.1 hk;unfold zaM wid zdF;by_cases h1:12<=k
 ·rw [xx (by omega),xy h1,xy h1];refine ⟨by simp,fun _ b=>?_,by simp⟩;rw [xx (by omega)];simp only [show ((1:Int)=2)=False from by simp,show ((1:Int)=5)=False from by simp,false_or,false_and,xT,qb];simp [eq_comm]
 ·rw [xx (by omega),xx h1,xx h1];by_cases h2:9<=k
  ·rw [xy h2,xy h2];refine ⟨by simp,fun _ b=>?_,by simp⟩;rw [xx (by omega)];simp [eq_comm]
  ·rw [xx h2,xx h2];exact ⟨by simp,fun h=>absurd rfl h,by simp⟩
theorem zIv (b:List UInt8):zjM b=some (if zdF 0 b then ((rd b).1,0) else (0,12)):=by
 unfold zjM zdF;rw [zwQ,sb,xy rfl];by_cases h:(rd b).2.2=0/\(rd b).2.1=(b.length:Int)
 ·rw [itF (by simp [h.1,h.2]),xy (by simpa using h)]
 ·rw [uP,xx (by simpa using h)]
theorem zIt (k:Int) (b:List UInt8):zjL k b=some (if kNum k=false then (0,2) else if zdF (zaM k) b=false then (0,12) else (rawW k b,0)):=by
 unfold zjL;rw [zvk,sb];cases hn:kNum k with
 | false=>rw [xy rfl];rfl
 | true=>
  obtain ⟨e0,ef,_⟩:=zHM hn;simp only [yj];rw [uO,xx (show ¬(true=false) by simp)];by_cases h0:wid k=0
  ·have hw:=e0.2 h0;rw [itT (by simp [h0]),zIv,sb,hw];unfold rawW;cases hf:zdF 0 b with
   | true=>simp [hw]
   | false=>simp
  ·rw [itF (by simpa using h0),ef h0];by_cases hl:wid k=b.length
   ·rw [uQ,zMt,sb,xx (by simpa using hl)];unfold rawW;rw [xx (fun h=>h0 (e0.1 h))]
   ·rw [uP,xy (by simpa using hl)]
theorem zKz (k:Int) (b:List UInt8):zle k b=some (zmL k b):=by
 unfold zle zmL;rw [zIt,sb];cases hn:kNum k with
 | false=>rfl
 | true=>
  simp only [zJq];cases hf:zdF (zaM k) b with
  | false=>rfl
  | true=>
   simp only [zJq];rw [uN,zlS k (zrS k),sb,hn,xy rfl]
theorem zHh {k w:Int} (h:0<=w/\w<=18446744073709551615):zkw k w=some (if kNum k then (sPut k w,0) else ([],2)):=by
 have hc:=ziJ k h;obtain ⟨c,hcc⟩:∃c:Nat,zbE k w=c:=⟨(zbE k w).toNat,by omega⟩;unfold zkw;rw [zvk,sb];cases hn:kNum k with
 | false=>rfl
 | true=>
  simp only [yj];rw [uN,zlS k h,sb,hn];simp only [yj];rw [hcc];unfold sPut zkv;rw [hcc,xJ];unfold wid;by_cases h1:12<=k
  ·rw [xy h1,xy h1,uN,zAn,sb];rfl
  ·rw [xx h1,xx h1];by_cases h2:9<=k
   ·rw [xy h2,xy h2,uN,zAn,sb];rfl
   ·rw [xx h2,xx h2,uM,zFu [] (by omega) (by simp),sb,yb]
theorem zEe (h:0<=w/\w<=18446744073709551615):zjj k w=some (if kNum k then ((sPut k w).length:Int) else 0):=by
 have hc:=ziJ k h;obtain ⟨c,hcc⟩:∃c:Nat,zbE k w=c:=⟨(zbE k w).toNat,by omega⟩;unfold zjj;rw [zvk,sb];cases hn:kNum k with
 | false=>rfl
 | true=>
  simp only [yj];unfold sPut zkv;rw [hcc,xJ];unfold wid;by_cases h1:12<=k
  ·rw [xy h1,xy h1,uM,zbS]
  ·rw [xx h1,xx h1];by_cases h2:9<=k
   ·rw [xy h2,xy h2,uM,zbS]
   ·rw [xx h2,xx h2,uN,zlS k h,sb,hn];simp only [yj];rw [hcc,zJI (by omega),sb,ztv]
theorem zzT {α:Type} {l t:List α} {x:α} {k:Nat} (h:l.drop k=x::t):∃hk:k<l.length,l[k]=x/\l.drop (k+1)=t:=by
 have hk:k<l.length:=by
  rcases yU k l.length with h'| h'
  ·exact h'
  ·rw [yq h'] at h;cases h
 rw [yk hk] at h;injection h with h1 h2;exact ⟨hk,h1,h2⟩
theorem zBp (l:List (List UInt8)) (hl:l.length<=1099511627776):∀(t:List (List UInt8)) (k s:Nat),l.drop k=t->s+t.flatten.length<=1099511627776->
  zby l s k=some ((s+t.flatten.length:Nat):Int):=by
 intro t
 induction t with
 | nil=>
  intro k s hd _;have hk:l.length<=k:=by have:=congrArg List.length hd;simp at this;omega
  refine zjr ?_;unfold zau;rw [uQ];simp
 | cons x t ih=>
  intro k s hd hs;obtain ⟨hk,hx,hd'⟩:=zzT hd;simp only [qa,xE] at hs;refine (zjq (size':=((s+x.length:Nat):Int)) (v':=((k+1:Nat):Int)) ?_).trans ?_
  ·unfold zau;rw [uP,zR rfl hk,sb,hx,uR,uQ,uR];push_cast;rfl
  ·rw [ih _ _ hd' (by omega)];simp only [qa,xE];congr 2;omega
theorem zBq (l:List (List UInt8)) (hl:l.length<=1099511627776):∀(t:List (List UInt8)) (k:Nat) (acc:List UInt8),l.drop k=t->acc.length+t.flatten.length<=1099511627776->
  zbz l acc k=some (acc++t.flatten):=by
 intro t
 induction t with
 | nil=>
  intro k acc hd _;have hk:l.length<=k:=by have:=congrArg List.length hd;simp at this;omega
  refine zjt ?_;unfold zav;rw [uQ];simp
 | cons x t ih=>
  intro k acc hd hs;obtain ⟨hk,hx,hd'⟩:=zzT hd;simp only [qa,xE] at hs;refine (zjs (newslice':=acc++x) (v2':=((k+1:Nat):Int)) ?_).trans ?_
  ·unfold zav;rw [uP,zR rfl hk,sb,hx,zcg (by omega),sb,uR];push_cast;rfl
  ·rw [ih _ _ hd' (by rw [xE];omega)];simp
theorem zLt {n:Nat} (h:n<=1099511627776):zdq (n:Int)=some []:=by
 unfold zdq;have e:i64.wrap ((n:Int) - i64.wrap (0 - 0))=n:=by rw [zr (x:=0 - 0) (by omega),uR];omega
 rw [uO,e];by_cases h0:(n:Int)>0
 ·rw [itT (by simpa using h0),zqU (a:=n) rfl (qz _) (by omega),sb];have e0:cut (List.replicate n (0:UInt8)) 0 0=some []:=ztt (b:=0) rfl (xI _);rw [e0,sb]
 ·rw [itF (by simpa using h0)]
theorem zol (hl:l.length<=1099511627776) (h:l.flatten.length<=1099511627776):zaz l=some l.flatten:=by
 unfold zaz;have h1:=zBp l hl l 0 0 rfl (by omega);have h1':zby l 0 0=_:=h1;have h2:=zBq l hl l 0 [] rfl (by simpa using h);have h2':zbz l [] 0=_:=h2;rw [h1',sb,zLt (by omega),sb,h2',sb];simp
def wid9 (k:Int):Int:=if kNum k then (if 12<=k then 8 else if 9<=k then 4 else 1) else 0
theorem zzx (hk:kNum k=true):(((sPut k 0).length:Nat):Int)=(if 12<=k then 8 else if 9<=k then 4 else 1):=by
 have hk':=zhC.1 hk;have hc:(zbE k 0).toNat=0:=by
  have:k=1\/k=2\/k=3\/k=4\/k=5\/k=6\/k=7\/k=8\/k=9\/k=10\/k=11\/k=12\/k=13\/k=14:=by omega
  rcases this with h| h| h| h| h| h| h| h| h| h| h| h| h| h<;>subst h<;>decide
 unfold sPut;rw [hc];unfold zkv;by_cases h1:12<=k
 ·rw [xy h1,xy h1,zbS];rfl
 ·rw [xx h1,xx h1];by_cases h2:9<=k
  ·rw [xy h2,xy h2,zbS];rfl
  ·rw [xx h2,xx h2,ztv];simp [lenN]
theorem zAI (k:Int):zlY k=some (wid9 k):=by
 unfold zlY wid9;rw [zEe (by omega),sb];cases hk:kNum k with
 | false=>rfl
 | true=>simp only [yj];rw [zzx hk]
theorem zHs (hk:kNum k=true):(k<9->wid9 k=1)/\(¬k<9->k<12->wid9 k=4)/\(¬k<12->wid9 k=8):=by
 unfold wid9;rw [hk,xy rfl];refine ⟨fun h=>?_,fun h1 h2=>?_,fun h=>?_⟩
 ·rw [xx (show ¬12<=k by omega),xx (show ¬9<=k by omega)]
 ·rw [xx (show ¬12<=k by omega),xy (show 9<=k by omega)]
 ·rw [xy (show 12<=k by omega)]
theorem zEz (hk:kNum k=false):wid9 k=0:=by unfold wid9;rw [hk];rfl
theorem zHr (hk:kNum k=true):(wid9 k==0)=false:=by
 obtain ⟨h1,h2,h3⟩:=zHs hk;by_cases h9:k<9
 ·rw [h1 h9];rfl
 ·by_cases h12:k<12
  ·rw [h2 h9 h12];rfl
  ·rw [h3 h12];rfl
theorem zAE (hk:kNum k=true) (b:List UInt8):zoG (wid9 k) b=some (match znD k b with| .inl c=>(0,c)| .inr n=>((n:Int),0)):=by
 obtain ⟨w1,w2,w3⟩:=zHs hk;unfold zoG znD;by_cases h9:k<9
 ·rw [w1 h9,uM,zHf,sb,xy h9];rcases zmD b with h| ⟨h,_⟩| ⟨x,c,y,e,hx,hc,hl,hv,h⟩
  ·rw [h];rfl
  ·rw [h];rfl
  ·rw [h,xx (by simp)];simp
 ·rw [xx h9];by_cases h12:k<12
  ·rw [w2 h9 h12,uN,xy h12];by_cases hl:b.length<4
   ·rw [uP,xy hl]
   ·rw [uQ,xx hl];rfl
  ·rw [w3 h12,uN,xx h12];by_cases hl:b.length<8
   ·rw [uP,xy hl]
   ·rw [uQ,xx hl];rfl
def zka (k:Int) (b:List UInt8):List (List UInt8)×Int:=if kNum k=false then ([],2) else pcs k b
def go9 {σ ρ:Type} (kb:σ->(List UInt8×Int)->Option (σ⊕ρ)):List (List UInt8)->Int->σ->Option (σ⊕ρ)
 | [],c,s=>if c=0 then some (.inl s) else kb s ([],c)
 | p::ps,c,s=>match kb s (p,0) with
  | some (.inl s')=>go9 kb ps c s'
  | some (.inr r)=>some (.inr r)
  | none=>none
theorem zFF {σ ρ χ:Type} {kb:σ->χ->Option (σ⊕ρ)} {s:σ} {x:χ} {o:σ⊕ρ} (h:kb s x=some o):∃c,rnd kb (.inl s) x=some (c,o)/\(c=true/\(∃s',o= .inl s')\/c=false/\∃r,o= .inr r):=by
 cases o with
 | inl s'=>exact ⟨true,by simp only [rnd,h],.inl ⟨rfl,s',rfl⟩⟩
 | inr r=>exact ⟨false,by simp only [rnd,h],.inr ⟨rfl,r,rfl⟩⟩
theorem zOJ {σ ρ:Type} (kb:σ->(List UInt8×Int)->Option (σ⊕ρ)) {k:Int} (hk:kNum k=true) (b:List UInt8):∀(s:σ) (o:σ⊕ρ),go9 kb (pcs k b).1 (pcs k b).2 s=some o->
  ∃q,zgh (rnd kb) (wid9 k) b (.inl s)=some q/\(q= .inl o\/q= .inr o):=by
 refine zrR k (fun b=>∀(s:σ) (o:σ⊕ρ),go9 kb (pcs k b).1 (pcs k b).2 s=some o->
  ∃q,zgh (rnd kb) (wid9 k) b (.inl s)=some q/\(q= .inl o\/q= .inr o)) ?_ ?_ ?_ b
 ·intro s o h;rw [zpv] at h;have h':some (.inl s)=some o:=h;refine ⟨.inl o,ziE ?_,.inl rfl⟩;unfold zcb;rw [uN,<-qk h']
 ·intro l c hl hu hc s o h;rw [zrQ hl hu] at h;have h':kb s ([],c)=some o:=by
   have h2:(if c=0 then some (.inl s) else kb s ([],c))=some o:=h
   rwa [xx (by omega)] at h2
  obtain ⟨t,ht,_⟩:=zFF h';refine ⟨.inr o,ziE ?_,.inr rfl⟩;have hp:=qf.2 hl;unfold zcb;rw [uP,zAE hk,sb,hu];simp only;rw [zhn (i:=0) (j:=0) (a:=0) (b:=0) rfl rfl (xC _) (xI _),sb];simp only [xN,po,yx];rw [ht,sb,uP]
 ·intro l n hl hu g1 g2 g3 ih s o h;rw [zmC hl hu] at h;have hp:=qf.2 hl;have kF:∀{t:Bool} {y:σ⊕ρ},rnd kb (.inl s) (l.take n,0)=some (t,y)->zcb (rnd kb) (wid9 k) l (.inl s)=(if t then some (.inl (l.drop n,y)) else some (.inr (.inr y))):=by
   intro t y ht;unfold zcb;rw [uP,zAE hk,sb,hu];simp only;rw [zhn (i:=0) (j:=(n:Int)) (a:=0) (b:=n) rfl rfl (xI _) g2,sb];simp only [xN,qw];rw [ht,sb];cases t with
   | false=>rw [uM];rfl
   | true=>rw [uN,zqu (a:=n) rfl rfl g2,sb];rfl
  simp only [go9] at h;cases hb:kb s (l.take n,0) with
  | none=>rw [hb] at h;cases h
  | some z=>
   rw [hb] at h;obtain ⟨t,ht,hcase⟩:=zFF hb;have hB:=kF ht;rcases hcase with ⟨rfl,s',rfl⟩| ⟨rfl,r,rfl⟩
   ·obtain ⟨q,hq,hq'⟩:=ih s' o h;exact ⟨q,by rw [zsm hB];exact hq,hq'⟩
   ·have h':some (.inr r)=some o:=h;exact ⟨.inr (.inr r),ziE hB,.inr (by rw [qk h'])⟩
theorem zHq {σ ρ:Type} (kb:σ->(List UInt8×Int)->Option (σ⊕ρ)) (k:Int) (b:List UInt8) {s:σ} {o:σ⊕ρ} (h:go9 kb (zka k b).1 (zka k b).2 s=some o):zfr k b (rnd kb) (.inl s)=some o:=by
 unfold zfr;rw [zAI,sb];unfold zka at h;cases hk:kNum k with
 | false=>
  rw [hk,xy rfl] at h;have h':kb s ([],2)=some o:=h;obtain ⟨t,ht,_⟩:=zFF h';rw [zEz hk,uM,ht,sb]
 | true=>
  rw [hk,xx (by simp)] at h;have hw:=zHr hk;obtain ⟨q,hq,hq'⟩:=zOJ kb hk b s o h;rw [itF hw,hq,sb];rcases hq' with rfl| rfl<;>rfl
theorem zyW (k:Int) (b:List UInt8):(zka k b).2=(zbC k b).2/\((zbC k b).2=0->(zka k b).1=(pcs k b).1)/\(∀p∈(zka k b).1,zdF (zaM k) p=true/\1<=p.length/\p.length<=10)/\(zka k b).1.length<=b.length/\((zka k b).1=[]\/kNum k=true):=by
 unfold zka zbC;by_cases hn:kNum k=false
 ·rw [xy hn,xy hn];exact ⟨rfl,fun h=>by simp at h,(fun p hp=>by cases hp),xI _,.inl rfl⟩
 ·have hk:kNum k=true:=by simpa using hn
  rw [xx hn,xx hn];refine ⟨?_,fun _=>rfl,zDG hk b,zBU k b,.inr hk⟩;by_cases h0:(pcs k b).2=0
  ·rw [xy h0];exact h0
  ·rw [xx h0]
theorem zEB (hk:kNum k=true) (c:Int):∀(ps:List (List UInt8)) (acc:List Int),(∀p∈ps,zdF (zaM k) p=true/\1<=p.length/\p.length<=10)->acc.length+ps.length<=1048576->
  go9 (fun (s:List Int) (x:List UInt8×Int)=>zeD k s x.1 x.2) ps c acc=some (if c=0 then .inl (acc++ps.map (ziH k)) else .inr (c,acc++ps.map (ziH k)))
 | [],acc,_,hl=>by
  simp only [go9,qj,yA];by_cases h0:c=0
  ·rw [xy h0,xy h0]
  ·rw [xx h0,xx h0];unfold zeD;rw [itT (by simpa using h0)]
 | p::ps,acc,hf,hl=>by
  simp only [xR] at hl;have h1:zeD k acc p 0=some (.inl (acc++[ziH k p])):=by
   unfold zeD;rw [uN,zKz,sb,zld hk (hf p xz).1,zcg (by simp;omega),sb]
  simp only [go9,h1];rw [zEB hk c ps _ (fun q hq=>hf q (xA _ hq)) (by simp;omega)];simp
theorem zIp (k:Int) {b:List UInt8} (hb:b.length<=1048576):zoF k b=some (zbC k b):=by
 obtain ⟨h1,h2,h3,h4,h5⟩:=zyW k b;unfold zoF zku;rw [sb];simp only;have hgo:go9 (fun (s:List Int) (x:List UInt8×Int)=>zeD k s x.1 x.2) (zka k b).1 (zka k b).2 []=some (if (zka k b).2=0 then .inl ([]++(zka k b).1.map (ziH k)) else .inr ((zka k b).2,[]++(zka k b).1.map (ziH k))):=by
  rcases h5 with h5| h5
  ·rw [h5];simp only [go9,qj,yA];by_cases h0:(zka k b).2=0
   ·rw [xy h0,xy h0]
   ·rw [xx h0,xx h0];unfold zeD;rw [itT (by simpa using h0)]
  ·exact zEB h5 _ _ _ h3 (by simp;omega)
 rw [zHq _ k b hgo,sb,h1];by_cases h0:(zbC k b).2=0
 ·rw [xy h0,h2 h0];simp only [yb];rw [<-(zwd h0).2.2,<-h0]
 ·rw [xx h0];simp only;rw [<-(zzd h0).1]
theorem zCO (c:Int):∀(ps:List (List UInt8)) (n:Nat),n+ps.length<=1048576->
  go9 (fun (s:Int) (x:List UInt8×Int)=>zgz s x.1 x.2) ps c (n:Int)=some (if c=0 then .inl ((n+ps.length:Nat):Int) else .inr (c,((n+ps.length:Nat):Int)))
 | [],n,hl=>by
  simp only [go9,yR,yF];by_cases h0:c=0
  ·rw [xy h0,xy h0]
  ·rw [xx h0,xx h0];unfold zgz;rw [itT (by simpa using h0)]
 | p::ps,n,hl=>by
  simp only [xR] at hl;have h1:zgz (n:Int) p 0=some (.inl ((n+1:Nat):Int)):=by
   unfold zgz;rw [uN,uR];rfl
  simp only [go9,h1];rw [zCO c ps (n+1) (by omega)];simp only [xR];rw [Nat.add_right_comm,qo]
theorem zIh (k:Int) {b:List UInt8} (hb:b.length<=1048576):zoE k b=some (((zbC k b).1.length:Int),(zbC k b).2):=by
 obtain ⟨h1,h2,h3,h4,h5⟩:=zyW k b;unfold zoE zku;rw [sb];simp only;have hgo:=zCO (zka k b).2 (zka k b).1 0 (by omega);rw [zHq (s:=(0:Int)) _ k b hgo,sb,h1];by_cases h0:(zbC k b).2=0
 ·rw [xy h0,h2 h0];simp only;rw [(zwd h0).2.2,h0];simp
 ·rw [xx h0];simp only;rw [(zzd h0).1];rfl
theorem zHZ {k:Int} (hk:kNum k=true) {l:List Int} (h:∀w∈l,0<=w/\w<=18446744073709551615) (hl:l.length<=1048576):∀(d i:Nat),i+d=l.length->
  zji k l ((l.take i).flatMap (sPut k)) i=some (l.flatMap (sPut k)):=by
 intro d
 induction d with
 | zero=>
  intro i hi;refine zwi ?_;unfold zfy;rw [uQ,yG (by omega)]
 | succ d ih=>
  intro i hi;have ka:i<l.length:=by omega
  have hw:=h _ (xF ka);have ke:=zmK (k:=k) hw;have hpre:∀m:List Int,(∀w∈m,0<=w/\w<=18446744073709551615)->(m.flatMap (sPut k)).length<=10*m.length:=by
   intro m hm
   induction m with
   | nil=>simp
   | cons x m ihm=>
    have h1:=zmK (k:=k) (hm x xz);have h2:=ihm (fun w hw=>hm w (xA _ hw));simp only [xU,xE,xR];omega
  have hp:=hpre (l.take i) (fun w hw=>h w (List.mem_of_mem_take hw));have hti:(l.take i).length=i:=by rw [ye];omega
  have hb:zfy k l ((l.take i).flatMap (sPut k)) i=some (.inl ((l.take (i+1)).flatMap (sPut k),((i+1:Nat):Int))):=by
   unfold zfy;rw [uP,zR rfl ka,sb,zHh hw,sb,hk,xy rfl];simp only;rw [zcg (by omega),sb,uR,q6 ka,qr];simp
  rw [zwh hb];exact ih (i+1) (by omega)
theorem zKk (k:Int) {l:List Int} (h:∀w∈l,0<=w/\w<=18446744073709551615) (hl:l.length<=1048576):zrj k l=some (if kNum k then (l.flatMap (sPut k),0) else ([],2)):=by
 unfold zrj;rw [zAI,sb];cases hk:kNum k with
 | false=>rw [zEz hk];rfl
 | true=>
  have hlp:=zHZ hk h hl l.length 0 (by omega);have hlp':zji k l [] 0=_:=hlp;rw [itF (zHr hk),hlp',sb,xy rfl]
abbrev PVw:=zf
def prV (v:Vw):PVw:=⟨v.R,v.Field,v.Run⟩
theorem zyZ (m:Mes) (he:∀p c,e=some (p,c)->3<=c/\c<=5):∀(l:List Rec) (p c:Int),(vws m e l).2=some (p,c)->3<=c/\c<=6
 | [],p,c,h=>by
  cases e with
  | none=>cases h
  | some q=>
   simp only [vws,qu,ym,yI] at h;have:=he q.1 q.2 rfl;omega
 | r::l,p,c,h=>by
  rw [vws] at h;rcases zhj m r.Number r.Wire with hv| ⟨hv,_⟩| ⟨i,run,hv,_⟩
  ·simp only [hv,ym,yI] at h;omega
  ·simp only [hv] at h;exact zyZ m he l p c h
  ·simp only [hv] at h;exact zyZ m he l p c h
theorem zNO (b:List UInt8):∀p c,(spl 0 b).2=some (p,c)->3<=c/\c<=5:=fun p c h=>by
 have:=(zKy 0 b p c h).1;omega
theorem zvE (m:Mes) (b:List UInt8):(zeK m b).2.2=0/\(vws m (spl 0 b).2 (spl 0 b).1).2=none/\(zeK m b).1=(vws m (spl 0 b).2 (spl 0 b).1).1/\(zeK m b).2.1=0\/(3<=(zeK m b).2.2/\(zeK m b).2.2<=6)/\(zeK m b).1=[]:=by
 unfold zeK vwR;cases h:(vws m (spl 0 b).2 (spl 0 b).1).2 with
 | none=>exact .inl ⟨rfl,rfl,rfl,rfl⟩
 | some q=>exact .inr ⟨zyZ m (zNO b) _ q.1 q.2 h,rfl⟩
theorem zza :∀{l:List Rec},(vws m e l).2=none->e=none/\(vws m e l).1.map (·.R)=l
 | [],h=>by
  cases e with
  | none=>exact ⟨rfl,rfl⟩
  | some q=>simp [vws] at h
 | r::l,h=>by
  rw [vws] at h|-;rcases zhj m r.Number r.Wire with hv| ⟨hv,_⟩| ⟨i,run,hv,_⟩
  ·simp only [hv] at h;cases h
  ·simp only [hv] at h|-;have:=zza h;exact ⟨this.1,by simp [this.2]⟩
  ·simp only [hv] at h|-;have:=zza h;exact ⟨this.1,by simp [this.2]⟩
theorem zEu :∀{l:List Rec},∀v∈(vws m e l).1,v.R∈l/\vw m v.R.Number v.R.Wire= .inr (v.Field,v.Run)
 | [],v,h=>by cases h
 | r::l,v,h=>by
  rw [vws] at h;rcases zhj m r.Number r.Wire with hv| ⟨hv,_⟩| ⟨i,run,hv,_⟩
  ·simp only [hv] at h;cases h
  all_goals
   simp only [hv] at h;rcases xD.1 h with rfl| h
   ·exact ⟨xz,hv⟩
   ·have:=zEu v h;exact ⟨xA _ this.1,this.2⟩
theorem zMm (h:v∈(zeK m b).1):v.R∈(spl 0 b).1/\vw m v.R.Number v.R.Wire= .inr (v.Field,v.Run):=by
 rcases zvE m b with ⟨_,_,e,_⟩| ⟨_,e⟩
 ·rw [e] at h;exact zEu v h
 ·rw [e] at h;cases h
theorem zse (t:zao):zlZ t=some (zcU t.Number t.Wire):=by
 have e:ziM t.Wire=some (decide (t.Wire=0\/t.Wire=1\/t.Wire=2\/t.Wire=5)):=by
  unfold ziM;by_cases h0:t.Wire=0
  ·simp [h0]
  by_cases h1:t.Wire=1
  ·simp [h1]
  by_cases h2:t.Wire=2
  ·simp [h2]
  by_cases h5:t.Wire=5
  ·simp [h5]
  simp [h0,h1,h2,h5]
 unfold zlZ zcU;rw [e];by_cases h1:1<=t.Number
 ·by_cases h2:t.Number<=536870911
  ·rw [itT (by simpa using h1),itT (by simpa using h2),sb,sb];simp [h1,h2]
  ·rw [itT (by simpa using h1),itF (by simpa using h2),sb];simp [h2]
 ·rw [itF (by simpa using h1),sb];simp [h1]
theorem zOn (w:Nat) (h:w<18446744073709551616):andI .u64 (w:Int) 7=((w%8:Nat):Int):=by
 have e:=zCA (k:= .u64) rfl (a:=w) (b:=7) (by simpa [IntKind.bits] using h) (by simp [IntKind.bits]);have e2:w&&&7=w%8:=uK w 3;rw [e2] at e;exact e
theorem zOF (w:Nat):shrI .u64 (w:Int) 3=((w/8:Nat):Int):=zuf (k:= .u64) (a:=w) (b:=3) (by simp [IntKind.bits])
theorem zKL (b:List UInt8):zro b=some ((⟨(tg b).1,(tg b).2.1⟩:zao),(tg b).2.2.1,(tg b).2.2.2):=by
 obtain ⟨h1,h2,h3,h4,h5,h6,h7⟩:=zhJ b;unfold zro tg;rw [zwQ,sb];by_cases h:(rd b).2.2=0
 ·rw [itF (by simpa using h)];obtain ⟨w,hw⟩:∃w:Nat,(rd b).1=w:=⟨(rd b).1.toNat,by omega⟩;rw [hw] at h2|-;rw [zOF,zOn w (by omega)];have e0:i64.wrap ((w%8:Nat):Int)=(w:Int)%8:=by rw [uR];omega
  by_cases hg:4294967295<w
  ·have e1:i64.wrap (if (536870912:Int)<((w/8:Nat):Int) then 536870912 else ((w/8:Nat):Int))=536870912:=by
    split
    ·rfl
    ·rw [uR];omega
   rw [e0,e1,zse,sb];have e2:zcU 536870912 ((w:Int)%8)=false:=by simp [zcU]
   simp only [e2];rw [uM,zrq h (.inl (by rw [hw];omega))]
  ·have e1:i64.wrap (if (536870912:Int)<((w/8:Nat):Int) then 536870912 else ((w/8:Nat):Int))=(w:Int)/8:=by
    rw [xx (by omega),uR];omega
   rw [e0,e1,zse,sb];simp only;cases ht:zcU ((w:Int)/8) ((w:Int)%8)
   ·rw [uM,zrq h (.inr (by rw [hw];exact ht))]
   ·rw [uN,zFM h (by rw [hw,ht];simp;omega),hw]
 ·rw [itT (by simpa using h),zCr h]
theorem zNZ {t:zao} (h:zcU t.Number t.Wire=true):zrp t=some ((tW t.Number t.Wire:Nat):Int):=by
 have hr:=zfe.1 h;obtain ⟨e,ka⟩:=zyL h;unfold zrp;congr 1;obtain ⟨n,hn⟩:∃n:Nat,t.Number=n:=⟨t.Number.toNat,by omega⟩;obtain ⟨w,hw⟩:∃w:Nat,t.Wire=w:=⟨t.Wire.toNat,by omega⟩;have e3:tW t.Number t.Wire=8*n+w:=by omega
 rw [e3,hn,hw,wrap_u64,wrap_u64,yJ (by omega) (by omega),yJ (by omega) (by omega)];have e4:shlI .u64 (n:Int) 3=((n*8:Nat):Int):=by
  have h3:shlI .u64 (n:Int) 3=((n*8%18446744073709551616:Nat):Int):=by
   simp [shlI,IntKind.bits,wrap_u64]
  rw [h3,qt (by omega)]
 rw [e4,zwK rfl (by simp [IntKind.bits];omega) (by simp [IntKind.bits];omega),pI,zyd w n 3 (by omega)];congr 1;omega
theorem zMj {t:zao} (b:List UInt8) (hb:b.length<=1099511627776) (h:zcU t.Number t.Wire=true):zpE b t=some (b++enc (tW t.Number t.Wire),0):=by
 obtain ⟨_,ka⟩:=zyL h;unfold zpE;rw [zse,sb,h,uN,zNZ h,sb,zFu b (by omega) hb,sb]
theorem zMk {t:zao} (b:List UInt8) (h:zcU t.Number t.Wire=false):zpE b t=some ([],2):=by
 unfold zpE;rw [zse,sb,h,uM]
theorem zHg (hw:w=0\/w=1\/w=2\/w=5) (hb:b.length<=1048576):
  zjg w b=some (match zeT w 0 b with| .inl c=>(0,(if w=0 then (rd b).2.1 else 0),c)| .inr (a,t)=>((a:Int),(t:Int),0)):=by
 obtain ⟨h1,h2,h3,h4,h5,h6,h7⟩:=zhJ b;unfold zjg zeT;rcases hw with rfl| rfl| rfl| rfl
 ·rw [uM,zHf,sb,xy rfl];by_cases h:(rd b).2.2=0
  ·rw [xx (by simpa using h)];simp only [h,xQ];congr 3;simp;omega
  ·rw [xy h];rfl
 ·rw [uN,uM,sb,uN,xx (show ¬((1:Int)=0) by omega),xx (show ¬((1:Int)=2) by omega)];simp only;have e:u64.wrap (i64.wrap ((b.length:Int) - 0))=(b.length:Int):=by rw [uR,wrap_u64];omega
  rw [e];by_cases g:b.length<8
  ·rw [uP,xy (by simpa using g)];rfl
  ·rw [uQ,xx (by simpa using g)];rfl
 ·rw [uN,uN,uN,uM,zwQ,sb,sb,xx (show ¬((2:Int)=0) by omega),xy (show (2:Int)=2 from rfl)];by_cases h:(rd b).2.2=0
  ·have hk:=h7 h;rw [itF (by simpa using h),xx (show ¬((rd b).2.2≠0) from fun g=>g h)];simp only;have e:u64.wrap (i64.wrap ((b.length:Int) - (rd b).2.1))=(b.length:Int) - (rd b).2.1:=by rw [uR,wrap_u64];omega
   rw [e];by_cases g:(b.length:Int) - (rd b).2.1<(rd b).1
   ·rw [itT (by simpa using g),xy g];rfl
   ·rw [itF (by simpa using g),xx g,zr (x:=(rd b).1) (by omega),uR];simp;omega
  ·rw [itT (by simpa using h),xy h];rfl
 ·rw [uN,uN,uM,sb,uN,xx (show ¬((5:Int)=0) by omega),xx (show ¬((5:Int)=2) by omega)];simp only;have e:u64.wrap (i64.wrap ((b.length:Int) - 0))=(b.length:Int):=by rw [uR,wrap_u64];omega
  rw [e];by_cases g:b.length<4
  ·rw [uP,xy (by simpa using g)];rfl
  ·rw [uQ,xx (by simpa using g)];rfl
theorem zCF (w:Int) (k:Nat) (m:List UInt8):zeT w k m=match zeT w 0 m with| .inl c=> .inl c| .inr (a,t)=> .inr (k+a,k+t):=by
 unfold zeT
 repeat' split
 all_goals first
  | rfl
  | (rename_i h1 h2;injection h2 with h3;injection h3 with h4 h5;subst h4 h5;simp<;>omega)
  | simp_all<;>omega
theorem zBP (hb:b.length<=1048576) (at5:Int):zie b at5=some (zdG b at5):=by
 unfold zie zdG;by_cases h:at5<0\/at5>=b.length
 ·rw [itT (by simpa using h),xy h];rfl
 ·rw [itF (by simpa using h),xx h];obtain ⟨p,rfl⟩:∃p:Nat,at5=p:=⟨at5.toNat,by omega⟩;rw [zqu rfl rfl (by omega),sb,zKL,sb,xJ];have hdl:(b.drop p).length=b.length - p:=by simp
  rcases zyM (b.drop p) with ⟨c,ht,hc⟩| ⟨n,w,k,ht,hr,k1,k2,k3,hrd⟩
  ·have e:rec5 (b.drop p)= .inl c:=by unfold rec5;rw [ht,xy (by simp only;omega)]
   rw [e,ht,uP];rfl
  ·obtain ⟨k,rfl⟩:∃j:Nat,k=j:=⟨k.toNat,by omega⟩
   have e:rec5 (b.drop p)=match zeT w k ((b.drop p).drop k) with
    | .inl c=> .inl c
    | .inr p=> .inr (n,w,p.1,p.2):=by unfold rec5;rw [ht];simp<;>rfl
   have hdd:(b.drop p).drop k=b.drop (p+k):=by rw [yi]
   have hml:(b.drop (p+k)).length=b.length - (p+k):=by simp
   have ew:i64.wrap ((p:Int)+k)=((p+k:Nat):Int):=by rw [uR];push_cast;rfl
   rw [e,ht,uO,hdd];simp only [ew];rw [zqu rfl rfl (by omega),sb,zHg (zfe.1 hr).2.2 (by omega),sb,zCF w k];rcases zkN w 0 (b.drop (p+k)) with ⟨c,hc,hc2⟩| ⟨a,t,hc,_,_,hle,_⟩
   ·rw [hc];simp only;rw [uP];rfl
   ·rw [hc];simp only;rw [uN,uR,uR];simp only [ym,yI,zn.mk.injEq,qb,qM];push_cast;omega
theorem zLr {w:Int} {v:List UInt8} (hw:w=0\/w=1\/w=2\/w=5) (hv:v.length<=1048576):zla w v=some (zdF w v):=by
 obtain ⟨h1,h2,h3,h4,h5,h6,h7⟩:=zhJ v;unfold zla;by_cases h:w=2
 ·rw [itT (by simpa using h)];subst h;rfl
 ·rw [itF (by simpa using h),zHg hw hv,sb];unfold zeT zdF;congr 1;rcases hw with rfl| rfl| rfl| rfl
  ·rw [xy rfl,xy rfl];by_cases hg:(rd v).2.2=0
   ·rw [xx (by simpa using hg)];have e:(((0+(rd v).2.1.toNat:Nat):Int)==(v.length:Int))=decide ((rd v).2.1=v.length):=by rw [zpb];exact qn.2 (by omega)
    simp only [e,hg,qb];rfl
   ·rw [xy hg];simp [hg]
  ·by_cases g:v.length<8
   ·have:v.length≠8:=by omega
    simp [g,this]
   ·by_cases g8:v.length=8
    ·simp [g8]
    ·have:¬((8:Int)=v.length):=by omega
     simp [g,g8,this]
  ·exact absurd rfl h
  ·by_cases g:v.length<4
   ·have:v.length≠4:=by omega
    simp [g,this]
   ·by_cases g8:v.length=4
    ·simp [g8]
    ·have:¬((4:Int)=v.length):=by omega
     simp [g,g8,this]
theorem zJZ {n w:Int} {v:List UInt8} (h:zcU n w=true) (hv:v.length<=1048576):(put5 n w v).length<=v.length+20:=by
 obtain ⟨_,ka⟩:=zyL h;have h1:=zlp (v:=tW n w) (by omega);have h2:=zlp (v:=v.length) (by omega);rw [zoA];split<;>omega
theorem zHd {b v:List UInt8} {n w:Int} (hb:b.length<=1048576) (hv:v.length<=1048576):
  zkq b n w v=some (if zcU n w=true/\zdF w v=true then (b++put5 n w v,0) else ([],2)):=by
 unfold zkq;cases h:zcU n w
 ·rw [zMk [] h,sb,uM,sb,uM];rfl
 ·have hp:=zJZ h hv;rw [zMj [] (by simp) h,sb,uN,zLr (zfe.1 h).2.2 hv,sb,sb];cases hf:zdF w v
  ·rw [uM];rfl
  ·rw [uN];have e:u64.wrap (v.length:Int)=(v.length:Int):=by rw [wrap_u64,yJ (by omega) (by omega)]
   obtain ⟨_,ka⟩:=zyL h;have h1:=zlp (v:=tW n w) (by omega);by_cases hw:w=2
   ·have hl:=zoA n w v;rw [xy hw] at hl;rw [itT (by simpa using hw),e,zFu _ (by omega) (by simp;omega),sb,zol (by simp) (by simp;omega),sb];simp [put5,hw]
   ·have hl:=zoA n w v;rw [xx hw] at hl;rw [itF (by simpa using hw),zol (by simp) (by simp;omega),sb];simp [put5,hw]
theorem zLX {b v:List UInt8} {n:Int} (hb:b.length<=1048576) (hv:v.length<=1048576):
  zmF b n v=some (if zcU n 2=true then b++put5 n 2 v else b):=by
 unfold zmF;rw [zHd hb hv,sb];have hf:zdF 2 v=true:=rfl;simp only [hf,qM];cases h:zcU n 2
 ·rw [xx (show ¬(false=true) by simp),xx (show ¬(false=true) by simp),uM,zol (by simp) (by simp;omega),sb];simp
 ·rw [xy rfl,xy rfl,uN]
abbrev Head:=zU
abbrev Role:=zX
def rol (m:Mes) (h:Head):Role:=match vw m h.number h.wire with
 | .inl c=>⟨0,false,c⟩
 | .inr (i,run)=>⟨i,run,0⟩
theorem zIE (hm:m.Fields.length<=1152921504606846976) (n:Int):zmR m n=some (fldI m n):=by
 unfold zmR zaD;have h:=zrG (fun f:Fld=>f.Number==n) m.Fields (fun i=>zZ m.Fields n i) (zbT (by unfold zJ;rw [uO])) (fun i hi=>by
  by_cases hp:(m.Fields[i].Number==n)=true
  ·rw [xy hp];exact zbT (by unfold zJ zjQ;rw [uP,zR rfl hi,sb,sb,itT hp])
  ·rw [xx hp];exact zel (by unfold zJ zjQ;rw [uP,zR rfl hi,sb,sb,itF (pt hp),uR];rfl)) m.Fields.length 0 (by omega) (fun j _ h=>by omega)
 have h':zZ m.Fields n 0=_:=h;rw [h',sb];unfold fldI zjA;cases m.Fields.findIdx? (fun f:Fld=>f.Number==n) with
 | none=>rfl
 | some i=>rfl
theorem zIF (f:Fld) (w:Int):zmS f w=some (decide (f.Repeated=true/\kNum f.Kind=true/\w=2)):=by
 unfold zmS;cases f.Repeated
 ·simp [sb]
 ·by_cases hw:w=2
  ·subst hw;rw [itT rfl,itT (c:=(2:Int)==2) rfl,zxL,sb,sb];cases kNum f.Kind<;>rfl
  ·rw [itT rfl,itF (by simpa using hw),sb];simp [hw]
theorem zKS (k w:Int):zoS k w=some (decide (¬(zbO k=false\/zaM k≠w))):=by
 unfold zoS;rw [zDr,sb];cases zbO k with
 | false=>rfl
 | true=>
  by_cases h:zaM k=w<;>simp [h]
theorem zFS (hm:m.Fields.length<=1152921504606846976) (h:Head):zjo m h=some (rol m h):=by
 unfold zjo rol;rw [zIE hm,sb];unfold vw;rcases zhq m h.number with ⟨hf,_⟩| ⟨i,hi,hf,_⟩
 ·rw [hf,uM,xy (by decide)]
 ·rw [hf,uO,xx (by omega),zR rfl hi,sb,zcX hi,zIF,sb];by_cases h1:(m.Fields[i]).Repeated=true/\kNum (m.Fields[i]).Kind=true/\h.wire=2
  ·rw [xy h1,xO h1];rfl
  ·rw [xx h1,xV h1,uM,zKS,sb,sb];by_cases h2:zbO (m.Fields[i]).Kind=false\/zaM (m.Fields[i]).Kind≠h.wire
   ·rw [xy h2,itT (by rw [xV (fun g=>g h2)];rfl)]
   ·rw [xx h2,itF (by rw [xO h2];rfl)]
def zpH (m:Mes) (met:List (Head×Role)):Prop:=∀h x,mget met h=some x->x=rol m h
theorem zpH.nil (m:Mes):zpH m []:=fun h x g=>by cases g
theorem zpH.put (g:zpH m met) (h:Head):zpH m (mput met h (rol m h)):=fun j x hx=>by
 rw [zje] at hx;by_cases e:j=h
 ·rw [xy e] at hx;rw [e];exact (qk hx).symm
 ·rw [xx e] at hx;exact g j x hx
theorem zxT (hm:m.Fields.length<=1152921504606846976) (hb:b.length<=1048576) (p:Int) (g:zpH m met):
  ∃ku,zmb m b p met=some (prV (zch m b p).1,(zch m b p).2,ku)/\zpH m ku:=by
 unfold zmb zch;rw [zBP hb,sb];by_cases h:(zdG b p).2=0
 ·rw [itF (by simpa using h),xx (show ¬((zdG b p).2≠0) from fun q=>q h)]
  generalize (zdG b p).1=r
  have key:∃ku,(if (!(mget met (⟨r.Number,r.Wire⟩:Head)).isSome) then (zjo m (⟨r.Number,r.Wire⟩:Head)>>=fun w8=>some ((mput met (⟨r.Number,r.Wire⟩:Head) w8),w8.field,w8.run,w8.e))
    else some (met,((mget met (⟨r.Number,r.Wire⟩:Head)).getD (⟨0,false,0⟩:Role)).field,((mget met (⟨r.Number,r.Wire⟩:Head)).getD (⟨0,false,0⟩:Role)).run,((mget met (⟨r.Number,r.Wire⟩:Head)).getD (⟨0,false,0⟩:Role)).e))=some (ku,(rol m ⟨r.Number,r.Wire⟩).field,(rol m ⟨r.Number,r.Wire⟩).run,(rol m ⟨r.Number,r.Wire⟩).e)/\zpH m ku:=by
   cases hg:mget met (⟨r.Number,r.Wire⟩:Head) with
   | none=>
    rw [uM,zFS hm,sb];exact ⟨_,rfl,g.put _⟩
   | some x=>
    rw [uN];refine ⟨met,?_,g⟩;rw [<-g _ x hg];rfl
  obtain ⟨ku,hk,hM⟩:=key;refine ⟨ku,?_,hM⟩;rw [hk,sb];unfold rol;rcases zhj m r.Number r.Wire with hv| ⟨hv,_⟩| ⟨i,run,hv,_⟩
  ·simp only [hv];rfl
  ·simp only [hv];rfl
  ·simp only [hv];rfl
 ·rw [itT (by simpa using h),xy h];exact ⟨met,rfl,g⟩
theorem zKT (hm:m.Fields.length<=1152921504606846976) (hb:b.length<=1048576) (p:Int):zoR m b p=some (prV (zch m b p).1,(zch m b p).2):=by
 obtain ⟨ku,h,_⟩:=zxT hm hb p (zpH.nil m);unfold zoR;rw [h,sb]
theorem zIB (hm:m.Fields.length<=1152921504606846976) (hb:b.length<=1048576) (base:Nat) (l:List UInt8):∀(out:List Vw) (met:List (Head×Role)),base<=b.length->l=b.drop base->out.length<=base->zpH m met->
  zik b m (out.map prV) met base=some (match (vws m (spl base l).2 (spl base l).1).2 with| none=> .inl ((out++(vws m (spl base l).2 (spl base l).1).1).map prV)| some (p,c)=> .inr (p,c)):=by
 refine zis (fun base l=>∀(out:List Vw) (met:List (Head×Role)),base<=b.length->l=b.drop base->out.length<=base->zpH m met->
  zik b m (out.map prV) met base=some (match (vws m (spl base l).2 (spl base l).1).2 with| none=> .inl ((out++(vws m (spl base l).2 (spl base l).1).1).map prV)| some (p,c)=> .inr (p,c))) ?_ ?_ ?_ base l
 ·intro base out met hbase hl ho hM;have:b.length<=base:=by have:=congrArg List.length hl;simp at this;omega
  rw [zgR];simp only [vws,pF,yA];refine zlt ?_;unfold zej;rw [uQ]
 ·intro base l c hl h hc out met hbase hld ho hM;subst hld;have ka:base<b.length:=by have:=qf.2 hl;simp at this;omega
  rw [zhW hl h];simp only [vws,qu];refine zlt ?_;unfold zej;have e:zdG b base=(zrec,c):=by unfold zdG;rw [xx (by omega),xJ,h]
  have e2:zch m b base=(zvw,c):=by unfold zch;rw [e,xy (by simp only;omega)]
  obtain ⟨ku,hk,_⟩:=zxT hm hb base hM;rw [uP,hk,sb,e2,uP]
 ·intro base l n w a t hl h _ g1 g2 g3 ih out met hbase hld ho hM;subst hld;simp only [yd] at g3;have ka:base<b.length:=by omega
  rw [zfk hl h];have e:zdG b base=(⟨n,w,base,(base+a:Nat),(base+t:Nat)⟩,0):=by
   unfold zdG;rw [xx (by omega),xJ,h];push_cast;rfl
  rw [vws];obtain ⟨ku,hk,hM'⟩:=zxT hm hb base hM;rcases zhj m n w with hv| ⟨hv,_⟩| ⟨i,run,hv,_,hi⟩
  ·have e2:zch m b base=(zvw,6):=by unfold zch;rw [e];simp only [yL,yS,yo,hv]
   simp only [hv];refine zlt ?_;unfold zej;rw [uP,hk,sb,e2,uM]
  ·have e2:zch m b base=(⟨⟨n,w,base,(base+a:Nat),(base+t:Nat)⟩, -1,false⟩,0):=by unfold zch;rw [e];simp only [yL,yS,yo,hv]
   simp only [hv];refine (zpR (l':=(out++([⟨⟨n,w,base,(base+a:Nat),(base+t:Nat)⟩, -1,false⟩]:List Vw)).map prV) (ku:=ku) (fromv':=((base+t:Nat):Int)) ?_).trans ?_
   ·unfold zej;rw [uP,hk,sb,e2,uN,zcg (by simp;omega),sb,yV];rfl
   ·rw [ih _ ku (by omega) (by rw [yi]) (by simp;omega) hM'];simp only [yu,qO]
  ·have e2:zch m b base=(⟨⟨n,w,base,(base+a:Nat),(base+t:Nat)⟩,i,run⟩,0):=by unfold zch;rw [e];simp only [yL,yS,yo,hv]
   simp only [hv];refine (zpR (l':=(out++([⟨⟨n,w,base,(base+a:Nat),(base+t:Nat)⟩,i,run⟩]:List Vw)).map prV) (ku:=ku) (fromv':=((base+t:Nat):Int)) ?_).trans ?_
   ·unfold zej;rw [uP,hk,sb,e2,uN,zcg (by simp;omega),sb,yV];rfl
   ·rw [ih _ ku (by omega) (by rw [yi]) (by simp;omega) hM'];simp only [yu,qO]
theorem zMq (hm:m.Fields.length<=1152921504606846976) (hb:b.length<=1048576):zrz m b=some ((zeK m b).1.map prV,(zeK m b).2.1,(zeK m b).2.2):=by
 unfold zrz;have h:=zIB hm hb 0 b [] [] (xI _) rfl (xC _) (zpH.nil m);have h':zik b m [] [] 0=_:=h;rw [h',sb];unfold zeK vwR;cases (vws m (spl 0 b).2 (spl 0 b).1).2 with
 | none=>rfl
 | some p=>rfl
theorem zMl (m:Mes) (b:List UInt8):(zeK m b).1.length<=b.length:=by
 rcases zvE m b with ⟨_,hn,e,_⟩| ⟨_,e⟩
 ·have h:=congrArg List.length (zza hn).2;rw [yN] at h;rw [e,h];exact zMd 0 b
 ·rw [e];simp
def zpP (m:Mes) (g:Int->List UInt8->Nat) (b:List UInt8) (r:Rec):Nat:=match vw m r.Number r.Wire with
 | .inl _=>0
 | .inr (i,run)=>if i<0\/run=true then 0 else if (zE m i).Kind=17 then g (zE m i).Of (valB b r)+1 else 0
def znu (m:Mes) (g:Int->List UInt8->Nat) (b:List UInt8):List Rec->Nat
 | []=>0
 | r::l=>max (zpP m g b r) (znu m g b l)
def zki (s:List Mes):Nat->Int->List UInt8->Nat
 | 0,k,b=>znu (zK s k) (fun _ _=>0) b (spl 0 b).1
 | d+1,k,b=>znu (zK s k) (zki s d) b (spl 0 b).1
theorem ztB :∀{l:List Rec},znu m g b l<=e↔∀r∈l,zpP m g b r<=e
 | []=>by simp [znu]
 | r::l=>by
  have ih:=ztB (m:=m) (g:=g) (b:=b) (e:=e) (l:=l);unfold znu;rw [List.forall_mem_cons,<-ih];omega
theorem zsb (h:zdN m a b r=none) (hc0:c=none↔e=0)
  (hc:∀q,a=some q->∀q',c=some q'->∀k v,q k v=none->(q' k v=none↔g k v+1<=e)):zdN m c b r=none↔zpP m g b r<=e:=by
 unfold zdN at h|-;unfold zpP;cases hv:vw m r.Number r.Wire with
 | inl x=>rw [hv] at h;cases h
 | inr p=>
  obtain ⟨i,run⟩:=p;rw [hv] at h;simp only at h|-;by_cases hi:i<0
  ·rw [xy hi,xy (.inl hi)];simp
  ·rw [xx hi] at h|-;unfold zmA at h|-;by_cases hr:run=true
   ·rw [xy hr] at h;rw [xy hr,xy (show i<0\/run=true from .inr hr)];exact ⟨fun _=>xI _,fun _=>h⟩
   ·rw [xx hr] at h|-;rw [xx (show ¬(i<0\/run=true) from fun q=>q.elim hi hr)];by_cases h15:(zE m i).Kind=15/\zfq (valB b r)=false
    ·rw [xy h15] at h;cases h
    ·rw [xx h15] at h|-;by_cases kh:(zE m i).Kind=17
     ·rw [xy kh] at h|-;rw [xy kh];cases a with
      | none=>cases h
      | some q=>
       simp only at h;cases hq:q (zE m i).Of (valB b r) with
       | some z=>rw [hq] at h;cases h
       | none=>
        cases c with
        | none=>
         have:=hc0.1 rfl;simp only;exact ⟨(fun hh=>nomatch hh),(fun hh=>by omega)⟩
        | some q'=>
         have:=hc q rfl q' rfl _ _ hq;simp only;rw [<-this];cases q' (zE m i).Of (valB b r)<;>simp
     ·rw [xx kh,xx kh];simp
theorem zCP (s:List Mes):∀(d e:Nat) (k:Int) (b:List UInt8),e<=d->zaq s d k b=none->(zaq s e k b=none↔zki s d k b<=e)
 | 0,e,k,b,he,h=>by
  have:e=0:=by omega
  subst this;refine ⟨fun _=>ztB.2 (fun r hr=>?_),fun _=>h⟩;have h':=(zgZ.1 h).1 r hr;exact (zsb (a:=none) (c:=none) h' (by simp) (fun q hq q' hq'=>nomatch hq')).1 h'
 | d+1,0,k,b,he,h=>by
  have h':zcG (zK s k) (some (zaq s d)) b (spl 0 b)=none:=h;rw [zgZ] at h';show zcG (zK s k) none b (spl 0 b)=none↔znu _ _ _ _<=0;rw [zgZ,ztB];constructor
  ·intro hh r hr;exact (zsb (a:=some (zaq s d)) (c:=none) (h'.1 r hr) (by simp) (fun q hq q' hq'=>nomatch hq')).1 (hh.1 r hr)
  ·intro hh;exact ⟨fun r hr=>(zsb (a:=some (zaq s d)) (c:=none) (h'.1 r hr) (by simp) (fun q hq q' hq'=>nomatch hq')).2 (hh r hr),h'.2⟩
 | d+1,e+1,k,b,he,h=>by
  have h':zcG (zK s k) (some (zaq s d)) b (spl 0 b)=none:=h;rw [zgZ] at h';show zcG (zK s k) (some (zaq s e)) b (spl 0 b)=none↔znu _ _ _ _<=e+1;rw [zgZ,ztB];have key:∀r∈(spl 0 b).1,zdN (zK s k) (some (zaq s e)) b r=none↔zpP (zK s k) (zki s d) b r<=e+1:=fun r hr=>
   zsb (a:=some (zaq s d)) (h'.1 r hr) (by simp) (fun q hq q' hq' k v hk=>by
    cases hq;cases hq';have:=zCP s d e k v (by omega) hk;rw [this];omega)
  exact ⟨fun hh r hr=>(key r hr).1 (hh.1 r hr),fun hh=>⟨fun r hr=>(key r hr).2 (hh r hr),h'.2⟩⟩
abbrev zkc:=zk
def zhU (s:List Mes) (met:List (zkc×PVw)):Prop:=∀h x,mget met h=some x->vw (zK s h.message) h.number h.wire= .inr (x.Field,x.Run)
theorem zhU.nil (s:List Mes):zhU s []:=fun h x g=>by cases g
theorem zhU.put (g:zhU s met) (hv:vw (zK s h.message) h.number h.wire= .inr (v.Field,v.Run)):zhU s (mput met h v):=fun j x hx=>by
 rw [zje] at hx;by_cases e:j=h
 ·rw [xy e] at hx;cases hx;rw [e];exact hv
 ·rw [xx e] at hx;exact g j x hx
theorem zEA {s:List Mes} {k:Nat} (hk:k<s.length) (hm:(zK s k).Fields.length<=1152921504606846976) {b:List UInt8} (hb:b.length<=1048576) (p:Int) {t:Nat} (ht:t<=b.length) {met:List (zkc×PVw)} (g:zhU s met):
  ∃ku,zhH ⟨s,b,met⟩ k p t=some (prV (zch (zK s k) (b.take t) p).1,(zch (zK s k) (b.take t) p).2,ku)/\zhU s ku:=by
 have hbt:(b.take t).length<=1048576:=by rw [ye];omega
 have hcut:cut b 0 (t:Int)=some (b.take t):=by
  rw [zhn (i:=0) (j:=t) rfl rfl (xI _) ht];simp
 have hidx:idx s (k:Int)=some (zK s k):=by rw [zR rfl hk,zdW hk]
 have hvl:=zKT hm hbt p;unfold zhH;simp only;rw [hcut,sb,zBP hbt,sb];unfold zch at hvl|-;by_cases h:(zdG (b.take t) p).2=0
 ·rw [itF (by simpa using h),xx (show ¬((zdG (b.take t) p).2≠0) from fun q=>q h)];rw [xx (show ¬((zdG (b.take t) p).2≠0) from fun q=>q h)] at hvl
  generalize (zdG (b.take t) p).1=r at hvl|-
  cases hg:mget met (⟨(k:Int),r.Number,r.Wire⟩:zkc) with
  | none=>
   rw [uM,hidx,sb,hvl,sb];cases hv:vw (zK s k) r.Number r.Wire with
   | inl c=>
    have hc:c=6:=by
     rcases zhj (zK s k) r.Number r.Wire with h'| ⟨h',_⟩| ⟨_,_,h',_⟩<;>rw [hv] at h'<;>cases h';rfl
    subst hc;exact ⟨met,by rw [uM];rfl,g⟩
   | inr q=>
    obtain ⟨i,run⟩:=q;refine ⟨_,?_,g.put (h:=⟨(k:Int),r.Number,r.Wire⟩) (v:=prV ⟨r,i,run⟩) hv⟩;rw [uN];rfl
  | some x=>
   have hv:=g _ _ hg;simp only at hv;rw [uN,hv];exact ⟨met,rfl,g⟩
 ·rw [itT (by simpa using h),xy h];exact ⟨met,rfl,g⟩
def zqF (f:Fld) (run:Bool) (v:List UInt8):Int:=if run=true then (zkT f.Kind v).2 else if f.Kind=15/\zfq v=false then 7 else if f.Kind=17 then 8 else 0
theorem zID (f:Fld) (run:Bool) (hv:v.length<=1048576):zlm f run v=some (zqF f run v):=by
 unfold zlm zqF;cases run
 ·rw [itF (c:=false) rfl,xx (show ¬(false=true) by simp)];have e15:(if (f.Kind==15)=true then (zkC v>>=fun w8=>some (!w8)) else some false)=some (decide (f.Kind=15/\zfq v=false)):=by
   rw [zvv (by omega),sb];by_cases h15:f.Kind=15
   ·rw [itT (by simpa using h15)];cases zfq v<;>simp [h15]
   ·rw [itF (by simpa using h15)];simp [h15]
  rw [e15,sb];by_cases h15:f.Kind=15/\zfq v=false
  ·rw [itT (xO h15),xy h15]
  ·rw [itF (xV h15),xx h15];by_cases kh:f.Kind=17
   ·rw [itT (by simpa using kh),xy kh]
   ·rw [itF (by simpa using kh),xx kh]
 ·rw [itT (c:=true) rfl,xy (show true=true from rfl),zIh _ hv,sb];unfold zbC zkT;split
  ·rfl
  ·split<;>rfl
abbrev Find:=zA
def okR (o:Option (Int×Int)) (a dp:Nat) (r:Find):Prop:=match o with
 | none=>r=⟨(dp:Int),0,0⟩
 | some (p,c)=>r.place=(a:Int)+p/\r.e=c
def zyK (s:List Mes):Nat->zno
 | 0=>none
 | d+1=>some (zaq s d)
def zuJ (s:List Mes):Nat->Int->List UInt8->Nat
 | 0=>fun _ _=>0
 | d+1=>zki s d
theorem zHF (s:List Mes) (d:Nat) (k:Int) (b:List UInt8):zaq s d k b=zcG (zK s k) (zyK s d) b (spl 0 b):=by cases d<;>rfl
theorem zLn (s:List Mes) (d:Nat) (k:Int) (b:List UInt8):zki s d k b=znu (zK s k) (zuJ s d) b (spl 0 b).1:=by cases d<;>rfl
theorem zKF (s:List Mes) (d:Nat):∀g,zyK s d=some g->zuD g:=fun g h=>by
 cases d with
 | zero=>cases h
 | succ d=>cases h;exact zmv s d
theorem zLS (b:List UInt8) (t a x y:Nat) (h:a+y<=t):(((b.take t).drop a).drop x).take (y - x)=(b.take (a+y)).drop (a+x):=by
 rw [yi,qV,qV,pm];congr 1;omega
theorem zII {s:List Mes} {k:Nat} (hk:k<s.length) (hm:(zK s k).Fields.length<=1152921504606846976) {b:List UInt8} (hb:b.length<=1048576) {d:Int} {a t:Nat} (hat:a<=t) (ht:t<=b.length) {sub:zno} {gd:Int->List UInt8->Nat}
  (hg:∀g,sub=some g->zuD g) {recv:zay->Int->zf->Int->Option (zA×(List (zk×zf)))} {met0:List (zkc×PVw)}
  (hval:∀met,zhU s met->∀(n w i:Int) (run:Bool) (base x y:Nat),vw (zK s k) n w= .inr (i,run)->1<=x->x<=y->a+base+y<=t->
   ∃R ku,recv ⟨s,b,met⟩ k ⟨⟨n,w,((a+base:Nat):Int),((a+(base+x):Nat):Int),((a+(base+y):Nat):Int)⟩,i,run⟩ d=some (R,ku)/\zhU s ku/\
    okR (zdN (zK s k) sub ((b.take t).drop a) ⟨n,w,base,(base+x:Nat),(base+y:Nat)⟩) a (zpP (zK s k) gd ((b.take t).drop a) ⟨n,w,base,(base+x:Nat),(base+y:Nat)⟩) R)
  (base:Nat) (l:List UInt8):∀(met:List (zkc×PVw)) (dp:Nat),zhU s met->l=((b.take t).drop a).drop base->base<=t - a->
  ∃ku D,zhU s ku/\zcu d k recv t ⟨s,b,met0⟩ met ((a+base:Nat):Int) dp=some (match zcG (zK s k) sub ((b.take t).drop a) (spl base l) with
   | none=> .inl (ku,((max dp (znu (zK s k) gd ((b.take t).drop a) (spl base l).1):Nat):Int))
   | some (p,c)=> .inr (ku,D,(a:Int)+p,c)):=by
 have hvl:((b.take t).drop a).length=t - a:=by simp;omega
 generalize hvv:(b.take t).drop a=v at hval hvl|-
 refine zis (fun base l=>∀(met:List (zkc×PVw)) (dp:Nat),zhU s met->l=v.drop base->base<=t - a->
  ∃ku D,zhU s ku/\zcu d k recv t ⟨s,b,met0⟩ met ((a+base:Nat):Int) dp=some (match zcG (zK s k) sub v (spl base l) with
   | none=> .inl (ku,((max dp (znu (zK s k) gd v (spl base l).1):Nat):Int))
   | some (p,c)=> .inr (ku,D,(a:Int)+p,c))) ?_ ?_ ?_ base l
 ·intro base met dp g hl hbase;have:v.length<=base:=by have:=congrArg List.length hl;simp at this;omega
  refine ⟨met,0,g,?_⟩;rw [zgR];refine zem ?_;unfold zaH;rw [uQ];simp [zcG,znu]
 ·intro base l c hl h hc met dp g hld hbase;have ka:a+base<t:=by have:=qf.2 hl;rw [hld] at this;simp at this;omega
  have hdr:(b.take t).drop (a+base)=l:=by rw [hld,<-hvv,yi]
  have e:zdG (b.take t) ((a+base:Nat):Int)=(zrec,c):=by unfold zdG;rw [xx (by simp;omega),xJ,hdr,h]
  have e2:zch (zK s k) (b.take t) ((a+base:Nat):Int)=(zvw,c):=by unfold zch;rw [e,xy (by simp only;omega)]
  obtain ⟨ku,hlk,g'⟩:=zEA hk hm hb ((a+base:Nat):Int) ht g;refine ⟨ku,0,g',?_⟩;rw [zhW hl h];refine zem ?_;unfold zaH;simp only;rw [uP,hlk,sb,e2,uP];simp [zcG]
 ·intro base l n w x y hl h _ g1 g2 g3 ih met dp g hld hbase;have hly:base+y<=t - a:=by rw [hld] at g3;simp at g3;omega
  have hdr:(b.take t).drop (a+base)=l:=by rw [hld,<-hvv,yi]
  have e:zdG (b.take t) ((a+base:Nat):Int)=(⟨n,w,((a+base:Nat):Int),((a+(base+x):Nat):Int),((a+(base+y):Nat):Int)⟩,0):=by
   unfold zdG;rw [xx (by simp;omega),xJ,hdr,h];have q1:((a+base:Nat):Int)+x=((a+(base+x):Nat):Int):=by omega
   have q2:((a+base:Nat):Int)+y=((a+(base+y):Nat):Int):=by omega
   simp only [q1,q2]
  obtain ⟨ku,hlk,g'⟩:=zEA hk hm hb ((a+base:Nat):Int) ht g
  have hfr:zcG (zK s k) sub v (spl base l)=match zdN (zK s k) sub v ⟨n,w,base,(base+x:Nat),(base+y:Nat)⟩ with
    | some p=>some p
    | none=>zcG (zK s k) sub v (spl (base+y) (l.drop y)):=by
   unfold zcG;rw [zfk hl h];simp only [uy];cases zdN (zK s k) sub v ⟨n,w,base,(base+x:Nat),(base+y:Nat)⟩<;>rfl
  have hfd:znu (zK s k) gd v (spl base l).1=max (zpP (zK s k) gd v ⟨n,w,base,(base+x:Nat),(base+y:Nat)⟩) (znu (zK s k) gd v (spl (base+y) (l.drop y)).1):=by
   rw [zfk hl h];rfl
  cases hv:vw (zK s k) n w with
  | inl c=>
   have hc:c=6:=by
    rcases zhj (zK s k) n w with h'| ⟨h',_⟩| ⟨_,_,h',_⟩<;>rw [hv] at h'<;>cases h';rfl
   subst hc;have e2:zch (zK s k) (b.take t) ((a+base:Nat):Int)=(zvw,6):=by unfold zch;rw [e];simp only [yL,yS,yo,hv]
   have hst:zdN (zK s k) sub v ⟨n,w,base,(base+x:Nat),(base+y:Nat)⟩=some ((base:Int),6):=by unfold zdN;simp only [hv]
   refine ⟨ku,0,g',?_⟩;rw [hfr,hst];refine zem ?_;unfold zaH;simp only;rw [uP,hlk,sb,e2,uM];simp
  | inr q=>
   obtain ⟨i,run⟩:=q;have e2:zch (zK s k) (b.take t) ((a+base:Nat):Int)=(⟨⟨n,w,((a+base:Nat):Int),((a+(base+x):Nat):Int),((a+(base+y):Nat):Int)⟩,i,run⟩,0):=by unfold zch;rw [e];simp only [yL,yS,yo,hv]
   obtain ⟨R,met2,hrv,g2',kl⟩:=hval ku g' n w i run base x y hv g1 g2 (by omega);have hpr:prV (⟨⟨n,w,((a+base:Nat):Int),((a+(base+x):Nat):Int),((a+(base+y):Nat):Int)⟩,i,run⟩:Vw)=⟨⟨n,w,((a+base:Nat):Int),((a+(base+x):Nat):Int),((a+(base+y):Nat):Int)⟩,i,run⟩:=rfl;cases hst:zdN (zK s k) sub v ⟨n,w,base,(base+x:Nat),(base+y:Nat)⟩ with
   | some pc=>
    obtain ⟨p,c⟩:=pc;have hgd:=zAN hg g1 g2 (b:=v) (base:=base) (by omega) hst;rw [hst] at kl;obtain ⟨o1,o2⟩:=kl;refine ⟨met2,R.depth,g2',?_⟩;rw [hfr,hst];refine zem ?_;unfold zaH;simp only;rw [uP,hlk,sb,e2,uN,hpr,hrv,sb,itT (by rw [o2];simp;omega),o1,o2]
   | none=>
    rw [hst] at kl;have hok':R=⟨((zpP (zK s k) gd v ⟨n,w,base,(base+x:Nat),(base+y:Nat)⟩:Nat):Int),0,0⟩:=kl;obtain ⟨met3,D,g3',h3⟩:=ih met2 (max dp (zpP (zK s k) gd v ⟨n,w,base,(base+x:Nat),(base+y:Nat)⟩)) g2' (by rw [hld,yi]) hly;refine ⟨met3,D,g3',?_⟩;rw [hfr,hst,hfd,<-Nat.max_assoc,<-h3];refine znm ?_;unfold zaH;simp only;rw [uP,hlk,sb,e2,uN,hpr,hrv,sb,hok',uN];simp only [ym,Sum.inl.injEq,yI,qb];split<;>omega
theorem zMx {s:List Mes} (hr:zfE s) {k:Nat} (hk:k<s.length) {b:List UInt8} (hb:b.length<=1048576) {d fuel:Nat} (hd:d<=64) {a t:Nat} (ht:t<=b.length)
  (ih:∀e,d=e+1->∀(q A T:Nat) (met:List (zkc×PVw)),q<s.length->A<=T->T<=b.length->zhU s met->
   ∃R ku,zbm fuel ⟨s,b,met⟩ q A T e=some (R,ku)/\zhU s ku/\okR (zaq s e q ((b.take T).drop A)) A (zki s e q ((b.take T).drop A)) R)
  (met:List (zkc×PVw)) (g:zhU s met) (n w i:Int) (run:Bool) (base x y:Nat) (hv:vw (zK s k) n w= .inr (i,run)) (h1:1<=x) (h2:x<=y) (hy:a+base+y<=t):
  ∃R ku,zez (fuel+1) ⟨s,b,met⟩ k ⟨⟨n,w,((a+base:Nat):Int),((a+(base+x):Nat):Int),((a+(base+y):Nat):Int)⟩,i,run⟩ d=some (R,ku)/\zhU s ku/\
    okR (zdN (zK s k) (zyK s d) ((b.take t).drop a) ⟨n,w,base,(base+x:Nat),(base+y:Nat)⟩) a (zpP (zK s k) (zuJ s d) ((b.take t).drop a) ⟨n,w,base,(base+x:Nat),(base+y:Nat)⟩) R:=by
 have hidx:idx s (k:Int)=some (zK s k):=by rw [zR rfl hk,zdW hk]
 have hun:∀w' v',zez (fuel+1) w' k v' d=zeA (zbm fuel) (zez fuel) w' k v' d:=fun _ _=>rfl
 have hvb:valB ((b.take t).drop a) ⟨n,w,base,(base+x:Nat),(base+y:Nat)⟩=(b.take (a+(base+y))).drop (a+(base+x)):=by
  unfold valB;simp only [xJ];exact zLS b t a (base+x) (base+y) (by omega)
 rcases zhj (zK s k) n w with h'| ⟨h',_⟩| ⟨j,run',h',_,hi⟩
 ·rw [hv] at h';cases h'
 ·rw [hv] at h';obtain ⟨rfl,rfl⟩:i= -1/\run=false:=by simpa using h'
  refine ⟨⟨0,0,0⟩,met,?_,g,?_⟩
  ·rw [hun];unfold zeA;rw [uM]
  ·unfold zdN zpP;simp only [hv];rw [xy (show ((-1:Int)<0) by omega),xy (.inl (show ((-1:Int)<0) by omega))];rfl
 ·rw [hv] at h';obtain ⟨rfl,rfl⟩:i=j/\run=run':=by simpa using h'
  have hfm:zE (zK s k) (j:Int)∈(zK s k).Fields:=by rw [zcX hi];exact xF hi
  have hmem:zK s k∈s:=by rw [zdW hk];exact xF hk
  have kw:run=true->(zE (zK s k) (j:Int)).Kind≠17:=fun hh kh=>by
   subst hh;have:=(zFU hv).1;rw [kh] at this;cases this
  have hcut:cut b ((a+(base+x):Nat):Int) ((a+(base+y):Nat):Int)=some ((b.take (a+(base+y))).drop (a+(base+x))):=by
   rw [zhn rfl rfl (by omega) (by omega),qV]
  have ke:((b.take (a+(base+y))).drop (a+(base+x))).length<=1048576:=by simp;omega
  unfold zdN zpP;simp only [hv];rw [xx (show ¬((j:Int)<0) by omega),hvb];have hif:(if ((j:Int)<0\/run=true) then 0 else if (zE (zK s k) (j:Int)).Kind=17 then zuJ s d (zE (zK s k) (j:Int)).Of ((b.take (a+(base+y))).drop (a+(base+x)))+1 else 0)=(if (zE (zK s k) (j:Int)).Kind=17 then zuJ s d (zE (zK s k) (j:Int)).Of ((b.take (a+(base+y))).drop (a+(base+x)))+1 else 0):=by
   cases run with
   | false=>rw [xx (by simp)]
   | true=>rw [xy (.inr rfl),xx (kw rfl)]
  rw [hif];simp only [hun];unfold zeA;simp only;rw [itF (show ((j:Int)== -1)=false by simp),hidx,sb,zR (i:=j) rfl hi,sb,<-zcX hi]
  generalize hvv:(b.take (a+(base+y))).drop (a+(base+x))=v at ke hcut|-
  have hof:=(hr.fld _ hmem _ hfm).sub
  generalize zE (zK s k) (j:Int)=f at hfm kw hof|-
  by_cases hs:f.Kind=17/\0<d
  ·obtain ⟨e,rfl⟩:∃e,d=e+1:=⟨d - 1,by omega⟩;have hrf:run=false:=by
    cases run with
    | false=>rfl
    | true=>exact absurd hs.1 (kw rfl)
   subst hrf;have hof':=hof hs.1;obtain ⟨q,hq⟩:∃q:Nat,f.Of=q:=⟨f.Of.toNat,by omega⟩;obtain ⟨R,ku,hR,g',kl⟩:=ih e rfl q (a+(base+x)) (a+(base+y)) met (by omega) (by omega) (by omega) g;rw [hvv] at kl;have hw1:i64.wrap (((e+1:Nat):Int) - 1)=(e:Int):=by rw [uR];omega
   refine ⟨⟨i64.wrap (R.depth+1),R.place,R.e⟩,ku,?_,g',?_⟩
   ·rw [itT (by simp [hs.1]),hw1,hq,hR,sb]
   ·rw [xy hs.1];unfold zmA;rw [xx (by simp),xx (by rw [hs.1];simp),xy hs.1];simp only [zyK,zuJ,hq];cases hf:zaq s e q v with
    | none=>
     rw [hf] at kl;have hok':R=⟨((zki s e q v:Nat):Int),0,0⟩:=kl;have hdl:=(zCP s e e q v (xC _) hf).1 hf;subst hok';show (⟨i64.wrap (((zki s e q v:Nat):Int)+1),0,0⟩:Find)=_;rw [uR];rfl
    | some pc=>
     obtain ⟨p,c⟩:=pc;rw [hf] at kl;obtain ⟨o1,o2⟩:=kl;refine ⟨?_,o2⟩;simp only;rw [o1];push_cast;omega
  ·have hno:((f.Kind==17)&&decide (((d:Nat):Int)>0))=false:=by
    rw [Bool.and_eq_false_iff];by_cases kh:f.Kind=17
    ·exact .inr (xV (by have:=fun h=>hs ⟨kh,h⟩;omega))
    ·exact .inl (by simpa using kh)
   have hlf:zmA f run (zyK s d) ⟨n,w,base,(base+x:Nat),(base+y:Nat)⟩ v=if zqF f run v≠0 then some ((base:Int),zqF f run v) else none:=by
    unfold zmA zqF;by_cases hrt:run=true
    ·rw [xy hrt,xy hrt]
    ·rw [xx hrt,xx hrt];by_cases h15:f.Kind=15/\zfq v=false
     ·rw [xy h15,xy h15,xy (by omega)]
     ·rw [xx h15,xx h15];by_cases kh:f.Kind=17
      ·have:d=0:=by have:=fun h=>hs ⟨kh,h⟩;omega
       subst this;rw [xy kh,xy kh,xy (by omega)];rfl
      ·rw [xx kh,xx kh,xx (by omega)]
   rw [itF hno,hcut,sb,zID f run ke,sb,hlf];by_cases h0:zqF f run v=0
   ·refine ⟨⟨0,0,0⟩,met,by rw [itF (by simpa using h0)],g,?_⟩;rw [xx (by simpa using h0)];have:f.Kind≠17:=fun kh=>by
     have hrf:run=false:=by
      cases run with
      | false=>rfl
      | true=>exact absurd kh (kw rfl)
     subst hrf;unfold zqF at h0;rw [xx (by simp),xx (by rw [kh];simp),xy kh] at h0;omega
    rw [xx this];rfl
   ·refine ⟨⟨0,((a+base:Nat):Int),zqF f run v⟩,met,by rw [itT (by simpa using h0)],g,?_⟩;rw [xy h0];exact ⟨by simp,rfl⟩
theorem zMs (hr:zfE s) (hb:b.length<=1048576):∀(d fuel:Nat),d<=64->2*d+2<=fuel->∀(q A T:Nat) (met:List (zkc×PVw)),q<s.length->A<=T->T<=b.length->zhU s met->
   ∃R ku,zbm fuel ⟨s,b,met⟩ q A T d=some (R,ku)/\zhU s ku/\okR (zaq s d q ((b.take T).drop A)) A (zki s d q ((b.take T).drop A)) R:=by
 have step:∀(d fuel:Nat),d<=64->(∀e,d=e+1->∀(q A T:Nat) (met:List (zkc×PVw)),q<s.length->A<=T->T<=b.length->zhU s met->
   ∃R ku,zbm fuel ⟨s,b,met⟩ q A T e=some (R,ku)/\zhU s ku/\okR (zaq s e q ((b.take T).drop A)) A (zki s e q ((b.take T).drop A)) R)->
   ∀(q A T:Nat) (met:List (zkc×PVw)),q<s.length->A<=T->T<=b.length->zhU s met->
   ∃R ku,zbm (fuel+2) ⟨s,b,met⟩ q A T d=some (R,ku)/\zhU s ku/\okR (zaq s d q ((b.take T).drop A)) A (zki s d q ((b.take T).drop A)) R:=by
  intro d fuel hd ih q A T met hq hAT hT g;have hun:∀w' k' p' t' d',zbm (fuel+2) w' k' p' t' d'=zeS (zbm (fuel+1)) (zez (fuel+1)) w' k' p' t' d':=fun _ _ _ _ _=>rfl
  have hm:(zK s q).Fields.length<=1152921504606846976:=by
   rw [zdW hq];have:=hr.few _ (xF hq);omega
  obtain ⟨ku,D,g',hl⟩:=zII (s:=s) hq hm hb (d:=(d:Int)) hAT hT (sub:=zyK s d) (gd:=zuJ s d) (zKF s d) (recv:=zez (fuel+1)) (met0:=met)
   (fun met1 g1 n w i run base x y hv h1 h2 hy=>zMx hr hq hb hd hT ih met1 g1 n w i run base x y hv h1 h2 hy) 0 _ met 0 g rfl (xI _)
  have hl':zcu d q (zez (fuel+1)) T ⟨s,b,met⟩ met (A:Int) 0=_:=hl;rw [hun,zHF,zLn];unfold zeS;simp only;rw [xN,Nat.zero_max] at hl';rw [hl',sb];cases hf:zcG (zK s q) (zyK s d) ((b.take T).drop A) (spl 0 ((b.take T).drop A)) with
  | none=>exact ⟨_,_,rfl,g',rfl⟩
  | some pc=>exact ⟨_,_,rfl,g',rfl,rfl⟩
 intro d
 induction d with
 | zero=>
  intro fuel hd hf;obtain ⟨fuel,rfl⟩:∃z,fuel=z+2:=⟨fuel - 2,by omega⟩;exact step 0 fuel hd (fun e he=>by omega)
 | succ d ih=>
  intro fuel hd hf;obtain ⟨fuel,rfl⟩:∃z,fuel=z+2:=⟨fuel - 2,by omega⟩;refine step (d+1) fuel hd (fun e he=>?_);obtain rfl:d=e:=by omega
  exact ih fuel (by omega) (by omega)
theorem zEs (hw:WS s) (root d:Int):zkD s root d=some (argS s root d):=by
 unfold zkD argS;rw [zDX hw,sb];cases h:zhT s
 ·rw [itT (c:= !false) rfl,xy (show false=false from rfl)]
 ·rw [itF (c:= !true) rfl,xx (show ¬(true=false) by simp)];by_cases h2:root<0\/root>=s.length\/d<0\/d>64
  ·rw [itT (by simpa using h2),xy h2]
  ·rw [uQ,xx h2]
theorem zLq (hw:WS s) (root:Int) (hb:b.length<=1048576) (d:Int) (hf:130<=fuel):
  ∃R,zmQ fuel s root b d=some R/\R.place=(zfZ s root b d).1/\R.e=(zfZ s root b d).2/\((zfZ s root b d).2=0->R.depth=((zki s d.toNat root b:Nat):Int)):=by
 unfold zmQ zfZ;rw [zEs hw,sb];by_cases h:argS s root d=0
 ·obtain ⟨hr,h1,h2,h3,h4⟩:=zlM h;obtain ⟨k,rfl⟩:∃k:Nat,root=k:=⟨root.toNat,by omega⟩;obtain ⟨e,rfl⟩:∃k:Nat,d=k:=⟨d.toNat,by omega⟩;obtain ⟨R,ku,hR,_,kl⟩:=zMs hr hb e fuel (by omega) (by omega) k 0 b.length [] (by omega) (xI _) (xC _) (zhU.nil s);have hR':zbm fuel ⟨s,b,[]⟩ k 0 (b.length:Int) e=some (R,ku):=hR;rw [uC,xN] at kl;rw [itF (by simpa using h),xx (by simpa using h),hR',sb,xJ];refine ⟨R,rfl,?_⟩;cases hfi:zaq s e k b with
  | none=>
   rw [hfi] at kl;have hok':R=⟨((zki s e k b:Nat):Int),0,0⟩:=kl;subst hok';exact ⟨rfl,rfl,fun _=>rfl⟩
  | some pc=>
   obtain ⟨p,c⟩:=pc;rw [hfi] at kl;obtain ⟨o1,o2⟩:=kl;have:=zmv s e k b p c hfi;simp only [pD];refine ⟨by rw [o1];simp,o2,fun h0=>by omega⟩
 ·rw [itT (by simpa using h),xy h];exact ⟨_,rfl,rfl,rfl,fun h0=>absurd h0 h⟩
theorem zIC (hw:WS s) (root:Int) (hb:b.length<=1048576) (d:Int) (hf:130<=fuel):zll fuel s root b d=some (zfZ s root b d):=by
 obtain ⟨R,hR,h1,h2,_⟩:=zLq hw root hb d hf;unfold zll;rw [hR,sb,h1,h2]
theorem zqo (hm:m.Fields.length<=140737488351232) (n:Int):zeh m n=some (match m.Fields.findIdx? (fun f=>f.Number==n) with| some i=>((i:Int),true)| none=>(0,false)):=by
 unfold zeh zcC zar;have h:=zrG (fun f:Fld=>f.Number==n) m.Fields (fun i=>zW m.Fields n i) (zbA (by unfold zC;rw [uO])) (fun i hi=>by
  by_cases hp:(m.Fields[i].Number==n)=true
  ·rw [xy hp];exact zbA (by unfold zC zgA;rw [uP,zR rfl hi,sb,sb,itT hp])
  ·rw [xx hp];exact zdJ (by unfold zC zgA;rw [uP,zR rfl hi,sb,sb,itF (pt hp),uR];rfl)) m.Fields.length 0 (by omega) (fun j _ h=>by omega)
 have h':zW m.Fields n 0=_:=h;rw [h',sb];cases m.Fields.findIdx? (fun f:Fld=>f.Number==n) with
 | none=>rfl
 | some i=>simp [sb];omega
theorem zmd {α:Type} (p:α->Bool) (l:List α) (F:Int->Option (Unit⊕Unit)) (h0:F (l.length:Int)=some (.inl ())) (hs:∀(i:Nat) (h:i<l.length),F (i:Int)=if p l[i]=true then F ((i+1:Nat):Int) else some (.inr ())):
  ∀(c i:Nat),i+c=l.length->F (i:Int)=some (if (l.drop i).all p=true then .inl () else .inr ())
 | 0,i,h=>by
  have e:l.drop i=[]:=yq (by omega);have hi:i=l.length:=by omega
  rw [e,hi,h0];simp
 | c+1,i,h=>by
  rw [hs i (by omega),yk (by omega),yT];cases hp:p l[i]
  ·rw [xx (by simp)];simp
  ·rw [xy rfl,yc];exact zmd p l F h0 hs c (i+1) (by omega)
theorem zvm (hb:v.Words.length<=140737488351232/\v.Texts.length<=140737488351232/\v.Subs.length<=140737488351232):zfb v=some ((zcs v:Nat):Int):=by
 unfold zfb zcs;rw [zr (x:=(v.Words.length:Int)+(v.Texts.length:Int)) (by omega),uR];push_cast;rfl
theorem zCC (hl:l.length<=1152921504606846976) (h:∀t∈l,t.length<=140737488351232):ziN l=some (l.all zfq):=by
 unfold ziN;have h1:=zmd zfq l (fun i=>zfD l i) (by
   refine zli ?_;unfold zcV;rw [uO])
  (fun i hi=>by
   have hx:=h _ (xF hi);have e:lenO l[i]=some l[i]:=by unfold lenO;rw [xy (by omega)]
   cases hp:zfq l[i]
   ·rw [xx (by simp)];refine zli ?_;unfold zcV;rw [uP,zR rfl hi,sb,e,sb,zvv (by omega),sb,hp,uM]
   ·rw [xy rfl];refine zru ?_;unfold zcV;rw [uP,zR rfl hi,sb,e,sb,zvv (by omega),sb,hp,uN,uR];push_cast;rfl)
  l.length 0 (xQ _)
 have h1':zfD l 0=_:=h1;rw [h1',sb,xN];cases l.all zfq<;>rfl
theorem zCB (hl:l.length<=1152921504606846976) (h:∀w∈l,0<=w/\w<=18446744073709551615):zgC k l=some (l.all fun w=>kNum k&&zbE k w==w):=by
 unfold zgC;have h1:=zmd (fun w=>kNum k&&zbE k w==w) l (fun i=>zdL k l i) (by
   refine zgL ?_;unfold zbj;rw [uO])
  (fun i hi=>by
   have hx:=h _ (xF hi);cases hk:kNum k
   ·rw [yW,xx (by simp)];refine zgL ?_;unfold zbj;rw [uP,zR rfl hi,sb,zlS k hx,sb,hk,uM]
   ·rw [yc];by_cases hp:zbE k l[i]=l[i]
    ·rw [xy (by simpa using hp)];refine zod ?_;unfold zbj;rw [uP,zR rfl hi,sb,zlS k hx,sb,hk,itF (by simp [hp]),uR];push_cast;rfl
    ·rw [xx (by simpa using hp)];refine zgL ?_;unfold zbj;rw [uP,zR rfl hi,sb,zlS k hx,sb,hk,itT (by simp [hp])])
  l.length 0 (xQ _)
 have h1':zdL k l 0=_:=h1;rw [h1',sb,xN];cases l.all (fun w=>kNum k&&zbE k w==w)<;>rfl
theorem zJo (hm:m.Fields.length<=140737488351232) (hu:u.length<=1048576):zih m u=some (unkR m u):=by
 unfold zih unkR;have e:lenO u=some u:=by unfold lenO;rw [xy (by omega)]
 rw [e,sb,zBP hu,sb]
 generalize zdG u 0=r
 by_cases c1:r.2=0
 ·by_cases c2:r.1.To=(u.length:Int)
  ·rw [itF (by simp [c1,c2]),zqo hm,sb];have hf:fldI m r.1.Number=zjA (fun f:Fld=>f.Number==r.1.Number) m.Fields:=rfl;rw [hf];cases h:m.Fields.findIdx? (fun f:Fld=>f.Number==r.1.Number) with
   | none=>rw [zns h];simp [c1,c2]
   | some i=>rw [znt h];simp [c1,c2]
  ·rw [itT (by simp [c2])];simp [c2]
 ·rw [itT (by simp [c1])];simp [c1]
theorem zBf {α:Type} {p:α->Bool} (h:∀x,p x=false) (l:List α):l.all p=l.isEmpty:=by
 cases l with
 | nil=>rfl
 | cons x l=>rw [yT,h];rfl
theorem zqI {α:Type} (l:List α):l.isEmpty=decide (l.length=0):=by cases l<;>simp
theorem zEl {s:List Mes} (hs:zfE s):∀(fuel:Nat),(∀(x:Msg) (k:Nat),k<s.length->2*szM x<fuel->bdM x->smM x->zdX fuel s k x=some (zaP s x k))/\
  (∀(v:Vlu) (f:Fld),2*szV v<fuel->bdV v->smV v->zjl fuel f s v=some (zjB s v f))/\
  ∀(l:List Msg) (k:Int),2*szMs l+1<fuel->l.length<=1152921504606846976->bdMs l->smMs l->zhg fuel s k l=some (decide (0<=k/\k<s.length)&&l.all fun x=>zaP s x k)
 | 0=>⟨fun x k _ h=>by omega,fun v f h=>by omega,fun l k h=>by omega⟩
 | fuel+1=>by
  obtain ⟨ih1,ih2,ih3⟩:=zEl hs fuel;have ke:=hs.len;refine ⟨fun x k hk ko hb hsm=>?_,fun v f ko hb hsm=>?_,fun l k ko hl hb hsm=>?_⟩
  ·obtain ⟨b1,⟨b2,b3⟩,b4⟩:=(zke x).1 hb;obtain ⟨s1,⟨s2,s3⟩,s4⟩:=(zyE x).1 hsm;rw [zdO] at ko;show zhh (zhg fuel) (zjl fuel) (zdX fuel) s k x=_;unfold zhh;rw [zlW,xO (show (0:Int)<=(k:Int)/\(k:Int)<(s.length:Int) by omega),yc];have hm:idx s (k:Int)=some (zK s k):=by rw [zR rfl hk,zdW hk]
   have hmm:zK s (k:Int)∈s:=by rw [zdW hk];exact xF hk
   have hfew:=hs.few _ hmm;have hfld:=hs.fld _ hmm
   generalize zK s (k:Int)=m at hm hmm hfew hfld|-
   rw [hm,sb];have hv:∀(c i:Nat) (p:Option Int) (last:Int),i+c=x.Values.length->(p=none/\last=0\/p=some last)->zfc (zjl fuel) s x m last i=some (if zgy s (x.Values.drop i) m p=true then .inl () else .inr ()):=by
    intro c
    induction c with
    | zero=>
     intro i p last hi _;have e:x.Values.drop i=[]:=yq (by omega);rw [e,zgy,xy rfl];refine zjY ?_;unfold zcf;rw [uQ]
    | succ c ih=>
     intro i p last hi hp;have hil:i<x.Values.length:=by omega
     have hx:idx x.Values (i:Int)=some x.Values[i]:=zR rfl hil;have hmem:=xF hil;have z1:=zfX hmem;have hbv:=zfG.1 b4 _ hmem;have hsv:=zoK.1 s4 _ hmem;rw [yk hil,zgy]
     generalize x.Values[i]=v at hx hmem z1 hbv hsv|-
     have hw1:i64.wrap ((i:Int)+1)=((i+1:Nat):Int):=by rw [uR];push_cast;rfl
     have kF:zcf (zjl fuel) s x m last i=if (decide (0<=fldI m v.Number)&&p.all (fun q=>decide (q<v.Number))&&zjB s v (zE m (fldI m v.Number)))=true then some (.inl (v.Number,((i+1:Nat):Int))) else some (.inr (.inr ())):=by
      unfold zcf;rw [uP,hx,sb,zqo (by omega),sb];have hf:fldI m v.Number=zjA (fun f:Fld=>f.Number==v.Number) m.Fields:=rfl;cases h:m.Fields.findIdx? (fun f:Fld=>f.Number==v.Number) with
      | none=>
       rw [hf,zns h,uM,sb,uM,xx (by simp)]
      | some j=>
       rw [hf,znt h];have hjs:=pN.1 h;obtain ⟨hj,hjn,_⟩:=hjs;have hjn':(m.Fields[j]).Number=v.Number:=by simpa using hjn
       have hlo:=(hfld _ (xF hj)).lo;have hfj:idx m.Fields (j:Int)=some (zE m (j:Int)):=by rw [zR rfl hj,zcX hj]
       have hfit:=ih2 v (zE m (j:Int)) (by omega) hbv hsv;have hpl:p.all (fun q=>decide (q<v.Number))=decide (last<v.Number):=by
        rcases hp with ⟨rfl,rfl⟩| rfl
        ·rw [xO (show (0:Int)<v.Number by omega)];rfl
        ·rfl
       rw [uN,hpl,xO (show (0:Int)<=(j:Int) by omega),yc];by_cases ka:last<v.Number
       ·rw [itF (by simpa using ka),xO ka,yc];simp only;rw [hfj,sb,hfit,sb,sb];cases hfv:zjB s v (zE m (j:Int))
        ·rw [uM,xx (by simp)]
        ·rw [uN,xy rfl,hw1]
       ·rw [uP,sb,uM,xV ka,xx (by simp)]
     generalize (decide (0<=fldI m v.Number)&&p.all (fun q=>decide (q<v.Number))&&zjB s v (zE m (fldI m v.Number)))=bb at kF|-
     cases bb
     ·rw [xx (by simp)] at kF;rw [zjY kF,yW,xx (by simp)]
     ·rw [xy rfl] at kF;rw [zqh kF,ih _ (some v.Number) v.Number (by omega) (.inr rfl),yc]
   have h1:=hv x.Values.length 0 none 0 (xQ _) (.inl ⟨rfl,rfl⟩);have h1':zfc (zjl fuel) s x m 0 0=_:=h1;rw [xN] at h1';rw [h1',sb];cases hrv:zgy s x.Values m none
   ·rw [xx (by simp)];rfl
   ·rw [xy rfl,yc];simp only;have h2:=zmd (unkR m) x.Unknown (fun i=>zfd x m i) (by
      refine zjZ ?_;unfold zcx;rw [uO])
     (fun i hi=>by
      have hu:=zJo (m:=m) (by omega) (s3 _ (xF hi));cases hun:unkR m x.Unknown[i]
      ·rw [xx (by simp)];refine zjZ ?_;unfold zcx;rw [uP,zR rfl hi,sb,hu,sb,hun,uM]
      ·rw [xy rfl];refine zqi ?_;unfold zcx;rw [uP,zR rfl hi,sb,hu,sb,hun,uN,uR];push_cast;rfl)
     x.Unknown.length 0 (xQ _)
    have h2':zfd x m 0=_:=h2;rw [h2',sb,xN];cases x.Unknown.all (unkR m)<;>rfl
  ·obtain ⟨_,⟨b1,b1'⟩,⟨b2,b3⟩,b4,b5⟩:=(ziR v).1 hb;obtain ⟨s1,⟨s2,s3⟩,s4,s5⟩:=(zyF v).1 hsm;rw [zgK] at ko;show zlj (zhg fuel) (zjl fuel) (zdX fuel) f s v=_;unfold zlj;rw [zvm ⟨by omega,by omega,by omega⟩,sb,ztz,zmI];have hmany:zcs v=v.Words.length+v.Texts.length+v.Subs.length:=rfl;by_cases h0:zcs v=0\/1<zcs v/\f.Repeated=false
   ·have hmr:zsx f v=false:=by
     unfold zsx;rcases h0 with h0| ⟨h0,h1⟩
     ·simp [h0]
     ·rw [h1];simp;omega
    rw [hmr,itT (by
     rcases h0 with h0| ⟨h0,h1⟩
     ·simp [h0]
     ·rw [h1];simp;omega)]
    rfl
   ·have hmr:zsx f v=zbO f.Kind:=by
     unfold zsx;rw [xO (show 0<zcs v by omega),yc];cases hr:f.Repeated
     ·rw [hr] at h0;rw [xO (show zcs v<=1 by simp at h0;omega)];rfl
     ·simp
    rw [hmr,itF (by
     cases hr:f.Repeated
     ·rw [hr] at h0;simp at h0|-;omega
     ·simp;omega)]
    have hW:kNum f.Kind=false->v.Words.all (zlo f)=decide (v.Words.length=0):=fun h=>by
     rw [zBf (fun w=>by unfold zlo;rw [h];rfl),zqI]
    have hT:f.Kind≠15->f.Kind≠16->v.Texts.all (znC f)=decide (v.Texts.length=0):=fun h1 h2=>by
     rw [zBf (fun t=>by unfold znC;simp [h1,h2]),zqI]
    have hS:f.Kind≠17->(v.Subs.all fun x=>f.Kind==17&&zaP s x f.Of)=decide (v.Subs.length=0):=fun h=>by
     rw [zBf (fun x=>by simp [h]),zqI]
    by_cases k15:f.Kind=15
    ·rw [itT (by simp [k15]),hW (by rw [k15];rfl),hS (by omega)];have hkr:zbO f.Kind=true:=by rw [k15];rfl
     rw [hkr,yc];by_cases hl:v.Words.length=0/\v.Subs.length=0
     ·rw [uP,zCC (by omega) b3,sb,sb,xO hl.1,xO hl.2,yc,q7];have:v.Texts.all (znC f)=v.Texts.all zfq:=by
       congr 1;funext t;unfold znC;simp [k15]
      rw [this]
     ·rw [uQ,sb];congr 1
      symm
      by_cases hw0:v.Words.length=0
      ·rw [xV (show ¬v.Subs.length=0 by omega),q9]
      ·rw [xV hw0,yW,yW]
    ·rw [itF (by simp [k15])];by_cases k16:f.Kind=16
     ·rw [itT (by simp [k16]),hW (by rw [k16];rfl),hS (by omega)];have hkr:zbO f.Kind=true:=by rw [k16];rfl
      have hta:v.Texts.all (znC f)=true:=by rw [xM];intro t _;unfold znC;simp [k16]
      rw [hkr,hta,yc,q7];congr 1;rw [<-Bool.decide_and];rw [yM];simp only [pr,xZ];omega
     ·rw [itF (by simp [k16])];by_cases k17:f.Kind=17
      ·rw [itT (by simp [k17]),hW (by rw [k17];rfl),hT k15 k16];have hkr:zbO f.Kind=true:=by rw [k17];rfl
       rw [hkr,yc];have hsub:(v.Subs.all fun x=>f.Kind==17&&zaP s x f.Of)=v.Subs.all fun x=>zaP s x f.Of:=by
        congr 1;funext x;simp [k17]
       rw [hsub];by_cases hl:v.Words.length=0/\v.Texts.length=0
       ·rw [uP,ih3 v.Subs f.Of (by omega) (by omega) b5 s5,sb,sb,xO hl.1,xO hl.2,yc,yc];by_cases hof:0<=f.Of/\f.Of<s.length
        ·rw [xO hof,yc]
        ·rw [xV hof,yW];congr 1
         symm
         have hne:v.Subs≠[]:=fun e=>h0 (.inl (by rw [hmany,hl.1,hl.2,e];rfl))
         obtain ⟨x,l,hxl⟩:=uD hne;rw [hxl,yT,zlW,xV hof];rfl
       ·rw [uQ,sb];congr 1
        symm
        by_cases hw0:v.Words.length=0
        ·rw [xV (show ¬v.Texts.length=0 by omega),q9,yW]
        ·rw [xV hw0,yW,yW]
      ·rw [itF (by simp [k17]),hT k15 k16,hS k17];have hck:(v.Words.all fun w=>kNum f.Kind&&zbE f.Kind w==w)=v.Words.all (zlo f):=rfl;by_cases hl:v.Texts.length=0/\v.Subs.length=0
       ·rw [uP,zCB (by omega) b1',sb,sb,xO hl.1,xO hl.2,q7,q7,hck];congr 1;cases hkn:kNum f.Kind
        ·rw [hW hkn,xV (show ¬v.Words.length=0 by omega),q9]
        ·have hkr:zbO f.Kind=true:=by
          rw [zhC] at hkn;unfold zbO;simp;omega
         rw [hkr,yc]
       ·rw [uQ,sb];congr 1
        symm
        by_cases hw0:v.Texts.length=0
        ·rw [xV (show ¬v.Subs.length=0 by omega),q9]
        ·rw [xV hw0,q9,yW]
  ·show zfY (zhg fuel) (zjl fuel) (zdX fuel) s k l=_;unfold zfY;by_cases hk:0<=k/\k<s.length
   ·rw [uQ,xO hk,yc];obtain ⟨n,rfl⟩:∃n:Nat,k=n:=⟨k.toNat,by omega⟩;have h1:=zmd (fun x=>zaP s x n) l (fun i=>zec l n (zdX fuel) s i) (by
      refine zjk ?_;unfold zca;rw [uO])
     (fun i hi=>by
      have hm:=xF hi;have z1:=zfW hm;have hr:=ih1 l[i] n (by omega) (by omega) (zfF.1 hb _ hm) (zoJ.1 hsm _ hm);cases hp:zaP s l[i] n
      ·rw [xx (by simp)];refine zjk ?_;unfold zca;rw [uP,zR rfl hi,sb,hr,sb,hp,uM]
      ·rw [xy rfl];refine zoM ?_;unfold zca;rw [uP,zR rfl hi,sb,hr,sb,hp,uN,uR];push_cast;rfl)
     l.length 0 (xQ _)
    have h1':zec l n (zdX fuel) s 0=_:=h1;rw [h1',sb,xN];cases l.all (fun x=>zaP s x n)<;>rfl
   ·rw [uP,xV hk];rfl
theorem zyS (root:Int) (hf:2*szM x<fuel) (hw:WS s) (hb:bdM x) (hsm:smM x) (hd:dM x<=131072):zkz fuel s root x=some (zhT s&&zaP s x root):=by
 unfold zkz;rw [zEs hw,sb];by_cases h0:argS s root 0=0
 ·obtain ⟨hr,g1,g2,_,_⟩:=zlM h0;have hrs:zhT s=true:=by
   unfold argS at h0;cases h:zhT s with
   | true=>rfl
   | false=>rw [h,xy rfl] at h0;cases h0
  obtain ⟨k,rfl⟩:∃k:Nat,root=k:=⟨root.toNat,by omega⟩;rw [itT (by simp [h0]),zEj (by omega) hb hd,sb,uM,(zEl hr fuel).1 x k (by omega) hf hb hsm,sb,sb,hrs,yc]
 ·rw [itF (by simp [h0]),sb];congr 1
  symm
  cases hrs:zhT s
  ·rfl
  ·rw [yc,zlW];unfold argS at h0;rw [xx (by rw [hrs];simp)] at h0;rw [xV (by split at h0<;>omega)];rfl
theorem zLT (hk:kNum k=true) (hf:zdF (zaM k) v=true):pcs k v=([v],0):=by
 have hk':=zhC.1 hk;have hu:znD k v= .inr v.length/\v≠[]:=by
  unfold znD;unfold zdF zaM at hf;by_cases h9:k<9
  ·rw [xx (show ¬15<=k by omega),xx (show ¬12<=k by omega),xx (show ¬9<=k by omega),xy rfl] at hf;obtain ⟨h1,h2⟩:=yO hf;obtain ⟨b1,b2,b3,b4,b5,b6,b7⟩:=zhJ v;have hp:=b7 h1;rw [xy h9,xx (by simpa using h1),h2];refine ⟨by simp,fun e=>?_⟩;subst e;simp at h2;omega
  ·rw [xx h9];by_cases h12:k<12
   ·rw [xx (show ¬15<=k by omega),xx (show ¬12<=k by omega),xy (show 9<=k by omega),xx (by omega)] at hf;have hf':=yO hf;have hl:v.length=4:=by omega
    rw [xy h12,xx (by omega),hl];exact ⟨rfl,fun e=>by rw [e] at hl;simp at hl⟩
   ·rw [xx (show ¬15<=k by omega),xy (show 12<=k by omega),xx (by omega)] at hf;have hf':=yO hf;have hl:v.length=8:=by omega
    rw [xx h12,xx (by omega),hl];exact ⟨rfl,fun e=>by rw [e] at hl;simp at hl⟩
 rw [zmC hu.2 hu.1,uC,List.drop_length,zpv]
theorem zAV (hk:kNum k=true) (hf:zdF (zaM k) v=true):zbC k v=([(zmL k v).1],0):=by
 unfold zbC;rw [xx (by rw [hk];simp),zLT hk hf,xy rfl,zld hk hf];rfl
def zgJ (f:Fld) (T:List Th):List Th:=if f.Repeated=true then T else T.drop (T.length - 1)
def valT (g:Int->List UInt8->Msg) (f:Fld) (T:List Th):Vlu:=
 if f.Kind=17 then ⟨f.Number,[],[],if f.Repeated=true then T.map fun t=>g f.Of t.val else [g f.Of (T.flatMap (·.val))]⟩
 else if f.Kind=15\/f.Kind=16 then ⟨f.Number,[],(zgJ f T).map (·.val),[]⟩
 else ⟨f.Number,(zgJ f T).flatMap (fun t=>(zbC f.Kind t.val).1),[],[]⟩
theorem zoZ (g:Int->List UInt8->Msg) (f:Fld) (i:Int):∀(l:List Th) (a:zfv),accF g f i a l=(l.filter fun t=>t.fi==i).foldl (stp g f) a
 | [],a=>rfl
 | t::l,a=>by
  rw [accF,yK];by_cases h:t.fi=i
  ·rw [xy h,xy (by simpa using h),yz];exact zoZ g f i l _
  ·rw [xx h,xx (by simpa using h)];exact zoZ g f i l _
def OkF (f:Fld) (t:Th):Prop:=(t.run=true->kNum f.Kind=true/\f.Repeated=true)/\(t.run=false->zbO f.Kind=true/\zdF (zaM f.Kind) t.val=true)
theorem zAA :zgJ f (t::u::T)=if f.Repeated=true then t::u::T else zgJ f (u::T):=by
 unfold zgJ;cases f.Repeated<;>simp
theorem zCY (g:Int->List UInt8->Msg) (hk:kNum f.Kind=true):∀(T:List Th) (a:zfv),T≠[]->(∀t∈T,OkF f t)->
  T.foldl (stp g f) a=(a.1,true,(if f.Repeated=true then a.2.2.1 else [])++(zgJ f T).flatMap (fun t=>(zbC f.Kind t.val).1),(if f.Repeated=true then a.2.2.2.1 else []),a.2.2.2.2)
 | [],a,h,_=>absurd rfl h
 | [t],a,_,ht=>by
  obtain ⟨h1,h2⟩:=ht t xz;have hp:zgJ f [t]=[t]:=by unfold zgJ;simp
  rw [hp,yz,pu];unfold stp;cases hr:t.run
  ·rw [xx (by simp),xy hk,uE,zAV hk (h2 hr).2]
  ·rw [xy rfl,uE]
 | t::u::T,a,_,ht=>by
  obtain ⟨h1,h2⟩:=ht t xz;have hst:stp g f a t=(a.1,true,(if f.Repeated=true then a.2.2.1 else [])++(zbC f.Kind t.val).1,(if f.Repeated=true then a.2.2.2.1 else []),a.2.2.2.2):=by
   unfold stp;cases hr:t.run
   ·rw [xx (by simp),xy hk,zAV hk (h2 hr).2]
   ·rw [xy rfl]
  rw [yz,hst,zCY g hk (u::T) _ (by simp) fun x hx=>ht x (xA _ hx),zAA];cases hr:f.Repeated
  ·simp
  ·have hp:zgJ f (u::T)=u::T:=by unfold zgJ;rw [xy hr]
   rw [hp];simp
theorem zAc (g:Int->List UInt8->Msg) (hk:kNum f.Kind=false) (kh:f.Kind≠17):∀(T:List Th) (a:zfv),T≠[]->(∀t∈T,OkF f t)->
  T.foldl (stp g f) a=(a.1,true,(if f.Repeated=true then a.2.2.1 else []),(if f.Repeated=true then a.2.2.2.1 else [])++(zgJ f T).map (·.val),a.2.2.2.2)
 | [],a,h,_=>absurd rfl h
 | [t],a,_,ht=>by
  obtain ⟨h1,h2⟩:=ht t xz;have hp:zgJ f [t]=[t]:=by unfold zgJ;simp
  have hr:t.run=false:=by
   cases hr:t.run
   ·rfl
   ·have:=(h1 hr).1;rw [hk] at this;cases this
  rw [hp,yz,pu];unfold stp;rw [hr,xx (by simp),xx (by rw [hk];simp),xx (fun h=>kh h.1),xx kh];rfl
 | t::u::T,a,_,ht=>by
  obtain ⟨h1,h2⟩:=ht t xz;have hr:t.run=false:=by
   cases hr:t.run
   ·rfl
   ·have:=(h1 hr).1;rw [hk] at this;cases this
  have hst:stp g f a t=(a.1,true,(if f.Repeated=true then a.2.2.1 else []),(if f.Repeated=true then a.2.2.2.1 else [])++[t.val],a.2.2.2.2):=by
   unfold stp;rw [hr,xx (by simp),xx (by rw [hk];simp),xx (fun h=>kh h.1),xx kh]
  rw [yz,hst,zAc g hk kh (u::T) _ (by simp) fun x hx=>ht x (xA _ hx),zAA];cases hr:f.Repeated
  ·simp
  ·have hp:zgJ f (u::T)=u::T:=by unfold zgJ;rw [xy hr]
   rw [hp];simp
theorem zAb (g:Int->List UInt8->Msg) (kh:f.Kind=17) (hr:f.Repeated=true):∀(T:List Th) (a:zfv),(∀t∈T,OkF f t)->(T≠[]\/a.2.1=true)->
  T.foldl (stp g f) a=(a.1,true,a.2.2.1,a.2.2.2.1,a.2.2.2.2++T.map fun t=>g f.Of t.val)
 | [],a,_,h=>by
  rcases h with h| h
  ·exact absurd rfl h
  ·obtain ⟨a1,a2,a3,a4,a5⟩:=a;simp only at h;subst h;simp
 | t::T,a,ht,_=>by
  obtain ⟨h1,h2⟩:=ht t xz;have hrn:t.run=false:=by
   cases hr:t.run
   ·rfl
   ·have:=(h1 hr).1;rw [kh] at this;cases this
  have hst:stp g f a t=(a.1,true,a.2.2.1,a.2.2.2.1,a.2.2.2.2++[g f.Of t.val]):=by
   unfold stp;rw [hrn,xx (by simp),xx (by rw [kh];decide),xy ⟨kh,hr⟩,xy hr,xy hr]
  rw [yz,hst,zAb g kh hr T _ (fun x hx=>ht x (xA _ hx)) (.inr rfl)];simp
theorem zCZ (g:Int->List UInt8->Msg) (kh:f.Kind=17) (hr:f.Repeated=false):∀(T:List Th) (a:zfv),(∀t∈T,OkF f t)->T≠[]->
  T.foldl (stp g f) a=(a.1++T.flatMap (·.val),true,[],[],a.2.2.2.2)
 | [],a,_,h=>absurd rfl h
 | [t],a,ht,_=>by
  obtain ⟨h1,h2⟩:=ht t xz;have hrn:t.run=false:=by
   cases hr:t.run
   ·rfl
   ·have:=(h1 hr).1;rw [kh] at this;cases this
  rw [yz,pu];unfold stp;rw [hrn,xx (by simp),xx (by rw [kh];decide),xx (by rw [hr];simp),xy kh,hr];simp
 | t::u::T,a,ht,_=>by
  obtain ⟨h1,h2⟩:=ht t xz;have hrn:t.run=false:=by
   cases hr:t.run
   ·rfl
   ·have:=(h1 hr).1;rw [kh] at this;cases this
  have hst:stp g f a t=(a.1++t.val,true,[],[],a.2.2.2.2):=by
   unfold stp;rw [hrn,xx (by simp),xx (by rw [kh];decide),xx (by rw [hr];simp),xy kh,hr];simp
  rw [yz,hst,zCZ g kh hr (u::T) _ (fun x hx=>ht x (xA _ hx)) (by simp)];simp
theorem zOd (g:Int->List UInt8->Msg) (hkr:zbO f.Kind=true) (hT:T≠[]) (ht:∀t∈T,OkF f t):valO g f (T.foldl (stp g f) acc0)=valT g f T:=by
 unfold valT;by_cases kh:f.Kind=17
 ·rw [xy kh];cases hr:f.Repeated
  ·rw [zCZ g kh hr T acc0 ht hT];unfold valO;rw [xy ⟨rfl,kh,hr⟩];simp [acc0]
  ·rw [zAb g kh hr T acc0 ht (.inl hT)];unfold valO;rw [xx (by rw [hr];simp)];simp [acc0]
 ·rw [xx kh];by_cases hx:f.Kind=15\/f.Kind=16
  ·rw [xy hx,zAc g (by unfold kNum;simp;omega) kh T acc0 hT ht];unfold valO;simp only;rw [xx (show ¬(True/\f.Kind=17/\f.Repeated=false) from fun h=>kh h.2.1)];cases f.Repeated<;>simp [acc0]
  ·have hk:kNum f.Kind=true:=by unfold zbO at hkr;unfold kNum;simp at hkr|-;omega
   rw [xx hx,zCY g hk T acc0 hT ht];unfold valO;simp only;rw [xx (show ¬(True/\f.Kind=17/\f.Repeated=false) from fun h=>kh h.2.1)];cases f.Repeated<;>simp [acc0]
theorem zIq {α:Type} (l:List α) (m:Nat) (d x:α):(l++List.replicate (m+1) d).set l.length x=(l++[x])++List.replicate m d:=by
 rw [List.set_append_right _ _ (xC _),po,pW,List.set_cons_zero,yu];rfl
theorem zBy {α:Type} (l:List α) (d:α) (F:List α->Int->Option (List α)) (h0:F l (l.length:Int)=some l)
  (hs:∀(i:Nat) (h:i<l.length),F (l.take i++List.replicate (l.length - i) d) (i:Int)=F (l.take (i+1)++List.replicate (l.length - (i+1)) d) ((i+1:Nat):Int)):
  ∀(c i:Nat),i+c=l.length->F (l.take i++List.replicate (l.length - i) d) (i:Int)=some l
 | 0,i,h=>by
  have hi:i=l.length:=by omega
  rw [hi,uC,po,List.replicate_zero,yA];exact h0
 | c+1,i,h=>by rw [hs i (by omega)];exact zBy l d F h0 hs c (i+1) (by omega)
theorem zxv {α:Type} (l:List α) (d:α) (i:Nat) (h:i<l.length):(l.take i++List.replicate (l.length - i) d).set i l[i]=l.take (i+1)++List.replicate (l.length - (i+1)) d:=by
 have hl:(l.take i).length=i:=by rw [ye];omega
 have e:=zIq (l.take i) (l.length - (i+1)) d l[i];rw [hl,show l.length - (i+1)+1=l.length - i by omega] at e;rw [e,q6 h]
def At14 (b:List UInt8) (L:List Vw):Prop:=∀t∈L,0<=t.R.From/\t.R.From<t.R.At/\t.R.At<=t.R.To/\t.R.To<=b.length
theorem zBt (h:At14 b L) (ht:t∈L):cut b t.R.At t.R.To=some (valB b t.R):=by
 obtain ⟨r1,r2,r3,r4⟩:=h t ht;obtain ⟨x,hx1⟩:∃x:Nat,t.R.At=x:=⟨t.R.At.toNat,by omega⟩;obtain ⟨y,hy1⟩:∃x:Nat,t.R.To=x:=⟨t.R.To.toNat,by omega⟩;rw [zhn hx1 hy1 (by omega) (by omega)];unfold valB;rw [hx1,hy1];simp only [xJ]
theorem zLl (h:At14 b L) (ht:t∈L):cut b t.R.From t.R.To=some (rawB b t.R):=by
 obtain ⟨r1,r2,r3,r4⟩:=h t ht;obtain ⟨x,hx1⟩:∃x:Nat,t.R.From=x:=⟨t.R.From.toNat,by omega⟩;obtain ⟨y,hy1⟩:∃x:Nat,t.R.To=x:=⟨t.R.To.toNat,by omega⟩;rw [zhn hx1 hy1 (by omega) (by omega)];unfold rawB;rw [hx1,hy1];simp only [xJ]
theorem zwD {L:List Vw} {i:Nat} (h:i<L.length):idx (L.map prV) (i:Int)=some (prV L[i]):=by
 rw [zR rfl (show i<(L.map prV).length by simpa using h)];simp
theorem zKH {b:List UInt8} {L:List Vw} (hL:L.length<=1048576) (hat:At14 b L):zmO b (L.map prV)=some (L.map fun t=>valB b t.R):=by
 unfold zmO;rw [zqU (a:=L.length) (by simp) (qz _) (by simp;omega),sb];have ke:(L.map fun t=>valB b t.R).length=L.length:=by simp
 have h:=zBy (L.map fun t=>valB b t.R) ([]:Str) (fun a i=>zhN b (L.map prV) a i) (by
   refine zuq ?_;unfold zeG;rw [uO])
  (fun i hi=>by
   have hil:i<L.length:=by simpa using hi
   refine zup ?_;unfold zeG;have hc:=zBt hat (xF hil);rw [uP,zwD hil,sb];have e1:(prV L[i]).Record.At=L[i].R.At:=rfl;have e2:(prV L[i]).Record.To=L[i].R.To:=rfl;have e3:=zxv (L.map fun t=>valB b t.R) ([]:Str) i hi;rw [uF] at e3;rw [e1,e2,hc,sb,zR rfl (show i<_ by rw [xE,ye,qJ];omega),sb,xJ,e3,uR];push_cast;rfl) L.length 0 (by simp)
 rw [ke,yx,yb,qw] at h;have h':zhN b (L.map prV) (List.replicate L.length []) 0=_:=h;rw [h',sb]
theorem zIy {k:Int} {b:List UInt8} (hb:b.length<=1048576) {L:List Vw} (hL:L.length<=1048576) (hat:At14 b L) (hw:(L.flatMap fun t=>(zbC k (valB b t.R)).1).length<=1048576):
  zmP k b (L.map prV)=some (L.flatMap fun t=>(zbC k (valB b t.R)).1):=by
 unfold zmP;have key:∀(post pre:List Vw),L=pre++post->zhO b k (L.map prV) (pre.flatMap fun t=>(zbC k (valB b t.R)).1) pre.length=some (L.flatMap fun t=>(zbC k (valB b t.R)).1):=by
  intro post
  induction post with
  | nil=>
   intro pre e;rw [yA] at e;subst e;refine zus ?_;unfold zeH;rw [uO]
  | cons t post ih=>
   intro pre e;have ka:pre.length<L.length:=by rw [e];simp
   have hti:L[pre.length]=t:=by
    subst e;simp
   have ht:t∈L:=by rw [e];simp
   obtain ⟨r1,r2,r3,r4⟩:=hat t ht;have hvl:=zHn b t.R r3 r1 r2 r4;have e2:(L.flatMap fun t=>(zbC k (valB b t.R)).1)=(pre.flatMap fun t=>(zbC k (valB b t.R)).1)++((zbC k (valB b t.R)).1++post.flatMap fun t=>(zbC k (valB b t.R)).1):=by rw [e];simp
   have hsum:=congrArg List.length e2;rw [xE,xE] at hsum;refine (zur (all':=(pre++[t]).flatMap fun t=>(zbC k (valB b t.R)).1) (v':=(((pre++[t]).length:Nat):Int)) ?_).trans (ih (pre++[t]) (by rw [e];simp));unfold zeH;have hc:=zBt hat ht;rw [uP,zwD ka,sb,hti];have e1:(prV t).Record.At=t.R.At:=rfl;have e2:(prV t).Record.To=t.R.To:=rfl;rw [e1,e2,hc,sb,zIp k (by omega),sb,zcg (by omega),sb,uR,qr,uE,xE,yH];push_cast;rfl
 have h:=key L [] rfl;have h':zhO b k (L.map prV) [] 0=_:=h;rw [h',sb]
theorem zEg {b:List UInt8} {L:List Vw} (hL:L.length<=1048576) (hat:At14 b L):ziv b (L.map prV) (List.replicate L.length []) 0=some (L.map fun t=>valB b t.R):=by
 have ke:(L.map fun t=>valB b t.R).length=L.length:=by simp
 have h:=zBy (L.map fun t=>valB b t.R) ([]:List UInt8) (fun a i=>ziv b (L.map prV) a i) (by
   refine zvs ?_;unfold zft;rw [uO])
  (fun i hi=>by
   have hil:i<L.length:=by simpa using hi
   refine zvr ?_;unfold zft;have hc:=zBt hat (xF hil);rw [uP,zwD hil,sb];have e1:(prV L[i]).Record.At=L[i].R.At:=rfl;have e2:(prV L[i]).Record.To=L[i].R.To:=rfl;have e3:=zxv (L.map fun t=>valB b t.R) ([]:List UInt8) i hi;rw [uF] at e3;rw [e1,e2,hc,sb,zR rfl (show i<_ by rw [xE,ye,qJ];omega),sb,xJ,e3,uR];push_cast;rfl) L.length 0 (by simp)
 rw [ke,yx,yb,qw] at h;exact h
theorem zvj {rec:List zc->Int->List UInt8->Option zd} {g:Int->List UInt8->Msg} {s:List Mes} {f:Fld} {p:List (List UInt8)} (hp:p.length<=1048576) (hg:∀v∈p,rec s f.Of v=some (g f.Of v)):
  zgD f p rec s (List.replicate p.length ⟨[],[]⟩) 0=some (p.map (g f.Of)):=by
 have ke:(p.map (g f.Of)).length=p.length:=by simp
 have h:=zBy (p.map (g f.Of)) (⟨[],[]⟩:Msg) (fun a i=>zgD f p rec s a i) (by
   refine zvu ?_;unfold zfu;rw [uO])
  (fun i hi=>by
   have hil:i<p.length:=by simpa using hi
   refine zvt ?_;unfold zfu;have e3:=zxv (p.map (g f.Of)) (⟨[],[]⟩:Msg) i hi;rw [uF] at e3;rw [uP,zR rfl hil,sb,hg _ (xF hil),sb,zR rfl (show i<_ by rw [xE,ye,qJ];omega),sb,xJ,e3,uR];push_cast;rfl) p.length 0 (by simp)
 rw [ke,yx,yb,qw] at h;exact h
def kn14 (acc:List (Int×List PVw)) (v:Vw):List (Int×List PVw):=if v.Field= -1 then acc else mput acc v.R.Number ((mget acc v.R.Number).getD []++[prV v])
def zgN (L:List Vw) (n:Int):List Vw:=L.filter fun v=>decide (v.Field≠ -1/\v.R.Number=n)
theorem zFg (n:Int):∀(L:List Vw) (acc:List (Int×List PVw)),(mget (L.foldl kn14 acc) n).getD []=(mget acc n).getD []++(zgN L n).map prV
 | [],acc=>by simp [zgN]
 | v::L,acc=>by
  rw [yz,zFg n L];unfold zgN kn14;rw [yK];by_cases hf:v.Field= -1
  ·rw [xy hf,xx (by simp [hf])]
  ·rw [xx hf,zje];by_cases hn:n=v.R.Number
   ·rw [xy hn,xy (by simp [hf,hn]),hn];simp
   ·rw [xx hn,xx (by simp;exact fun _ e=>hn e.symm)]
theorem zBO {κ ν:Type} [DecidableEq κ] (m:List (κ×ν)) (k j:κ) (x:ν):j∈(mput m k x).map Prod.fst↔j∈m.map Prod.fst\/j=k:=by
 rw [zow];cases h:mget m k with
 | none=>simp
 | some y=>
  simp only;exact ⟨.inl,fun h'=>h'.elim id fun e=>e▸zJN h⟩
theorem zGC (n:Int):∀(L:List Vw) (acc:List (Int×List PVw)),n∈(L.foldl kn14 acc).map Prod.fst↔n∈acc.map Prod.fst\/∃v∈L,v.Field≠ -1/\v.R.Number=n
 | [],acc=>by simp
 | v::L,acc=>by
  rw [yz,zGC n L];unfold kn14;by_cases hf:v.Field= -1
  ·rw [xy hf];constructor
   ·rintro (h| ⟨u,hu,h⟩)
    ·exact .inl h
    ·exact .inr ⟨u,xA _ hu,h⟩
   ·rintro (h| ⟨u,hu,h⟩)
    ·exact .inl h
    ·rcases xD.1 hu with rfl| hu
     ·exact absurd hf h.1
     ·exact .inr ⟨u,hu,h⟩
  ·rw [xx hf,zBO];constructor
   ·rintro ((h| h)| ⟨u,hu,h⟩)
    ·exact .inl h
    ·exact .inr ⟨v,xz,hf,h.symm⟩
    ·exact .inr ⟨u,xA _ hu,h⟩
   ·rintro (h| ⟨u,hu,h⟩)
    ·exact .inl (.inl h)
    ·rcases xD.1 hu with rfl| hu
     ·exact .inl (.inr h.2.symm)
     ·exact .inr ⟨u,hu,h⟩
theorem zDq:∀(L:List Vw) (acc:List (Int×List PVw)),(acc.map Prod.fst).Nodup->((L.foldl kn14 acc).map Prod.fst).Nodup
 | [],acc,h=>h
 | v::L,acc,h=>by
  rw [yz];refine zDq L _ ?_;unfold kn14;split
  ·exact h
  ·exact zpr h _ _
theorem zDA {κ ν:Type} [DecidableEq κ] (m:List (κ×ν)) (k:κ) (x:ν):(mput m k x).length<=m.length+1:=by
 have h:=congrArg List.length (zow m k x);rw [yN] at h;rw [h];split<;>simp
theorem zFh:∀(L:List Vw) (acc:List (Int×List PVw)),(L.foldl kn14 acc).length<=acc.length+L.length
 | [],acc=>by simp
 | v::L,acc=>by
  rw [yz];have h:=zFh L (kn14 acc v);have h2:(kn14 acc v).length<=acc.length+1:=by
   unfold kn14;split
   ·omega
   ·exact zDA _ _ _
  rw [xR];omega
theorem zBz {b:List UInt8} {L:List Vw} (hL:L.length<=1048576) (hat:At14 b L) (hneg:∀v∈L,v.Field= -1\/0<=v.Field) (x:Int×Int):∀(post pre:List Vw),L=pre++post->
  zgj b (L.map prV,x) (pre.foldl kn14 []) pre.length (unkO (pre.map (thOf b)))=some (L.foldl kn14 [],unkO (L.map (thOf b))):=by
 intro post
 induction post with
 | nil=>
  intro pre e;rw [yA] at e;subst e;refine zsp ?_;unfold zcJ;rw [uO]
 | cons v post ih=>
  intro pre e;have ka:pre.length<L.length:=by rw [e];simp
  have hti:L[pre.length]=v:=by subst e;simp
  have hv:v∈L:=by rw [e];simp
  have hx:idx (L.map prV) (pre.length:Nat)=some (prV v):=by rw [zwD ka,hti]
  have hfi:(prV v).Field=v.Field:=rfl;have hun:(unkO (pre.map (thOf b))).length<=pre.length:=by
   unfold unkO;rw [yN];exact yC (pq _ _) (by simp)
  have hw:i64.wrap (((pre.length:Nat):Int)+1)=(((pre++[v]).length:Nat):Int):=by rw [uR,xE,yH];push_cast;rfl
  have hF:=(hat v hv);by_cases hf:v.Field= -1
  ·refine (zlz (known':=(pre++[v]).foldl kn14 []) (v':=(((pre++[v]).length:Nat):Int)) (f':=unkO ((pre++[v]).map (thOf b))) ?_).trans (ih (pre++[v]) (by rw [e];simp));unfold zcJ;have e1:(prV v).Record.From=v.R.From:=rfl;have e2:(prV v).Record.To=v.R.To:=rfl;have hu:unkO ((pre++[v]).map (thOf b))=unkO (pre.map (thOf b))++[rawB b v.R]:=by
    unfold unkO;rw [yV,List.filter_append,yV];congr 1;rw [pv,yK,xy (by show decide (v.Field<0)=true;rw [hf];rfl)];rfl
   have hk:(pre++[v]).foldl kn14 []=pre.foldl kn14 []:=by rw [List.foldl_append,yz,pu];unfold kn14;rw [xy hf]
   rw [uP,hx,sb,itT (by rw [hfi,hf];rfl),e1,e2,zLl hat hv,sb,zcg (by simp;omega),sb,hw,hu,hk]
  ·refine (zlz (known':=(pre++[v]).foldl kn14 []) (v':=(((pre++[v]).length:Nat):Int)) (f':=unkO ((pre++[v]).map (thOf b))) ?_).trans (ih (pre++[v]) (by rw [e];simp));unfold zcJ;have e1:(prV v).Record.Number=v.R.Number:=rfl;have hg:=zFg v.R.Number pre [];have ke:((mget (pre.foldl kn14 []) v.R.Number).getD []).length<=pre.length:=by
    rw [hg];have:(zgN pre v.R.Number).length<=pre.length:=pq _ _;simpa [mget] using this
   have hk:(pre++[v]).foldl kn14 []=mput (pre.foldl kn14 []) v.R.Number ((mget (pre.foldl kn14 []) v.R.Number).getD []++[prV v]):=by rw [List.foldl_append,yz,pu];show kn14 (pre.foldl kn14 []) v=_;unfold kn14;rw [xx hf]
   rw [uP,hx,sb,itF (by rw [hfi];simpa using hf),e1,zcg (by simp only [yH];omega),sb,hw,hk];have hu:unkO ((pre++[v]).map (thOf b))=unkO (pre.map (thOf b)):=by
    unfold unkO;rw [yV,List.filter_append,yV,pv,yK,xx (by show ¬decide (v.Field<0)=true;have:=(hneg v hv).resolve_left hf;simp;omega)];simp
   rw [hu]
theorem zDn {L:List Vw} (hwf:∀v∈L,v.Field≠ -1->(Lit.int .i64 v.R.Number).wf=true) (hL:L.length<=1048576):
  ∃ks,ztE (L.foldl kn14 [])=some ks/\ks.Pairwise (·<·)/\∀n,n∈ks↔∃v∈L,v.Field≠ -1/\v.R.Number=n:=by
 have ke:=zFh L [];have hnd:=zDq L [] (by simp);have hk:=fun n=>zGC n L []
 generalize L.foldl kn14 []=K at ke hnd hk
 refine ⟨(K.map Prod.fst).mergeSort fun x y=>decide (x<=y),?_,?_,fun n=>?_⟩
 ·have hall:(K.all fun p=>(Lit.int .i64 p.1).wf)=true:=by
   rw [xM];intro p hp;obtain h| ⟨v,hv,hf,hn⟩:=(hk p.1).1 (qv hp)
   ·simp at h
   ·rw [<-hn];exact hwf v hv hf
  have hl:K.length*8<=140737488355328:=by rw [yR] at ke;omega
  unfold ztE;rw [xy ⟨hall,hl⟩]
 ·have hp:=List.mergeSort_perm (K.map Prod.fst) fun x y=>decide (x<=y)
  have hs:=List.pairwise_mergeSort (le:=fun x y:Int=>decide (x<=y)) (fun a b c h k=>by simp at*;omega) (fun a b=>by simp;omega) (K.map Prod.fst);have hnd':=hp.nodup_iff.2 hnd
  generalize (K.map Prod.fst).mergeSort (fun x y=>decide (x<=y))=ks at hs hnd'
  refine (List.Pairwise.and hs hnd').imp fun {a b} h=>?_
  have h1:a<=b:=by simpa using h.1
  have h2:a≠b:=h.2;omega
 ·rw [List.mem_mergeSort,hk n];simp
theorem zvW:∀(l k:List Int),l.Pairwise (·<·)->k.Pairwise (·<·)->(∀w,w∈l↔w∈k)->l=k
 | [],[],_,_,_=>rfl
 | [],y::k,_,_,h=>absurd ((h y).2 xz) (by simp)
 | x::l,[],_,_,h=>absurd ((h x).1 xz) (by simp)
 | x::l,y::k,hl,hk,h=>by
  have hl':=yB.1 hl;have hk':=yB.1 hk;have hxy:x=y:=by
   rcases xD.1 ((h x).1 xz) with h1| h1
   ·exact h1
   ·rcases xD.1 ((h y).2 xz) with h2| h2
    ·exact h2.symm
    ·have a1:=hk'.1 x h1;have a2:=hl'.1 y h2;omega
  subst hxy;congr 1;refine zvW l k hl'.2 hk'.2 fun w=>?_
  have nl:x∉l:=fun hm=>by have:=hl'.1 x hm;omega
  have nk:x∉k:=fun hm=>by have:=hk'.1 x hm;omega
  have:=h w;simp only [xD] at this;constructor
  ·intro hw;rcases this.1 (.inr hw) with rfl| h'
   ·exact absurd hw nl
   ·exact h'
  ·intro hw;rcases this.2 (.inr hw) with rfl| h'
   ·exact absurd hw nk
   ·exact h'
theorem zxw {α:Type} (vo:Int->α) (p:α->Bool) (met:Int->Bool):∀(o:List Int),(∀i∈o,met i=false->p (vo i)=false)->(o.map vo).filter p=((o.filter met).map vo).filter p
 | [],_=>rfl
 | i::o,h=>by
  have ih:=zxw vo p met o fun j hj=>h j (xA _ hj)
  rw [xL,yK,yK];cases hm:met i
  ·rw [h i xz hm,xx (by simp),xx (by simp),ih]
  ·rw [xy rfl,xL,yK,ih]
def zpK (f:Fld) (L:List Vw):List Vw:=if f.Repeated=true then L else L.drop (L.length - 1)
theorem zuZ (b:List UInt8) (f:Fld) (L:List Vw):(zpK f L).map (thOf b)=zgJ f (L.map (thOf b)):=by
 unfold zpK zgJ;split
 ·rfl
 ·rw [List.map_drop,yN]
theorem zId :∀v∈zpK f L,v∈L:=fun v hv=>by
 unfold zpK at hv;split at hv
 ·exact hv
 ·exact List.mem_of_mem_drop hv
theorem zIc (f:Fld) (L:List Vw):(zpK f L).length<=L.length:=by
 unfold zpK;split
 ·exact xC _
 ·rw [yd];omega
theorem zuP:∀(T:List Th),(T.flatMap (·.val)).length+T.length<=wt T
 | []=>by simp [wt]
 | t::T=>by have:=zuP T;rw [xU,xE,xR,wt];omega
theorem zze (k:Int):∀(T:List Th),(T.flatMap fun t=>(zbC k t.val).1).length<=wt T
 | []=>by simp [wt]
 | t::T=>by have:=zze k T;have:=zsf k t.val;rw [xU,xE,wt];omega
theorem zHa (f:Fld) (T:List Th):wt (zgJ f T)<=wt T:=by
 unfold zgJ;split
 ·exact xC _
 ·have:∀(T:List Th) (k:Nat),wt (T.drop k)<=wt T:=fun T=>by
   induction T with
   | nil=>intro k;simp
   | cons t T ih=>
    intro k;cases k with
    | zero=>simp
    | succ k=>have:=ih k;rw [pR,wt];omega
  exact this T _
theorem zKN {rec1:List zc->Int->List UInt8->Option zd} {rec2:List zc->Fld->List UInt8->List PVw->Option (List zd)} {rec3:List zc->Fld->List UInt8->List PVw->Option zb}
  {g:Int->List UInt8->Msg} {s:List Mes} {f:Fld} {b:List UInt8} {L:List Vw} (hat:At14 b L) (hne:L≠[]) (hw:wt (L.map (thOf b))<=1048576)
  (hg1:f.Repeated=true->∀t∈L,rec1 s f.Of (valB b t.R)=some (g f.Of (valB b t.R))) (hg2:f.Repeated=false->rec1 s f.Of ((L.map (thOf b)).flatMap (·.val))=some (g f.Of ((L.map (thOf b)).flatMap (·.val)))):
  zjm rec1 rec2 rec3 s f b (L.map prV)=some (if f.Repeated=true then (L.map (thOf b)).map fun t=>g f.Of t.val else [g f.Of ((L.map (thOf b)).flatMap (·.val))]):=by
 have hL:L.length<=1048576:=by have:=zrD (L.map (thOf b));rw [yN] at this;omega
 have hfl:((L.map fun t=>valB b t.R).flatten)=(L.map (thOf b)).flatMap (·.val):=by
  rw [List.flatMap_map,pX];rfl
 have hflen:=zuP (L.map (thOf b));unfold zjm;rw [zqU (a:=L.length) (by simp) (qz _) (by simp;omega),sb,zEg hL hat,sb];cases hr:f.Repeated
 ·by_cases h1:1<L.length
  ·rw [uP,zol (by simp;omega) (by rw [hfl];omega),sb,sb,zqU (bytes:=48) (a:=1) (by simp) (qz _) (by simp),sb];have h:=zvj (rec:=rec1) (g:=g) (s:=s) (f:=f) (p:=[(L.map fun t=>valB b t.R).flatten]) (by simp) (fun v hv=>by
    simp only [xD,xS,xT] at hv;rw [hv,hfl];exact hg2 hr)
   have h':zgD f [(L.map fun t=>valB b t.R).flatten] rec1 s (List.replicate 1 ⟨[],[]⟩) 0=_:=h;rw [h',sb,xx (by simp),pv,hfl]
  ·have hl1:L.length=1:=by
    have:L.length≠0:=fun e=>hne (qE e)
    omega
   obtain ⟨t,rfl⟩:=uG.1 hl1;rw [uO,sb,zqU (bytes:=48) (a:=1) (by simp) (qz _) (by simp),sb];have hv1:([t].map (thOf b)).flatMap (·.val)=valB b t.R:=by simp [thOf]
   have h:=zvj (rec:=rec1) (g:=g) (s:=s) (f:=f) (p:=[valB b t.R]) (by simp) (fun v hv=>by
    simp only [xD,xS,xT] at hv;rw [hv];have:=hg2 hr;rw [hv1] at this;exact this)
   have h':zgD f (List.map (fun t=>valB b t.R) [t]) rec1 s (List.replicate 1 ⟨[],[]⟩) 0=_:=h;rw [h',sb,xx (by simp),hv1,pv]
 ·rw [uN,sb,zqU (a:=L.length) (by simp) (qz _) (by simp;omega),sb];have h:=zvj (rec:=rec1) (g:=g) (s:=s) (f:=f) (p:=L.map fun t=>valB b t.R) (by simpa using hL) (fun v hv=>by
   obtain ⟨t,ht,rfl⟩:=xH.1 hv;exact hg1 hr t ht)
  rw [yN] at h;rw [h,sb,xy rfl,qy,qy];rfl
theorem zIx 
  (hb:b.length<=1048576) (hat:At14 b L) (hne:L≠[]) (hw:wt (L.map (thOf b))<=1048576)
  (h2:f.Kind=17->rec2 s f b (L.map prV)=some (if f.Repeated=true then (L.map (thOf b)).map fun t=>g f.Of t.val else [g f.Of ((L.map (thOf b)).flatMap (·.val))])):
  ziw rec1 rec2 rec3 s f b (L.map prV)=some (valT g f (L.map (thOf b))):=by
 have hL:L.length<=1048576:=by have:=zrD (L.map (thOf b));rw [yN] at this;omega
 have hl0:L.length≠0:=fun e=>hne (qE e)
 unfold ziw valT;by_cases kh:f.Kind=17
 ·rw [itF (by simp [kh]),sb,itT (by simp [kh]),h2 kh,sb,xy kh]
 ·have hp:(if ((!f.Repeated)&&(f.Kind !=17))=true then (cut (L.map prV) (i64.wrap (((L.map prV).length:Int) - 1)) ((L.map prV).length:Int)>>=fun v2=>some v2) else some (L.map prV))=some ((zpK f L).map prV):=by
   unfold zpK;cases hr:f.Repeated
   ·rw [itT (by simp [kh]),xx (by simp)];have hc:cut (L.map prV) (i64.wrap (((L.map prV).length:Int) - 1)) ((L.map prV).length:Int)=some ((L.drop (L.length - 1)).map prV):=by
     rw [zhn (a:=L.length - 1) (b:=L.length) (by rw [yN,uR];omega) (by simp) (by omega) (by simp)];rw [List.map_drop,yG (by simp)]
    rw [hc,sb]
   ·rw [uN,xy rfl]
  rw [hp,sb,itF (by simp [kh]),xx kh];have hpw:=zHa f (L.map (thOf b));rw [<-zuZ] at hpw;have hpl:=zIc f L;have hpa:At14 b (zpK f L):=fun v hv=>hat v (zId v hv)
  by_cases hx:f.Kind=15\/f.Kind=16
  ·have hk:(if (f.Kind==15)=true then some (f.Kind==15) else some (f.Kind==16))=some true:=by
    rcases hx with h| h
    ·rw [itT (by simp [h])];simp [h]
    ·rw [itF (by simp [h])];simp [h]
   rw [hk,sb,itT rfl,zKH (by omega) hpa,sb,xy hx,<-zuZ,qy];rfl
  ·have hk:(if (f.Kind==15)=true then some (f.Kind==15) else some (f.Kind==16))=some false:=by
    rw [uQ];simp;omega
   have hfm:((zpK f L).flatMap fun t=>(zbC f.Kind (valB b t.R)).1)=((zpK f L).map (thOf b)).flatMap fun t=>(zbC f.Kind t.val).1:=by rw [List.flatMap_map];rfl
   have hwl:=zze f.Kind ((zpK f L).map (thOf b));rw [hk,sb,itF rfl,zIy hb (by omega) hpa (by rw [hfm];omega),sb,xx hx,<-zuZ,hfm]
theorem zty {s:List Mes} {e:Nat} {k:Int}:∀(l:List (List UInt8)),(∀v∈l,zaq s e k v=none)->zaq s e k l.flatten=none
 | [],_=>by rw [List.flatten_nil];exact zqG s e k
 | v::l,h=>by
  rw [qa];exact (zlF s e k l.flatten (h v xz)).2 (zty l fun u hu=>h u (xA _ hu))
theorem zAW (p:Th->Bool):∀(T:List Th),wt (T.filter p)<=wt T
 | []=>by simp
 | t::T=>by
  have:=zAW p T;rw [yK];split
  ·rw [wt,wt];omega
  ·rw [wt];omega
theorem zoc (hks:ks.length<=1048576)
  (hrow:∀n∈ks,∃(x:PVw) (f:Fld),idx ((mget q.1 n).getD []) 0=some x/\idx m.Fields x.Field=some f/\rec3 s f b ((mget q.1 n).getD [])=some (V n)/\(V n).Words.length<=1048576/\(V n).Texts.length<=1048576/\(V n).Subs.length<=1048577):
  ∀(c i:Nat) (out:List Vlu),i+c=ks.length->out.length<=i->zgk b q rec3 s ks m i out=some (out++((ks.drop i).map V).filter fun v=>decide (0<zcs v))
 | 0,i,out,hi,_=>by
  have e:ks.drop i=[]:=yq (by omega);rw [e];refine zsq ?_;unfold zcK;rw [uQ];simp
 | c+1,i,out,hi,ho=>by
  have hil:i<ks.length:=by omega
  obtain ⟨x,f,h1,h2,h3,h4,h5,h6⟩:=hrow _ (xF hil);rw [yk hil,xL,yK];have hx:idx ks (i:Int)=some ks[i]:=zR rfl hil;have hw:i64.wrap ((i:Int)+1)=((i+1:Nat):Int):=by rw [uR];push_cast;rfl
  by_cases hp:0<zcs (V ks[i])
  ·rw [xy (by simpa using hp)];refine (zlA (v6':=((i+1:Nat):Int)) (f3':=out++[V ks[i]]) ?_).trans ?_
   ·unfold zcK;rw [uP,hx,sb,h1,sb,h2,sb,h3,sb,zvm ⟨by omega,by omega,by omega⟩,sb,itT (by simpa using hp),zcg (by simp only [yH];omega),sb,hw]
   ·rw [zoc hks hrow c (i+1) _ (by omega) (by simp;omega),yu];rfl
  ·rw [xx (by simpa using hp)];refine (zlA (v6':=((i+1:Nat):Int)) (f3':=out) ?_).trans (zoc hks hrow c (i+1) out (by omega) (by omega));unfold zcK;rw [uP,hx,sb,h1,sb,h2,sb,h3,sb,zvm ⟨by omega,by omega,by omega⟩,sb,itF (by simpa using hp),hw]
theorem zKQ (g:Int->List UInt8->Msg) (f:Fld) (h:wt T<=1048576):(valT g f T).Words.length<=1048576/\(valT g f T).Texts.length<=1048576/\(valT g f T).Subs.length<=1048577:=by
 have h1:=zHa f T;have h2:=zrD (zgJ f T);have h3:=zze f.Kind (zgJ f T);have h4:=zrD T;unfold valT;split
 ·refine ⟨by simp,by simp,?_⟩;simp only;split
  ·rw [yN];omega
  ·simp
 ·split
  ·refine ⟨by simp,?_,by simp⟩;simp only [yN];omega
  ·exact ⟨by simp only;omega,by simp,by simp⟩
theorem zyO {s:List Mes} (hs:zfE s) {d n k:Nat} {b:List UInt8} (hk:k<s.length) (hb:b.length<=1048576) (hfi:zaq s d k b=none)
  (hrec:∀e,d=e+1->∀(k':Nat) (v:List UInt8),k'<s.length->v.length<=1048576->zaq s e k' v=none->zfs n s k' v=some (ofM s k' v)):zfs (n+3) s k b=some (ofM s k b):=by
 have hm:idx s (k:Int)=some (zK s k):=by rw [zR rfl hk,zdW hk]
 have hmm:zK s (k:Int)∈s:=by rw [zdW hk];exact xF hk
 have hfew:=hs.few _ hmm;have hfld:=hs.fld _ hmm;have kl:=zMW hfi;have hwt:=zth (zK s k) b;have hris:=zug hs hmm;have hat9:=fun {i:Int} (h0:0<=i) (h1:i<(zK s (k:Int)).Fields.length)=>zwy hs hmm h0 h1
 rw [zBS]
 -- views
 have hvk:∀v∈(zeK (zK s (k:Int)) b).1,v.Field= -1\/0<=v.Field/\v.Field<(zK s (k:Int)).Fields.length/\fldI (zK s (k:Int)) v.R.Number=v.Field/\(zE (zK s (k:Int)) v.Field).Number=v.R.Number:=by
  intro v hv;have h:=(zMm hv).2;rcases zhj (zK s (k:Int)) v.R.Number v.R.Wire with h1| ⟨h1,_⟩| ⟨i,run,h1,h2,h3⟩
  ·rw [h] at h1;cases h1
  ·rw [h] at h1;simp only [Sum.inr.injEq,yI] at h1;exact .inl h1.1
  ·rw [h] at h1;simp only [Sum.inr.injEq,yI] at h1;refine .inr ⟨by omega,by omega,by rw [h2,h1.1],?_⟩;rcases zhq (zK s (k:Int)) v.R.Number with ⟨g1,_⟩| ⟨j,hj,g1,g2,_⟩
   ·omega
   ·rw [h1.1,<-h2,g1,zcX hj,g2]
 have hat:At14 b (zeK (zK s (k:Int)) b).1:=fun t ht=>zxa ht
 have hL:(zeK (zK s (k:Int)) b).1.length<=1048576:=yC (zMl _ _) hb;have hths:ths (zK s (k:Int)) b=(zeK (zK s (k:Int)) b).1.map (thOf b):=rfl;have hall:=zMq (m:=zK s (k:Int)) (by omega) hb;rw [hths] at kl hwt|-
 generalize zK s (k:Int)=m at hm hmm hfew hfld kl hwt hris hat9 hvk hat hL hall|-
 show zii (zfs (n+2)) (zsd (n+2)) (zkB (n+2)) s k b=_;unfold zii;rw [hm,sb,hall,sb]
 generalize (zeK m b).2.1=c1
 generalize (zeK m b).2.2=c2
 generalize (zeK m b).1=L at kl hwt hvk hat hL|-
 have hl1:=zBz hL hat (fun v hv=>(hvk v hv).imp id fun h=>h.1) (c1,c2) L [] rfl;have hl1':zgj b (L.map prV,c1,c2) [] 0 []=_:=hl1;obtain ⟨ks,hks,hkp,hkm⟩:=zDn (L:=L) (fun v hv hf=>by
  obtain ⟨h0,h1,_,h3⟩:=(hvk v hv).resolve_left hf;obtain ⟨i,hi⟩:∃i:Nat,v.Field=i:=⟨v.Field.toNat,by omega⟩;have hil:i<m.Fields.length:=by omega
  rw [hi,zcX hil] at h3;have hfo:=hfld _ (xF hil);have:=hfo.lo;have:=hfo.hi;exact zJm (by omega)) hL
 rw [hl1',sb,hks,sb];have hrowis:∀n,(mget (L.foldl kn14 []) n).getD []=(zgN L n).map prV:=fun n=>by rw [zFg n L []];rfl
 let vo:Int->Vlu:=fun i=>valO (ofM s) (zE m i) (accF (ofM s) (zE m i) i acc0 (L.map (thOf b)))
 -- a field's views
 have hby:∀{i:Int},0<=i->i<m.Fields.length->(zgN L (zE m i).Number).map (thOf b)=(L.map (thOf b)).filter fun t=>t.fi==i:=fun {i} h0 h1=>by
  unfold zgN;rw [List.filter_map];congr 1;refine List.filter_congr fun v hv=>?_
  show decide (v.Field≠ -1/\v.R.Number=(zE m i).Number)=(v.Field==i);rw [yM,decide_eq_true_iff,pr];constructor
  ·rintro ⟨g1,g2⟩;obtain ⟨_,_,g3,_⟩:=(hvk v hv).resolve_left g1;rw [<-g3,g2,hat9 h0 h1]
  ·intro g;have g1:v.Field≠ -1:=by omega
   obtain ⟨_,_,_,g4⟩:=(hvk v hv).resolve_left g1;exact ⟨g1,by rw [<-g4,g]⟩
 have hvoT:∀{i:Int},0<=i->i<m.Fields.length->zgN L (zE m i).Number≠[]->vo i=valT (ofM s) (zE m i) ((zgN L (zE m i).Number).map (thOf b))/\∀t∈(zgN L (zE m i).Number).map (thOf b),OkF (zE m i) t/\OkT s d m t/\t.fi=i:=fun {i} h0 h1 hne=>by
  have hT:=hby h0 h1;have hmem:∀t∈(zgN L (zE m i).Number).map (thOf b),OkF (zE m i) t/\OkT s d m t/\t.fi=i:=fun t ht=>by
   rw [hT,yg] at ht;have hfi':t.fi=i:=by simpa using ht.2
   have ho:=kl t ht.1;refine ⟨⟨fun hr=>?_,fun hr=>?_⟩,ho,hfi'⟩
   ·have:=ho.run (by omega) hr;rw [hfi'] at this;exact ⟨this.1,this.2.1⟩
   ·have:=ho.one (by omega) hr;rw [hfi'] at this;exact ⟨this.1,this.2.1⟩
  refine ⟨?_,hmem⟩;obtain ⟨j,rfl⟩:∃j:Nat,i=j:=⟨i.toNat,by omega⟩;have hjl:j<m.Fields.length:=by omega
  have hkr:zbO (zE m (j:Int)).Kind=true:=by rw [zcX hjl];exact (hfld _ (xF hjl)).kind
  show valO _ _ (accF _ _ _ _ _)=_;rw [zoZ,<-hT,zOd _ hkr (by simpa using hne) fun t ht=>(hmem t ht).1]
 have hkn:∀n∈ks,∃i:Int,0<=i/\i<m.Fields.length/\(zE m i).Number=n/\fldI m n=i/\zgN L n≠[]/\∀v∈zgN L n,v.Field=i:=fun n hn=>by
  obtain ⟨v,hv,hf,hnn⟩:=(hkm n).1 hn;obtain ⟨g0,g1,g2,g3⟩:=(hvk v hv).resolve_left hf;refine ⟨v.Field,g0,g1,by rw [g3,hnn],by rw [<-hnn,g2],fun e=>?_,fun u hu=>?_⟩
  ·have:v∈zgN L n:=yg.2 ⟨hv,by simp [hf,hnn]⟩;rw [e] at this;cases this
  ·obtain ⟨hu1,hu2⟩:=yg.1 hu;obtain ⟨hu3,hu4⟩:=yO hu2;obtain ⟨_,_,q2,_⟩:=(hvk u hu1).resolve_left hu3;rw [<-q2,hu4,<-hnn,g2]
 have hkl:ks.length<=1048576:=by
  have ke:ks.length=(L.foldl kn14 []).length:=by
   unfold ztE at hks;split at hks
   ·cases hks;simp
   ·cases hks
  have:=zFh L [];rw [yR] at this;omega
 have hl2:=zoc (rec3:=zkB (n+2)) (s:=s) (m:=m) (b:=b) (q:=(L.foldl kn14 [],unkO (L.map (thOf b)))) (V:=fun w=>vo (fldI m w)) hkl (fun w hn=>by
  obtain ⟨i,h0,h1,h2,h3,h4,h5⟩:=hkn w hn;have hwf:=zAW (fun t=>t.fi==i) (L.map (thOf b));rw [<-hby h0 h1,h2] at hwf;have hw':wt ((zgN L w).map (thOf b))<=1048576:=by omega
  obtain ⟨v0,r0,hv0⟩:=uD h4;obtain ⟨j,hj⟩:∃j:Nat,i=j:=⟨i.toNat,by omega⟩;have hjl:j<m.Fields.length:=by omega
  have hfj:idx m.Fields i=some (zE m i):=by rw [hj,zR rfl hjl,zcX hjl]
  have hfm:zE m i∈m.Fields:=by rw [hj,zcX hjl];exact xF hjl
  have hv0m:v0∈zgN L w:=by rw [hv0];exact xz
  have hv0f:v0.Field=i:=h5 v0 hv0m;have hvT:=hvoT h0 h1 (by rw [h2];exact h4);rw [h2] at hvT;have hbat:At14 b (zgN L w):=fun v hv=>hat v (yg.1 hv).1
  have ke:=zKQ (ofM s) (zE m i) hw';rw [<-hvT.1] at ke;refine ⟨prV v0,zE m i,?_,?_,?_,by rw [h3];exact ke⟩
  ·rw [hrowis,hv0];rfl
  ·have:(prV v0).Field=v0.Field:=rfl;rw [this,hv0f];exact hfj
  ·rw [hrowis,h3,hvT.1];show ziw (zfs (n+1)) (zsd (n+1)) (zkB (n+1)) s (zE m i) b _=_;refine zIx hb hbat h4 hw' fun kh=>?_
   show zjm (zfs n) (zsd n) (zkB n) s (zE m i) b _=_;have hof:=(hfld _ hfm).sub kh;obtain ⟨k',hk'⟩:∃k':Nat,(zE m i).Of=k':=⟨(zE m i).Of.toNat,by omega⟩;have hone:∀t∈zgN L w,∃e,d=e+1/\zaq s e (zE m i).Of (valB b t.R)=none:=fun t ht=>by
    obtain ⟨o1,o2,o3⟩:=hvT.2 _ (qv (f:=thOf b) ht);have hr:(thOf b t).run=false:=by
     cases hr:(thOf b t).run
     ·rfl
     ·have:=(o1.1 hr).1;rw [kh] at this;cases this
    have:=(o2.one (by omega) hr).2.2.2;rw [o3] at this;exact this kh
   refine zKN hbat h4 hw' (fun hr t ht=>?_) (fun hr=>?_)
   ·obtain ⟨e,he,hfe⟩:=hone t ht;have hvl:=zvA (qv (f:=thOf b) ht);have hvl':(valB b t.R).length+1<=wt ((zgN L w).map (thOf b)):=hvl;rw [hk'] at hfe|-;exact hrec e he k' _ (by omega) (by omega) hfe
   ·obtain ⟨e,he,_⟩:=hone v0 hv0m;have hfl:=zuP ((zgN L w).map (thOf b));have hff:zaq s e (zE m i).Of (((zgN L w).map (thOf b)).flatMap (·.val))=none:=by
     rw [pX];refine zty _ fun v hv=>?_
     obtain ⟨t',ht',rfl⟩:=xH.1 hv;obtain ⟨t,ht,rfl⟩:=xH.1 ht';obtain ⟨e',he',hfe⟩:=hone t ht;have:e'=e:=by omega
     rw [<-this];exact hfe
    rw [hk'] at hff|-;exact hrec e he k' _ (by omega) (by omega) hff) ks.length 0 [] (xQ _) (xC _)
 have hl2':zgk b (L.foldl kn14 [],unkO (L.map (thOf b))) (zkB (n+2)) s ks m 0 []=_:=hl2;rw [hl2',sb,xN,yb];have hfin:((ks.map fun w=>vo (fldI m w)).filter fun v=>decide (0<zcs v))=zoQ (ofM s) m (L.map (thOf b)) (zcL (zbD m) m.Fields.length):=by
  show _=(((zcL (zbD m) m.Fields.length).map vo).filter fun v=>decide (0<zcs v));rw [zxw vo (fun v=>decide (0<zcs v)) (fun i=> !(zgN L (zE m i).Number).isEmpty) _ fun i hi hme=>?_]
  ·have hsub:∀i∈(zcL (zbD m) m.Fields.length).filter (fun i=> !(zgN L (zE m i).Number).isEmpty),0<=i/\i<m.Fields.length:=fun i hi=>zfC.1 (yg.1 hi).1
   have hks2:((zcL (zbD m) m.Fields.length).filter (fun i=> !(zgN L (zE m i).Number).isEmpty)).map (zbD m)=ks:=by
    refine zvW _ _ ?_ hkp fun w=>?_
    ·rw [List.pairwise_map];exact hris.filter _
    ·rw [xH];constructor
     ·rintro ⟨i,hi,rfl⟩;obtain ⟨hi1,hi2⟩:=yg.1 hi;have hne:zgN L (zE m i).Number≠[]:=by
       intro e;rw [e] at hi2;simp at hi2
      obtain ⟨v0,r0,hv0⟩:=uD hne;have hv0m:v0∈zgN L (zE m i).Number:=by rw [hv0];exact xz
      obtain ⟨q1,q2⟩:=yg.1 hv0m;obtain ⟨q3,q4⟩:=yO q2;exact (hkm _).2 ⟨v0,q1,q3,q4⟩
     ·intro hw;obtain ⟨i,h0,h1,h2,h3,h4,_⟩:=hkn w hw;exact ⟨i,yg.2 ⟨zfC.2 ⟨h0,h1⟩,by rw [h2];simpa using h4⟩,h2⟩
   have e1:(ks.map fun w=>vo (fldI m w))=((zcL (zbD m) m.Fields.length).filter (fun i=> !(zgN L (zE m i).Number).isEmpty)).map vo:=by
    rw [<-hks2,qy];refine qX fun i hi=>?_
    show vo (fldI m (zbD m i))=vo i;rw [zqN,hat9 (hsub i hi).1 (hsub i hi).2]
   rw [e1]
  ·obtain ⟨h0,h1⟩:=zfC.1 hi;have hbe:zgN L (zE m i).Number=[]:=by simpa using hme
   have hT:=hby h0 h1;rw [hbe] at hT;have hvo:vo i=valO (ofM s) (zE m i) acc0:=by
    show valO _ _ (accF _ _ _ _ _)=_;rw [zoZ,<-hT];rfl
   rw [hvo];rfl
 rw [hfin];rfl
theorem zKI (hs:zfE s):∀(d fuel k:Nat) (b:List UInt8),k<s.length->b.length<=1048576->3*d+3<=fuel->zaq s d k b=none->zfs fuel s k b=some (ofM s k b):=by
 intro d
 induction d with
 | zero=>
  intro fuel k b hk hb hf hfi;obtain ⟨n,rfl⟩:∃n,fuel=n+3:=⟨fuel - 3,by omega⟩;exact zyO hs hk hb hfi fun e he=>by omega
 | succ d ih=>
  intro fuel k b hk hb hf hfi;obtain ⟨n,rfl⟩:∃n,fuel=n+3:=⟨fuel - 3,by omega⟩;exact zyO hs hk hb hfi fun e he k' v h1 h2 h3=>by
   have:e=d:=by omega
   subst this;exact ih n k' v h1 h2 (by omega) h3
theorem zOc (root:Int) (d:Int) (hf:300<=fuel) (hw:WS s) (hb:b.length<=1048576):zui fuel s root b d=some (zvn s root b d):=by
 unfold zui zvn;rw [zIC hw root hb d (by omega),sb];by_cases h0:(zfZ s root b d).2=0
 ·have h0':¬(zfZ s root b d).2≠0:=fun h=>h h0
  obtain ⟨hr,g1,g2,g3,g4⟩:=zlM (zBo h0);obtain ⟨k,rfl⟩:∃k:Nat,root=k:=⟨root.toNat,by omega⟩;have hfi:zaq s d.toNat k b=none:=(zxF.1 (by unfold is11;simpa using h0)).2;rw [itF (by simpa using h0),xx h0',zKI hr d.toNat fuel k b (by omega) hb (by omega) hfi,sb]
 ·rw [itT (by simpa using h0),xy h0]
structure zFW (l:List zen):Prop where
 sorted:l.Pairwise (fun a b=>zMR a b=true)
 full:∀w∈l,w≠[]
 anti:∀v∈l,∀w∈l,v<+:w->v=w
theorem zFW.filter (h:zFW l) (p:zen->Bool):zFW (l.filter p):=
 ⟨h.sorted.filter p,fun w hw=>h.full w (yg.1 hw).1,fun v hv w hw=>h.anti v (yg.1 hv).1 w (yg.1 hw).1⟩
structure Fo (pre acc:List zen):Prop where
 mask:zFW acc
 has:∀v,hasB acc v=hasB pre v
 mem:∀a∈acc,a∈pre
abbrev zOk:=List (zNa×Int)
structure Trie (t:zOk) (A:List zen) (P:List (zen×Int)):Prop where
 root:([],0)∈P
 same:∀p∈P,∀q∈P,(p.2=q.2↔p.1=q.1)
 ids:∀p∈P,0<=p.2/\p.2<=t.length
 keys:∀(i n:Int),(t.length:Int)<i->mget t ⟨i,n⟩=none
 leaf:∀p∈P,∀n,p.1++[n]∈A->mget t ⟨p.2,n⟩=some (-1)
 node:∀p∈P,∀n,∀q∈P,q.1=p.1++[n]->mget t ⟨p.2,n⟩=some q.2
 none:∀p∈P,∀n,p.1++[n]∉A->(∀q∈P,q.1≠p.1++[n])->mget t ⟨p.2,n⟩=none
 clo:∀q∈P,∀p n,q.1=p++[n]->∃i,(p,i)∈P
 comp:∀a∈A,∀p,p<+:a->p≠a->∃i,(p,i)∈P
 anti:∀v∈A,∀w∈A,v<+:w->v=w
 full:∀a∈A,a≠[]
section
end
def UW (w:List zen):Prop:=w.length<=4194304/\∀x∈w,x.length<=4194304
theorem UW.filter (h:UW w) (p:zen->Bool):UW (w.filter p):=⟨yC (pq _ _) h.1,fun x hx=>h.2 x (yg.1 hx).1⟩
theorem zHH (h:0<=fldI m n):fldI m n<m.Fields.length/\(zE m (fldI m n)).Number=n:=by
 rcases zhq m n with ⟨e,_⟩| ⟨i,hi,e,hn,_⟩
 ·omega
 ·rw [e];refine ⟨by omega,?_⟩;unfold zE;rw [xJ,qN,xP hi];exact hn
structure Ok15 (fuel:Nat) (x:Msg):Prop where
 b:bdM x
 s:smM x
 z:2*szM x<fuel
 d:szM x<=131072
theorem Ok15.dm (h:Ok15 fuel x):dM x<=131072:=by have:=zGf x;have:=h.d;omega
theorem Ok15.right {fuel:Nat} {x:Msg} (h:Ok15 fuel x) {s:List Mes} (hw:WS s) (root:Int):zkz fuel s root x=some (zhT s&&zaP s x root):=zyS root h.z hw h.b h.s h.dm
def jv15 (s:List Mes) (a:Msg) (k:Int) (v:Vlu):Vlu:=zjE s v (look a.Values v.Number) (zE (zK s k) (fldI (zK s k) v.Number))
structure Jm (s:List Mes) (a:Msg) (k:Int) (t:List Vlu) (q:List (Int×Vlu)):Prop where
 nd:(q.map Prod.fst).Nodup
 get:∀n,mget q n=match look t n with
  | some v=>some (jv15 s a k v)
  | none=>look a.Values n
 len:q.length<=a.Values.length+t.length
theorem Jm.put (h:Jm s a k t q) (hn:look t v.Number=none):Jm s a k (t++[v]) (mput q v.Number (jv15 s a k v)):=by
 refine ⟨zpr h.nd _ _,fun n=>?_,?_⟩
 ·rw [zje,zqR];by_cases e:n=v.Number
  ·subst e;rw [xy rfl,hn];simp only;rw [zhb,xy rfl]
  ·rw [xx e,h.get];cases hl:look t n with
   | some u=>rfl
   | none=>
    simp only;rw [zhb,xx (fun e'=>e e'.symm)];rfl
 ·have:=zDA q v.Number (jv15 s a k v);have:=h.len;rw [xE,yH];omega
mutual
def encM (s:List Mes):Msg->Int->List UInt8
 | ⟨vs,u⟩,k=>zms s vs (zK s k)++u.flatten
def zms (s:List Mes):List Vlu->Mes->List UInt8
 | [],_=>[]
 | v::l,m=>encV s v (zE m (fldI m v.Number))++zms s l m
def encV (s:List Mes):Vlu->Fld->List UInt8
 | ⟨n,w,t,sub⟩,f=>if kNum f.Kind=true then (if f.Repeated=true then put5 f.Number 2 (w.flatMap (sPut f.Kind)) else put5 f.Number (zaM f.Kind) (sPut f.Kind (w.headD 0))) else t.flatMap (put5 f.Number 2)++zlw s sub f
def zlw (s:List Mes):List Msg->Fld->List UInt8
 | [],_=>[]
 | x::l,f=>put5 f.Number 2 (encM s x f.Of)++zlw s l f
end
theorem zwv (s:List Mes) (x:Msg) (k:Int):encM s x k=zms s x.Values (zK s k)++x.Unknown.flatten:=by cases x;rw [encM]
theorem zww (s:List Mes) (v:Vlu) (f:Fld):encV s v f=if kNum f.Kind=true then (if f.Repeated=true then put5 f.Number 2 (v.Words.flatMap (sPut f.Kind)) else put5 f.Number (zaM f.Kind) (sPut f.Kind (v.Words.headD 0))) else v.Texts.flatMap (put5 f.Number 2)++zlw s v.Subs f:=by cases v;rw [encV]
theorem zwO {n w:Int} (h1:1<=n) (h2:n<=536870911) (hw:0<=w/\w<=7) {v:List UInt8} (hv:v.length<=1048576):(put5 n w v).length<=15+v.length:=by
 have e:tW n w<34359738368:=by unfold tW;omega
 have h3:=ztv (tW n w);have h4:=zLC e;have h5:=zlp (v:=v.length) (by omega);rw [zoA];split<;>omega
theorem zJw (k:Int):0<=zaM k/\zaM k<=7:=by unfold zaM;split;omega;split;omega;split<;>omega
theorem zvL {k:Int} (hk:zbO k=true) {n:Int} (h1:1<=n) (h2:n<=536870911):zcU n (zaM k)=true:=by
 rw [zfe];refine ⟨h1,h2,?_⟩;unfold zaM;split
 ·exact .inr (.inr (.inl rfl))
 ·split
  ·exact .inr (.inl rfl)
  ·split
   ·exact .inr (.inr (.inr rfl))
   ·exact .inl rfl
theorem ztA {k:Int}:∀{l:List Int},(∀w∈l,0<=w/\w<=18446744073709551615)->(l.flatMap (sPut k)).length<=10*l.length
 | [],_=>by simp
 | w::l,h=>by
  have h1:=zmK (k:=k) (h w xz);have h2:=ztA (k:=k) fun x hx=>h x (xA _ hx)
  rw [xU,xE,xR];omega
theorem zxA {n:Int} (h1:1<=n) (h2:n<=536870911):∀{l:List Str},(∀t∈l,t.length<=1048576)->(l.flatMap (put5 n 2)).length<=15*(l.map fun t=>1+t.length).sum
 | [],_=>by simp
 | t::l,h=>by
  have h3:=zwO h1 h2 (w:=2) (by omega) (h t xz);have h4:=zxA h1 h2 fun x hx=>h x (xA _ hx)
  rw [xU,xE,xL,yE];omega
theorem zvI:∀(l:List Str),l.flatten.length<=(l.map fun t=>1+t.length).sum
 | []=>by simp
 | t::l=>by
  have:=zvI l;rw [qa,xE,xL,yE];omega
theorem zEY {l:List Int} (h:∀x∈l,0<=x/\x<=18446744073709551615):0<=l.headD 0/\l.headD 0<=18446744073709551615:=by
 cases l with
 | nil=>simp
 | cons x l=>exact h x xz
theorem zkj {s:List Mes} (hs:zfE s):∀(N:Nat),(∀(x:Msg) (k:Int),szM x<=N->bdM x->wgM x<=30000->zaP s x k=true->(encM s x k).length+16<=32*wgM x)/\
  ∀(v:Vlu) (f:Fld),szV v<=N->bdV v->wgV v<=30000->1<=f.Number->f.Number<=536870911->zjB s v f=true->(encV s v f).length<=32*wgV v
 | 0=>⟨fun x k h=>by rw [zdO] at h;omega,fun v f h=>by rw [zgK] at h;omega⟩
 | N+1=>by
  obtain ⟨ih1,ih2⟩:=zkj hs N;refine ⟨fun x k ko hb hw hr=>?_,fun v f ko hb hw n1 n2 hf=>?_⟩
  ·obtain ⟨_,_,b4⟩:=(zke x).1 hb;rw [zdO] at ko;rw [zjR] at hw|-;obtain ⟨k0,k1,_,hv,_⟩:=zdI hr;rw [zwv];have hmm:zK s k∈s:=by
    obtain ⟨n,rfl⟩:∃n:Nat,k=n:=⟨k.toNat,by omega⟩;rw [zdW (by omega)];exact xF _
   generalize zK s k=m at hv hmm|-
   have hall:∀l:List Vlu,(∀v∈l,v∈x.Values)->(zms s l m).length<=32*wgVs l:=by
    intro l
    induction l with
    | nil=>intro _;simp [zms,wgVs]
    | cons v l ih=>
     intro hl;have hvm:=hl v xz;have i1:=ih fun w hw=>hl w (xA _ hw)
     have s1:=zfX hvm;have w1:=zrA hvm;obtain ⟨f0,hfit⟩:=hv v hvm;rcases zhq m v.Number with ⟨hf,_⟩| ⟨j,hj,hf,_⟩
     ·omega
     have hfm:zE m (fldI m v.Number)∈m.Fields:=by rw [hf,zcX hj];exact xF hj
     have hfo:=hs.fld _ hmm _ hfm;have:=ih2 v (zE m (fldI m v.Number)) (by omega) (zfG.1 b4 v hvm) (by omega) hfo.lo hfo.hi hfit;rw [zms,wgVs,xE];omega
   have h1:=hall x.Values fun v hv=>hv
   have h2:=zvI x.Unknown;rw [xE];omega
  ·obtain ⟨_,⟨_,bw⟩,_,_,b5⟩:=(ziR v).1 hb;rw [zgK] at ko;rw [ziX] at hw|-;have hfs:=zgg hf;rw [zww];by_cases hn:kNum f.Kind=true
   ·rw [xy hn];split
    ·have h1:=ztA (k:=f.Kind) bw;have h2:=zwO n1 n2 (w:=2) (by omega) (v:=v.Words.flatMap (sPut f.Kind)) (by omega);omega
    ·have h1:=zmK (k:=f.Kind) (zEY bw);have h2:=zwO n1 n2 (zJw f.Kind) (v:=sPut f.Kind (v.Words.headD 0)) (by omega);omega
   ·rw [xx hn,xE];have hts:∀t∈v.Texts,t.length<=1048576:=fun t ht=>by have:=zpD ht;omega
    have h1:=zxA n1 n2 hts;have hall:∀l:List Msg,(∀x∈l,x∈v.Subs)->(zlw s l f).length<=32*wgMs l:=by
     intro l
     induction l with
     | nil=>intro _;simp [zlw,wgMs]
     | cons x l ih=>
      intro hl;have hxm:=hl x xz;have i1:=ih fun w hw=>hl w (xA _ hw)
      have s1:=zfW hxm;have w1:=zln hxm;have h3:=ih1 x f.Of (by omega) (zfF.1 b5 x hxm) (by omega) (hfs.subs x hxm).2;have h4:=zwO n1 n2 (w:=2) (by omega) (v:=encM s x f.Of) (by omega);rw [zlw,wgMs,xE];omega
    have h2:=hall v.Subs fun x hx=>hx
    omega
theorem zqs {α:Type} (l:List α) (g:α->List UInt8) (F:List UInt8->Int->Option (List UInt8)) (h0:∀out,F out (l.length:Int)=some out)
  (hs:∀(i:Nat) (h:i<l.length) (out:List UInt8),out.length+(g l[i]).length<=140737488355328->F out (i:Int)=F (out++g l[i]) ((i+1:Nat):Int)):∀(c i:Nat) (out:List UInt8),i+c=l.length->out.length+((l.drop i).flatMap g).length<=140737488355328->
  F out (i:Int)=some (out++(l.drop i).flatMap g)
 | 0,i,out,h,_=>by
  have e:l.drop i=[]:=yq (by omega);have hi:i=l.length:=by omega
  rw [e,hi,h0];simp
 | c+1,i,out,h,hb=>by
  have hil:i<l.length:=by omega
  have hd:l.drop i=l[i]::l.drop (i+1):=yk hil;rw [hd,xU] at hb|-;rw [xE] at hb;rw [hs i hil out (by omega),zqs l g F h0 hs c (i+1) _ (by omega) (by rw [xE];omega),yu]
theorem zmt (s:List Mes) (m:Mes):∀(l:List Vlu),zms s l m=l.flatMap fun v=>encV s v (zE m (fldI m v.Number))
 | []=>by rw [zms];rfl
 | v::l=>by rw [zms,zmt s m l,xU]
theorem zpm (s:List Mes) (f:Fld):∀(l:List Msg),zlw s l f=l.flatMap fun x=>put5 f.Number 2 (encM s x f.Of)
 | []=>by rw [zlw];rfl
 | v::l=>by rw [zlw,zpm s f l,xU]
theorem zCQ {s:List Mes} (hs:zfE s):∀(fuel:Nat),(∀(x:Msg) (k:Int),szM x+12<=fuel->bdM x->wgM x<=30000->zaP s x k=true->zbZ fuel s k x=some (encM s x k))/\
  ∀(v:Vlu) (f:Fld),szV v+12<=fuel->bdV v->wgV v<=30000->1<=f.Number->f.Number<=536870911->zjB s v f=true->zex fuel s f v=some (encV s v f)
 | 0=>⟨fun x k h=>by omega,fun v f h=>by omega⟩
 | fuel+1=>by
  obtain ⟨ih1,ih2⟩:=zCQ hs fuel;refine ⟨fun x k ko hb hw hr=>?_,fun v f ko hb hw n1 n2 hf=>?_⟩
  ·have ke:=(zkj hs (szM x)).1 x k (xC _) hb hw hr;obtain ⟨b1,⟨b2,_⟩,b4⟩:=(zke x).1 hb;rw [zdO] at ko;rw [zjR] at hw ke;obtain ⟨k0,k1,_,hv,_⟩:=zdI hr;rw [zwv] at ke|-;obtain ⟨n,rfl⟩:∃n:Nat,k=n:=⟨k.toNat,by omega⟩;have hn:n<s.length:=by omega
   have hm:idx s (n:Int)=some (zK s n):=by rw [zR rfl hn,zdW hn]
   have hmm:zK s (n:Int)∈s:=by rw [zdW hn];exact xF hn
   have hfew:=hs.few _ hmm
   generalize zK s (n:Int)=m at hv hm hmm hfew ke|-
   rw [xE] at ke;show zeo (zbZ fuel) (zex fuel) s n x=_;unfold zeo;have h1:=zqs x.Values (fun v=>encV s v (zE m (fldI m v.Number))) (fun out i=>zcQ (zex fuel) n s x out i) (fun out=>by
     refine zmn ?_;unfold zbf;rw [uO])
    (fun i hi out ho=>by
     refine zmm ?_;unfold zbf;have hvm:=xF hi;have hxi:idx x.Values (i:Int)=some x.Values[i]:=zR rfl hi;have s1:=zfX hvm;have w1:=zrA hvm
     generalize x.Values[i]=v at hvm hxi ho s1 w1|-
     obtain ⟨f0,hfit⟩:=hv v hvm;rcases zhq m v.Number with ⟨hf,_⟩| ⟨j,hj,hf,_⟩
     ·omega
     have hfj:idx m.Fields (fldI m v.Number)=some (zE m (fldI m v.Number)):=by rw [hf,zR rfl hj,zcX hj]
     have hfm:zE m (fldI m v.Number)∈m.Fields:=by rw [hf,zcX hj];exact xF hj
     have hfo:=hs.fld _ hmm _ hfm;have hval:=ih2 v (zE m (fldI m v.Number)) (by omega) (zfG.1 b4 v hvm) (by omega) hfo.lo hfo.hi hfit;rw [uP,hm,sb,sb,hxi,sb,zvS (by omega),sb,hfj,sb,sb,hval,sb,zcg (by omega),sb,uR];push_cast;rfl) x.Values.length 0 [] (xQ _) (by rw [xN,<-zmt];simp only [yR];omega)
   have h1':zcQ (zex fuel) n s x [] 0=_:=h1;rw [xN,<-zmt,yb] at h1';have h2:=zqs x.Unknown (fun t=>t) (fun out i=>zcR x out i) (fun out=>by
     refine zmp ?_;unfold zbg;rw [uO])
    (fun i hi out ho=>by
     refine zmo ?_;unfold zbg;rw [uP,zR rfl hi,sb,zcg (by omega),sb,uR];push_cast;rfl) x.Unknown.length 0 (zms s x.Values m) (xQ _) (by rw [xN,List.flatMap_id'];omega)
   have h2':zcR x (zms s x.Values m) 0=_:=h2;rw [xN,List.flatMap_id'] at h2';rw [h1',sb,h2',sb]
  ·have ke:=(zkj hs (szV v)).2 v f (xC _) hb hw n1 n2 hf;obtain ⟨_,⟨bl,bw⟩,_,_,b5⟩:=(ziR v).1 hb;rw [zgK] at ko;rw [ziX] at hw ke;have hfs:=zgg hf;rw [zww] at ke|-;have hfu:10<=fuel:=by omega
   show zeN fuel (zbZ fuel) (zex fuel) s f v=_;unfold zeN;rw [zkr,sb,sb];have t2:zcU f.Number 2=true:=zfe.2 ⟨n1,n2,.inr (.inr (.inl rfl))⟩;by_cases hn:kNum f.Kind=true
   ·rw [xy hn] at ke;have hgoal:(if kNum f.Kind=true then (if f.Repeated=true then put5 f.Number 2 (v.Words.flatMap (sPut f.Kind)) else put5 f.Number (zaM f.Kind) (sPut f.Kind (v.Words.headD 0))) else v.Texts.flatMap (put5 f.Number 2)++zlw s v.Subs f)=(if f.Repeated=true then put5 f.Number 2 (v.Words.flatMap (sPut f.Kind)) else put5 f.Number (zaM f.Kind) (sPut f.Kind (v.Words.headD 0))):=xy hn;rw [hgoal];by_cases hrep:f.Repeated=true
    ·rw [itT (by rw [hn,hrep];rfl),xy hrep];have h1:=ztA (k:=f.Kind) bw;rw [zFE hfu bw (by omega),sb,znx hfu t2 (by omega),sb]
    ·rw [itF (by rw [hn];simpa using hrep),itT hn,xx hrep,zrf,sb];have hone:=hfs.one (by simpa using hrep);have hnt:=hfs.noTexts (by have:=znv hn;omega);have hns:=hfs.noSubs (znv hn).1;unfold zcs at hone;rw [hnt,hns] at hone;simp only [yR,yF] at hone;obtain ⟨w,hwd⟩:∃w,v.Words=[w]:=uG.1 hone;rw [hwd] at bw|-;have hr:=bw w xz;have h1:=zmK (k:=f.Kind) hr;have i1:idx [w] 0=some w:=rfl;rw [i1,sb,zyr hfu hr,sb,znx hfu (zvL hfs.kind n1 n2) (by omega),sb];rfl
   ·rw [xx hn] at ke;have hgoal:(if kNum f.Kind=true then (if f.Repeated=true then put5 f.Number 2 (v.Words.flatMap (sPut f.Kind)) else put5 f.Number (zaM f.Kind) (sPut f.Kind (v.Words.headD 0))) else v.Texts.flatMap (put5 f.Number 2)++zlw s v.Subs f)=v.Texts.flatMap (put5 f.Number 2)++zlw s v.Subs f:=xx hn;rw [hgoal];rw [itF (by simp [hn]),itF (by simpa using hn)];rw [xE] at ke;have hts:∀t∈v.Texts,t.length<=1048576:=fun t ht=>by have:=zpD ht;omega
    have h1:=zqs v.Texts (put5 f.Number 2) (fun out i=>zdm fuel f v out i) (fun out=>by
      refine znj ?_;unfold zbv;rw [uO])
     (fun i hi out ho=>by
      refine zni ?_;unfold zbv;have ht:=hts _ (xF hi);have e:lenO v.Texts[i]=some v.Texts[i]:=by unfold lenO;rw [xy (by omega)]
      have hl:=zwT (l:=v.Texts);rw [uP,zR rfl hi,sb,e,sb,znx hfu t2 ht,sb,zcg (by omega),sb,uR];push_cast;rfl) v.Texts.length 0 [] (xQ _) (by rw [xN];simp only [yR];omega)
    have h1':zdm fuel f v [] 0=_:=h1;rw [xN,yb] at h1';have h2:=zqs v.Subs (fun x=>put5 f.Number 2 (encM s x f.Of)) (fun out i=>zdn fuel f (zbZ fuel) s v out i) (fun out=>by
      refine znl ?_;unfold zbw;rw [uO])
     (fun i hi out ho=>by
      refine znk ?_;unfold zbw;have hxm:=xF hi;have s1:=zfW hxm;have w1:=zln hxm;have hl:=zzb v.Subs;have hx:=hfs.subs _ hxm;have he:=ih1 v.Subs[i] f.Of (by omega) (zfF.1 b5 _ hxm) (by omega) hx.2;have hle:=(zkj hs (szM v.Subs[i])).1 v.Subs[i] f.Of (xC _) (zfF.1 b5 _ hxm) (by omega) hx.2;rw [uP,zR rfl hi,sb,he,sb,znx hfu t2 (by omega),sb,zcg (by omega),sb,uR];push_cast;rfl) v.Subs.length 0 (v.Texts.flatMap (put5 f.Number 2)) (xQ _) (by rw [xN,<-zpm];omega)
    have h2':zdn fuel f (zbZ fuel) s v (v.Texts.flatMap (put5 f.Number 2)) 0=_:=h2;rw [xN,<-zpm] at h2';rw [h1',sb,h2',sb]
theorem zyn {s:List Mes} (hs:zfE s) {fuel:Nat} {x:Msg} {k:Int} (hf:szM x+12<=fuel) (hb:bdM x) (hw:wgM x<=30000) (hr:zaP s x k=true):zbZ fuel s k x=some (encM s x k):=(zCQ hs fuel).1 x k hf hb hw hr
structure zOl (s:List Mes) (d:Nat) (k:Int) (p:List UInt8) (t:Th):Prop where
 ok:zaq s d k p=none
 th:ths (zK s k) p=[t]
theorem pieces {s:List Mes} {d:Nat} {k:Int}:∀{ps:List (List UInt8×Th)},(∀p∈ps,zOl s d k p.1 p.2)->zaq s d k (ps.flatMap (·.1))=none/\ths (zK s k) (ps.flatMap (·.1))=ps.map (·.2)
 | [],_=>by
  have h:=zqG s d k;refine ⟨h,?_⟩;rw [uf,zyN h,zgR];rfl
 | p::ps,h=>by
  obtain ⟨h1,h2⟩:=pieces fun q hq=>h q (xA _ hq)
  have hp:=h p xz;rw [xU];refine ⟨(zlF s d k _ hp.ok).2 h1,?_⟩;rw [zFN hp.ok h1,hp.th,h2];rfl
theorem zIf {f:Fld} {w:Int} (h:zlo f w=true) (hr:0<=w/\w<=18446744073709551615):kNum f.Kind=true/\ziH f.Kind (sPut f.Kind w)=w/\(zmL f.Kind (sPut f.Kind w)).1=w/\zdF (zaM f.Kind) (sPut f.Kind w)=true:=by
 unfold zlo at h;simp only [xB,pr] at h;obtain ⟨h1,h2⟩:=h;have hc:=ziJ f.Kind hr;have hfit:zdF (zaM f.Kind) (sPut f.Kind w)=true:=zrk h1 (by omega);have hs:=zFJ h1 hr;have hp:=zld h1 hfit;rw [hs] at hp;have e:ziH f.Kind (sPut f.Kind w)=zbE f.Kind w:=(congrArg Prod.fst hp).symm;exact ⟨h1,by rw [e,h2],by rw [hs,h2],hfit⟩
theorem zCU (v:List UInt8):zdF 2 v=true:=by unfold zdF;rw [xx (by omega)];simp
theorem zOg {m:Mes} {e:Option (Nat×Int)} (b:List UInt8):∀(base:Nat) (l:List UInt8),l=b.drop base->base<=b.length->(((vws m e (spl base l).1).1.map (thOf b)).map fun t=>t.raw.length).sum<=l.length:=by
 intro base l;refine zis (fun base l=>l=b.drop base->base<=b.length->(((vws m e (spl base l).1).1.map (thOf b)).map fun t=>t.raw.length).sum<=l.length) ?_ ?_ ?_ base l
 ·intro base _ _;rw [zgR];simp [vws]
 ·intro base l c hl h _ _ _;rw [zhW hl h];simp [vws]
 ·intro base l n w a t hl h _ g1 g2 g3 ih hld hbase;have ke:l.length=b.length - base:=by rw [hld];simp
  have ih':=ih (by rw [hld,yi]) (by omega);rw [zfk hl h,vws];cases hv:vw m n w with
  | inl c=>simp
  | inr p=>
   simp only [xL,yE,thOf,yd] at ih'|-;have:(rawB b ⟨n,w,(base:Int),((base+a:Nat):Int),((base+t:Nat):Int)⟩).length=t:=by unfold rawB;simp;omega
   rw [this];omega
theorem zOa (m:Mes) (b:List UInt8):((ths m b).map fun t=>t.raw.length).sum<=b.length:=by
 unfold ths zeK vwR;split
 ·exact zOg b 0 b rfl (xI _)
 ·simp
theorem zMi (m:Mes) (b:List UInt8):∀t∈ths m b,t.val.length+1<=t.raw.length:=by
 intro t ht;unfold ths at ht;obtain ⟨r,hr,rfl⟩:=xH.1 ht;obtain ⟨h1,h2,h3,h4⟩:=zxa hr;show (valB b r.R).length+1<=(rawB b r.R).length;unfold valB rawB;simp;omega
def ri (i:Int):List Th->Nat
 | []=>0
 | t::l=>(if t.fi=i then 2*t.raw.length else 0)+ri i l
def ru:List Th->Nat
 | []=>0
 | t::l=>(if t.fi<0 then 2*t.raw.length else 0)+ru l
theorem zHj (x:Int) (y:Nat):∀(o:List Int),o.Nodup->(o.map fun i=>if x=i then y else 0).sum<=y/\(x∉o->(o.map fun i=>if x=i then y else 0).sum=0)
 | [],_=>by simp
 | i::o,h=>by
  obtain ⟨h1,h2⟩:=pH.1 h;obtain ⟨i1,i2⟩:=zHj x y o h2;rw [xL,yE];by_cases hx:x=i
  ·rw [xy hx,i2 (by rw [hx];exact h1)];exact ⟨by omega,fun hh=>absurd (by rw [hx];exact xz) hh⟩
  ·rw [xx hx];exact ⟨by omega,fun hh=>by rw [i2 fun hm=>hh (xA _ hm)]⟩
theorem zHi (f g:Int->Nat):∀(o:List Int),(o.map fun i=>f i+g i).sum=(o.map f).sum+(o.map g).sum
 | []=>rfl
 | i::o=>by simp only [xL,yE,zHi f g o];omega
theorem zKi {o:List Int} (hd:o.Nodup) (h0:∀i∈o,0<=i):∀(l:List Th),(o.map fun i=>ri i l).sum+ru l<=2*(l.map fun t=>t.raw.length).sum
 | []=>by
  have:(o.map fun _=>(0:Nat)).sum=0:=by
   clear hd h0
   induction o with
   | nil=>rfl
   | cons i o ih=>rw [xL,yE,ih]
  have e:(o.map fun i=>ri i [])=o.map fun _=>(0:Nat):=qX fun i _=>rfl
  rw [e,this];simp [ru]
 | t::l=>by
  have ih:=zKi hd h0 l;have e:(o.map fun i=>ri i (t::l))=o.map fun i=>(if t.fi=i then 2*t.raw.length else 0)+ri i l:=rfl
  obtain ⟨s1,s2⟩:=zHj t.fi (2*t.raw.length) o hd;rw [e,zHi,ru,xL,yE];by_cases ht:t.fi<0
  ·rw [xy ht,s2 fun hm=>by have:=h0 _ hm;omega];omega
  ·rw [xx ht];omega
theorem zwc:∀(a b:List Msg),wgMs (a++b)=wgMs a+wgMs b
 | [],b=>by simp [wgMs]
 | x::a,b=>by rw [yv,wgMs,wgMs,zwc a b];omega
def wv (a:zfv):Nat:=a.2.2.1.length+(a.2.2.2.1.map fun t=>1+t.length).sum+wgMs a.2.2.2.2+2*a.1.length
theorem zNU {g:Int->List UInt8->Msg} {f:Fld} {t:Th} (hg:f.Kind=17->wgM (g f.Of t.val)<=2*t.val.length+1) {c:Nat} (hc:c<=1\/c=2/\f.Kind=17/\f.Repeated=false) (a:zfv):wv (stp g f a t)+c<=wv a+(2*t.val.length+2):=by
 have h1:(if f.Repeated=true then a.2.2.1 else []).length<=a.2.2.1.length:=by split<;>simp
 have h2:((if f.Repeated=true then a.2.2.2.1 else []).map fun t=>1+t.length).sum<=(a.2.2.2.1.map fun t=>1+t.length).sum:=by split<;>simp
 have h3:=zsf f.Kind t.val;have h4:kNum f.Kind=false->(zbC f.Kind t.val).1=[]:=fun h=>by unfold zbC;rw [xy h]
 unfold stp wv;by_cases c1:t.run=true
 ·rw [xy c1];simp only [xE];rcases hc with hc| ⟨hc,kh,_⟩
  ·omega
  ·rw [h4 (by rw [kh];rfl)];simp only [yR];omega
 ·rw [xx c1];by_cases c2:kNum f.Kind=true
  ·rw [xy c2];simp only [xE,yH];rcases hc with hc| ⟨hc,kh,_⟩
   ·omega
   ·exact absurd kh (znv c2).1
  ·rw [xx c2];by_cases c3:f.Kind=17/\f.Repeated=true
   ·rw [xy c3];have:=hg c3.1;rcases hc with hc| ⟨_,_,hr⟩
    ·simp only [zwc,wgMs];omega
    ·rw [hr] at c3;exact absurd c3.2 (by simp)
   ·rw [xx c3];by_cases c4:f.Kind=17
    ·rw [xy c4];simp only [xE];omega
    ·rw [xx c4];simp only [yV,List.sum_append,pv,List.sum_singleton];rcases hc with hc| ⟨_,kh,_⟩
     ·omega
     ·exact absurd kh c4
theorem zBd {g:Int->List UInt8->Msg} {f:Fld} {i:Int} {c:Nat} (hc:c<=1\/c=2/\f.Kind=17/\f.Repeated=false):∀(l:List Th) (a:zfv),(∀t∈l,t.val.length+1<=t.raw.length)->(f.Kind=17->∀t∈l,wgM (g f.Of t.val)<=2*t.val.length+1)->
  wv (accF g f i a l)+(if (accF g f i a l).2.1=true then c else 0)<=wv a+(if a.2.1=true then c else 0)+ri i l
 | [],a,_,_=>by simp only [accF,ri,yF];exact xC _
 | t::l,a,h1,h2=>by
  rw [accF,ri];have ih:=zBd (g:=g) (i:=i) hc l (if t.fi=i then stp g f a t else a) (fun x hx=>h1 x (xA _ hx)) fun h x hx=>h2 h x (xA _ hx)
  have ht:=h1 t xz;by_cases hi:t.fi=i
  ·rw [xy hi] at ih|-;rw [xy hi];have hs:=zNU (g:=g) (f:=f) (t:=t) (fun h=>h2 h t xz) hc a;rw [zCl,xy rfl] at ih;omega
  ·rw [xx hi] at ih|-;rw [xx hi];omega
theorem zMo {g:Int->List UInt8->Msg} {f:Fld} {i:Int} {l:List Th} (h1:∀t∈l,t.val.length+1<=t.raw.length) (h2:f.Kind=17->∀t∈l,wgM (g f.Of t.val)<=2*t.val.length+1)
  (hj:f.Kind=17->wgM (g f.Of (accF g f i acc0 l).1)<=2*(accF g f i acc0 l).1.length+1) (hm:0<zcs (valO g f (accF g f i acc0 l))):wgV (valO g f (accF g f i acc0 l))<=ri i l:=by
 have hmet:(accF g f i acc0 l).2.1=true:=by
  cases h:(accF g f i acc0 l).2.1 with
  | true=>rfl
  | false=>
   rw [zwZ g f i l acc0 h] at hm;unfold zcs valO acc0 at hm;simp at hm
 have w0:wv acc0=0:=rfl;have m0:acc0.2.1=false:=rfl;have k1:=zBd (g:=g) (f:=f) (i:=i) (c:=1) (.inl (xC _)) l acc0 h1 h2;rw [w0,m0,hmet] at k1;simp only [yj,ql,yo] at k1;rw [ziX];by_cases hc:f.Kind=17/\f.Repeated=false
 ·have k2:=zBd (g:=g) (f:=f) (i:=i) (c:=2) (.inr ⟨rfl,hc⟩) l acc0 h1 h2;rw [w0,m0,hmet] at k2;simp only [yj,ql,yo] at k2;have hjj:=hj hc.1
  generalize accF g f i acc0 l=q at hmet k2 hjj
  unfold valO;rw [xy ⟨hmet,hc⟩];unfold wv at k2;simp only [wgMs];omega
 ·generalize accF g f i acc0 l=q at hmet k1
  unfold valO;rw [xx (fun hh=>hc hh.2)];unfold wv at k1;simp only;omega
theorem zKl:∀(l:List Th),(∀t∈l,t.val.length+1<=t.raw.length)->((unkO l).map fun t=>1+t.length).sum<=ru l
 | [],_=>by simp [unkO,ru]
 | t::l,h=>by
  have ih:=zKl l fun x hx=>h x (xA _ hx)
  have ht:=h t xz;unfold unkO at ih|-;rw [yK,ru];by_cases hf:t.fi<0
  ·rw [xy (by simpa using hf),xy hf,xL,xL,yE];omega
  ·rw [xx (by simpa using hf),xx hf];omega
theorem zNG (s:List Mes):∀(N:Nat) (b:List UInt8) (k:Int),b.length=N->wgM (ofM s k b)<=2*b.length+1:=by
 intro N
 induction N using Nat.strongRecOn with
 | _ N IH=>
  intro b k hN;have hwt:=zth (zK s k) b;have hwr:=zOa (zK s k) b;have hraw:=zMi (zK s k) b;rw [zBS]
  generalize ths (zK s k) b=l at hwt hwr hraw
  generalize zK s k=m
  have hg:∀(f:Fld) (v:List UInt8),v.length+1<=b.length->wgM (ofM s f.Of v)<=2*v.length+1:=fun f v hv=>IH v.length (by omega) v f.Of rfl
  have hval:∀i,0<zcs (valO (ofM s) (zE m i) (accF (ofM s) (zE m i) i acc0 l))->wgV (valO (ofM s) (zE m i) (accF (ofM s) (zE m i) i acc0 l))<=ri i l:=fun i hp=>by
   refine zMo hraw (fun _ t ht=>hg _ _ (by have:=zvA ht;omega)) (fun _=>?_) hp;have hw:=(zuE (ofM s) (zE m i) i acc0 l).2;have j0:wJ acc0=0:=rfl;rw [j0] at hw;cases hm:(accF (ofM s) (zE m i) i acc0 l).2.1 with
   | true=>
    rw [wJ,xy hm] at hw;exact hg _ _ (by omega)
   | false=>
    rw [zwZ (ofM s) (zE m i) i l acc0 hm] at hp;unfold zcs valO acc0 at hp;simp at hp
  have hsum:∀o:List Int,wgVs ((o.map fun i=>valO (ofM s) (zE m i) (accF (ofM s) (zE m i) i acc0 l)).filter fun v=>decide (0<zcs v))<=(o.map fun i=>ri i l).sum:=by
   intro o
   induction o with
   | nil=>simp [wgVs]
   | cons i o ih=>
    rw [xL,yK,xL,yE];by_cases hp:0<zcs (valO (ofM s) (zE m i) (accF (ofM s) (zE m i) i acc0 l))
    ·rw [xy (by simpa using hp),wgVs];have:=hval i hp;omega
    ·rw [xx (by simpa using hp)];omega
  have h1:=hsum (zcL (zbD m) m.Fields.length);have hnd:(zcL (zbD m) m.Fields.length).Nodup:=(zpC (zbD m) m.Fields.length).imp fun {a b} h e=>by
   rw [e] at h;exact zBh h h
  have h2:=zKi hnd (fun i hi=>(zfC.1 hi).1) l;have h3:=zKl l hraw;rw [zjR];unfold zkY zoQ;simp only;omega
def zBn (s:List Mes) (root:Int) (x:Msg):List UInt8×Int:=if zsy s root [x]=0 then (encM s x root,0) else ([],zsy s root [x])
noncomputable def zBD (s:List Mes) (root:Int) (b:List UInt8):Bool:=is11 s root b 64&&(encM s (ofM s root b) root==b)
end Go.Proofs.YtkgohoggipdokaaGreat

/-
  What the plain functions are. No condition.
-/
import Derived.Test.YtcbkcblkecmjnaaGreatx4P1
namespace Go.Proofs.YtcbkcblkecmjnaaGreat
open Go
set_option linter.unusedVariables false
def zkI (m:Mes) (g:Int→List UInt8→Nat) (b:List UInt8) (r:Rec):Nat:=match vw m r.Number r.Wire with
 | .inl _=>0
 | .inr (i,run)=>if i<0∨run=true then 0 else if (zX m i).Kind=17 then g (zX m i).Of (valB b r)+1 else 0
def ziT (m:Mes) (g:Int→List UInt8→Nat) (b:List UInt8):List Rec→Nat
 | []=>0
 | r::l=>max (zkI m g b r) (ziT m g b l)
def zfL (s:List Mes):Nat→Int→List UInt8→Nat
 | 0,k,b=>ziT (zY s k) (fun _ _=>0) b (spl 0 b).1
 | d+1,k,b=>ziT (zY s k) (zfL s d) b (spl 0 b).1
theorem znw {m:Mes} {g:Int→List UInt8→Nat} {b:List UInt8} {e:Nat}:∀{l:List Rec},ziT m g b l≤e↔∀r∈l,zkI m g b r≤e
 | []=>by simp [ziT]
 | r::l=>by
  have ih:=znw (m:=m) (g:=g) (b:=b) (e:=e) (l:=l)
  unfold ziT
  rw [List.forall_mem_cons,←ih];omega
theorem zmg {m:Mes} {a c:zhP} {g:Int→List UInt8→Nat} {b:List UInt8} {r:Rec} {e:Nat} (h:zcD m a b r=none) (hc0:c=none↔e=0)
  (hc:∀q,a=some q→∀q',c=some q'→∀k v,q k v=none→(q' k v=none↔g k v+1≤e)):zcD m c b r=none↔zkI m g b r≤e:=by
 unfold zcD at h⊢
 unfold zkI
 cases hv:vw m r.Number r.Wire with
 | inl x=>rw [hv] at h;cases h
 | inr p=>
  obtain ⟨i,run⟩:=p
  rw [hv] at h
  simp only at h⊢
  by_cases hi:i<0
  ·rw [if_pos hi,if_pos (.inl hi)];simp
  ·rw [if_neg hi] at h⊢
   unfold zis at h⊢
   by_cases hr:run=true
   ·rw [if_pos hr] at h
    rw [if_pos hr,if_pos (show i<0∨run=true from .inr hr)]
    exact ⟨fun _=>Nat.zero_le _,fun _=>h⟩
   ·rw [if_neg hr] at h⊢
    rw [if_neg (show ¬(i<0∨run=true) from fun q=>q.elim hi hr)]
    by_cases h15:(zX m i).Kind=15∧zey (valB b r)=false
    ·rw [if_pos h15] at h;cases h
    ·rw [if_neg h15] at h⊢
     by_cases h17:(zX m i).Kind=17
     ·rw [if_pos h17] at h⊢
      rw [if_pos h17]
      cases a with
      | none=>cases h
      | some q=>
       simp only at h
       cases hq:q (zX m i).Of (valB b r) with
       | some z=>rw [hq] at h;cases h
       | none=>
        cases c with
        | none=>
         have:=hc0.1 rfl
         simp only
         exact ⟨(fun hh=>nomatch hh),(fun hh=>by omega)⟩
        | some q'=>
         have:=hc q rfl q' rfl _ _ hq
         simp only
         rw [←this]
         cases q' (zX m i).Of (valB b r)<;>simp
     ·rw [if_neg h17,if_neg h17];simp
theorem znq (s:List Mes):∀(d e:Nat) (k:Int) (b:List UInt8),e≤d→zaf s d k b=none→(zaf s e k b=none↔zfL s d k b≤e)
 | 0,e,k,b,he,h=>by
  have:e=0:=by omega
  subst this
  refine ⟨fun _=>znw.2 (fun r hr=>?_),fun _=>h⟩
  have h':=(zdB.1 h).1 r hr
  exact (zmg (a:=none) (c:=none) h' (by simp) (fun q hq q' hq'=>nomatch hq')).1 h'
 | d+1,0,k,b,he,h=>by
  have h':zce (zY s k) (some (zaf s d)) b (spl 0 b)=none:=h
  rw [zdB] at h'
  show zce (zY s k) none b (spl 0 b)=none↔ziT _ _ _ _≤0
  rw [zdB,znw]
  constructor
  ·intro hh r hr
   exact (zmg (a:=some (zaf s d)) (c:=none) (h'.1 r hr) (by simp) (fun q hq q' hq'=>nomatch hq')).1 (hh.1 r hr)
  ·intro hh
   exact ⟨fun r hr=>(zmg (a:=some (zaf s d)) (c:=none) (h'.1 r hr) (by simp) (fun q hq q' hq'=>nomatch hq')).2 (hh r hr),h'.2⟩
 | d+1,e+1,k,b,he,h=>by
  have h':zce (zY s k) (some (zaf s d)) b (spl 0 b)=none:=h
  rw [zdB] at h'
  show zce (zY s k) (some (zaf s e)) b (spl 0 b)=none↔ziT _ _ _ _≤e+1
  rw [zdB,znw]
  have key:∀r∈(spl 0 b).1,zcD (zY s k) (some (zaf s e)) b r=none↔zkI (zY s k) (zfL s d) b r≤e+1:=fun r hr=>
   zmg (a:=some (zaf s d)) (h'.1 r hr) (by simp) (fun q hq q' hq' k v hk=>by
    cases hq;cases hq'
    have:=znq s d e k v (by omega) hk
    rw [this];omega)
  exact ⟨fun hh r hr=>(key r hr).1 (hh.1 r hr),fun hh=>⟨fun r hr=>(key r hr).2 (hh r hr),h'.2⟩⟩
theorem zwZ {s:List Mes} {root:Int} {b:List UInt8} (h:is11 s root b 64=true):zhg s root b=zfL s 64 root b:=by
 obtain ⟨ha,hf⟩:=zfy.1 h
 have hf':zaf s 64 root b=none:=hf
 have l1:=zwY (s:=s) (root:=root) (b:=b)
 have l2:=(znq s 64 64 root b (Nat.le_refl _) hf').1 hf'
 have iff:∀e:Nat,e≤64→(is11 s root b (e:Nat)=true↔zfL s 64 root b≤e):=fun e he=>by
  rw [zfy,Int.toNat_natCast,←znq s 64 e root b he hf']
  exact ⟨fun h=>h.2,fun h=>⟨zqG ha (by omega),h⟩⟩
 have k1:=(iff _ l1).1 ((ziP h l1).2 (Nat.le_refl _))
 have k2:=(ziP h l2).1 ((iff _ l2).2 (Nat.le_refl _))
 omega
abbrev zgJ:=zm
def zeP (s:List Mes) (met:List (zgJ×PVw)):Prop:=∀h x,mget met h=some x→vw (zY s h.message) h.number h.wire= .inr (x.Field,x.Run)
theorem zeP.nil (s:List Mes):zeP s []:=fun h x g=>by cases g
theorem zeP.put {s:List Mes} {met:List (zgJ×PVw)} (g:zeP s met) {h:zgJ} {v:PVw} (hv:vw (zY s h.message) h.number h.wire= .inr (v.Field,v.Run)):zeP s (mput met h v):=fun j x hx=>by
 rw [zgQ] at hx
 by_cases e:j=h
 ·rw [if_pos e] at hx;cases hx;rw [e];exact hv
 ·rw [if_neg e] at hx;exact g j x hx
theorem zwE {s:List Mes} {k:Nat} (hk:k<s.length) (hm:(zY s k).Fields.length≤1152921504606846976) {b:List UInt8} (hb:b.length≤1048576) (p:Int) {t:Nat} (ht:t≤b.length) {met:List (zgJ×PVw)} (g:zeP s met):
  ∃met',zeE ⟨s,b,met⟩ k p t=some (prV (zdA (zY s k) (b.take t) p).1,(zdA (zY s k) (b.take t) p).2,met')∧zeP s met':=by
 have hbt:(b.take t).length≤1048576:=by rw [List.length_take];omega
 have hcut:cut b 0 (t:Int)=some (b.take t):=by
  rw [zgM (i:=0) (j:=t) rfl rfl (Nat.zero_le _) ht];simp
 have hidx:idx s (k:Int)=some (zY s k):=by rw [zan rfl hk,zfa hk]
 have hvl:=zCo hm hbt p
 unfold zeE
 simp only
 rw [hcut,sb,zuz hbt,sb]
 unfold zdA at hvl⊢
 by_cases h:(zed (b.take t) p).2=0
 ·rw [itF (by simpa using h),if_neg (show ¬((zed (b.take t) p).2≠0) from fun q=>q h)]
  rw [if_neg (show ¬((zed (b.take t) p).2≠0) from fun q=>q h)] at hvl
  generalize (zed (b.take t) p).1=r at hvl⊢
  cases hg:mget met (⟨(k:Int),r.Number,r.Wire⟩:zgJ) with
  | none=>
   rw [itT (by rfl),hidx,sb,hvl,sb]
   cases hv:vw (zY s k) r.Number r.Wire with
   | inl c=>
    have hc:c=6:=by
     rcases zfi (zY s k) r.Number r.Wire with h'| ⟨h',_⟩| ⟨_,_,h',_⟩<;>rw [hv] at h'<;>cases h'
     rfl
    subst hc
    exact ⟨met,by rw [itT (by rfl)];rfl,g⟩
   | inr q=>
    obtain ⟨i,run⟩:=q
    refine ⟨_,?_,g.put (h:=⟨(k:Int),r.Number,r.Wire⟩) (v:=prV ⟨r,i,run⟩) hv⟩
    rw [itF (by rfl)]
    rfl
  | some x=>
   have hv:=g _ _ hg
   simp only at hv
   rw [itF (by rfl),hv]
   exact ⟨met,rfl,g⟩
 ·rw [itT (by simpa using h),if_pos h]
  exact ⟨met,rfl,g⟩
def zla (f:Fld) (run:Bool) (v:List UInt8):Int:=if run=true then (zkB f.Kind v).2 else if f.Kind=15∧zey v=false then 7 else if f.Kind=17 then 8 else 0
theorem zAj (f:Fld) (run:Bool) {v:List UInt8} (hv:v.length≤1048576):zhI f run v=some (zla f run v):=by
 unfold zhI zla
 cases run
 ·rw [itF (c:=false) rfl,if_neg (show ¬(false=true) by simp)]
  have e15:(if (f.Kind==15)=true then (zhc v>>=fun rv2=>some (!rv2)) else some false)=some (decide (f.Kind=15∧zey v=false)):=by
   rw [zpo (by omega),sb]
   by_cases h15:f.Kind=15
   ·rw [itT (by simpa using h15)];cases zey v<;>simp [h15]
   ·rw [itF (by simpa using h15)];simp [h15]
  rw [e15,sb]
  by_cases h15:f.Kind=15∧zey v=false
  ·rw [itT (decide_eq_true h15),if_pos h15]
  ·rw [itF (decide_eq_false h15),if_neg h15]
   by_cases h17:f.Kind=17
   ·rw [itT (by simpa using h17),if_pos h17]
   ·rw [itF (by simpa using h17),if_neg h17]
 ·rw [itT (c:=true) rfl,if_pos (show true=true from rfl),zzK _ hv,sb]
  unfold zbj zkB
  split
  ·rfl
  ·split<;>rfl
abbrev Find:=zz
def okR (o:Option (Int×Int)) (a dp:Nat) (r:Find):Prop:=match o with
 | none=>r=⟨(dp:Int),0,0⟩
 | some (p,c)=>r.place=(a:Int)+p∧r.e=c
def zrT (s:List Mes):Nat→zhP
 | 0=>none
 | d+1=>some (zaf s d)
def zoy (s:List Mes):Nat→Int→List UInt8→Nat
 | 0=>fun _ _=>0
 | d+1=>zfL s d
theorem zzn (s:List Mes) (d:Nat) (k:Int) (b:List UInt8):zaf s d k b=zce (zY s k) (zrT s d) b (spl 0 b):=by cases d<;>rfl
theorem zCE (s:List Mes) (d:Nat) (k:Int) (b:List UInt8):zfL s d k b=ziT (zY s k) (zoy s d) b (spl 0 b).1:=by cases d<;>rfl
theorem zCd (s:List Mes) (d:Nat):∀g,zrT s d=some g→zqz g:=fun g h=>by
 cases d with
 | zero=>cases h
 | succ d=>cases h;exact zim s d
theorem zDc (b:List UInt8) (t a x y:Nat) (h:a+y≤t):(((b.take t).drop a).drop x).take (y - x)=(b.take (a+y)).drop (a+x):=by
 rw [List.drop_drop,List.drop_take,List.drop_take,List.take_take]
 congr 1
 omega
theorem zAo {s:List Mes} {k:Nat} (hk:k<s.length) (hm:(zY s k).Fields.length≤1152921504606846976) {b:List UInt8} (hb:b.length≤1048576) {d:Int} {a t:Nat} (hat:a≤t) (ht:t≤b.length) {sub:zhP} {gd:Int→List UInt8→Nat}
  (hg:∀g,sub=some g→zqz g) {recv:zas→Int→zg→Int→Option (zz×(List (zm×zg)))} {met0:List (zgJ×PVw)}
  (hval:∀met,zeP s met→∀(n w i:Int) (run:Bool) (base x y:Nat),vw (zY s k) n w= .inr (i,run)→1≤x→x≤y→a+base+y≤t→
   ∃R met',recv ⟨s,b,met⟩ k ⟨⟨n,w,((a+base:Nat):Int),((a+(base+x):Nat):Int),((a+(base+y):Nat):Int)⟩,i,run⟩ d=some (R,met')∧zeP s met'∧
    okR (zcD (zY s k) sub ((b.take t).drop a) ⟨n,w,base,(base+x:Nat),(base+y:Nat)⟩) a (zkI (zY s k) gd ((b.take t).drop a) ⟨n,w,base,(base+x:Nat),(base+y:Nat)⟩) R)
  (base:Nat) (l:List UInt8):∀(met:List (zgJ×PVw)) (dp:Nat),zeP s met→l=((b.take t).drop a).drop base→base≤t - a→
  ∃met' D,zeP s met'∧zbE d k recv t ⟨s,b,met0⟩ met ((a+base:Nat):Int) dp=some (match zce (zY s k) sub ((b.take t).drop a) (spl base l) with
   | none=> .inl (met',((max dp (ziT (zY s k) gd ((b.take t).drop a) (spl base l).1):Nat):Int))
   | some (p,c)=> .inr (met',D,(a:Int)+p,c)):=by
 have hvl:((b.take t).drop a).length=t - a:=by simp;omega
 generalize hvv:(b.take t).drop a=v at hval hvl⊢
 refine zgz (fun base l=>∀(met:List (zgJ×PVw)) (dp:Nat),zeP s met→l=v.drop base→base≤t - a→
  ∃met' D,zeP s met'∧zbE d k recv t ⟨s,b,met0⟩ met ((a+base:Nat):Int) dp=some (match zce (zY s k) sub v (spl base l) with
   | none=> .inl (met',((max dp (ziT (zY s k) gd v (spl base l).1):Nat):Int))
   | some (p,c)=> .inr (met',D,(a:Int)+p,c))) ?_ ?_ ?_ base l
 ·intro base met dp g hl hbase
  have:v.length≤base:=by have:=congrArg List.length hl;simp at this;omega
  refine ⟨met,0,g,?_⟩
  rw [zfm]
  refine zcE ?_
  unfold zat
  rw [itF (by simp;omega)]
  simp [zce,ziT]
 ·intro base l c hl h hc met dp g hld hbase
  have hlt:a+base<t:=by have:=List.length_pos_iff.2 hl;rw [hld] at this;simp at this;omega
  have hdr:(b.take t).drop (a+base)=l:=by rw [hld,←hvv,List.drop_drop]
  have e:zed (b.take t) ((a+base:Nat):Int)=(zrec,c):=by unfold zed;rw [if_neg (by simp;omega),Int.toNat_natCast,hdr,h]
  have e2:zdA (zY s k) (b.take t) ((a+base:Nat):Int)=(zvw,c):=by unfold zdA;rw [e,if_pos (by simp only;omega)]
  obtain ⟨met',hlk,g'⟩:=zwE hk hm hb ((a+base:Nat):Int) ht g
  refine ⟨met',0,g',?_⟩
  rw [zfJ hl h]
  refine zcE ?_
  unfold zat
  simp only
  rw [itT (by simp;omega),hlk,sb,e2,itT (by simp;omega)]
  simp [zce]
 ·intro base l n w x y hl h _ g1 g2 g3 ih met dp g hld hbase
  have hly:base+y≤t - a:=by rw [hld] at g3;simp at g3;omega
  have hdr:(b.take t).drop (a+base)=l:=by rw [hld,←hvv,List.drop_drop]
  have e:zed (b.take t) ((a+base:Nat):Int)=(⟨n,w,((a+base:Nat):Int),((a+(base+x):Nat):Int),((a+(base+y):Nat):Int)⟩,0):=by
   unfold zed;rw [if_neg (by simp;omega),Int.toNat_natCast,hdr,h]
   have q1:((a+base:Nat):Int)+x=((a+(base+x):Nat):Int):=by omega
   have q2:((a+base:Nat):Int)+y=((a+(base+y):Nat):Int):=by omega
   simp only [q1,q2]
  obtain ⟨met',hlk,g'⟩:=zwE hk hm hb ((a+base:Nat):Int) ht g
  have hfr:zce (zY s k) sub v (spl base l)=match zcD (zY s k) sub v ⟨n,w,base,(base+x:Nat),(base+y:Nat)⟩ with
    | some p=>some p
    | none=>zce (zY s k) sub v (spl (base+y) (l.drop y)):=by
   unfold zce
   rw [zdR hl h]
   simp only [List.findSome?_cons]
   cases zcD (zY s k) sub v ⟨n,w,base,(base+x:Nat),(base+y:Nat)⟩<;>rfl
  have hfd:ziT (zY s k) gd v (spl base l).1=max (zkI (zY s k) gd v ⟨n,w,base,(base+x:Nat),(base+y:Nat)⟩) (ziT (zY s k) gd v (spl (base+y) (l.drop y)).1):=by
   rw [zdR hl h];rfl
  cases hv:vw (zY s k) n w with
  | inl c=>
   have hc:c=6:=by
    rcases zfi (zY s k) n w with h'| ⟨h',_⟩| ⟨_,_,h',_⟩<;>rw [hv] at h'<;>cases h'
    rfl
   subst hc
   have e2:zdA (zY s k) (b.take t) ((a+base:Nat):Int)=(zvw,6):=by unfold zdA;rw [e];simp only [ne_eq,not_true_eq_false,if_false,hv]
   have hst:zcD (zY s k) sub v ⟨n,w,base,(base+x:Nat),(base+y:Nat)⟩=some ((base:Int),6):=by unfold zcD;simp only [hv]
   refine ⟨met',0,g',?_⟩
   rw [hfr,hst]
   refine zcE ?_
   unfold zat
   simp only
   rw [itT (by simp;omega),hlk,sb,e2,itT (by rfl)]
   simp
  | inr q=>
   obtain ⟨i,run⟩:=q
   have e2:zdA (zY s k) (b.take t) ((a+base:Nat):Int)=(⟨⟨n,w,((a+base:Nat):Int),((a+(base+x):Nat):Int),((a+(base+y):Nat):Int)⟩,i,run⟩,0):=by unfold zdA;rw [e];simp only [ne_eq,not_true_eq_false,if_false,hv]
   obtain ⟨R,met2,hrv,g2',hok⟩:=hval met' g' n w i run base x y hv g1 g2 (by omega)
   have hpr:prV (⟨⟨n,w,((a+base:Nat):Int),((a+(base+x):Nat):Int),((a+(base+y):Nat):Int)⟩,i,run⟩:Vw)=⟨⟨n,w,((a+base:Nat):Int),((a+(base+x):Nat):Int),((a+(base+y):Nat):Int)⟩,i,run⟩:=rfl
   cases hst:zcD (zY s k) sub v ⟨n,w,base,(base+x:Nat),(base+y:Nat)⟩ with
   | some pc=>
    obtain ⟨p,c⟩:=pc
    have hgd:=ztB hg g1 g2 (b:=v) (base:=base) (by omega) hst
    rw [hst] at hok
    obtain ⟨o1,o2⟩:=hok
    refine ⟨met2,R.depth,g2',?_⟩
    rw [hfr,hst]
    refine zcE ?_
    unfold zat
    simp only
    rw [itT (by simp;omega),hlk,sb,e2,itF (by rfl),hpr,hrv,sb,itT (by rw [o2];simp;omega),o1,o2]
   | none=>
    rw [hst] at hok
    have hok':R=⟨((zkI (zY s k) gd v ⟨n,w,base,(base+x:Nat),(base+y:Nat)⟩:Nat):Int),0,0⟩:=hok
    obtain ⟨met3,D,g3',h3⟩:=ih met2 (max dp (zkI (zY s k) gd v ⟨n,w,base,(base+x:Nat),(base+y:Nat)⟩)) g2' (by rw [hld,List.drop_drop]) hly
    refine ⟨met3,D,g3',?_⟩
    rw [hfr,hst,hfd,←Nat.max_assoc,←h3]
    refine ziL ?_
    unfold zat
    simp only
    rw [itT (by simp;omega),hlk,sb,e2,itF (by rfl),hpr,hrv,sb,hok',itF (by rfl)]
    simp only [Option.some.injEq,Sum.inl.injEq,Prod.mk.injEq,true_and]
    split<;>omega
theorem zDD {s:List Mes} (hr:zfK s) {k:Nat} (hk:k<s.length) {b:List UInt8} (hb:b.length≤1048576) {d fuel:Nat} (hd:d≤64) {a t:Nat} (ht:t≤b.length)
  (ih:∀e,d=e+1→∀(q A T:Nat) (met:List (zgJ×PVw)),q<s.length→A≤T→T≤b.length→zeP s met→
   ∃R met',zaS fuel ⟨s,b,met⟩ q A T e=some (R,met')∧zeP s met'∧okR (zaf s e q ((b.take T).drop A)) A (zfL s e q ((b.take T).drop A)) R)
  (met:List (zgJ×PVw)) (g:zeP s met) (n w i:Int) (run:Bool) (base x y:Nat) (hv:vw (zY s k) n w= .inr (i,run)) (h1:1≤x) (h2:x≤y) (hy:a+base+y≤t):
  ∃R met',zcH (fuel+1) ⟨s,b,met⟩ k ⟨⟨n,w,((a+base:Nat):Int),((a+(base+x):Nat):Int),((a+(base+y):Nat):Int)⟩,i,run⟩ d=some (R,met')∧zeP s met'∧
    okR (zcD (zY s k) (zrT s d) ((b.take t).drop a) ⟨n,w,base,(base+x:Nat),(base+y:Nat)⟩) a (zkI (zY s k) (zoy s d) ((b.take t).drop a) ⟨n,w,base,(base+x:Nat),(base+y:Nat)⟩) R:=by
 have hidx:idx s (k:Int)=some (zY s k):=by rw [zan rfl hk,zfa hk]
 have hun:∀w' v',zcH (fuel+1) w' k v' d=zcI (zaS fuel) (zcH fuel) w' k v' d:=fun _ _=>rfl
 have hvb:valB ((b.take t).drop a) ⟨n,w,base,(base+x:Nat),(base+y:Nat)⟩=(b.take (a+(base+y))).drop (a+(base+x)):=by
  unfold valB
  simp only [Int.toNat_natCast]
  exact zDc b t a (base+x) (base+y) (by omega)
 rcases zfi (zY s k) n w with h'| ⟨h',_⟩| ⟨j,run',h',_,hi⟩
 ·rw [hv] at h';cases h'
 ·rw [hv] at h'
  obtain ⟨rfl,rfl⟩:i= -1∧run=false:=by simpa using h'
  refine ⟨⟨0,0,0⟩,met,?_,g,?_⟩
  ·rw [hun];unfold zcI;rw [itT (by rfl)]
  ·unfold zcD zkI;simp only [hv]
   rw [if_pos (show ((-1:Int)<0) by omega),if_pos (.inl (show ((-1:Int)<0) by omega))];rfl
 ·rw [hv] at h'
  obtain ⟨rfl,rfl⟩:i=j∧run=run':=by simpa using h'
  have hfm:zX (zY s k) (j:Int)∈(zY s k).Fields:=by rw [zdK hi];exact List.getElem_mem hi
  have hmem:zY s k∈s:=by rw [zfa hk];exact List.getElem_mem hk
  have hrun:run=true→(zX (zY s k) (j:Int)).Kind≠17:=fun hh h17=>by
   subst hh
   have:=(zxW hv).1
   rw [h17] at this;cases this
  have hcut:cut b ((a+(base+x):Nat):Int) ((a+(base+y):Nat):Int)=some ((b.take (a+(base+y))).drop (a+(base+x))):=by
   rw [zgM rfl rfl (by omega) (by omega),List.drop_take]
  have hlen:((b.take (a+(base+y))).drop (a+(base+x))).length≤1048576:=by simp;omega
  unfold zcD zkI
  simp only [hv]
  rw [if_neg (show ¬((j:Int)<0) by omega),hvb]
  have hif:(if ((j:Int)<0∨run=true) then 0 else if (zX (zY s k) (j:Int)).Kind=17 then zoy s d (zX (zY s k) (j:Int)).Of ((b.take (a+(base+y))).drop (a+(base+x)))+1 else 0)=(if (zX (zY s k) (j:Int)).Kind=17 then zoy s d (zX (zY s k) (j:Int)).Of ((b.take (a+(base+y))).drop (a+(base+x)))+1 else 0):=by
   cases run with
   | false=>rw [if_neg (by simp)]
   | true=>rw [if_pos (.inr rfl),if_neg (hrun rfl)]
  rw [hif]
  simp only [hun]
  unfold zcI
  simp only
  rw [itF (show ((j:Int)== -1)=false by simp),hidx,sb,zan (i:=j) rfl hi,sb,←zdK hi]
  generalize hvv:(b.take (a+(base+y))).drop (a+(base+x))=v at hlen hcut⊢
  have hof:=(hr.fld _ hmem _ hfm).sub
  generalize zX (zY s k) (j:Int)=f at hfm hrun hof⊢
  by_cases hs:f.Kind=17∧0<d
  ·obtain ⟨e,rfl⟩:∃e,d=e+1:=⟨d - 1,by omega⟩
   have hrf:run=false:=by
    cases run with
    | false=>rfl
    | true=>exact absurd hs.1 (hrun rfl)
   subst hrf
   have hof':=hof hs.1
   obtain ⟨q,hq⟩:∃q:Nat,f.Of=q:=⟨f.Of.toNat,by omega⟩
   obtain ⟨R,met',hR,g',hok⟩:=ih e rfl q (a+(base+x)) (a+(base+y)) met (by omega) (by omega) (by omega) g
   rw [hvv] at hok
   have hw1:IntKind.i64.wrap (((e+1:Nat):Int) - 1)=(e:Int):=by rw [zW (by omega)];omega
   refine ⟨⟨IntKind.i64.wrap (R.depth+1),R.place,R.e⟩,met',?_,g',?_⟩
   ·rw [itT (by simp [hs.1]),hw1,hq,hR,sb]
   ·rw [if_pos hs.1]
    unfold zis
    rw [if_neg (by simp),if_neg (by rw [hs.1];simp),if_pos hs.1]
    simp only [zrT,zoy,hq]
    cases hf:zaf s e q v with
    | none=>
     rw [hf] at hok
     have hok':R=⟨((zfL s e q v:Nat):Int),0,0⟩:=hok
     have hdl:=(znq s e e q v (Nat.le_refl _) hf).1 hf
     subst hok'
     show (⟨IntKind.i64.wrap (((zfL s e q v:Nat):Int)+1),0,0⟩:Find)=_
     rw [zW (by omega)]
     rfl
    | some pc=>
     obtain ⟨p,c⟩:=pc
     rw [hf] at hok
     obtain ⟨o1,o2⟩:=hok
     refine ⟨?_,o2⟩
     simp only
     rw [o1];push_cast;omega
  ·have hno:((f.Kind==17)&&decide (((d:Nat):Int)>0))=false:=by
    rw [Bool.and_eq_false_iff]
    by_cases h17:f.Kind=17
    ·exact .inr (decide_eq_false (by have:=fun h=>hs ⟨h17,h⟩;omega))
    ·exact .inl (by simpa using h17)
   have hlf:zis f run (zrT s d) ⟨n,w,base,(base+x:Nat),(base+y:Nat)⟩ v=if zla f run v≠0 then some ((base:Int),zla f run v) else none:=by
    unfold zis zla
    by_cases hrt:run=true
    ·rw [if_pos hrt,if_pos hrt]
    ·rw [if_neg hrt,if_neg hrt]
     by_cases h15:f.Kind=15∧zey v=false
     ·rw [if_pos h15,if_pos h15,if_pos (by omega)]
     ·rw [if_neg h15,if_neg h15]
      by_cases h17:f.Kind=17
      ·have:d=0:=by have:=fun h=>hs ⟨h17,h⟩;omega
       subst this
       rw [if_pos h17,if_pos h17,if_pos (by omega)];rfl
      ·rw [if_neg h17,if_neg h17,if_neg (by omega)]
   rw [itF hno,hcut,sb,zAj f run hlen,sb,hlf]
   by_cases h0:zla f run v=0
   ·refine ⟨⟨0,0,0⟩,met,by rw [itF (by simpa using h0)],g,?_⟩
    rw [if_neg (by simpa using h0)]
    have:f.Kind≠17:=fun h17=>by
     have hrf:run=false:=by
      cases run with
      | false=>rfl
      | true=>exact absurd h17 (hrun rfl)
     subst hrf
     unfold zla at h0
     rw [if_neg (by simp),if_neg (by rw [h17];simp),if_pos h17] at h0
     omega
    rw [if_neg this]
    rfl
   ·refine ⟨⟨0,((a+base:Nat):Int),zla f run v⟩,met,by rw [itT (by simpa using h0)],g,?_⟩
    rw [if_pos h0]
    exact ⟨by simp,rfl⟩
theorem zDy {s:List Mes} (hr:zfK s) {b:List UInt8} (hb:b.length≤1048576):∀(d fuel:Nat),d≤64→2*d+2≤fuel→∀(q A T:Nat) (met:List (zgJ×PVw)),q<s.length→A≤T→T≤b.length→zeP s met→
   ∃R met',zaS fuel ⟨s,b,met⟩ q A T d=some (R,met')∧zeP s met'∧okR (zaf s d q ((b.take T).drop A)) A (zfL s d q ((b.take T).drop A)) R:=by
 have step:∀(d fuel:Nat),d≤64→(∀e,d=e+1→∀(q A T:Nat) (met:List (zgJ×PVw)),q<s.length→A≤T→T≤b.length→zeP s met→
   ∃R met',zaS fuel ⟨s,b,met⟩ q A T e=some (R,met')∧zeP s met'∧okR (zaf s e q ((b.take T).drop A)) A (zfL s e q ((b.take T).drop A)) R)→
   ∀(q A T:Nat) (met:List (zgJ×PVw)),q<s.length→A≤T→T≤b.length→zeP s met→
   ∃R met',zaS (fuel+2) ⟨s,b,met⟩ q A T d=some (R,met')∧zeP s met'∧okR (zaf s d q ((b.take T).drop A)) A (zfL s d q ((b.take T).drop A)) R:=by
  intro d fuel hd ih q A T met hq hAT hT g
  have hun:∀w' k' p' t' d',zaS (fuel+2) w' k' p' t' d'=zcW (zaS (fuel+1)) (zcH (fuel+1)) w' k' p' t' d':=fun _ _ _ _ _=>rfl
  have hm:(zY s q).Fields.length≤1152921504606846976:=by
   rw [zfa hq];have:=hr.few _ (List.getElem_mem hq);omega
  obtain ⟨met',D,g',hl⟩:=zAo (s:=s) hq hm hb (d:=(d:Int)) hAT hT (sub:=zrT s d) (gd:=zoy s d) (zCd s d) (recv:=zcH (fuel+1)) (met0:=met)
   (fun met1 g1 n w i run base x y hv h1 h2 hy=>zDD hr hq hb hd hT ih met1 g1 n w i run base x y hv h1 h2 hy) 0 _ met 0 g rfl (Nat.zero_le _)
  have hl':zbE d q (zcH (fuel+1)) T ⟨s,b,met⟩ met (A:Int) 0=_:=hl
  rw [hun,zzn,zCE]
  unfold zcW
  simp only
  rw [List.drop_zero,Nat.zero_max] at hl'
  rw [hl',sb]
  cases hf:zce (zY s q) (zrT s d) ((b.take T).drop A) (spl 0 ((b.take T).drop A)) with
  | none=>exact ⟨_,_,rfl,g',rfl⟩
  | some pc=>exact ⟨_,_,rfl,g',rfl,rfl⟩
 intro d
 induction d with
 | zero=>
  intro fuel hd hf
  obtain ⟨fuel,rfl⟩:∃z,fuel=z+2:=⟨fuel - 2,by omega⟩
  exact step 0 fuel hd (fun e he=>by omega)
 | succ d ih=>
  intro fuel hd hf
  obtain ⟨fuel,rfl⟩:∃z,fuel=z+2:=⟨fuel - 2,by omega⟩
  refine step (d+1) fuel hd (fun e he=>?_)
  obtain rfl:d=e:=by omega
  exact ih fuel (by omega) (by omega)
theorem zwB {s:List Mes} (hw:WS s) (root d:Int):zhd s root d=some (argS s root d):=by
 unfold zhd argS
 rw [zBJ hw,sb]
 cases h:zgV s
 ·rw [itT (c:= !false) rfl,if_pos (show false=false from rfl)]
 ·rw [itF (c:= !true) rfl,if_neg (show ¬(true=false) by simp)]
  by_cases h2:root<0∨root≥s.length∨d<0∨d>64
  ·rw [itT (by simpa using h2),if_pos h2]
  ·rw [itF (by simp;omega),if_neg h2]
theorem zyk {s:List Mes} (hw:WS s) (root:Int) {b:List UInt8} (hb:b.length≤1048576) (d:Int) {fuel:Nat} (hf:130≤fuel):
  ∃R,zhe fuel s root b d=some R∧R.place=(zbO s root b d).1∧R.e=(zbO s root b d).2∧((zbO s root b d).2=0→R.depth=((zfL s d.toNat root b:Nat):Int)):=by
 unfold zhe zbO
 rw [zwB hw,sb]
 by_cases h:argS s root d=0
 ·obtain ⟨hr,h1,h2,h3,h4⟩:=zlQ h
  obtain ⟨k,rfl⟩:∃k:Nat,root=k:=⟨root.toNat,by omega⟩
  obtain ⟨e,rfl⟩:∃k:Nat,d=k:=⟨d.toNat,by omega⟩
  obtain ⟨R,met',hR,_,hok⟩:=zDy hr hb e fuel (by omega) (by omega) k 0 b.length [] (by omega) (Nat.zero_le _) (Nat.le_refl _) (zeP.nil s)
  have hR':zaS fuel ⟨s,b,[]⟩ k 0 (b.length:Int) e=some (R,met'):=hR
  rw [List.take_length,List.drop_zero] at hok
  rw [itF (by simpa using h),if_neg (by simpa using h),hR',sb,Int.toNat_natCast]
  refine ⟨R,rfl,?_⟩
  cases hfi:zaf s e k b with
  | none=>
   rw [hfi] at hok
   have hok':R=⟨((zfL s e k b:Nat):Int),0,0⟩:=hok
   subst hok'
   exact ⟨rfl,rfl,fun _=>rfl⟩
  | some pc=>
   obtain ⟨p,c⟩:=pc
   rw [hfi] at hok
   obtain ⟨o1,o2⟩:=hok
   have:=zim s e k b p c hfi
   simp only [Option.getD_some]
   refine ⟨by rw [o1];simp,o2,fun h0=>by omega⟩
 ·rw [itT (by simpa using h),if_pos h]
  exact ⟨_,rfl,rfl,rfl,fun h0=>absurd h0 h⟩
theorem ztH {s:List Mes} (hw:WS s) (root:Int) {b:List UInt8} (hb:b.length≤1048576) (d:Int) {fuel:Nat} (hf:130≤fuel):zgd fuel s root b d=some (zbO s root b d):=by
 obtain ⟨R,hR,h1,h2,_⟩:=zyk hw root hb d hf
 unfold zgd
 rw [hR,sb,h1,h2]
theorem zEC {s:List Mes} (hw:WS s) (root:Int) {b:List UInt8} (hb:b.length≤1048576) (d:Int) {fuel:Nat} (hf:130≤fuel):zlL fuel s root b d=some (is11 s root b d):=by
 unfold zlL
 rw [ztH hw root hb d hf,sb];rfl
theorem zAi {s:List Mes} (hw:WS s) (root:Int) {b:List UInt8} (hb:b.length≤1048576) {fuel:Nat} (hf:130≤fuel):zhH fuel s root b=some (zyf s root b):=by
 obtain ⟨R,hR,h1,h2,h3⟩:=zyk hw root hb 64 hf
 unfold zhH zyf
 rw [hR,sb,h2]
 by_cases h:(zbO s root b 64).2=0
 ·have hd:=zwZ (s:=s) (root:=root) (b:=b) (by unfold is11;simpa using h)
  rw [itF (by simpa using h),if_neg (by simpa using h),h3 h,hd]
  rfl
 ·rw [itT (by simpa using h),if_pos h]
end Go.Proofs.YtcbkcblkecmjnaaGreat
namespace Go.Proofs.YtcbkcblkecmjnaaGreat
open Go
set_option linter.unusedVariables false
theorem zpv {m:Mes} (hm:m.Fields.length≤140737488351232) (n:Int):zdF m n=some (match m.Fields.findIdx? (fun f=>f.Number==n) with| some i=>((i:Int),true)| none=>(0,false)):=by
 unfold zdF zbG zaq
 have h:=zoE (fun f:Fld=>f.Number==n) m.Fields (fun i=>zR m.Fields n i) (zaX (by unfold zB;rw [itF (by simp)])) (fun i hi=>by
  by_cases hp:(m.Fields[i].Number==n)=true
  ·rw [if_pos hp];exact zaX (by unfold zB zdO;rw [itT (by simp;omega),zan rfl hi,sb,sb,itT hp])
  ·rw [if_neg hp];exact zbZ (by unfold zB zdO;rw [itT (by simp;omega),zan rfl hi,sb,sb,itF (eq_false_of_ne_true hp),zW (by omega)];rfl)) m.Fields.length 0 (by omega) (fun j _ h=>by omega)
 have h':zR m.Fields n 0=_:=h
 rw [h',sb]
 cases m.Fields.findIdx? (fun f:Fld=>f.Number==n) with
 | none=>rfl
 | some i=>simp [sb];omega
end Go.Proofs.YtcbkcblkecmjnaaGreat
namespace Go.Proofs.YtcbkcblkecmjnaaGreat
open Go
set_option linter.unusedVariables false
theorem zii {α:Type} (p:α→Bool) (l:List α) (F:Int→Option (Unit⊕Unit)) (h0:F (l.length:Int)=some (.inl ())) (hs:∀(i:Nat) (h:i<l.length),F (i:Int)=if p l[i]=true then F ((i+1:Nat):Int) else some (.inr ())):
  ∀(c i:Nat),i+c=l.length→F (i:Int)=some (if (l.drop i).all p=true then .inl () else .inr ())
 | 0,i,h=>by
  have e:l.drop i=[]:=List.drop_eq_nil_of_le (by omega)
  have hi:i=l.length:=by omega
  rw [e,hi,h0];simp
 | c+1,i,h=>by
  rw [hs i (by omega),List.drop_eq_getElem_cons (by omega),List.all_cons]
  cases hp:p l[i]
  ·rw [if_neg (by simp)];simp
  ·rw [if_pos rfl,Bool.true_and];exact zii p l F h0 hs c (i+1) (by omega)
theorem zph {v:Vlu} (hb:v.Words.length≤140737488351232∧v.Texts.length≤140737488351232∧v.Subs.length≤140737488351232):zcZ v=some ((zbM v:Nat):Int):=by
 unfold zcZ zbM
 rw [zW (x:=(v.Words.length:Int)+(v.Texts.length:Int)) (by omega),zW (by omega)]
 push_cast
 rfl
theorem zvj {l:List Str} (hl:l.length≤1152921504606846976) (h:∀t∈l,t.length≤140737488351232):zfF l=some (l.all zey):=by
 unfold zfF
 have h1:=zii zey l (fun i=>zdo l i) (by
   refine zhD ?_
   unfold zbq
   rw [itF (by simp)])
  (fun i hi=>by
   have hx:=h _ (List.getElem_mem hi)
   have e:lenO l[i]=some l[i]:=by unfold lenO;rw [if_pos (by omega)]
   cases hp:zey l[i]
   ·rw [if_neg (by simp)]
    refine zhD ?_
    unfold zbq
    rw [itT (by simp;omega),zan rfl hi,sb,e,sb,zpo (by omega),sb,hp,itT (by rfl)]
   ·rw [if_pos rfl]
    refine zlG ?_
    unfold zbq
    rw [itT (by simp;omega),zan rfl hi,sb,e,sb,zpo (by omega),sb,hp,itF (by rfl),zW (by omega)];push_cast;rfl)
  l.length 0 (Nat.zero_add _)
 have h1':zdo l 0=_:=h1
 rw [h1',sb,List.drop_zero]
 cases l.all zey<;>rfl
theorem zvi {k:Int} {l:List Int} (hl:l.length≤1152921504606846976) (h:∀w∈l,0≤w∧w≤18446744073709551615):zdS k l=some (l.all fun w=>kNum k&&zdg k w==w):=by
 unfold zdS
 have h1:=zii (fun w=>kNum k&&zdg k w==w) l (fun i=>zcb k l i) (by
   refine zdY ?_
   unfold zaz
   rw [itF (by simp)])
  (fun i hi=>by
   have hx:=h _ (List.getElem_mem hi)
   cases hk:kNum k
   ·rw [Bool.false_and,if_neg (by simp)]
    refine zdY ?_
    unfold zaz
    rw [itT (by simp;omega),zan rfl hi,sb,zjA k hx,sb,hk,itT (by rfl)]
   ·rw [Bool.true_and]
    by_cases hp:zdg k l[i]=l[i]
    ·rw [if_pos (by simpa using hp)]
     refine zjm ?_
     unfold zaz
     rw [itT (by simp;omega),zan rfl hi,sb,zjA k hx,sb,hk,itF (by simp [hp]),zW (by omega)];push_cast;rfl
    ·rw [if_neg (by simpa using hp)]
     refine zdY ?_
     unfold zaz
     rw [itT (by simp;omega),zan rfl hi,sb,zjA k hx,sb,hk,itT (by simp [hp])])
  l.length 0 (Nat.zero_add _)
 have h1':zcb k l 0=_:=h1
 rw [h1',sb,List.drop_zero]
 cases l.all (fun w=>kNum k&&zdg k w==w)<;>rfl
theorem zAR {m:Mes} (hm:m.Fields.length≤140737488351232) {u:Str} (hu:u.length≤1048576):zfe m u=some (unkR m u):=by
 unfold zfe unkR
 have e:lenO u=some u:=by unfold lenO;rw [if_pos (by omega)]
 rw [e,sb,zuz hu,sb]
 generalize zed u 0=r
 by_cases c1:r.2=0
 ·by_cases c2:r.1.To=(u.length:Int)
  ·rw [itF (by simp [c1,c2]),zpv hm,sb]
   have hf:fldI m r.1.Number=zil (fun f:Fld=>f.Number==r.1.Number) m.Fields:=rfl
   rw [hf]
   cases h:m.Fields.findIdx? (fun f:Fld=>f.Number==r.1.Number) with
   | none=>rw [ziQ h];simp [c1,c2]
   | some i=>rw [ziR h];simp [c1,c2]
  ·rw [itT (by simp [c2])];simp [c2]
 ·rw [itT (by simp [c1])];simp [c1]
theorem ztR {α:Type} {p:α→Bool} (h:∀x,p x=false) (l:List α):l.all p=l.isEmpty:=by
 cases l with
 | nil=>rfl
 | cons x l=>rw [List.all_cons,h];rfl
theorem zld {α:Type} (l:List α):l.isEmpty=decide (l.length=0):=by cases l<;>simp
theorem zwv {s:List Mes} (hs:zfK s):∀(fuel:Nat),(∀(x:Msg) (k:Nat),k<s.length→2*szM x<fuel→bdM x→smM x→zcr fuel s k x=some (zcG s x k))∧
  (∀(v:Vlu) (f:Fld),2*szV v<fuel→bdV v→smV v→zgb fuel f s v=some (zjx s v f))∧
  ∀(l:List Msg) (k:Int),2*szMs l+1<fuel→l.length≤1152921504606846976→bdMs l→smMs l→zek fuel s k l=some (decide (0≤k∧k<s.length)&&l.all fun x=>zcG s x k)
 | 0=>⟨fun x k _ h=>by omega,fun v f h=>by omega,fun l k h=>by omega⟩
 | fuel+1=>by
  obtain ⟨ih1,ih2,ih3⟩:=zwv hs fuel
  have hlen:=hs.len
  refine ⟨fun x k hk hsz hb hsm=>?_,fun v f hsz hb hsm=>?_,fun l k hsz hl hb hsm=>?_⟩
  ·obtain ⟨b1,⟨b2,b3⟩,b4⟩:=(zou x).1 hb
   obtain ⟨s1,⟨s2,s3⟩,s4⟩:=(zuL x).1 hsm
   rw [zuP] at hsz
   show zem (zek fuel) (zgb fuel) (zcr fuel) s k x=_
   unfold zem
   rw [zjI,decide_eq_true (show (0:Int)≤(k:Int)∧(k:Int)<(s.length:Int) by omega),Bool.true_and]
   have hm:idx s (k:Int)=some (zY s k):=by rw [zan rfl hk,zfa hk]
   have hmm:zY s (k:Int)∈s:=by rw [zfa hk];exact List.getElem_mem hk
   have hfew:=hs.few _ hmm
   have hfld:=hs.fld _ hmm
   generalize zY s (k:Int)=m at hm hmm hfew hfld⊢
   rw [hm,sb]
   have hv:∀(c i:Nat) (p:Option Int) (last:Int),i+c=x.Values.length→(p=none∧last=0∨p=some last)→zda (zgb fuel) s x m last i=some (if zeT s (x.Values.drop i) m p=true then .inl () else .inr ()):=by
    intro c
    induction c with
    | zero=>
     intro i p last hi _
     have e:x.Values.drop i=[]:=List.drop_eq_nil_of_le (by omega)
     rw [e,zeT,if_pos rfl]
     refine zgG ?_
     unfold zbf
     rw [itF (by simp;omega)]
    | succ c ih=>
     intro i p last hi hp
     have hil:i<x.Values.length:=by omega
     have hx:idx x.Values (i:Int)=some x.Values[i]:=zan rfl hil
     have hmem:=List.getElem_mem hil
     have z1:=zlC hmem
     have hbv:=zjq.1 b4 _ hmem
     have hsv:=zrP.1 s4 _ hmem
     rw [List.drop_eq_getElem_cons hil,zeT]
     generalize x.Values[i]=v at hx hmem z1 hbv hsv⊢
     have hw1:IntKind.i64.wrap ((i:Int)+1)=((i+1:Nat):Int):=by rw [zW (by omega)];push_cast;rfl
     have hbody:zbf (zgb fuel) s x m last i=if (decide (0≤fldI m v.Number)&&p.all (fun q=>decide (q<v.Number))&&zjx s v (zX m (fldI m v.Number)))=true then some (.inl (v.Number,((i+1:Nat):Int))) else some (.inr (.inr ())):=by
      unfold zbf
      rw [itT (by simp;omega),hx,sb,zpv (by omega),sb]
      have hf:fldI m v.Number=zil (fun f:Fld=>f.Number==v.Number) m.Fields:=rfl
      cases h:m.Fields.findIdx? (fun f:Fld=>f.Number==v.Number) with
      | none=>
       rw [hf,ziQ h,itT (by rfl),sb,itT (by rfl),if_neg (by simp)]
      | some j=>
       rw [hf,ziR h]
       have hjs:=List.findIdx?_eq_some_iff_getElem.1 h
       obtain ⟨hj,hjn,_⟩:=hjs
       have hjn':(m.Fields[j]).Number=v.Number:=by simpa using hjn
       have hlo:=(hfld _ (List.getElem_mem hj)).lo
       have hfj:idx m.Fields (j:Int)=some (zX m (j:Int)):=by rw [zan rfl hj,zdK hj]
       have hfit:=ih2 v (zX m (j:Int)) (by omega) hbv hsv
       have hpl:p.all (fun q=>decide (q<v.Number))=decide (last<v.Number):=by
        rcases hp with ⟨rfl,rfl⟩| rfl
        ·rw [decide_eq_true (show (0:Int)<v.Number by omega)];rfl
        ·rfl
       rw [itF (by rfl),hpl,decide_eq_true (show (0:Int)≤(j:Int) by omega),Bool.true_and]
       by_cases hlt:last<v.Number
       ·rw [itF (by simpa using hlt),decide_eq_true hlt,Bool.true_and]
        simp only
        rw [hfj,sb,hfit,sb,sb]
        cases hfv:zjx s v (zX m (j:Int))
        ·rw [itT (by rfl),if_neg (by simp)]
        ·rw [itF (by rfl),if_pos rfl,hw1]
       ·rw [itT (by simp;omega),sb,itT (by rfl),decide_eq_false hlt,if_neg (by simp)]
     generalize (decide (0≤fldI m v.Number)&&p.all (fun q=>decide (q<v.Number))&&zjx s v (zX m (fldI m v.Number)))=bb at hbody⊢
     cases bb
     ·rw [if_neg (by simp)] at hbody
      rw [zgG hbody,Bool.false_and,if_neg (by simp)]
     ·rw [if_pos rfl] at hbody
      rw [zkR hbody,ih _ (some v.Number) v.Number (by omega) (.inr rfl),Bool.true_and]
   have h1:=hv x.Values.length 0 none 0 (Nat.zero_add _) (.inl ⟨rfl,rfl⟩)
   have h1':zda (zgb fuel) s x m 0 0=_:=h1
   rw [List.drop_zero] at h1'
   rw [h1',sb]
   cases hrv:zeT s x.Values m none
   ·rw [if_neg (by simp)];rfl
   ·rw [if_pos rfl,Bool.true_and]
    simp only
    have h2:=zii (unkR m) x.Unknown (fun i=>zdb x m i) (by
      refine zgH ?_
      unfold zbg
      rw [itF (by simp)])
     (fun i hi=>by
      have hu:=zAR (m:=m) (by omega) (s3 _ (List.getElem_mem hi))
      cases hun:unkR m x.Unknown[i]
      ·rw [if_neg (by simp)]
       refine zgH ?_
       unfold zbg
       rw [itT (by simp;omega),zan rfl hi,sb,hu,sb,hun,itT (by rfl)]
      ·rw [if_pos rfl]
       refine zkS ?_
       unfold zbg
       rw [itT (by simp;omega),zan rfl hi,sb,hu,sb,hun,itF (by rfl),zW (by omega)];push_cast;rfl)
     x.Unknown.length 0 (Nat.zero_add _)
    have h2':zdb x m 0=_:=h2
    rw [h2',sb,List.drop_zero]
    cases x.Unknown.all (unkR m)<;>rfl
  ·obtain ⟨_,⟨b1,b1'⟩,⟨b2,b3⟩,b4,b5⟩:=(zqH v).1 hb
   obtain ⟨s1,⟨s2,s3⟩,s4,s5⟩:=(zBR v).1 hsm
   rw [zuQ] at hsz
   show zhE (zek fuel) (zgb fuel) (zcr fuel) f s v=_
   unfold zhE
   rw [zph ⟨by omega,by omega,by omega⟩,sb,zqY,zkq]
   have hmany:zbM v=v.Words.length+v.Texts.length+v.Subs.length:=rfl
   by_cases h0:zbM v=0∨1<zbM v∧f.Repeated=false
   ·have hmr:znI f v=false:=by
     unfold znI
     rcases h0 with h0| ⟨h0,h1⟩
     ·simp [h0]
     ·rw [h1];simp;omega
    rw [hmr,itT (by
     rcases h0 with h0| ⟨h0,h1⟩
     ·simp [h0]
     ·rw [h1];simp;omega)]
    rfl
   ·have hmr:znI f v=zbH f.Kind:=by
     unfold znI
     rw [decide_eq_true (show 0<zbM v by omega),Bool.true_and]
     cases hr:f.Repeated
     ·rw [hr] at h0;rw [decide_eq_true (show zbM v≤1 by simp at h0;omega)];rfl
     ·simp
    rw [hmr,itF (by
     cases hr:f.Repeated
     ·rw [hr] at h0;simp at h0⊢;omega
     ·simp;omega)]
    have hW:kNum f.Kind=false→v.Words.all (zhU f)=decide (v.Words.length=0):=fun h=>by
     rw [ztR (fun w=>by unfold zhU;rw [h];rfl),zld]
    have hT:f.Kind≠15→f.Kind≠16→v.Texts.all (ziD f)=decide (v.Texts.length=0):=fun h1 h2=>by
     rw [ztR (fun t=>by unfold ziD;simp [h1,h2]),zld]
    have hS:f.Kind≠17→(v.Subs.all fun x=>f.Kind==17&&zcG s x f.Of)=decide (v.Subs.length=0):=fun h=>by
     rw [ztR (fun x=>by simp [h]),zld]
    by_cases k15:f.Kind=15
    ·rw [itT (by simp [k15]),hW (by rw [k15];rfl),hS (by omega)]
     have hkr:zbH f.Kind=true:=by rw [k15];rfl
     rw [hkr,Bool.true_and]
     by_cases hl:v.Words.length=0∧v.Subs.length=0
     ·rw [itT (by simp;omega),zvj (by omega) b3,sb,sb,decide_eq_true hl.1,decide_eq_true hl.2,Bool.true_and,Bool.and_true]
      have:v.Texts.all (ziD f)=v.Texts.all zey:=by
       congr 1;funext t;unfold ziD;simp [k15]
      rw [this]
     ·rw [itF (by simp;omega),sb]
      congr 1
      symm
      by_cases hw0:v.Words.length=0
      ·rw [decide_eq_false (show ¬v.Subs.length=0 by omega),Bool.and_false]
      ·rw [decide_eq_false hw0,Bool.false_and,Bool.false_and]
    ·rw [itF (by simp [k15])]
     by_cases k16:f.Kind=16
     ·rw [itT (by simp [k16]),hW (by rw [k16];rfl),hS (by omega)]
      have hkr:zbH f.Kind=true:=by rw [k16];rfl
      have hta:v.Texts.all (ziD f)=true:=by rw [List.all_eq_true];intro t _;unfold ziD;simp [k16]
      rw [hkr,hta,Bool.true_and,Bool.and_true]
      congr 1
      rw [←Bool.decide_and]
      rw [Bool.eq_iff_iff]
      simp only [beq_iff_eq,decide_eq_true_eq]
      omega
     ·rw [itF (by simp [k16])]
      by_cases k17:f.Kind=17
      ·rw [itT (by simp [k17]),hW (by rw [k17];rfl),hT k15 k16]
       have hkr:zbH f.Kind=true:=by rw [k17];rfl
       rw [hkr,Bool.true_and]
       have hsub:(v.Subs.all fun x=>f.Kind==17&&zcG s x f.Of)=v.Subs.all fun x=>zcG s x f.Of:=by
        congr 1;funext x;simp [k17]
       rw [hsub]
       by_cases hl:v.Words.length=0∧v.Texts.length=0
       ·rw [itT (by simp;omega),ih3 v.Subs f.Of (by omega) (by omega) b5 s5,sb,sb,decide_eq_true hl.1,decide_eq_true hl.2,Bool.true_and,Bool.true_and]
        by_cases hof:0≤f.Of∧f.Of<s.length
        ·rw [decide_eq_true hof,Bool.true_and]
        ·rw [decide_eq_false hof,Bool.false_and]
         congr 1
         symm
         have hne:v.Subs≠[]:=fun e=>h0 (.inl (by rw [hmany,hl.1,hl.2,e];rfl))
         obtain ⟨x,l,hxl⟩:=List.exists_cons_of_ne_nil hne
         rw [hxl,List.all_cons,zjI,decide_eq_false hof]
         rfl
       ·rw [itF (by simp;omega),sb]
        congr 1
        symm
        by_cases hw0:v.Words.length=0
        ·rw [decide_eq_false (show ¬v.Texts.length=0 by omega),Bool.and_false,Bool.false_and]
        ·rw [decide_eq_false hw0,Bool.false_and,Bool.false_and]
      ·rw [itF (by simp [k17]),hT k15 k16,hS k17]
       have hck:(v.Words.all fun w=>kNum f.Kind&&zdg f.Kind w==w)=v.Words.all (zhU f):=rfl
       by_cases hl:v.Texts.length=0∧v.Subs.length=0
       ·rw [itT (by simp;omega),zvi (by omega) b1',sb,sb,decide_eq_true hl.1,decide_eq_true hl.2,Bool.and_true,Bool.and_true,hck]
        congr 1
        cases hkn:kNum f.Kind
        ·rw [hW hkn,decide_eq_false (show ¬v.Words.length=0 by omega),Bool.and_false]
        ·have hkr:zbH f.Kind=true:=by
          rw [zhu] at hkn
          unfold zbH
          simp;omega
         rw [hkr,Bool.true_and]
       ·rw [itF (by simp;omega),sb]
        congr 1
        symm
        by_cases hw0:v.Texts.length=0
        ·rw [decide_eq_false (show ¬v.Subs.length=0 by omega),Bool.and_false]
        ·rw [decide_eq_false hw0,Bool.and_false,Bool.false_and]
  ·show zdv (zek fuel) (zgb fuel) (zcr fuel) s k l=_
   unfold zdv
   by_cases hk:0≤k∧k<s.length
   ·rw [itF (by simp;omega),decide_eq_true hk,Bool.true_and]
    obtain ⟨n,rfl⟩:∃n:Nat,k=n:=⟨k.toNat,by omega⟩
    have h1:=zii (fun x=>zcG s x n) l (fun i=>zcv l n (zcr fuel) s i) (by
      refine zga ?_
      unfold zaN
      rw [itF (by simp)])
     (fun i hi=>by
      have hm:=List.getElem_mem hi
      have z1:=zlB hm
      have hr:=ih1 l[i] n (by omega) (by omega) (zjp.1 hb _ hm) (zrO.1 hsm _ hm)
      cases hp:zcG s l[i] n
      ·rw [if_neg (by simp)]
       refine zga ?_
       unfold zaN
       rw [itT (by simp;omega),zan rfl hi,sb,hr,sb,hp,itT (by rfl)]
      ·rw [if_pos rfl]
       refine zjV ?_
       unfold zaN
       rw [itT (by simp;omega),zan rfl hi,sb,hr,sb,hp,itF (by rfl),zW (by omega)];push_cast;rfl)
     l.length 0 (Nat.zero_add _)
    have h1':zcv l n (zcr fuel) s 0=_:=h1
    rw [h1',sb,List.drop_zero]
    cases l.all (fun x=>zcG s x n)<;>rfl
   ·rw [itT (by simp;omega),decide_eq_false hk];rfl
theorem zxQ {fuel:Nat} {s:List Mes} (root:Int) {x:Msg} (hf:2*szM x<fuel) (hw:WS s) (hb:bdM x) (hsm:smM x) (hd:dM x≤131072):ziE fuel s root x=some (zgV s&&zcG s x root):=by
 unfold ziE
 rw [zwB hw,sb]
 by_cases h0:argS s root 0=0
 ·obtain ⟨hr,g1,g2,_,_⟩:=zlQ h0
  have hrs:zgV s=true:=by
   unfold argS at h0
   cases h:zgV s with
   | true=>rfl
   | false=>rw [h,if_pos rfl] at h0;cases h0
  obtain ⟨k,rfl⟩:∃k:Nat,root=k:=⟨root.toNat,by omega⟩
  rw [itT (by simp [h0]),zrV (by omega) hb hd,sb,itT (by rfl),(zwv hr fuel).1 x k (by omega) hf hb hsm,sb,sb,hrs,Bool.true_and]
 ·rw [itF (by simp [h0]),sb]
  congr 1
  symm
  cases hrs:zgV s
  ·rfl
  ·rw [Bool.true_and,zjI]
   unfold argS at h0
   rw [if_neg (by rw [hrs];simp)] at h0
   rw [decide_eq_false (by split at h0<;>omega)];rfl
end Go.Proofs.YtcbkcblkecmjnaaGreat
namespace Go.Proofs.YtcbkcblkecmjnaaGreat
open Go
set_option linter.unusedVariables false
theorem zDd {k:Int} (hk:kNum k=true) {v:List UInt8} (hf:zeX (zcX k) v=true):pcs k v=([v],0):=by
 have hk':=zhu.1 hk
 have hu:zjY k v= .inr v.length∧v≠[]:=by
  unfold zjY
  unfold zeX zcX at hf
  by_cases h9:k<9
  ·rw [if_neg (show ¬15≤k by omega),if_neg (show ¬12≤k by omega),if_neg (show ¬9≤k by omega),if_pos rfl] at hf
   obtain ⟨h1,h2⟩:=of_decide_eq_true hf
   obtain ⟨b1,b2,b3,b4,b5,b6,b7⟩:=zgT v
   have hp:=b7 h1
   rw [if_pos h9,if_neg (by simpa using h1),h2]
   refine ⟨by simp,fun e=>?_⟩
   subst e
   simp at h2
   omega
  ·rw [if_neg h9]
   by_cases h12:k<12
   ·rw [if_neg (show ¬15≤k by omega),if_neg (show ¬12≤k by omega),if_pos (show 9≤k by omega),if_neg (by omega)] at hf
    have hf':=of_decide_eq_true hf
    have hl:v.length=4:=by omega
    rw [if_pos h12,if_neg (by omega),hl]
    exact ⟨rfl,fun e=>by rw [e] at hl;simp at hl⟩
   ·rw [if_neg (show ¬15≤k by omega),if_pos (show 12≤k by omega),if_neg (by omega)] at hf
    have hf':=of_decide_eq_true hf
    have hl:v.length=8:=by omega
    rw [if_neg h12,if_neg (by omega),hl]
    exact ⟨rfl,fun e=>by rw [e] at hl;simp at hl⟩
 rw [zls hu.2 hu.1,List.take_length,List.drop_length,znM]
theorem ztK {k:Int} (hk:kNum k=true) {v:List UInt8} (hf:zeX (zcX k) v=true):zbj k v=([(zmx k v).1],0):=by
 unfold zbj
 rw [if_neg (by rw [hk];simp),zDd hk hf,if_pos rfl,zlx hk hf]
 rfl
end Go.Proofs.YtcbkcblkecmjnaaGreat
namespace Go.Proofs.YtcbkcblkecmjnaaGreat
open Go
set_option linter.unusedVariables false
def zdW (f:Fld) (T:List Th):List Th:=if f.Repeated=true then T else T.drop (T.length - 1)
def valT (g:Int→List UInt8→Msg) (f:Fld) (T:List Th):Vlu:=
 if f.Kind=17 then ⟨f.Number,[],[],if f.Repeated=true then T.map fun t=>g f.Of t.val else [g f.Of (T.flatMap (·.val))]⟩
 else if f.Kind=15∨f.Kind=16 then ⟨f.Number,[],(zdW f T).map (·.val),[]⟩
 else ⟨f.Number,(zdW f T).flatMap (fun t=>(zbj f.Kind t.val).1),[],[]⟩
theorem ziN (g:Int→List UInt8→Msg) (f:Fld) (i:Int):∀(l:List Th) (a:zcF),accF g f i a l=(l.filter fun t=>t.fi==i).foldl (stp g f) a
 | [],a=>rfl
 | t::l,a=>by
  rw [accF,List.filter_cons]
  by_cases h:t.fi=i
  ·rw [if_pos h,if_pos (by simpa using h),List.foldl_cons];exact ziN g f i l _
  ·rw [if_neg h,if_neg (by simpa using h)];exact ziN g f i l _
def OkF (f:Fld) (t:Th):Prop:=(t.run=true→kNum f.Kind=true∧f.Repeated=true)∧(t.run=false→zbH f.Kind=true∧zeX (zcX f.Kind) t.val=true)
theorem ztr {f:Fld} {t u:Th} {T:List Th}:zdW f (t::u::T)=if f.Repeated=true then t::u::T else zdW f (u::T):=by
 unfold zdW
 cases f.Repeated<;>simp
theorem zvC (g:Int→List UInt8→Msg) {f:Fld} (hk:kNum f.Kind=true):∀(T:List Th) (a:zcF),T≠[]→(∀t∈T,OkF f t)→
  T.foldl (stp g f) a=(a.1,true,(if f.Repeated=true then a.2.2.1 else [])++(zdW f T).flatMap (fun t=>(zbj f.Kind t.val).1),(if f.Repeated=true then a.2.2.2.1 else []),a.2.2.2.2)
 | [],a,h,_=>absurd rfl h
 | [t],a,_,ht=>by
  obtain ⟨h1,h2⟩:=ht t List.mem_cons_self
  have hp:zdW f [t]=[t]:=by unfold zdW;simp
  rw [hp,List.foldl_cons,List.foldl_nil]
  unfold stp
  cases hr:t.run
  ·rw [if_neg (by simp),if_pos hk,List.flatMap_singleton,ztK hk (h2 hr).2]
  ·rw [if_pos rfl,List.flatMap_singleton]
 | t::u::T,a,_,ht=>by
  obtain ⟨h1,h2⟩:=ht t List.mem_cons_self
  have hst:stp g f a t=(a.1,true,(if f.Repeated=true then a.2.2.1 else [])++(zbj f.Kind t.val).1,(if f.Repeated=true then a.2.2.2.1 else []),a.2.2.2.2):=by
   unfold stp
   cases hr:t.run
   ·rw [if_neg (by simp),if_pos hk,ztK hk (h2 hr).2]
   ·rw [if_pos rfl]
  rw [List.foldl_cons,hst,zvC g hk (u::T) _ (by simp) fun x hx=>ht x (List.mem_cons_of_mem _ hx),ztr]
  cases hr:f.Repeated
  ·simp
  ·have hp:zdW f (u::T)=u::T:=by unfold zdW;rw [if_pos hr]
   rw [hp];simp
theorem zsZ (g:Int→List UInt8→Msg) {f:Fld} (hk:kNum f.Kind=false) (h17:f.Kind≠17):∀(T:List Th) (a:zcF),T≠[]→(∀t∈T,OkF f t)→
  T.foldl (stp g f) a=(a.1,true,(if f.Repeated=true then a.2.2.1 else []),(if f.Repeated=true then a.2.2.2.1 else [])++(zdW f T).map (·.val),a.2.2.2.2)
 | [],a,h,_=>absurd rfl h
 | [t],a,_,ht=>by
  obtain ⟨h1,h2⟩:=ht t List.mem_cons_self
  have hp:zdW f [t]=[t]:=by unfold zdW;simp
  have hr:t.run=false:=by
   cases hr:t.run
   ·rfl
   ·have:=(h1 hr).1;rw [hk] at this;cases this
  rw [hp,List.foldl_cons,List.foldl_nil]
  unfold stp
  rw [hr,if_neg (by simp),if_neg (by rw [hk];simp),if_neg (fun h=>h17 h.1),if_neg h17]
  rfl
 | t::u::T,a,_,ht=>by
  obtain ⟨h1,h2⟩:=ht t List.mem_cons_self
  have hr:t.run=false:=by
   cases hr:t.run
   ·rfl
   ·have:=(h1 hr).1;rw [hk] at this;cases this
  have hst:stp g f a t=(a.1,true,(if f.Repeated=true then a.2.2.1 else []),(if f.Repeated=true then a.2.2.2.1 else [])++[t.val],a.2.2.2.2):=by
   unfold stp
   rw [hr,if_neg (by simp),if_neg (by rw [hk];simp),if_neg (fun h=>h17 h.1),if_neg h17]
  rw [List.foldl_cons,hst,zsZ g hk h17 (u::T) _ (by simp) fun x hx=>ht x (List.mem_cons_of_mem _ hx),ztr]
  cases hr:f.Repeated
  ·simp
  ·have hp:zdW f (u::T)=u::T:=by unfold zdW;rw [if_pos hr]
   rw [hp];simp
theorem zsY (g:Int→List UInt8→Msg) {f:Fld} (h17:f.Kind=17) (hr:f.Repeated=true):∀(T:List Th) (a:zcF),(∀t∈T,OkF f t)→(T≠[]∨a.2.1=true)→
  T.foldl (stp g f) a=(a.1,true,a.2.2.1,a.2.2.2.1,a.2.2.2.2++T.map fun t=>g f.Of t.val)
 | [],a,_,h=>by
  rcases h with h| h
  ·exact absurd rfl h
  ·obtain ⟨a1,a2,a3,a4,a5⟩:=a
   simp only at h
   subst h
   simp
 | t::T,a,ht,_=>by
  obtain ⟨h1,h2⟩:=ht t List.mem_cons_self
  have hrn:t.run=false:=by
   cases hr:t.run
   ·rfl
   ·have:=(h1 hr).1;rw [h17] at this;cases this
  have hst:stp g f a t=(a.1,true,a.2.2.1,a.2.2.2.1,a.2.2.2.2++[g f.Of t.val]):=by
   unfold stp
   rw [hrn,if_neg (by simp),if_neg (by rw [h17];decide),if_pos ⟨h17,hr⟩,if_pos hr,if_pos hr]
  rw [List.foldl_cons,hst,zsY g h17 hr T _ (fun x hx=>ht x (List.mem_cons_of_mem _ hx)) (.inr rfl)]
  simp
theorem zvD (g:Int→List UInt8→Msg) {f:Fld} (h17:f.Kind=17) (hr:f.Repeated=false):∀(T:List Th) (a:zcF),(∀t∈T,OkF f t)→T≠[]→
  T.foldl (stp g f) a=(a.1++T.flatMap (·.val),true,[],[],a.2.2.2.2)
 | [],a,_,h=>absurd rfl h
 | [t],a,ht,_=>by
  obtain ⟨h1,h2⟩:=ht t List.mem_cons_self
  have hrn:t.run=false:=by
   cases hr:t.run
   ·rfl
   ·have:=(h1 hr).1;rw [h17] at this;cases this
  rw [List.foldl_cons,List.foldl_nil]
  unfold stp
  rw [hrn,if_neg (by simp),if_neg (by rw [h17];decide),if_neg (by rw [hr];simp),if_pos h17,hr]
  simp
 | t::u::T,a,ht,_=>by
  obtain ⟨h1,h2⟩:=ht t List.mem_cons_self
  have hrn:t.run=false:=by
   cases hr:t.run
   ·rfl
   ·have:=(h1 hr).1;rw [h17] at this;cases this
  have hst:stp g f a t=(a.1++t.val,true,[],[],a.2.2.2.2):=by
   unfold stp
   rw [hrn,if_neg (by simp),if_neg (by rw [h17];decide),if_neg (by rw [hr];simp),if_pos h17,hr]
   simp
  rw [List.foldl_cons,hst,zvD g h17 hr (u::T) _ (fun x hx=>ht x (List.mem_cons_of_mem _ hx)) (by simp)]
  simp
theorem zEA (g:Int→List UInt8→Msg) {f:Fld} (hkr:zbH f.Kind=true) {T:List Th} (hT:T≠[]) (ht:∀t∈T,OkF f t):valO g f (T.foldl (stp g f) acc0)=valT g f T:=by
 unfold valT
 by_cases h17:f.Kind=17
 ·rw [if_pos h17]
  cases hr:f.Repeated
  ·rw [zvD g h17 hr T acc0 ht hT]
   unfold valO
   rw [if_pos ⟨rfl,h17,hr⟩]
   simp [acc0]
  ·rw [zsY g h17 hr T acc0 ht (.inl hT)]
   unfold valO
   rw [if_neg (by rw [hr];simp)]
   simp [acc0]
 ·rw [if_neg h17]
  by_cases hx:f.Kind=15∨f.Kind=16
  ·rw [if_pos hx,zsZ g (by unfold kNum;simp;omega) h17 T acc0 hT ht]
   unfold valO
   simp only
   rw [if_neg (show ¬(True∧f.Kind=17∧f.Repeated=false) from fun h=>h17 h.2.1)]
   cases f.Repeated<;>simp [acc0]
  ·have hk:kNum f.Kind=true:=by unfold zbH at hkr;unfold kNum;simp at hkr⊢;omega
   rw [if_neg hx,zvC g hk T acc0 hT ht]
   unfold valO
   simp only
   rw [if_neg (show ¬(True∧f.Kind=17∧f.Repeated=false) from fun h=>h17 h.2.1)]
   cases f.Repeated<;>simp [acc0]
theorem zzV {α:Type} (l:List α) (m:Nat) (d x:α):(l++List.replicate (m+1) d).set l.length x=(l++[x])++List.replicate m d:=by
 rw [List.set_append_right _ _ (Nat.le_refl _),Nat.sub_self,List.replicate_succ,List.set_cons_zero,List.append_assoc];rfl
theorem zuk {α:Type} (l:List α) (d:α) (F:List α→Int→Option (List α)) (h0:F l (l.length:Int)=some l)
  (hs:∀(i:Nat) (h:i<l.length),F (l.take i++List.replicate (l.length - i) d) (i:Int)=F (l.take (i+1)++List.replicate (l.length - (i+1)) d) ((i+1:Nat):Int)):
  ∀(c i:Nat),i+c=l.length→F (l.take i++List.replicate (l.length - i) d) (i:Int)=some l
 | 0,i,h=>by
  have hi:i=l.length:=by omega
  rw [hi,List.take_length,Nat.sub_self,List.replicate_zero,List.append_nil];exact h0
 | c+1,i,h=>by rw [hs i (by omega)];exact zuk l d F h0 hs c (i+1) (by omega)
theorem zqT {α:Type} (l:List α) (d:α) (i:Nat) (h:i<l.length):(l.take i++List.replicate (l.length - i) d).set i l[i]=l.take (i+1)++List.replicate (l.length - (i+1)) d:=by
 have hl:(l.take i).length=i:=by rw [List.length_take];omega
 have e:=zzV (l.take i) (l.length - (i+1)) d l[i]
 rw [hl,show l.length - (i+1)+1=l.length - i by omega] at e
 rw [e,List.take_succ_eq_append_getElem h]
def At14 (b:List UInt8) (L:List Vw):Prop:=∀t∈L,0≤t.R.From∧t.R.From<t.R.At∧t.R.At≤t.R.To∧t.R.To≤b.length
theorem zud {b:List UInt8} {L:List Vw} (h:At14 b L) {t:Vw} (ht:t∈L):cut b t.R.At t.R.To=some (valB b t.R):=by
 obtain ⟨r1,r2,r3,r4⟩:=h t ht
 obtain ⟨x,hx1⟩:∃x:Nat,t.R.At=x:=⟨t.R.At.toNat,by omega⟩
 obtain ⟨y,hy1⟩:∃x:Nat,t.R.To=x:=⟨t.R.To.toNat,by omega⟩
 rw [zgM hx1 hy1 (by omega) (by omega)];unfold valB;rw [hx1,hy1];simp only [Int.toNat_natCast]
theorem zCC {b:List UInt8} {L:List Vw} (h:At14 b L) {t:Vw} (ht:t∈L):cut b t.R.From t.R.To=some (rawB b t.R):=by
 obtain ⟨r1,r2,r3,r4⟩:=h t ht
 obtain ⟨x,hx1⟩:∃x:Nat,t.R.From=x:=⟨t.R.From.toNat,by omega⟩
 obtain ⟨y,hy1⟩:∃x:Nat,t.R.To=x:=⟨t.R.To.toNat,by omega⟩
 rw [zgM hx1 hy1 (by omega) (by omega)];unfold rawB;rw [hx1,hy1];simp only [Int.toNat_natCast]
theorem zqg {L:List Vw} {i:Nat} (h:i<L.length):idx (L.map prV) (i:Int)=some (prV L[i]):=by
 rw [zan rfl (show i<(L.map prV).length by simpa using h)];simp
theorem zCf {b:List UInt8} {L:List Vw} (hL:L.length≤1048576) (hat:At14 b L):ziF b (L.map prV)=some (L.map fun t=>valB b t.R):=by
 unfold ziF
 rw [zoN (a:=L.length) (by simp) (Int.le_refl _) (by simp;omega),sb]
 have hlen:(L.map fun t=>valB b t.R).length=L.length:=by simp
 have h:=zuk (L.map fun t=>valB b t.R) ([]:Str) (fun a i=>zeM b (L.map prV) a i) (by
   refine zoh ?_
   unfold zci
   rw [itF (by simp)])
  (fun i hi=>by
   have hil:i<L.length:=by simpa using hi
   refine zog ?_
   unfold zci
   have hc:=zud hat (List.getElem_mem hil)
   rw [itT (by simp;omega),zqg hil,sb]
   have e1:(prV L[i]).Record.At=L[i].R.At:=rfl
   have e2:(prV L[i]).Record.To=L[i].R.To:=rfl
   have e3:=zqT (L.map fun t=>valB b t.R) ([]:Str) i hi
   rw [List.getElem_map] at e3
   rw [e1,e2,hc,sb,zan rfl (show i<_ by rw [List.length_append,List.length_take,List.length_replicate];omega),sb,Int.toNat_natCast,e3,zW (by omega)]
   push_cast;rfl) L.length 0 (by simp)
 rw [hlen,List.take_zero,List.nil_append,Nat.sub_zero] at h
 have h':zeM b (L.map prV) (List.replicate L.length []) 0=_:=h
 rw [h',sb]
theorem zAf {k:Int} {b:List UInt8} (hb:b.length≤1048576) {L:List Vw} (hL:L.length≤1048576) (hat:At14 b L) (hw:(L.flatMap fun t=>(zbj k (valB b t.R)).1).length≤1048576):
  ziG k b (L.map prV)=some (L.flatMap fun t=>(zbj k (valB b t.R)).1):=by
 unfold ziG
 have key:∀(post pre:List Vw),L=pre++post→zeN b k (L.map prV) (pre.flatMap fun t=>(zbj k (valB b t.R)).1) pre.length=some (L.flatMap fun t=>(zbj k (valB b t.R)).1):=by
  intro post
  induction post with
  | nil=>
   intro pre e
   rw [List.append_nil] at e
   subst e
   refine zoj ?_
   unfold zcj
   rw [itF (by simp)]
  | cons t post ih=>
   intro pre e
   have hlt:pre.length<L.length:=by rw [e];simp
   have hti:L[pre.length]=t:=by
    subst e;simp
   have ht:t∈L:=by rw [e];simp
   obtain ⟨r1,r2,r3,r4⟩:=hat t ht
   have hvl:=zDs b t.R r3 r1 r2 r4
   have e2:(L.flatMap fun t=>(zbj k (valB b t.R)).1)=(pre.flatMap fun t=>(zbj k (valB b t.R)).1)++((zbj k (valB b t.R)).1++post.flatMap fun t=>(zbj k (valB b t.R)).1):=by rw [e];simp
   have hsum:=congrArg List.length e2
   rw [List.length_append,List.length_append] at hsum
   refine (zoi (all':=(pre++[t]).flatMap fun t=>(zbj k (valB b t.R)).1) (v':=(((pre++[t]).length:Nat):Int)) ?_).trans (ih (pre++[t]) (by rw [e];simp))
   unfold zcj
   have hc:=zud hat ht
   rw [itT (by simp;omega),zqg hlt,sb,hti]
   have e1:(prV t).Record.At=t.R.At:=rfl
   have e2:(prV t).Record.To=t.R.To:=rfl
   rw [e1,e2,hc,sb,zzS k (by omega),sb,zgm (by omega),sb,zW (by omega),List.flatMap_append,List.flatMap_singleton,List.length_append,List.length_singleton]
   push_cast;rfl
 have h:=key L [] rfl
 have h':zeN b k (L.map prV) [] 0=_:=h
 rw [h',sb]
theorem zwr {b:List UInt8} {L:List Vw} (hL:L.length≤1048576) (hat:At14 b L):zfn b (L.map prV) (List.replicate L.length []) 0=some (L.map fun t=>valB b t.R):=by
 have hlen:(L.map fun t=>valB b t.R).length=L.length:=by simp
 have h:=zuk (L.map fun t=>valB b t.R) ([]:List UInt8) (fun a i=>zfn b (L.map prV) a i) (by
   refine zpl ?_
   unfold zcN
   rw [itF (by simp)])
  (fun i hi=>by
   have hil:i<L.length:=by simpa using hi
   refine zpk ?_
   unfold zcN
   have hc:=zud hat (List.getElem_mem hil)
   rw [itT (by simp;omega),zqg hil,sb]
   have e1:(prV L[i]).Record.At=L[i].R.At:=rfl
   have e2:(prV L[i]).Record.To=L[i].R.To:=rfl
   have e3:=zqT (L.map fun t=>valB b t.R) ([]:List UInt8) i hi
   rw [List.getElem_map] at e3
   rw [e1,e2,hc,sb,zan rfl (show i<_ by rw [List.length_append,List.length_take,List.length_replicate];omega),sb,Int.toNat_natCast,e3,zW (by omega)]
   push_cast;rfl) L.length 0 (by simp)
 rw [hlen,List.take_zero,List.nil_append,Nat.sub_zero] at h
 exact h
theorem zpf {rec:List zi→Int→List UInt8→Option ze} {g:Int→List UInt8→Msg} {s:List Mes} {f:Fld} {p:List (List UInt8)} (hp:p.length≤1048576) (hg:∀v∈p,rec s f.Of v=some (g f.Of v)):
  zdT f p rec s (List.replicate p.length ⟨[],[]⟩) 0=some (p.map (g f.Of)):=by
 have hlen:(p.map (g f.Of)).length=p.length:=by simp
 have h:=zuk (p.map (g f.Of)) (⟨[],[]⟩:Msg) (fun a i=>zdT f p rec s a i) (by
   refine zpn ?_
   unfold zcO
   rw [itF (by simp)])
  (fun i hi=>by
   have hil:i<p.length:=by simpa using hi
   refine zpm ?_
   unfold zcO
   have e3:=zqT (p.map (g f.Of)) (⟨[],[]⟩:Msg) i hi
   rw [List.getElem_map] at e3
   rw [itT (by simp;omega),zan rfl hil,sb,hg _ (List.getElem_mem hil),sb,zan rfl (show i<_ by rw [List.length_append,List.length_take,List.length_replicate];omega),sb,Int.toNat_natCast,e3,zW (by omega)]
   push_cast;rfl) p.length 0 (by simp)
 rw [hlen,List.take_zero,List.nil_append,Nat.sub_zero] at h
 exact h
def kn14 (acc:List (Int×List PVw)) (v:Vw):List (Int×List PVw):=if v.Field= -1 then acc else mput acc v.R.Number ((mget acc v.R.Number).getD []++[prV v])
def zeb (L:List Vw) (n:Int):List Vw:=L.filter fun v=>decide (v.Field≠ -1∧v.R.Number=n)
theorem zxm (n:Int):∀(L:List Vw) (acc:List (Int×List PVw)),(mget (L.foldl kn14 acc) n).getD []=(mget acc n).getD []++(zeb L n).map prV
 | [],acc=>by simp [zeb]
 | v::L,acc=>by
  rw [List.foldl_cons,zxm n L]
  unfold zeb kn14
  rw [List.filter_cons]
  by_cases hf:v.Field= -1
  ·rw [if_pos hf,if_neg (by simp [hf])]
  ·rw [if_neg hf,zgQ]
   by_cases hn:n=v.R.Number
   ·rw [if_pos hn,if_pos (by simp [hf,hn]),hn]
    simp
   ·rw [if_neg hn,if_neg (by simp;exact fun _ e=>hn e.symm)]
theorem zBv {κ ν:Type} [DecidableEq κ] {m:List (κ×ν)} {k:κ} {x:ν} (h:mget m k=some x):k∈m.map Prod.fst:=by
 induction m with
 | nil=>cases h
 | cons p m ih=>
  rw [mget] at h
  split at h
  ·rename_i e;rw [e];exact List.mem_cons_self
  ·exact List.mem_cons_of_mem _ (ih h)
theorem zuy {κ ν:Type} [DecidableEq κ] (m:List (κ×ν)) (k j:κ) (x:ν):j∈(mput m k x).map Prod.fst↔j∈m.map Prod.fst∨j=k:=by
 rw [zjE]
 cases h:mget m k with
 | none=>simp
 | some y=>
  simp only
  exact ⟨.inl,fun h'=>h'.elim id fun e=>e▸zBv h⟩
theorem zyv (n:Int):∀(L:List Vw) (acc:List (Int×List PVw)),n∈(L.foldl kn14 acc).map Prod.fst↔n∈acc.map Prod.fst∨∃v∈L,v.Field≠ -1∧v.R.Number=n
 | [],acc=>by simp
 | v::L,acc=>by
  rw [List.foldl_cons,zyv n L]
  unfold kn14
  by_cases hf:v.Field= -1
  ·rw [if_pos hf]
   constructor
   ·rintro (h| ⟨u,hu,h⟩)
    ·exact .inl h
    ·exact .inr ⟨u,List.mem_cons_of_mem _ hu,h⟩
   ·rintro (h| ⟨u,hu,h⟩)
    ·exact .inl h
    ·rcases List.mem_cons.1 hu with rfl| hu
     ·exact absurd hf h.1
     ·exact .inr ⟨u,hu,h⟩
  ·rw [if_neg hf,zuy]
   constructor
   ·rintro ((h| h)| ⟨u,hu,h⟩)
    ·exact .inl h
    ·exact .inr ⟨v,List.mem_cons_self,hf,h.symm⟩
    ·exact .inr ⟨u,List.mem_cons_of_mem _ hu,h⟩
   ·rintro (h| ⟨u,hu,h⟩)
    ·exact .inl (.inl h)
    ·rcases List.mem_cons.1 hu with rfl| hu
     ·exact .inl (.inr h.2.symm)
     ·exact .inr ⟨u,hu,h⟩
theorem zvU:∀(L:List Vw) (acc:List (Int×List PVw)),(acc.map Prod.fst).Nodup→((L.foldl kn14 acc).map Prod.fst).Nodup
 | [],acc,h=>h
 | v::L,acc,h=>by
  rw [List.foldl_cons]
  refine zvU L _ ?_
  unfold kn14
  split
  ·exact h
  ·exact zmP h _ _
theorem zBx {κ ν:Type} [DecidableEq κ] (m:List (κ×ν)) (k:κ) (x:ν):(mput m k x).length≤m.length+1:=by
 have h:=congrArg List.length (zjE m k x)
 rw [List.length_map] at h
 rw [h]
 split<;>simp
theorem zxn:∀(L:List Vw) (acc:List (Int×List PVw)),(L.foldl kn14 acc).length≤acc.length+L.length
 | [],acc=>by simp
 | v::L,acc=>by
  rw [List.foldl_cons]
  have h:=zxn L (kn14 acc v)
  have h2:(kn14 acc v).length≤acc.length+1:=by
   unfold kn14
   split
   ·omega
   ·exact zBx _ _ _
  rw [List.length_cons];omega
theorem zum {b:List UInt8} {L:List Vw} (hL:L.length≤1048576) (hat:At14 b L) (hneg:∀v∈L,v.Field= -1∨0≤v.Field) (x:Int×Int):∀(post pre:List Vw),L=pre++post→
  zdH b (L.map prV,x) (pre.foldl kn14 []) pre.length (unkO (pre.map (thOf b)))=some (L.foldl kn14 [],unkO (L.map (thOf b))):=by
 intro post
 induction post with
 | nil=>
  intro pre e
  rw [List.append_nil] at e
  subst e
  refine zmo ?_
  unfold zbz
  rw [itF (by simp)]
 | cons v post ih=>
  intro pre e
  have hlt:pre.length<L.length:=by rw [e];simp
  have hti:L[pre.length]=v:=by subst e;simp
  have hv:v∈L:=by rw [e];simp
  have hx:idx (L.map prV) (pre.length:Nat)=some (prV v):=by rw [zqg hlt,hti]
  have hfi:(prV v).Field=v.Field:=rfl
  have hun:(unkO (pre.map (thOf b))).length≤pre.length:=by
   unfold unkO
   rw [List.length_map]
   exact Nat.le_trans (List.length_filter_le _ _) (by simp)
  have hw:IntKind.i64.wrap (((pre.length:Nat):Int)+1)=(((pre++[v]).length:Nat):Int):=by rw [zW (by omega),List.length_append,List.length_singleton];push_cast;rfl
  have hF:=(hat v hv)
  by_cases hf:v.Field= -1
  ·refine (zhS (known':=(pre++[v]).foldl kn14 []) (v':=(((pre++[v]).length:Nat):Int)) (f':=unkO ((pre++[v]).map (thOf b))) ?_).trans (ih (pre++[v]) (by rw [e];simp))
   unfold zbz
   have e1:(prV v).Record.From=v.R.From:=rfl
   have e2:(prV v).Record.To=v.R.To:=rfl
   have hu:unkO ((pre++[v]).map (thOf b))=unkO (pre.map (thOf b))++[rawB b v.R]:=by
    unfold unkO
    rw [List.map_append,List.filter_append,List.map_append]
    congr 1
    rw [List.map_singleton,List.filter_cons,if_pos (by show decide (v.Field<0)=true;rw [hf];rfl)]
    rfl
   have hk:(pre++[v]).foldl kn14 []=pre.foldl kn14 []:=by rw [List.foldl_append,List.foldl_cons,List.foldl_nil];unfold kn14;rw [if_pos hf]
   rw [itT (by simp;omega),hx,sb,itT (by rw [hfi,hf];rfl),e1,e2,zCC hat hv,sb,zgm (by simp;omega),sb,hw,hu,hk]
  ·refine (zhS (known':=(pre++[v]).foldl kn14 []) (v':=(((pre++[v]).length:Nat):Int)) (f':=unkO ((pre++[v]).map (thOf b))) ?_).trans (ih (pre++[v]) (by rw [e];simp))
   unfold zbz
   have e1:(prV v).Record.Number=v.R.Number:=rfl
   have hg:=zxm v.R.Number pre []
   have hlen:((mget (pre.foldl kn14 []) v.R.Number).getD []).length≤pre.length:=by
    rw [hg]
    have:(zeb pre v.R.Number).length≤pre.length:=List.length_filter_le _ _
    simpa [mget] using this
   have hk:(pre++[v]).foldl kn14 []=mput (pre.foldl kn14 []) v.R.Number ((mget (pre.foldl kn14 []) v.R.Number).getD []++[prV v]):=by rw [List.foldl_append,List.foldl_cons,List.foldl_nil];show kn14 (pre.foldl kn14 []) v=_;unfold kn14;rw [if_neg hf]
   rw [itT (by simp;omega),hx,sb,itF (by rw [hfi];simpa using hf),e1,zgm (by simp only [List.length_singleton];omega),sb,hw,hk]
   have hu:unkO ((pre++[v]).map (thOf b))=unkO (pre.map (thOf b)):=by
    unfold unkO
    rw [List.map_append,List.filter_append,List.map_append,List.map_singleton,List.filter_cons,if_neg (by show ¬decide (v.Field<0)=true;have:=(hneg v hv).resolve_left hf;simp;omega)]
    simp
   rw [hu]
theorem zvR {L:List Vw} (hwf:∀v∈L,v.Field≠ -1→(Lit.int .i64 v.R.Number).wf=true) (hL:L.length≤1048576):
  ∃ks,zny (L.foldl kn14 [])=some ks∧ks.Pairwise (·<·)∧∀n,n∈ks↔∃v∈L,v.Field≠ -1∧v.R.Number=n:=by
 have hlen:=zxn L []
 have hnd:=zvU L [] (by simp)
 have hk:=fun n=>zyv n L []
 generalize L.foldl kn14 []=K at hlen hnd hk
 refine ⟨(K.map Prod.fst).mergeSort fun x y=>decide (x≤y),?_,?_,fun n=>?_⟩
 ·have hall:(K.all fun p=>(Lit.int .i64 p.1).wf)=true:=by
   rw [List.all_eq_true]
   intro p hp
   obtain h| ⟨v,hv,hf,hn⟩:=(hk p.1).1 (List.mem_map_of_mem hp)
   ·simp at h
   ·rw [←hn];exact hwf v hv hf
  have hl:K.length*8≤140737488355328:=by rw [List.length_nil] at hlen;omega
  unfold zny
  rw [if_pos ⟨hall,hl⟩]
 ·have hp:=List.mergeSort_perm (K.map Prod.fst) fun x y=>decide (x≤y)
  have hs:=List.pairwise_mergeSort (le:=fun x y:Int=>decide (x≤y)) (fun a b c h k=>by simp at*;omega) (fun a b=>by simp;omega) (K.map Prod.fst)
  have hnd':=hp.nodup_iff.2 hnd
  generalize (K.map Prod.fst).mergeSort (fun x y=>decide (x≤y))=ks at hs hnd'
  refine (List.Pairwise.and hs hnd').imp fun {a b} h=>?_
  have h1:a≤b:=by simpa using h.1
  have h2:a≠b:=h.2
  omega
 ·rw [List.mem_mergeSort,hk n]
  simp
theorem zpI:∀(l k:List Int),l.Pairwise (·<·)→k.Pairwise (·<·)→(∀w,w∈l↔w∈k)→l=k
 | [],[],_,_,_=>rfl
 | [],y::k,_,_,h=>absurd ((h y).2 List.mem_cons_self) (by simp)
 | x::l,[],_,_,h=>absurd ((h x).1 List.mem_cons_self) (by simp)
 | x::l,y::k,hl,hk,h=>by
  have hl':=List.pairwise_cons.1 hl
  have hk':=List.pairwise_cons.1 hk
  have hxy:x=y:=by
   rcases List.mem_cons.1 ((h x).1 List.mem_cons_self) with h1| h1
   ·exact h1
   ·rcases List.mem_cons.1 ((h y).2 List.mem_cons_self) with h2| h2
    ·exact h2.symm
    ·have a1:=hk'.1 x h1
     have a2:=hl'.1 y h2
     omega
  subst hxy
  congr 1
  refine zpI l k hl'.2 hk'.2 fun w=>?_
  have nl:x∉l:=fun hm=>by have:=hl'.1 x hm;omega
  have nk:x∉k:=fun hm=>by have:=hk'.1 x hm;omega
  have:=h w
  simp only [List.mem_cons] at this
  constructor
  ·intro hw
   rcases this.1 (.inr hw) with rfl| h'
   ·exact absurd hw nl
   ·exact h'
  ·intro hw
   rcases this.2 (.inr hw) with rfl| h'
   ·exact absurd hw nk
   ·exact h'
theorem zqU {α:Type} (vo:Int→α) (p:α→Bool) (met:Int→Bool):∀(o:List Int),(∀i∈o,met i=false→p (vo i)=false)→(o.map vo).filter p=((o.filter met).map vo).filter p
 | [],_=>rfl
 | i::o,h=>by
  have ih:=zqU vo p met o fun j hj=>h j (List.mem_cons_of_mem _ hj)
  rw [List.map_cons,List.filter_cons,List.filter_cons]
  cases hm:met i
  ·rw [h i List.mem_cons_self hm,if_neg (by simp),if_neg (by simp),ih]
  ·rw [if_pos rfl,List.map_cons,List.filter_cons,ih]
def zkE (f:Fld) (L:List Vw):List Vw:=if f.Repeated=true then L else L.drop (L.length - 1)
theorem zoU (b:List UInt8) (f:Fld) (L:List Vw):(zkE f L).map (thOf b)=zdW f (L.map (thOf b)):=by
 unfold zkE zdW
 split
 ·rfl
 ·rw [List.map_drop,List.length_map]
theorem zzI {f:Fld} {L:List Vw}:∀v∈zkE f L,v∈L:=fun v hv=>by
 unfold zkE at hv
 split at hv
 ·exact hv
 ·exact List.mem_of_mem_drop hv
theorem zzH (f:Fld) (L:List Vw):(zkE f L).length≤L.length:=by
 unfold zkE
 split
 ·exact Nat.le_refl _
 ·rw [List.length_drop];omega
theorem zuo:∀(T:List Th),(T.flatMap (·.val)).length+T.length≤wt T
 | []=>by simp [wt]
 | t::T=>by have:=zuo T;rw [List.flatMap_cons,List.length_append,List.length_cons,wt];omega
theorem zsl (k:Int):∀(T:List Th),(T.flatMap fun t=>(zbj k t.val).1).length≤wt T
 | []=>by simp [wt]
 | t::T=>by have:=zsl k T;have:=ztJ k t.val;rw [List.flatMap_cons,List.length_append,wt];omega
theorem zyO (f:Fld) (T:List Th):wt (zdW f T)≤wt T:=by
 unfold zdW
 split
 ·exact Nat.le_refl _
 ·have:∀(T:List Th) (k:Nat),wt (T.drop k)≤wt T:=fun T=>by
   induction T with
   | nil=>intro k;simp
   | cons t T ih=>
    intro k
    cases k with
    | zero=>simp
    | succ k=>have:=ih k;rw [List.drop_succ_cons,wt];omega
  exact this T _
theorem zCk {rec1:List zi→Int→List UInt8→Option ze} {rec2:List zi→Fld→List UInt8→List PVw→Option (List ze)} {rec3:List zi→Fld→List UInt8→List PVw→Option zb}
  {g:Int→List UInt8→Msg} {s:List Mes} {f:Fld} {b:List UInt8} {L:List Vw} (hat:At14 b L) (hne:L≠[]) (hw:wt (L.map (thOf b))≤1048576)
  (hg1:f.Repeated=true→∀t∈L,rec1 s f.Of (valB b t.R)=some (g f.Of (valB b t.R))) (hg2:f.Repeated=false→rec1 s f.Of ((L.map (thOf b)).flatMap (·.val))=some (g f.Of ((L.map (thOf b)).flatMap (·.val)))):
  zgc rec1 rec2 rec3 s f b (L.map prV)=some (if f.Repeated=true then (L.map (thOf b)).map fun t=>g f.Of t.val else [g f.Of ((L.map (thOf b)).flatMap (·.val))]):=by
 have hL:L.length≤1048576:=by have:=zpr (L.map (thOf b));rw [List.length_map] at this;omega
 have hfl:((L.map fun t=>valB b t.R).flatten)=(L.map (thOf b)).flatMap (·.val):=by
  rw [List.flatMap_map,List.flatMap_def];rfl
 have hflen:=zuo (L.map (thOf b))
 unfold zgc
 rw [zoN (a:=L.length) (by simp) (Int.le_refl _) (by simp;omega),sb,zwr hL hat,sb]
 cases hr:f.Repeated
 ·by_cases h1:1<L.length
  ·rw [itT (by simp;omega),zzj (by simp;omega) (by rw [hfl];omega),sb,sb,zoN (bytes:=48) (a:=1) (by simp) (Int.le_refl _) (by simp),sb]
   have h:=zpf (rec:=rec1) (g:=g) (s:=s) (f:=f) (p:=[(L.map fun t=>valB b t.R).flatten]) (by simp) (fun v hv=>by
    simp only [List.mem_cons,List.not_mem_nil,or_false] at hv
    rw [hv,hfl];exact hg2 hr)
   have h':zdT f [(L.map fun t=>valB b t.R).flatten] rec1 s (List.replicate 1 ⟨[],[]⟩) 0=_:=h
   rw [h',sb,if_neg (by simp),List.map_singleton,hfl]
  ·have hl1:L.length=1:=by
    have:L.length≠0:=fun e=>hne (List.eq_nil_of_length_eq_zero e)
    omega
   obtain ⟨t,rfl⟩:=List.length_eq_one_iff.1 hl1
   rw [itF (by simp),sb,zoN (bytes:=48) (a:=1) (by simp) (Int.le_refl _) (by simp),sb]
   have hv1:([t].map (thOf b)).flatMap (·.val)=valB b t.R:=by simp [thOf]
   have h:=zpf (rec:=rec1) (g:=g) (s:=s) (f:=f) (p:=[valB b t.R]) (by simp) (fun v hv=>by
    simp only [List.mem_cons,List.not_mem_nil,or_false] at hv
    rw [hv]
    have:=hg2 hr
    rw [hv1] at this;exact this)
   have h':zdT f (List.map (fun t=>valB b t.R) [t]) rec1 s (List.replicate 1 ⟨[],[]⟩) 0=_:=h
   rw [h',sb,if_neg (by simp),hv1,List.map_singleton]
 ·rw [itF (by rfl),sb,zoN (a:=L.length) (by simp) (Int.le_refl _) (by simp;omega),sb]
  have h:=zpf (rec:=rec1) (g:=g) (s:=s) (f:=f) (p:=L.map fun t=>valB b t.R) (by simpa using hL) (fun v hv=>by
   obtain ⟨t,ht,rfl⟩:=List.mem_map.1 hv
   exact hg1 hr t ht)
  rw [List.length_map] at h
  rw [h,sb,if_pos rfl,List.map_map,List.map_map]
  rfl
theorem zAe {rec1:List zi→Int→List UInt8→Option ze} {rec2:List zi→Fld→List UInt8→List PVw→Option (List ze)} {rec3:List zi→Fld→List UInt8→List PVw→Option zb}
  {g:Int→List UInt8→Msg} {s:List Mes} {f:Fld} {b:List UInt8} (hb:b.length≤1048576) {L:List Vw} (hat:At14 b L) (hne:L≠[]) (hw:wt (L.map (thOf b))≤1048576)
  (h2:f.Kind=17→rec2 s f b (L.map prV)=some (if f.Repeated=true then (L.map (thOf b)).map fun t=>g f.Of t.val else [g f.Of ((L.map (thOf b)).flatMap (·.val))])):
  zfo rec1 rec2 rec3 s f b (L.map prV)=some (valT g f (L.map (thOf b))):=by
 have hL:L.length≤1048576:=by have:=zpr (L.map (thOf b));rw [List.length_map] at this;omega
 have hl0:L.length≠0:=fun e=>hne (List.eq_nil_of_length_eq_zero e)
 unfold zfo valT
 by_cases h17:f.Kind=17
 ·rw [itF (by simp [h17]),sb,itT (by simp [h17]),h2 h17,sb,if_pos h17]
 ·have hp:(if ((!f.Repeated)&&(f.Kind !=17))=true then (cut (L.map prV) (IntKind.i64.wrap (((L.map prV).length:Int) - 1)) ((L.map prV).length:Int)>>=fun v2=>some v2) else some (L.map prV))=some ((zkE f L).map prV):=by
   unfold zkE
   cases hr:f.Repeated
   ·rw [itT (by simp [h17]),if_neg (by simp)]
    have hc:cut (L.map prV) (IntKind.i64.wrap (((L.map prV).length:Int) - 1)) ((L.map prV).length:Int)=some ((L.drop (L.length - 1)).map prV):=by
     rw [zgM (a:=L.length - 1) (b:=L.length) (by rw [List.length_map,zW (by omega)];omega) (by simp) (by omega) (by simp)]
     rw [List.map_drop,List.take_of_length_le (by simp)]
    rw [hc,sb]
   ·rw [itF (by rfl),if_pos rfl]
  rw [hp,sb,itF (by simp [h17]),if_neg h17]
  have hpw:=zyO f (L.map (thOf b))
  rw [←zoU] at hpw
  have hpl:=zzH f L
  have hpa:At14 b (zkE f L):=fun v hv=>hat v (zzI v hv)
  by_cases hx:f.Kind=15∨f.Kind=16
  ·have hk:(if (f.Kind==15)=true then some (f.Kind==15) else some (f.Kind==16))=some true:=by
    rcases hx with h| h
    ·rw [itT (by simp [h])];simp [h]
    ·rw [itF (by simp [h])];simp [h]
   rw [hk,sb,itT rfl,zCf (by omega) hpa,sb,if_pos hx,←zoU,List.map_map]
   rfl
  ·have hk:(if (f.Kind==15)=true then some (f.Kind==15) else some (f.Kind==16))=some false:=by
    rw [itF (by simp;omega)];simp;omega
   have hfm:((zkE f L).flatMap fun t=>(zbj f.Kind (valB b t.R)).1)=((zkE f L).map (thOf b)).flatMap fun t=>(zbj f.Kind t.val).1:=by rw [List.flatMap_map];rfl
   have hwl:=zsl f.Kind ((zkE f L).map (thOf b))
   rw [hk,sb,itF rfl,zAf hb (by omega) hpa (by rw [hfm];omega),sb,if_neg hx,←zoU,hfm]
theorem zqW {s:List Mes} {e:Nat} {k:Int}:∀(l:List (List UInt8)),(∀v∈l,zaf s e k v=none)→zaf s e k l.flatten=none
 | [],_=>by rw [List.flatten_nil];exact zpx s e k
 | v::l,h=>by
  rw [List.flatten_cons]
  exact (zgn s e k l.flatten (h v List.mem_cons_self)).2 (zqW l fun u hu=>h u (List.mem_cons_of_mem _ hu))
theorem ztL (p:Th→Bool):∀(T:List Th),wt (T.filter p)≤wt T
 | []=>by simp
 | t::T=>by
  have:=ztL p T
  rw [List.filter_cons]
  split
  ·rw [wt,wt];omega
  ·rw [wt];omega
theorem zji {rec3:List zi→Fld→List UInt8→List PVw→Option zb} {s:List Mes} {m:Mes} {b:List UInt8} {q:List (Int×List PVw)×List Str} {V:Int→Vlu} {ks:List Int} (hks:ks.length≤1048576)
  (hrow:∀n∈ks,∃(x:PVw) (f:Fld),idx ((mget q.1 n).getD []) 0=some x∧idx m.Fields x.Field=some f∧rec3 s f b ((mget q.1 n).getD [])=some (V n)∧(V n).Words.length≤1048576∧(V n).Texts.length≤1048576∧(V n).Subs.length≤1048577):
  ∀(c i:Nat) (out:List Vlu),i+c=ks.length→out.length≤i→zdI b q rec3 s ks m i out=some (out++((ks.drop i).map V).filter fun v=>decide (0<zbM v))
 | 0,i,out,hi,_=>by
  have e:ks.drop i=[]:=List.drop_eq_nil_of_le (by omega)
  rw [e]
  refine zmp ?_
  unfold zbA
  rw [itF (by simp;omega)]
  simp
 | c+1,i,out,hi,ho=>by
  have hil:i<ks.length:=by omega
  obtain ⟨x,f,h1,h2,h3,h4,h5,h6⟩:=hrow _ (List.getElem_mem hil)
  rw [List.drop_eq_getElem_cons hil,List.map_cons,List.filter_cons]
  have hx:idx ks (i:Int)=some ks[i]:=zan rfl hil
  have hw:IntKind.i64.wrap ((i:Int)+1)=((i+1:Nat):Int):=by rw [zW (by omega)];push_cast;rfl
  by_cases hp:0<zbM (V ks[i])
  ·rw [if_pos (by simpa using hp)]
   refine (zhT (v6':=((i+1:Nat):Int)) (f3':=out++[V ks[i]]) ?_).trans ?_
   ·unfold zbA
    rw [itT (by simp;omega),hx,sb,h1,sb,h2,sb,h3,sb,zph ⟨by omega,by omega,by omega⟩,sb,itT (by simpa using hp),zgm (by simp only [List.length_singleton];omega),sb,hw]
   ·rw [zji hks hrow c (i+1) _ (by omega) (by simp;omega),List.append_assoc];rfl
  ·rw [if_neg (by simpa using hp)]
   refine (zhT (v6':=((i+1:Nat):Int)) (f3':=out) ?_).trans (zji hks hrow c (i+1) out (by omega) (by omega))
   unfold zbA
   rw [itT (by simp;omega),hx,sb,h1,sb,h2,sb,h3,sb,zph ⟨by omega,by omega,by omega⟩,sb,itF (by simpa using hp),hw]
theorem zCm (g:Int→List UInt8→Msg) (f:Fld) {T:List Th} (h:wt T≤1048576):(valT g f T).Words.length≤1048576∧(valT g f T).Texts.length≤1048576∧(valT g f T).Subs.length≤1048577:=by
 have h1:=zyO f T
 have h2:=zpr (zdW f T)
 have h3:=zsl f.Kind (zdW f T)
 have h4:=zpr T
 unfold valT
 split
 ·refine ⟨by simp,by simp,?_⟩
  simp only
  split
  ·rw [List.length_map];omega
  ·simp
 ·split
  ·refine ⟨by simp,?_,by simp⟩
   simp only [List.length_map];omega
  ·exact ⟨by simp only;omega,by simp,by simp⟩
theorem zrX {s:List Mes} (hs:zfK s) {d n k:Nat} {b:List UInt8} (hk:k<s.length) (hb:b.length≤1048576) (hfi:zaf s d k b=none)
  (hrec:∀e,d=e+1→∀(k':Nat) (v:List UInt8),k'<s.length→v.length≤1048576→zaf s e k' v=none→zdj n s k' v=some (ofM s k' v)):zdj (n+3) s k b=some (ofM s k b):=by
 have hm:idx s (k:Int)=some (zY s k):=by rw [zan rfl hk,zfa hk]
 have hmm:zY s (k:Int)∈s:=by rw [zfa hk];exact List.getElem_mem hk
 have hfew:=hs.few _ hmm
 have hfld:=hs.fld _ hmm
 have hok:=zyX hfi
 have hwt:=zmZ (zY s k) b
 have hris:=znX hs hmm
 have hat9:=fun {i:Int} (h0:0≤i) (h1:i<(zY s (k:Int)).Fields.length)=>znv hs hmm h0 h1
 rw [zjf]
 -- views
 have hvk:∀v∈(zea (zY s (k:Int)) b).1,v.Field= -1∨0≤v.Field∧v.Field<(zY s (k:Int)).Fields.length∧fldI (zY s (k:Int)) v.R.Number=v.Field∧(zX (zY s (k:Int)) v.Field).Number=v.R.Number:=by
  intro v hv
  have h:=(zDr hv).2
  rcases zfi (zY s (k:Int)) v.R.Number v.R.Wire with h1| ⟨h1,_⟩| ⟨i,run,h1,h2,h3⟩
  ·rw [h] at h1;cases h1
  ·rw [h] at h1
   simp only [Sum.inr.injEq,Prod.mk.injEq] at h1
   exact .inl h1.1
  ·rw [h] at h1
   simp only [Sum.inr.injEq,Prod.mk.injEq] at h1
   refine .inr ⟨by omega,by omega,by rw [h2,h1.1],?_⟩
   rcases zgO (zY s (k:Int)) v.R.Number with ⟨g1,_⟩| ⟨j,hj,g1,g2,_⟩
   ·omega
   ·rw [h1.1,←h2,g1,zdK hj,g2]
 have hat:At14 b (zea (zY s (k:Int)) b).1:=fun t ht=>zAr ht
 have hL:(zea (zY s (k:Int)) b).1.length≤1048576:=Nat.le_trans (zDq _ _) hb
 have hths:ths (zY s (k:Int)) b=(zea (zY s (k:Int)) b).1.map (thOf b):=rfl
 have hall:=zDv (m:=zY s (k:Int)) (by omega) hb
 rw [hths] at hok hwt⊢
 generalize zY s (k:Int)=m at hm hmm hfew hfld hok hwt hris hat9 hvk hat hL hall⊢
 show zff (zdj (n+2)) (zmi (n+2)) (zhb (n+2)) s k b=_
 unfold zff
 rw [hm,sb,hall,sb]
 generalize (zea m b).2.1=c1
 generalize (zea m b).2.2=c2
 generalize (zea m b).1=L at hok hwt hvk hat hL⊢
 have hl1:=zum hL hat (fun v hv=>(hvk v hv).imp id fun h=>h.1) (c1,c2) L [] rfl
 have hl1':zdH b (L.map prV,c1,c2) [] 0 []=_:=hl1
 obtain ⟨ks,hks,hkp,hkm⟩:=zvR (L:=L) (fun v hv hf=>by
  obtain ⟨h0,h1,_,h3⟩:=(hvk v hv).resolve_left hf
  obtain ⟨i,hi⟩:∃i:Nat,v.Field=i:=⟨v.Field.toNat,by omega⟩
  have hil:i<m.Fields.length:=by omega
  rw [hi,zdK hil] at h3
  have hfo:=hfld _ (List.getElem_mem hil)
  have:=hfo.lo
  have:=hfo.hi
  exact zAO (by omega)) hL
 rw [hl1',sb,hks,sb]
 have hrowis:∀n,(mget (L.foldl kn14 []) n).getD []=(zeb L n).map prV:=fun n=>by rw [zxm n L []];rfl
 let vo:Int→Vlu:=fun i=>valO (ofM s) (zX m i) (accF (ofM s) (zX m i) i acc0 (L.map (thOf b)))
 -- a field's views
 have hby:∀{i:Int},0≤i→i<m.Fields.length→(zeb L (zX m i).Number).map (thOf b)=(L.map (thOf b)).filter fun t=>t.fi==i:=fun {i} h0 h1=>by
  unfold zeb
  rw [List.filter_map]
  congr 1
  refine List.filter_congr fun v hv=>?_
  show decide (v.Field≠ -1∧v.R.Number=(zX m i).Number)=(v.Field==i)
  rw [Bool.eq_iff_iff,decide_eq_true_iff,beq_iff_eq]
  constructor
  ·rintro ⟨g1,g2⟩
   obtain ⟨_,_,g3,_⟩:=(hvk v hv).resolve_left g1
   rw [←g3,g2,hat9 h0 h1]
  ·intro g
   have g1:v.Field≠ -1:=by omega
   obtain ⟨_,_,_,g4⟩:=(hvk v hv).resolve_left g1
   exact ⟨g1,by rw [←g4,g]⟩
 have hvoT:∀{i:Int},0≤i→i<m.Fields.length→zeb L (zX m i).Number≠[]→vo i=valT (ofM s) (zX m i) ((zeb L (zX m i).Number).map (thOf b))∧∀t∈(zeb L (zX m i).Number).map (thOf b),OkF (zX m i) t∧OkT s d m t∧t.fi=i:=fun {i} h0 h1 hne=>by
  have hT:=hby h0 h1
  have hmem:∀t∈(zeb L (zX m i).Number).map (thOf b),OkF (zX m i) t∧OkT s d m t∧t.fi=i:=fun t ht=>by
   rw [hT,List.mem_filter] at ht
   have hfi':t.fi=i:=by simpa using ht.2
   have ho:=hok t ht.1
   refine ⟨⟨fun hr=>?_,fun hr=>?_⟩,ho,hfi'⟩
   ·have:=ho.run (by omega) hr
    rw [hfi'] at this;exact ⟨this.1,this.2.1⟩
   ·have:=ho.one (by omega) hr
    rw [hfi'] at this;exact ⟨this.1,this.2.1⟩
  refine ⟨?_,hmem⟩
  obtain ⟨j,rfl⟩:∃j:Nat,i=j:=⟨i.toNat,by omega⟩
  have hjl:j<m.Fields.length:=by omega
  have hkr:zbH (zX m (j:Int)).Kind=true:=by rw [zdK hjl];exact (hfld _ (List.getElem_mem hjl)).kind
  show valO _ _ (accF _ _ _ _ _)=_
  rw [ziN,←hT,zEA _ hkr (by simpa using hne) fun t ht=>(hmem t ht).1]
 have hkn:∀n∈ks,∃i:Int,0≤i∧i<m.Fields.length∧(zX m i).Number=n∧fldI m n=i∧zeb L n≠[]∧∀v∈zeb L n,v.Field=i:=fun n hn=>by
  obtain ⟨v,hv,hf,hnn⟩:=(hkm n).1 hn
  obtain ⟨g0,g1,g2,g3⟩:=(hvk v hv).resolve_left hf
  refine ⟨v.Field,g0,g1,by rw [g3,hnn],by rw [←hnn,g2],fun e=>?_,fun u hu=>?_⟩
  ·have:v∈zeb L n:=List.mem_filter.2 ⟨hv,by simp [hf,hnn]⟩
   rw [e] at this;cases this
  ·obtain ⟨hu1,hu2⟩:=List.mem_filter.1 hu
   obtain ⟨hu3,hu4⟩:=of_decide_eq_true hu2
   obtain ⟨_,_,q2,_⟩:=(hvk u hu1).resolve_left hu3
   rw [←q2,hu4,←hnn,g2]
 have hkl:ks.length≤1048576:=by
  have hlen:ks.length=(L.foldl kn14 []).length:=by
   unfold zny at hks
   split at hks
   ·cases hks;simp
   ·cases hks
  have:=zxn L []
  rw [List.length_nil] at this
  omega
 have hl2:=zji (rec3:=zhb (n+2)) (s:=s) (m:=m) (b:=b) (q:=(L.foldl kn14 [],unkO (L.map (thOf b)))) (V:=fun w=>vo (fldI m w)) hkl (fun w hn=>by
  obtain ⟨i,h0,h1,h2,h3,h4,h5⟩:=hkn w hn
  have hwf:=ztL (fun t=>t.fi==i) (L.map (thOf b))
  rw [←hby h0 h1,h2] at hwf
  have hw':wt ((zeb L w).map (thOf b))≤1048576:=by omega
  obtain ⟨v0,r0,hv0⟩:=List.exists_cons_of_ne_nil h4
  obtain ⟨j,hj⟩:∃j:Nat,i=j:=⟨i.toNat,by omega⟩
  have hjl:j<m.Fields.length:=by omega
  have hfj:idx m.Fields i=some (zX m i):=by rw [hj,zan rfl hjl,zdK hjl]
  have hfm:zX m i∈m.Fields:=by rw [hj,zdK hjl];exact List.getElem_mem hjl
  have hv0m:v0∈zeb L w:=by rw [hv0];exact List.mem_cons_self
  have hv0f:v0.Field=i:=h5 v0 hv0m
  have hvT:=hvoT h0 h1 (by rw [h2];exact h4)
  rw [h2] at hvT
  have hbat:At14 b (zeb L w):=fun v hv=>hat v (List.mem_filter.1 hv).1
  have hlen:=zCm (ofM s) (zX m i) hw'
  rw [←hvT.1] at hlen
  refine ⟨prV v0,zX m i,?_,?_,?_,by rw [h3];exact hlen⟩
  ·rw [hrowis,hv0];rfl
  ·have:(prV v0).Field=v0.Field:=rfl
   rw [this,hv0f];exact hfj
  ·rw [hrowis,h3,hvT.1]
   show zfo (zdj (n+1)) (zmi (n+1)) (zhb (n+1)) s (zX m i) b _=_
   refine zAe hb hbat h4 hw' fun h17=>?_
   show zgc (zdj n) (zmi n) (zhb n) s (zX m i) b _=_
   have hof:=(hfld _ hfm).sub h17
   obtain ⟨k',hk'⟩:∃k':Nat,(zX m i).Of=k':=⟨(zX m i).Of.toNat,by omega⟩
   have hone:∀t∈zeb L w,∃e,d=e+1∧zaf s e (zX m i).Of (valB b t.R)=none:=fun t ht=>by
    obtain ⟨o1,o2,o3⟩:=hvT.2 _ (List.mem_map_of_mem (f:=thOf b) ht)
    have hr:(thOf b t).run=false:=by
     cases hr:(thOf b t).run
     ·rfl
     ·have:=(o1.1 hr).1;rw [h17] at this;cases this
    have:=(o2.one (by omega) hr).2.2.2
    rw [o3] at this
    exact this h17
   refine zCk hbat h4 hw' (fun hr t ht=>?_) (fun hr=>?_)
   ·obtain ⟨e,he,hfe⟩:=hone t ht
    have hvl:=znh (List.mem_map_of_mem (f:=thOf b) ht)
    have hvl':(valB b t.R).length+1≤wt ((zeb L w).map (thOf b)):=hvl
    rw [hk'] at hfe⊢
    exact hrec e he k' _ (by omega) (by omega) hfe
   ·obtain ⟨e,he,_⟩:=hone v0 hv0m
    have hfl:=zuo ((zeb L w).map (thOf b))
    have hff:zaf s e (zX m i).Of (((zeb L w).map (thOf b)).flatMap (·.val))=none:=by
     rw [List.flatMap_def]
     refine zqW _ fun v hv=>?_
     obtain ⟨t',ht',rfl⟩:=List.mem_map.1 hv
     obtain ⟨t,ht,rfl⟩:=List.mem_map.1 ht'
     obtain ⟨e',he',hfe⟩:=hone t ht
     have:e'=e:=by omega
     rw [←this];exact hfe
    rw [hk'] at hff⊢
    exact hrec e he k' _ (by omega) (by omega) hff) ks.length 0 [] (Nat.zero_add _) (Nat.le_refl _)
 have hl2':zdI b (L.foldl kn14 [],unkO (L.map (thOf b))) (zhb (n+2)) s ks m 0 []=_:=hl2
 rw [hl2',sb,List.drop_zero,List.nil_append]
 have hfin:((ks.map fun w=>vo (fldI m w)).filter fun v=>decide (0<zbM v))=zpM (ofM s) m (L.map (thOf b)) (zeD (zfz m) m.Fields.length):=by
  show _=(((zeD (zfz m) m.Fields.length).map vo).filter fun v=>decide (0<zbM v))
  rw [zqU vo (fun v=>decide (0<zbM v)) (fun i=> !(zeb L (zX m i).Number).isEmpty) _ fun i hi hme=>?_]
  ·have hsub:∀i∈(zeD (zfz m) m.Fields.length).filter (fun i=> !(zeb L (zX m i).Number).isEmpty),0≤i∧i<m.Fields.length:=fun i hi=>zej.1 (List.mem_filter.1 hi).1
   have hks2:((zeD (zfz m) m.Fields.length).filter (fun i=> !(zeb L (zX m i).Number).isEmpty)).map (zfz m)=ks:=by
    refine zpI _ _ ?_ hkp fun w=>?_
    ·rw [List.pairwise_map]
     exact hris.filter _
    ·rw [List.mem_map]
     constructor
     ·rintro ⟨i,hi,rfl⟩
      obtain ⟨hi1,hi2⟩:=List.mem_filter.1 hi
      have hne:zeb L (zX m i).Number≠[]:=by
       intro e;rw [e] at hi2;simp at hi2
      obtain ⟨v0,r0,hv0⟩:=List.exists_cons_of_ne_nil hne
      have hv0m:v0∈zeb L (zX m i).Number:=by rw [hv0];exact List.mem_cons_self
      obtain ⟨q1,q2⟩:=List.mem_filter.1 hv0m
      obtain ⟨q3,q4⟩:=of_decide_eq_true q2
      exact (hkm _).2 ⟨v0,q1,q3,q4⟩
     ·intro hw
      obtain ⟨i,h0,h1,h2,h3,h4,_⟩:=hkn w hw
      exact ⟨i,List.mem_filter.2 ⟨zej.2 ⟨h0,h1⟩,by rw [h2];simpa using h4⟩,h2⟩
   have e1:(ks.map fun w=>vo (fldI m w))=((zeD (zfz m) m.Fields.length).filter (fun i=> !(zeb L (zX m i).Number).isEmpty)).map vo:=by
    rw [←hks2,List.map_map]
    refine List.map_congr_left fun i hi=>?_
    show vo (fldI m (zfz m i))=vo i
    rw [zlh,hat9 (hsub i hi).1 (hsub i hi).2]
   rw [e1]
  ·obtain ⟨h0,h1⟩:=zej.1 hi
   have hbe:zeb L (zX m i).Number=[]:=by simpa using hme
   have hT:=hby h0 h1
   rw [hbe] at hT
   have hvo:vo i=valO (ofM s) (zX m i) acc0:=by
    show valO _ _ (accF _ _ _ _ _)=_
    rw [ziN,←hT];rfl
   rw [hvo]
   rfl
 rw [hfin]
 rfl
theorem zCh {s:List Mes} (hs:zfK s):∀(d fuel k:Nat) (b:List UInt8),k<s.length→b.length≤1048576→3*d+3≤fuel→zaf s d k b=none→zdj fuel s k b=some (ofM s k b):=by
 intro d
 induction d with
 | zero=>
  intro fuel k b hk hb hf hfi
  obtain ⟨n,rfl⟩:∃n,fuel=n+3:=⟨fuel - 3,by omega⟩
  exact zrX hs hk hb hfi fun e he=>by omega
 | succ d ih=>
  intro fuel k b hk hb hf hfi
  obtain ⟨n,rfl⟩:∃n,fuel=n+3:=⟨fuel - 3,by omega⟩
  exact zrX hs hk hb hfi fun e he k' v h1 h2 h3=>by
   have:e=d:=by omega
   subst this
   exact ih n k' v h1 h2 (by omega) h3
theorem zxN {fuel:Nat} {s:List Mes} (root:Int) {b:List UInt8} (d:Int) (hf:300≤fuel) (hw:WS s) (hb:b.length≤1048576):zhj fuel s root b d=some (zku s root b d):=by
 unfold zhj zku
 rw [ztH hw root hb d (by omega),sb]
 by_cases h0:(zbO s root b d).2=0
 ·have h0':¬(zbO s root b d).2≠0:=fun h=>h h0
  obtain ⟨hr,g1,g2,g3,g4⟩:=zlQ (ztZ h0)
  obtain ⟨k,rfl⟩:∃k:Nat,root=k:=⟨root.toNat,by omega⟩
  have hfi:zaf s d.toNat k b=none:=(zfy.1 (by unfold is11;simpa using h0)).2
  rw [itF (by simpa using h0),if_neg h0',zCh hr d.toNat fuel k b (by omega) hb (by omega) hfi,sb]
 ·rw [itT (by simpa using h0),if_pos h0]
end Go.Proofs.YtcbkcblkecmjnaaGreat

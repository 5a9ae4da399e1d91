/-
  What every proof here stands on. No condition.
-/
import Derived.MapKept
import Derived.DeepKeys
import Derived.Lib.AppendZeros
import Derived.Lib.Bytealg
import Derived.Lib.AppendStr
import Derived.RangeFuncRecord
import Derived.RangeFuncSeq
import Derived.RangeFuncBound
import Derived.Laws.Bits64b
import Derived.IntWalk
import Derived.RowKit
import Derived.Test.YtnckiilakdkklaaGreatx3K1
import Derived.Lib.SlBytesConst
set_option autoImplicit true
set_option relaxedAutoImplicit true
namespace Go.Proofs.YtnckiilakdkklaaGreat
open Go.IntKind (i32 i64 u32 u64 u8)
open Go Go.RowKit
set_option linter.unusedVariables false
set_option linter.unusedSectionVars false
theorem zif {κ ν:Type} [DecidableEq κ] (m:List (κ×ν)) (k j:κ) (x:ν):mget (mput m k x) j=if j=k then some x else mget m j:=by
 induction m with
 | nil=>simp only [mput,mget]
 | cons p m ih=>
  rw [mput];by_cases h:k=p.1
  ·rw [xe h,mget,mget]
   grind
  ·rw [xd h,mget,mget,ih]
   grind
theorem zwF {κ ν:Type} [DecidableEq κ] {m:List (κ×ν)} {k:κ} (h:mget m k=none):k∉m.map Prod.fst:=by
 induction m with
 | nil=>simp
 | cons p m ih=>
  rw [mget] at h
  grind
theorem zwG {κ ν:Type} [DecidableEq κ] (m:List (κ×ν)) (k:κ) (x:ν):(mput m k x).map Prod.fst=match mget m k with
  | none=>m.map Prod.fst++[k]
  | some _=>m.map Prod.fst:=by
 induction m with
 | nil=>rfl
 | cons p m ih=>
  rw [mput,mget]
  grind
theorem zpa {κ ν:Type} [DecidableEq κ] {m:List (κ×ν)} (h:(m.map Prod.fst).Nodup) (k:κ) (x:ν):((mput m k x).map Prod.fst).Nodup:=by
 rw [zwG];cases hg:mget m k with
 | none=>exact List.nodup_append.2 ⟨h,by simp,fun a ha b hb e=>by
   simp only [xQ] at hb;subst hb e;exact zwF hg ha⟩
 | some y=>exact h
theorem zyF {κ ν:Type} :StOk ([]:List (κ×ν)) #[] cl:=⟨fun x hx=>by simp at hx,by simp,by simp⟩
def zib {κ ν:Type} [DecidableEq κ] (k:κ):List (κ×ν)->List MapEntry->Nat->Option (Nat×Value)
 | p::m,e::es,i=>if k=p.1 then some (i,e.val) else zib k m es (i+1)
 | _,_,_=>none
def asV {α:Type} (r:Rp α) (x:α) (D:List Nat) (a:AV):Prop:=∀γ w v,a.rel γ w v->VRel (γ.F D) w r x v
theorem zqt {v:Value} (h:v.oneCell'=true):v.cells=#[v]:=by cases v<;>first| rfl| cases h
theorem zrr {α:Type} {F:Fp} {w:World} {r:Rp α} {x:α} {l:LV} {v:Value} (hr:r.agg=false) (hl:r.lv x=[l]) (h:zaf F w l v):VRel F w r x v:=by
 have hc:=zqt h.one;refine ⟨?_,⟨fun e=>?_,fun _=>hc⟩⟩
 ·rw [hl,hc];exact .cons h .nil
 grind
theorem zpN {α:Type} {F:Fp} {w:World} {r:Rp α} {x:α} {l:LV} {v:Value} (hr:r.agg=false) (hl:r.lv x=[l]) (h:VRel F w r x v):zaf F w l v:=by
 have h1:=h.1;rw [hl,h.2.2 hr] at h1;exact h1.2 0 l v rfl rfl
theorem zcp {α:Type} {r:Rp α} {x:α} {l:LV} (hr:r.agg=false) (hl:r.lv x=[l]):asV r x [] (.lf l):=fun γ w v h=>zrr hr hl (h.2.plain h.1)
theorem zbx {α:Type} {r:Rp α} {x:α} {C:List Nat} (hr:r.agg=true):asV r x C (.rc r C x):=fun γ w v ⟨cs,hv,hA⟩=>by
 subst hv;refine ⟨by simpa [Value.cells] using hA,⟨fun _=>⟨cs,rfl⟩,fun e=>?_⟩⟩
 grind
theorem asV.sub {α:Type} {r:Rp α} {x:α} {D D':List Nat} {a:AV} (h:asV r x D a) (hs:subN D D'=true):asV r x D' a:=fun γ w v hv=>(h γ w v hv).mono fun b _ hb=>zR hs _ hb
def elAV {α:Type} (r:Rp α) (C:List Nat) (x:α) (a:AV):Prop:=∀γ w v,VRel (γ.F C) w r x v->a.rel γ w v
theorem zrI {α:Type} {r:Rp α} {C:List Nat} {x:α} (hr:r.agg=true):elAV r C x (.rc r C x):=fun γ w v h=>by
 obtain ⟨cs,rfl⟩:=h.2.1 hr;exact ⟨cs,rfl,by simpa [Value.cells] using h.1⟩
theorem znW {α:Type} {r:Rp α} {C:List Nat} {x:α} {l:LV} (hr:r.agg=false) (hl:r.lv x=[l]) (hp:l.plain=true):elAV r C x (.lf l):=fun γ w v h=>⟨hp,(zpN hr hl h).plain hp⟩
structure KeyT (P:Program) {κ:Type} [DecidableEq κ] (kt:TypeId) (r:Rp κ):Prop where
 check:∀(w:World) (e:Bool) (F:Fp) (k:κ) (v:Value),VRel F w r k v->(Instr.checkKey e 10000 kt v).run P w= .ok () w
 find:∀(w:World) (F F':Fp) (k:κ) (v:Value) (ν:Type) (rv:Rp ν) (m:List (κ×ν)) (es:List MapEntry),VRel F w r k v->zbq F' w r rv m es->(Instr.findKey kt v es).run P w= .ok (zib k m es 0) w
 stays:∀(w:World) (F F':Fp) (k:κ) (v v':Value),VRel F w r k v->VRel F' w r k v'->Instr.sameBits 10000 v v'=true
theorem zpO {α:Type} {F:Fp} {w:World} {r:Rp α} {x:α} {l:LV} {v:Value} (hr:r.agg=false) (hl:r.lv x=[l]) (hp:l.plain=true) (h:VRel F w r x v):v=zby l:=zov (zpN hr hl h) hp
theorem zxw {P:Program} {κ ν:Type} [DecidableEq κ] {kt:TypeId} {d:TypeDesc} {r:Rp κ} {rv:Rp ν} (hu:P.underlying kt=some d) (hs:∀(F F':Fp) (w:World) (a b:κ) (u v:Value),VRel F w r a u->VRel F' w r b v->Instr.sameNow d u v=some (decide (a=b)))
  (w:World) (F F':Fp) (k:κ) (v:Value) (m:List (κ×ν)) (es:List MapEntry) (hk:VRel F w r k v) (he:zbq F' w r rv m es):(Instr.findKey kt v es).run P w= .ok (zib k m es 0) w:=by
 have key:∀i,Instr.findNow d v es i=some (zib k m es i):=by
  induction he with
  | nil=>intro i;rfl
  | cons h1 h2 _ ih=>
   intro i;rw [Instr.findNow,hs _ _ w _ _ _ _ hk h1,zib]
   grind
 simp [Instr.findKey,run_underlying hu,key 0]
def zym:TypeDesc->Bool
 | .int _| .bool| .string=>true
 | _=>false
theorem zgV (hu:P.underlying t=some d) (hd:zym d=true) (e:Bool) (n:Nat) (v:Value) (w:World):(Instr.checkKey e (n+1) t v).run P w= .ok () w:=by
 rw [Instr.checkKey];simp only [xo,ye hu,xq];cases d<;>first| (cases v<;>rfl;done)| cases hd
theorem zkZ (n:Nat) (h:l.plain=true) (hv:∀v,l≠ .val v):Instr.sameBits n (zby l) (zby l)=true:=by
 cases l with
 | int k a=>cases n<;>simp [Instr.sameBits,zby]
 | bool b=>cases n<;>simp [Instr.sameBits,zby]
 | str s=>
  have:(({data:=s.toArray}:ByteArray)=={data:=s.toArray})=true:=by rw [beq_toListBytes];simp
  cases n<;>simp [Instr.sameBits,zby,this]
 | sl=>cases h
 | val v=>exact absurd rfl (hv v)
theorem zuw {P:Program} {κ:Type} [DecidableEq κ] {kt:TypeId} {d:TypeDesc} {r:Rp κ} (hu:P.underlying kt=some d) (hd:zym d=true) (lf:κ->LV) (hr:r.agg=false) (hl:∀x,r.lv x=[lf x]) (hp:∀x,(lf x).plain=true) (hv:∀x v,lf x≠ .val v)
  (hs:∀a b,Instr.sameNow d (zby (lf a)) (zby (lf b))=some (decide (a=b))):KeyT P kt r:=by
 have hc:∀{F:Fp} {w:World} {x:κ} {v:Value},VRel F w r x v->v=zby (lf x):=fun {F w x v} h=>zpO hr (hl x) (hp x) h
 refine ⟨fun w e F x v h=>zgV hu hd e 9999 v w,fun w F F' x v ν rv m es h he=>zxw hu (fun F F' w a b u v h1 h2=>?_) w F F' x v m es h he,fun w F F' x v v' h h'=>?_⟩
 ·grind
 ·rw [hc h,hc h'];exact zkZ _ (hp x) (hv x)
theorem zte {P:Program} {kt:TypeId} {k:IntKind} (hu:P.underlying kt=some (.int k)):KeyT P kt (Rp.int k):=
 zuw hu rfl (fun x=> .int k x) rfl (fun _=>rfl) (fun _=>rfl) (fun _ _=>nofun) fun a b=>by simp only [Instr.sameNow,zby,x8,xF];by_cases h:a=b<;>simp [h]
theorem zve {α:Type} {F:Fp} {w:World} {r:Rp α} {x:α} {v:Value} (hr:r.agg=true) (hp:(r.lv x).all LV.plain=true) (h:VRel F w r x v):v= .agg ((r.lv x).map zby).toArray:=by
 obtain ⟨cs,rfl⟩:=h.2.1 hr;have h1:=h.1;simp only [Value.cells] at h1;rw [<-zsF h1 hp]
theorem zjJ :∀(fs:List Field) (ls:List LV) (off:Nat),ziU P off fs ls=true->ls.all LV.plain=true/\∀l∈ls,∀v,l≠ .val v
 | [],[],_,_=>⟨rfl,nofun⟩
 | f::fs,l::ls,off,h=>by
  simp only [ziU,xh] at h;obtain ⟨⟨⟨⟨_,_⟩,_⟩,hk⟩,h2⟩:=h;obtain ⟨i1,i2⟩:=zjJ fs ls _ h2;have:l.plain=true/\∀v,l≠ .val v:=by
   unfold zmS at hk;split at hk<;>first| exact ⟨rfl,nofun⟩| cases hk
  refine ⟨by simp [this.1,i1],fun x hx=>?_⟩;cases hx with
  | head=>exact this.2
  | tail _ hx=>exact i2 x hx
 | [],_::_,_,h=>by cases h
 | _::_,[],_,h=>by cases h
theorem ziW (e:Bool) (n:Nat) (w:World):∀(fs:List Field) (ls:List LV) (off:Nat),ziU P off fs ls=true->(∀i,i<ls.length->xs[off+i]? =(ls.map zby)[i]?)->
  (forIn (m := Sem) fs PUnit.unit fun f _ => if f.name ≠ "_" then (do let p ← part f.type xs f.offset; Instr.checkKey e (n + 1) f.type p; pure (ForInStep.yield PUnit.unit)) else pure (ForInStep.yield PUnit.unit)).run P w = .ok PUnit.unit w
 | [],[],_,_,_=>rfl
 | f::fs,l::ls,off,h,hx=>by
  simp only [ziU,xh] at h;obtain ⟨⟨⟨⟨a1,a2⟩,a3⟩,a4⟩,a5⟩:=h;have hn : f.name ≠ "_" := by simpa using a1
  have ho:=xk a2;have p1:=qX a3 (xs:=xs) (off:=f.offset) (v:=zby l) (w:=w) (by rw [ho];simpa using hx 0 (by simp));have hc:(Instr.checkKey e (n+1) f.type (zby l)).run P w= .ok () w:=by
   generalize hu:P.underlying f.type=u at a4
   unfold zmS at a4;split at a4<;>first| (exact zgV hu rfl e n _ w)| cases a4
  have ih:=ziW e n w fs ls (off+1) a5 (fun i hi=>by have:=hx (i+1) (by simpa using hi);simpa [Nat.add_assoc,Nat.add_comm 1 i] using this);simp_all
 | [],_::_,_,h,_=>by cases h
 | _::_,[],_,h,_=>by cases h
theorem zkL (hu:P.underlying t=some (.struct fs)) (h:ziU P 0 fs.toList ls=true) (e:Bool) (n:Nat) (w:World):
  (Instr.checkKey e (n+1+1) t (.agg (ls.map zby).toArray)).run P w= .ok () w:=by
 rw [Instr.checkKey];simp only [xo,ye hu,xq];rw [<-Array.forIn_toList];have:=ziW (P:=P) (xs:=(ls.map zby).toArray) e n w fs.toList ls 0 h (fun i _=>by simp);rw [this];rfl
theorem zsP {P:Program} {κ ν:Type} [DecidableEq κ] {kt:TypeId} {r:Rp κ} {rv:Rp ν} {w:World} {F':Fp} {k:κ} {v:Value} {m:List (κ×ν)} {es:List MapEntry}
  (hq:∀(b:κ) (u:Value),VRel F' w r b u->(Op.equal kt v u).run P w= .ok (decide (k=b)) w) (he:zbq F' w r rv m es):∀i,(Instr.findAsking kt v es i).run P w= .ok (zib k m es i) w:=by
 induction he with
 | nil=>intro i;rfl
 | cons h1 h2 _ ih=>
  intro i;rw [Instr.findAsking,zib];simp only [xo,hq _ _ h1,xq];split
  ·simp_all
  grind
theorem zkw {P:Program} {κ:Type} [DecidableEq κ] {kt:TypeId} {fs:Array Field} {r:Rp κ} (hu:P.underlying kt=some (.struct fs)) (hp:P.stoodInHeld kt=false) (hr:r.agg=true) (hf:∀x,ziU P 0 fs.toList (r.lv x)=true)
  (he:∀a b,eqL (r.lv a) (r.lv b)=decide (a=b)):KeyT P kt r:=by
 have hv:∀{F:Fp} {w:World} {x:κ} {v:Value},VRel F w r x v->v= .agg ((r.lv x).map zby).toArray:=fun {F w x v} h=>zve hr (zjJ _ _ _ (hf x)).1 h
 refine ⟨fun w e F x v h=>?_,fun w F F' x v ν rv m es h hes=>?_,fun w F F' x v v' h h'=>?_⟩
 ·rw [hv h];exact zkL hu (hf x) e 9998 w
 ·rw [hv h];cases hes with
  | nil=>simp [Instr.findKey,run_underlying hu,Instr.findNow,zib]
  | cons h1 h2 h3=>
   have hq:∀(b:κ) (u:Value),VRel F' w r b u->(Op.equal kt (.agg ((r.lv x).map zby).toArray) u).run P w= .ok (decide (x=b)) w:=fun b u hu'=>by
    rw [hv hu'];exact eqT hu hp (hf x) (hf b) (he x b) w
   have:=zsP hq (.cons h1 h2 h3) 0;simp only [Instr.findKey,xo,ye hu,xq,Instr.findNow,Instr.sameNow];exact this
 ·rw [hv h,hv h'];obtain ⟨p1,p2⟩:=zjJ _ _ _ (hf x);show Instr.sameBits (9999+1) _ _=true;simp only [Instr.sameBits,BEq.rfl,qd,xn];intro p hp';have hz:∀(l:List Value) (q:Value×Value),q∈l.zip l->q.1=q.2/\q.1∈l:=by
   intro l
   induction l with
   | nil=>intro q hq;cases hq
   | cons a l ih=>
    intro q hq;cases hq with
    | head=>exact ⟨rfl,xf⟩
    | tail _ hq=>exact ⟨(ih q hq).1,xg _ (ih q hq).2⟩
  obtain ⟨e1,e2⟩:=hz _ p hp';obtain ⟨l,hl,e3⟩:=xr.1 (by simpa using e2);obtain ⟨pa,pb⟩:=p;simp only at e1 e3|-;subst e1;rw [<-e3];exact zkZ _ (by simp only [xn] at p1;exact p1 l hl) (p2 l hl)
theorem ziO (h:w.heap[b]? =some (.map es cl)):(getObj b).run P w= .ok (.map es cl) w:=by simp [getObj,Sem.run,h]
theorem zpA (ob:Obj) (h:w.heap[b]? =some (.map es cl)):(setObj b ob).run P w= .ok () {w with heap:=w.heap.setIfInBounds b ob}:=by simp [setObj,Sem.run,h]
section
variable {P:Program} {o:Oper} {κ ν:Type} {rk:Rp κ} {rv:Rp ν} {C D:List Nat} {m:List (κ×ν)} {t kt et:TypeId}
def isMp (rk:Rp κ) (rv:Rp ν) (m:List (κ×ν)) (D:List Nat) (a:AV):Prop:=∀γ w v,a.rel γ w v->AV.rel γ w (.mp rk rv D m) v
theorem zvv (rk:Rp κ) (rv:Rp ν) (m:List (κ×ν)) (ℓ:Nat) (C:List Nat):isMp rk rv m (ℓ::C) (.om rk rv ℓ C m):=fun γ w v ⟨b,es,cl,hv,⟨g1,_⟩,hb,hh,hE,_⟩=>
 ⟨b,es,cl,hv,by rw [g1];exact xf,hb,hh,hE.mono fun _ _ h=>xg _ h⟩
theorem zxU (C C':List Nat) (m:List (κ×ν)) (h:subN C C'=true):AV.le (.mp rk rv C m) (.mp rk rv C' m):=fun _ _ _ ⟨b,es,cl,hv,hF,hb,hh,hE⟩=>⟨b,es,cl,hv,zR h _ hF,hb,hh,hE.mono fun _ _ h'=>zR h _ h'⟩
theorem zBN (ℓ:Nat) (C C':List Nat) (m:List (κ×ν)) (h:subN C C'=true) (hn:memN ℓ C'=false):AV.le (.om rk rv ℓ C m) (.om rk rv ℓ C' m):=fun _ _ _ ⟨b,es,cl,hv,g,hb,hh,hE,_⟩=>
 ⟨b,es,cl,hv,g,hb,hh,hE.mono fun _ _ h'=>zR h _ h',fun hc=>by rw [zae.2 hc] at hn;cases hn⟩
theorem zAW (ℓ:Nat) (C C':List Nat) (m:List (κ×ν)) (h:subN (ℓ::C) C'=true):AV.le (.om rk rv ℓ C m) (.mp rk rv C' m):=fun γ w v hv=>zxU _ _ m h γ w v (zvv rk rv m ℓ C γ w v hv)
theorem zgS (ℓ:Nat) (ho:o.op= .makeMap t none):zC P o [] [] [] [ℓ] (.om rk rv ℓ [] []) []:=by
 refine zE fun γ ev w hi _=>?_
 refine ⟨.map (some w.heap.size),w.alloc (.map #[] 0),_,?_,zlA γ w ℓ _,⟨w.heap.size,#[],0,rfl,⟨zid _ _ _ _,zct _ _ _ _⟩,by simp,⟨yJ w _,zyF⟩,.nil,by simp⟩,fun b hb=>by cases hb⟩;simp [execOp,ho,Instr.makeMap]
end
structure MapT (P:Program) {κ ν:Type} [DecidableEq κ] (t kt et:TypeId) (rk:Rp κ) (rv:Rp ν) (x0:ν):Prop where
 u:P.underlying t=some (.map kt et)
 key:KeyT P kt rk
 zero:∃i z,P.info? et=some i/\i.zero=some z/\zokL (rv.lv x0) z.cells.toList=true/\(rv.agg=true->∃cs:List Value,z= .agg cs.toArray)/\(rv.agg=false->z.cells=#[z])
def aggB:Value->Bool
 | .agg _=>true
 | _=>false
def zvB (P:Program) {ν:Type} (et:TypeId) (rv:Rp ν) (x0:ν):Bool:=match P.info? et with
 | some i=>match i.zero with
  | some z=>zokL (rv.lv x0) z.cells.toList&&(if rv.agg then aggB z else z.oneCell')
  | none=>false
 | none=>false
theorem MapT.ofB {P:Program} {κ ν:Type} [DecidableEq κ] {t kt et:TypeId} {rk:Rp κ} {rv:Rp ν} {x0:ν} (hu:P.underlying t=some (.map kt et)) (hk:KeyT P kt rk) (h:zvB P et rv x0=true):MapT P t kt et rk rv x0:=by
 refine ⟨hu,hk,?_⟩;unfold zvB at h;split at h
 ·rename_i i hi;split at h
  ·rename_i z hz;simp only [xh] at h;refine ⟨i,z,hi,hz,h.1,fun e=>?_,fun e=>?_⟩
   ·have h2:=h.2;rw [e,xe rfl] at h2;cases z<;>first| cases h2;done| skip
    grind
   ·have h2:=h.2;rw [e] at h2;exact zqt h2
  ·cases h
 ·cases h
section
variable {P:Program} {o:Oper} {κ ν:Type} [DecidableEq κ] {rk:Rp κ} {rv:Rp ν} {C D:List Nat} {m:List (κ×ν)} {t kt et:TypeId} {x0:ν}
theorem zoF (k:κ) (h:zbq F w rk rv m es):∀i,(mget m k=none/\zib k m es i=none)\/
  ∃x j e,mget m k=some x/\zib k m es i=some (i+j,e.val)/\es[j]? =some e/\VRel F w rk k e.key/\VRel F w rv x e.val/\
   ∀kv xv y,VRel F w rk k kv->VRel F w rv y xv->zbq F w rk rv (mput m k y) (es.modify j fun e=>{e with key:=kv,val:=xv}):=by
 induction h with
 | nil=>intro i;exact .inl ⟨rfl,rfl⟩
 | @cons p m e es h1 h2 h3 ih=>
  intro i;by_cases hk:k=p.1
  ·refine .inr ⟨p.2,0,e,by rw [mget,xe hk],by rw [zib,xe hk];rfl,rfl,by rw [hk];exact h1,h2,fun kv xv y g1 g2=>?_⟩;rw [mput,xe hk];simp only [List.modify_zero_cons];exact .cons g1 g2 h3
  ·rcases ih (i+1) with ⟨g1,g2⟩| ⟨x,j,e',g1,g2,g3,g4,g5,g6⟩
   ·exact .inl ⟨by rw [mget,xd hk,g1],by rw [zib,xd hk,g2]⟩
   ·refine .inr ⟨x,j+1,e',by rw [mget,xd hk,g1],by rw [zib,xd hk,g2];congr 2;omega,by simpa using g3,g4,g5,fun kv xv y q1 q2=>?_⟩;rw [mput,xd hk];simp only [List.modify_succ_cons];exact .cons h1 h2 (g6 kv xv y q1 q2)
theorem zbq.snoc (h:zbq F w rk rv m es) (hn:mget m k=none) (h1:VRel F w rk k e.key) (h2:VRel F w rv x e.val):zbq F w rk rv (mput m k x) (es++[e]):=by
 induction h with
 | nil=>exact .cons h1 h2 .nil
 | @cons p m e' es g1 g2 g3 ih=>
  rw [mget] at hn;split at hn
  ·cases hn
  ·rename_i hk;rw [mput,xd hk];exact .cons g1 g2 (ih hn)
theorem zpz (hT:MapT P t kt et rk rv x0) (hh:w.heap[b]? =some (.map es cl)) (hE:zbq F w rk rv m es.toList) (hk:VRel F' w rk k kv) (ok:Bool):
  ∃v,(Instr.lookup t (.map (some b)) kv ok).run P w= .ok (if ok then .tuple #[v,.bool (mget m k).isSome] else v) w/\VRel F w rv ((mget m k).getD x0) v:=by
 obtain ⟨i,z,hi,hz,hzo,hza,hzb⟩:=hT.zero;have hf:=hT.key.find w F' F k kv ν rv m es.toList hk hE;have hc:=hT.key.check w es.isEmpty F' k kv hk;have hzero:(zeroValue et).run P w= .ok z w:=by simp [zeroValue,typeInfo,hi,hz]
 rcases zoF k hE 0 with ⟨g1,g2⟩| ⟨x,j,e,g1,g2,g3,g4,g5,_⟩
 ·refine ⟨z,?_,?_⟩
  ·unfold Instr.lookup;simp only [xo,ye hT.u,xq,ziO hh,xE,hc,hf,g2,g1,hzero,Option.isSome_none]
  ·rw [g1];exact ⟨zpW hzo F w,hza,hzb⟩
 ·refine ⟨e.val,?_,?_⟩
  ·unfold Instr.lookup;simp only [xo,ye hT.u,xq,ziO hh,xE,hc,hf,g2,g1,Option.isSome_some]
  grind
theorem zyz {F F' F2:Fp} {w:World} {b:Nat} {es:Array MapEntry} {cl:Nat} {k:κ} {x:ν} {kv xv:Value} (hO:StOk m es cl) (hT:MapT P t kt et rk rv x0) (hh:w.heap[b]? =some (.map es cl)) (hE:zbq F w rk rv m es.toList) (hk:VRel F' w rk k kv) (hF':∀b,F' b->F b) (hx:VRel F2 w rv x xv) (hF2:∀b,F2 b->F b):
  ∃es' cl',(Instr.mapUpdate t (.map (some b)) kv xv).run P w= .ok () {w with heap:=w.heap.setIfInBounds b (.map es' cl')}/\zbq F w rk rv (mput m k x) es'.toList/\StOk (mput m k x) es' cl':=by
 have hk1:=hk.mono (G:=F) fun b _ h=>hF' b h
 have hx1:=hx.mono (G:=F) fun b _ h=>hF2 b h
 have hf:=hT.key.find w F' F k kv ν rv m es.toList hk hE;have hc:=hT.key.check w false F' k kv hk;rcases zoF k hE 0 with ⟨g1,g2⟩| ⟨y,j,e,g1,g2,g3,g4,g5,g6⟩
 ·refine ⟨es.push {key:=kv,val:=xv,born:=cl},cl+1,?_,?_,fun y hy=>?_,?_,zpa hO.2.2 _ _⟩
  ·unfold Instr.mapUpdate;simp only [xo,ye hT.u,xq,ziO hh,hc,hf,g2];exact zpA _ hh
  ·rw [qY];exact hE.snoc g1 hk1 hx1
  ·rw [qY] at hy;rcases xl.1 hy with hy| hy
   ·exact Nat.lt_succ_of_lt (hO.1 y hy)
   grind
  ·rw [qY,yK];refine List.nodup_append.2 ⟨hO.2.1,by simp,fun a ha b hb e=>?_⟩;simp only [xC,yL,xQ] at hb;subst hb e;obtain ⟨y,hy,e⟩:=xr.1 ha;exact Nat.lt_irrefl _ (e▸hO.1 y hy)
 ·have hbs:((es.modify j fun e=>{e with key:=kv,val:=xv}).toList.map (·.born))=es.toList.map (·.born):=by
   rw [Array.toList_modify];apply List.ext_getElem?;intro i;simp only [yz,List.getElem?_modify];cases es.toList[i]? with
   | none=>rfl
   | some e0=>simp only [yI];split<;>rfl
  refine ⟨es.modify j fun e=>{e with key:=kv,val:=xv},cl,?_,?_,fun y hy=>?_,by rw [hbs];exact hO.2.1,zpa hO.2.2 _ _⟩
  ·have hst:=hT.key.stays w F F' k e.key kv g4 hk;have hge:((es[j]?).map (·.key)).getD kv=e.key:=by
    grind
   unfold Instr.mapUpdate;simp only [xo,ye hT.u,xq,ziO hh,hc,hf,g2,xL,hge,Instr.keyThatStays,hst,x8,xE];exact zpA _ hh
  ·grind
  ·have:y.born∈es.toList.map (·.born):=by rw [<-hbs];exact qb hy
   obtain ⟨z,hz,e⟩:=xr.1 this;rw [<-e];exact hO.1 z hz
theorem zBy (hcol:γ.col b=ℓ) (ob:Obj):Tr [ℓ] [] γ w γ {w with heap:=w.heap.setIfInBounds b ob}:=
 ⟨rfl,rfl,rfl,by simp,fun c hb hn=>by
  have:b≠c:=fun e=>hn (by rw [<-e,hcol];exact xf)
  simp [this],fun _ _=>rfl,fun _ _=>rfl,fun b h1 h2=>absurd h2 (by simp;omega)⟩
theorem zbq.app (h:zbq F w rk rv m1 l1) (k:zbq F w rk rv m2 l2):zbq F w rk rv (m1++m2) (l1++l2):=by
 induction h with
 | nil=>exact k
 | cons h1 h2 _ ih=>exact .cons h1 h2 ih
theorem zbq.split :∀{l1:List MapEntry} {m:List (κ×ν)},zbq F w rk rv m (l1++e::l2)->∃m1 p m2,m=m1++p::m2/\zbq F w rk rv m1 l1/\VRel F w rk p.1 e.key/\VRel F w rv p.2 e.val/\zbq F w rk rv m2 l2
 | [],_,h=>by cases h with| cons h1 h2 h3=>exact ⟨[],_,_,rfl,.nil,h1,h2,h3⟩
 | _::l1,_,h=>by
  cases h with
  | cons h1 h2 h3=>
   obtain ⟨m1,p,m2,rfl,g1,g2,g3,g4⟩:=h3.split (l1:=l1);exact ⟨_::m1,p,m2,rfl,.cons h1 h2 g1,g2,g3,g4⟩
end
theorem zqO (ho:o.op= .call ⟨.builtin .cap,#[x],#[t]⟩) (hu:P.underlying t=some (.slice e)):
  zC P o [(x,.lf (.val (.slice none n 0)))] [] [] [] (.lf (.int .i64 0)) []:=by
 refine zE fun γ ev w hi _=>?_
 have h1:=zlj (hi (x,.lf (.val (.slice none n 0))) (by simp));simp only at h1;refine ⟨.int .i64 0,w,γ,zbT (args:=[x]) (ts:=[t]) ho rfl rfl rfl fun consts=>?_,Tr.refl _ _ _ _,zfE _ _ _ _,fun b hb=>by cases hb⟩;simp [builtin,h1,Builtin.cap_,run_underlying hu,goInt]
theorem ztp {w:World} {e:TypeId} {size n:Nat} {v:Value} {cs:List Value} (h:w.ownsRow 0 e size v n cs) {j:Nat} (hj:j<=n):
  ∃A c,v= .slice A n c/\n<=c/\w.ownsRow 0 e size (.slice (if c=0 then A else A.map (·.add (0*size))) j (c - 0)) j (cs.take (j*size))/\
   Value.ownBlock (.slice (if c=0 then A else A.map (·.add (0*size))) j (c - 0))=v.ownBlock:=by
 have hle:j*size<=n*size:=yi _ hj;rcases h.2 with ⟨rfl,hz⟩| ⟨g,cap,cur,rfl,hg,hh,hnc,hcm,hcs,htake⟩
 ·subst hz;have:j=0:=by omega
  subst this;exact ⟨none,0,rfl,xi _,⟨by simp,.inl ⟨rfl,rfl⟩⟩,rfl⟩
 ·have e1:(if cap=0 then (some ⟨g,0,none⟩:Option Addr) else (some (⟨g,0,none⟩:Addr)).map (·.add (0*size)))=some ⟨g,0,none⟩:=by
   split
   ·rfl
   ·simp [zfT]
  refine ⟨_,cap,rfl,hnc,?_,by rw [e1];rfl⟩;rw [e1];refine ⟨by rw [xK,h.1];omega,.inr ⟨g,cap,cur,rfl,hg,hh,by omega,hcm,hcs,?_⟩⟩
  grind
theorem zzC {P:Program} {o:Oper} {α:Type} {r:Rp α} {xs ys:List α} {C:List Nat} {j:Int} {k:IntKind} {t e:TypeId} {x y:Operand} {bytes ℓ:Nat}
  (ho:o.op= .slice t x none (some y) none) (hT:ElT P t e r.size bytes) (hy:cut xs 0 j=some ys):
  zC P o [(x,.own r e ℓ C xs),(y,.lf (.int k j))] [] [ℓ] [] (.own r e ℓ C ys) []:=by
 refine zE fun γ ev w hin _=>?_
 obtain ⟨cs,hown,hgb,hA,hnC⟩:=hin (x,.own r e ℓ C xs) (by simp);have h2:=zde (hin (y,.lf (.int k j)) (by simp));simp only at hown hgb h2;obtain ⟨c0,c1,c2,rfl⟩:=zlJ hy;have hl:=zvm hy;obtain ⟨A,c,hv,hc,hown',hblk⟩:=ztp hown (j:=j.toNat) (by omega);have hr:=zsd hT w A xs.length c hc none (some (.int k j)) 0 j (.inl ⟨rfl,rfl⟩) (.inr ⟨k,rfl⟩) (by omega) c1 c2;rw [show (0:Int).toNat=0 from rfl,yM j.toNat] at hr;refine ⟨_,w,γ,by simp only [execOp,ho,hv,h2,qZ,yI,xo,hr];rfl,Tr.refl _ _ _ _,⟨cs.take (j.toNat*r.size),?_,fun g hg=>hgb g ?_,?_,hnC⟩,fun b hb=>by cases hb⟩
 ·grind
 ·grind
 ·have:=hA.take (j.toNat*r.size);rw [show (0:Int).toNat=0 from rfl,yM,yN,r.flat_take];exact this
theorem zwD {P:Program} {o:Oper} {k:IntKind} {t e:TypeId} {x y:Operand} {size bytes:Nat} (ho:o.op= .slice t x none (some y) none) (hT:ElT P t e size bytes):
  zC P o [(x,.lf (.val (.slice none 0 0))),(y,.lf (.int k 0))] [] [] [] (.lf (.val (.slice none 0 0))) []:=by
 refine zE fun γ ev w hin _=>?_
 have h1:=zlj (hin (x,.lf (.val (.slice none 0 0))) (by simp));have h2:=zde (hin (y,.lf (.int k 0)) (by simp));simp only at h1 h2;have hr:=zsd hT w none 0 0 (xi _) none (some (.int k 0)) 0 0 (.inl ⟨rfl,rfl⟩) (.inr ⟨k,rfl⟩) (by omega) (by omega) (by omega);exact ⟨_,w,γ,by simp only [execOp,ho,h1,h2,qZ,yI,xo,hr];rfl,Tr.refl _ _ _ _,⟨rfl,.val _ rfl⟩,fun b hb=>by cases hb⟩
theorem zpT (z:Array Value) (n:Nat):Builtin.zeroCells z n=madeCells z (n*z.size):=rfl
theorem zzA {P:Program} {o:Oper} {α:Type} {r:Rp α} {x0:α} {k kn:IntKind} {n:Int} {xs:List α} {t tn e:TypeId} {x y:Operand} {bytes:Nat} (ℓ:Nat)
  (ho:o.op= .call ⟨.builtin .append,#[x,y],#[t,tn]⟩) (htn:P.underlying tn=some (.int kn)) (hT:ZeT P t e r bytes x0) (hb:Nat.blt 0 bytes=true) (hm:mkO bytes x0 n n=some xs):
  zC P o [(x,.lf (.val (.slice none 0 0))),(y,.lf (.int k n))] [] [] [ℓ] (.own r e ℓ [] xs) []:=by
 refine zE fun γ ev w hin _=>?_
 have h1:=zlj (hin (x,.lf (.val (.slice none 0 0))) (by simp));have h2:=zde (hin (y,.lf (.int k n)) (by simp));simp only at h1 h2;unfold mkO at hm;split at hm
 case isFalse=>cases hm
 rename_i hh;obtain ⟨h0,_,hlim⟩:=hh;cases hm;obtain ⟨m,rfl⟩:∃m:Nat,n=m:=⟨n.toNat,by omega⟩;obtain ⟨i,z,hi',hz,hs,hby,hzs,hzo⟩:=hT.ex;have hbp:0<bytes:=yW (xy hb);have hL:(LIM:Int)=140737488355328:=rfl;have hlim':m*bytes<=140737488355328:=by
  grind
 have hmb:m<=m*bytes:=Nat.le_mul_of_pos_right _ hbp;rcases qT m with rfl| hpos
 ·refine ⟨.slice none 0 0,w,{γ with box:=fun q=>γ.box q},zbT (args:=[x,y]) (ts:=[t,tn]) ho rfl rfl rfl fun consts=>?_,⟨rfl,rfl,rfl,xi _,fun _ _ _=>rfl,fun _ _=>rfl,fun _ _=>rfl,fun b h1 h2=>absurd h2 (qy.2 h1)⟩,⟨[],World.ownsRow_nil w 0 e r.size,(fun g hg=>nomatch hg),zJ.nil,by simp⟩,fun b hb=>by cases hb⟩;have hw:i64.wrap 0=0:=rfl;simp [builtin,h1,h2,Builtin.append_,run_underlying hT.u,run_underlying htn,sizeOf,typeInfo,hi',asInt,asIntOf,hw]
 ·have hr:=Go.Lib.run_append_nil_zeros (P:=P) w t tn o.type e i z k kn hT.u htn hi' hz m hpos (by rw [hs];exact r.pos) (by omega) (by rw [hby];omega);have hge:=grownCap_ge w m 0 e;have hcm:grownCap w m 0 e<=maxLen:=grownCap_le_maxLen w m 0 e (by unfold maxLen;omega);have hnew:=yJ w.drew (.cells (Builtin.zeroCells z.cells m++Builtin.zeroCells z.cells (grownCap w m 0 e - m)) e);have hzl:(Builtin.zeroCells z.cells m).toList.length=m*r.size:=by rw [yH,q6,hzs]
  refine ⟨.slice (some ⟨w.heap.size,0,none⟩) m (grownCap w m 0 e),w.drew.alloc (.cells (Builtin.zeroCells z.cells m++Builtin.zeroCells z.cells (grownCap w m 0 e - m)) e),zch γ w.heap.size ℓ w.heap.size,
   zbT (args:=[x,y]) (ts:=[t,tn]) ho rfl rfl rfl fun consts=>by simp only [builtin,xC,yL,h1,h2,xo,hr];rfl,
   ⟨rfl,rfl,rfl,by simp,fun b hb _=>heap_alloc_old w.drew _ hb,fun b hb=>by simp [zch,hb],fun k hk=>?_,fun b hb _ h=> .inr (by simp [zch,Nat.not_lt.2 hb] at h;simp [h])⟩,⟨(Builtin.zeroCells z.cells m).toList,?_,fun g hg=>?_,?_,by simp⟩,fun b hb=>by cases hb⟩
  ·simp only [xj,xA,xB] at hk;simp [zch,hk]
  ·rw [qO,xw];refine ⟨hzl,.inr ⟨w.heap.size,_,_,rfl,xm _,hnew,hge,hcm,?_,?_⟩⟩
   ·rw [Array.size_append,q6,q6,hzs,<-Nat.add_mul];congr 1;omega
   grind
  ·cases hg;simp [zch]
  ·rw [xw];have:=ztl hzs hzo ((zch γ w.heap.size ℓ w.heap.size).F []) (w.drew.alloc (.cells (Builtin.zeroCells z.cells m++Builtin.zeroCells z.cells (grownCap w m 0 e - m)) e)) m m (xi _);rw [yY (by rw [yH,qN];exact xi _)] at this;have e:(Builtin.zeroCells z.cells m).toList=(madeCells z.cells (m*r.size)).toList:=by rw [zpT,hzs]
   grind
structure ByT (P:Program) (t e:TypeId):Prop where
 u:P.underlying t=some (.slice e)
 ex:∃i,P.info? e=some i/\i.zero=some (.int .u8 0)/\i.size=1/\i.bytes=1
def byB (P:Program) (e:TypeId):Bool:=match P.info? e with
 | some i=>(match i.zero with
  | some (.int .u8 n)=>decide (n=0)
  | _=>false)&&Nat.beq i.size 1&&Nat.beq i.bytes 1
 | none=>false
theorem ByT.ofB (hu:P.underlying t=some (.slice e)) (h:byB P e=true):ByT P t e:=by
 unfold byB at h;split at h
 ·rename_i i hi;simp only [xh] at h;obtain ⟨⟨h1,h2⟩,h3⟩:=h;split at h1
  ·rename_i n hz;have:=yB h1;subst this;exact ⟨hu,i,hi,hz,xk h2,xk h3⟩
  ·cases h1
 ·cases h
theorem zBR {a b c:AV} (h:a.le b) (k:b.le c):a.le c:=fun γ w v hv=>k γ w v (h γ w v hv)
theorem zky {α:Type} (r:Rp α) (C:List Nat) (x:α) (l:List AV) (h:zdE l=some (r.lv x)) (hC:subN (AV.colsL l) C=true):AV.le (.ag l) (.rc r C x):=fun _ _ _ ⟨vs,hv,hL,_⟩=>
 ⟨vs,hv,zgE h hL (zR hC)⟩
theorem zzx {α:Type} (r:Rp α) (C:List Nat) (x:α) (l:List AV) (h:zdE l=some (r.lv x)) (hC:l.all (zlW C)=true):AV.le (.rc r C x) (.ag l):=fun _ _ _ ⟨vs,hv,hA⟩=>
 ⟨vs,hv,zfQ h hA hC,hA.one⟩
theorem zAv (h:leL l m):AV.le (.ag l) (.ag m):=fun _ _ _ ⟨vs,hv,hL,h1⟩=>⟨vs,hv,zlU h hL,h1⟩
def zxq:AV->Option (List AV)
 | .ag l=>some l
 | a=>match ziH a with
  | true=>some [a]
  | false=>none
theorem zup (h:zxq a=some l) (hr:a.rel γ w v):AV.relL γ w l v.cells.toList/\∀u∈v.cells.toList,u.oneCell'=true:=by
 have one:ziH a=true->a.rel γ w v->AV.relL γ w [a] v.cells.toList/\∀u∈v.cells.toList,u.oneCell'=true:=fun h1 h2=>by
  obtain ⟨g1,g2⟩:=zlX h1 h2;rw [g2];exact ⟨⟨v,[],rfl,h2,rfl⟩,fun u hu=>by simp at hu;subst hu;exact g1⟩
 cases a with
 | ag m=>cases h;obtain ⟨vs,rfl,hL,h1⟩:=hr;exact ⟨hL,h1⟩
 | any=>cases h
 | lf l=>cases h;exact one rfl hr
 | sl r C xs=>cases h;exact one rfl hr
 | own r e ℓ C xs=>cases h;exact one rfl hr
 | rc=>cases h
 | ep r C x off=>cases h;exact one rfl hr
 | ptr ℓ off=>cases h;exact one rfl hr
 | bs ℓ n=>cases h;exact one rfl hr
 | tl=>cases h
 | qp r C o=>cases h;exact one rfl hr
 | em rk rv C m=>cases h;exact one rfl hr
 | mo=>cases h
 | cu c ℓ C1 C2=>cases h;exact one rfl hr
 | mp rk rv C m=>cases h;exact one rfl hr
 | om rk rv ℓ C m=>cases h;exact one rfl hr
 | tup=>cases h
 | fv g l=>cases h;exact one rfl hr
 | bp=>cases h
 | it=>cases h
def setA (cs:List AV) (off:Nat) (l:List AV):List AV:=cs.take off++l++cs.drop (off+l.length)
def zsN (place:Nat->Option (Nat×Nat)) (cs:List AV):List (Nat×Operand)->List AV->Option (List AV)
 | [],[]=>some cs
 | (i,_)::ps,a::as=>match zxq a,place i with
  | some l,some (off,size)=>match Nat.beq l.length size&&Nat.ble (off+l.length) cs.length with
   | true=>zsN place (setA cs off l) ps as
   | false=>none
  | _,_=>none
 | _,_=>none
theorem zqw {γ:Gh} {w:World} {ev:Operand->Value} {place:Nat->Option (Nat×Nat)}:∀(ps:List (Nat×Operand)) (as cs:List AV) (cells:Array Value) (out:List AV),zsN place cs ps as=some out->
  AV.relL γ w cs cells.toList->(∀u∈cells.toList,u.oneCell'=true)->(∀p∈(ps.map (·.2)).zip as,p.2.rel γ w (ev p.1))->
  ∃cells',Instr.fill place cells (ps.map fun p=>(p.1,ev p.2))=some cells'/\AV.relL γ w out cells'.toList/\∀u∈cells'.toList,u.oneCell'=true
 | [],[],cs,cells,out,h,hA,h1,_=>by cases h;exact ⟨cells,rfl,hA,h1⟩
 | (i,x)::ps,a::as,cs,cells,out,h,hA,h1,hp=>by
  rw [zsN] at h;split at h
  ·rename_i l off size hl hpl;split at h
   ·rename_i hb;simp only [xh] at hb;have e1:=xk hb.1;have e2:=xy hb.2;obtain ⟨g1,g2⟩:=zup hl (hp (x,a) (by simp));have hvl:(ev x).cells.toList.length=l.length:=zaF g1;have hcl:cells.size=cs.length:=by rw [<-yH];exact zaF hA
    have hset:=zoJ off (ev x).cells.toList 0 cells (by simp at hvl|-;omega);simp only [yd] at hset;have hA2:AV.relL γ w (setA cs off l) ((ev x).cells.toList.zipIdx.foldl (fun (cs:Array Value) (p:Value×Nat)=>cs.setIfInBounds (off+p.2) p.1) cells).toList:=by
     rw [hset];unfold setA;rw [hvl];exact zeN (zeN (zij _ _ _ hA) g1) (zii _ _ _ hA)
    have h1':∀u∈((ev x).cells.toList.zipIdx.foldl (fun (cs:Array Value) (p:Value×Nat)=>cs.setIfInBounds (off+p.2) p.1) cells).toList,u.oneCell'=true:=by
     grind
    obtain ⟨cells',hf,hr,hr1⟩:=zqw ps as _ _ out h hA2 h1' (fun p hp'=>hp p (by simp [hp']));refine ⟨cells',?_,hr,hr1⟩;rw [xC,Instr.fill,hpl];simp only;rw [xd (by simp at hvl|-;omega)];rw [<-hf];congr 1;rw [<-qQ];simp
   ·cases h
  ·cases h
 | [],_::_,_,_,_,h,_,_,_=>by cases h
 | _::_,[],_,_,_,h,_,_,_=>by cases h
structure StA (P:Program) (t:TypeId) (places:List (Nat×Nat)) (zs:List AV):Prop where
 ex:∃fs z,P.underlying t=some (.struct fs)/\(∀w,(zeroValue t).run P w= .ok z w)/\(∀w,(fs.mapM (m:=Sem) fun (f:Field)=>do pure (f.offset,<-sizeOf f.type)).run P w= .ok places.toArray w)/\zru zs z.cells.toList=true
def staB (P:Program) (t:TypeId) (fs:Array Field) (places:List (Nat×Nat)) (zs:List AV):Bool:=zpE P fs.toList places&&match P.info? t with
 | some i=>match i.zero with
  | some z=>zru zs z.cells.toList
  | none=>false
 | none=>false
theorem StA.ofB (hu:P.underlying t=some (.struct fs)) (h:staB P t fs places zs=true):StA P t places zs:=by
 simp only [staB,xh] at h;obtain ⟨h1,h2⟩:=h;split at h2
 ·rename_i i hi;split at h2
  ·rename_i z hz;refine ⟨fs,z,hu,fun w=>by simp [zeroValue,typeInfo,hi,hz],fun w=>?_,h2⟩;have:=zly fs.toList places h1 w;rw [<-yG (xs:=fs),qK,Sem.run_map];rw [this];rfl
  ·cases h2
 ·cases h2
theorem zwC {P:Program} {o:Oper} {t:TypeId} {vi:List (Nat×Operand)} {places:List (Nat×Nat)} {zs:List AV} (as l:List AV)
  (ho:o.op= .build t vi.toArray) (hT:StA P t places zs) (hf:zsN (fun i=>places[i]?) zs vi as=some l):
  zC P o ((vi.map (·.2)).zip as) [] [] [] (.ag l) []:=by
 refine zE fun γ ev w hi _=>?_
 obtain ⟨fs,z,hu,hz,hpl,hzo⟩:=hT.ex;obtain ⟨z1,z2⟩:=zrv hzo γ w;obtain ⟨cells',hfill,hA,h1⟩:=zqw (γ:=γ) (w:=w) (ev:=ev) vi as zs z.cells _ hf z1 z2 hi;have hfill':Instr.fill (fun i=>places.toArray[i]?) z.cells (vi.map fun p=>(p.1,ev p.2))=some cells':=by
  simp_all
 refine ⟨.agg cells',w,γ,?_,Tr.refl _ _ _ _,⟨cells'.toList,by simp,hA,h1⟩,fun b hb=>by cases hb⟩;simp only [execOp,ho,Instr.build,xo,hz,ye hu,xq,hpl,qq];have e:(List.map (fun (x:Nat×Operand)=>(x.1,ev x.2)) vi)=vi.map fun p=>(p.1,ev p.2):=rfl
 simp only [hfill',xE,xq]
theorem zzB (ℓ:Nat) (ho:o.op= .box t x) (hf:AV.free [] [ℓ] (.ag l)=true):zC P o [(x,.ag l)] [] [] [ℓ] (.ptr ℓ 0) [⟨ℓ,t,l⟩]:=by
 refine zE fun γ ev w hi _=>?_
 have h0:=hi (x,.ag l) (by simp);obtain ⟨f1,f2⟩:=AV.free_spec hf;have h0':=(AV.ag l).keep (zlA γ w ℓ (.cells (ev x).cells t)) f1 f2 h0;obtain ⟨vs,hv,_,_⟩:=h0;obtain ⟨vs',hv',hL,h1⟩:=h0';simp only at hv hv';refine ⟨.pointer (some ⟨w.heap.size,0,none⟩),w.alloc (.cells (ev x).cells t),_,?_,zlA γ w ℓ _,?_,fun b hb=>?_⟩
 ·simp [execOp,ho,Instr.box,newVar,newRow]
 ·show _=_;rw [zct]
 ·simp only [xj,xA,xB] at hb;subst hb;refine ⟨by rw [zct,zid],vs',?_,hL,h1⟩;rw [zct];have:(ev x).cells=vs'.toArray:=by rw [hv'];rfl
  rw [this];exact yJ w _
theorem zzD (m:List AV) (ho:o.op= .load t y) (hT:AggT P t n) (hs:(b.avs.drop off).take n=m) (hn:Nat.beq m.length n=true):
  zC P o [(y,.ptr b.lab off)] [b] [] [] (.ag m) []:=by
 refine zE fun γ ev w hi hb=>?_
 have h1:ev y=_:=hi (y,.ptr b.lab off) (by simp);obtain ⟨hcol,cs,hh,hL,hone⟩:=hb b (by simp);subst hs;have hL':=zij _ _ n (zii _ _ off hL);have vd:((cs.drop off).take n).length=n:=by rw [zaF hL'];exact xk hn
 have hl:=zdB hT (w:=w) (b:=γ.box b.lab) (o:=off) (cs:=(cs.drop off).take n) vd fun i hi=>by
  rw [vd] at hi;rw [yu w _ _ _ _ _ hh,x9,xe hi,yy];simp
 exact ⟨_,w,γ,by simp [execOp,ho,h1,Instr.loadAt,Instr.sureAddr,hl],Tr.refl _ _ _ _,⟨_,rfl,hL',fun u hu=>hone u (List.mem_of_mem_drop (List.mem_of_mem_take hu))⟩,fun b hb=>by cases hb⟩
theorem zzG (l:List AV) (ho:o.op= .store t y z) (hsz:∀w,(sizeOf t).run P w= .ok n w) (hn:Nat.beq l.length n=true)
  (hoff:Nat.ble (off+n) b.avs.length=true) (hf:AV.free [b.lab] [] (.ag l)=true):
  zC P o [(y,.ptr b.lab off),(z,.ag l)] [b] [b.lab] [] .any [⟨b.lab,b.typ,(b.avs.map (AV.clear [b.lab] [])).take off++l++(b.avs.map (AV.clear [b.lab] [])).drop (off+n)⟩]:=by
 intro γ av w hi hb next Q hk;have h1:av.eval y=_:=hi (y,.ptr b.lab off) (by simp);have h0:=hi (z,.ag l) (by simp);obtain ⟨us,hv,hA,hA1⟩:=h0;simp only at hv;obtain ⟨hcol,cs,hh,hL,hone⟩:=hb b (by simp);have hus:us.length=n:=by rw [zaF hA];exact xk hn
 have hoff':off+n<=cs.length:=by rw [zaF hL];exact xy hoff
 have hst:=qR P (γ.box b.lab) off b.typ us 0 cs.toArray w hh (by simp;omega) hA1;simp only [yd,hus] at hst;have hrun:(execOp av.eval o).run P w= .ok .skip (w.setRow (γ.box b.lab) (cs.take off++us++cs.drop (off+n)).toArray):=by
  simp [execOp,ho,h1,hv,Instr.storeAt,Instr.sureAddr,storeVar,hsz,Value.cells,hus,hst]
 unfold Oper.wp;rw [hrun,qS];have ht:=zuZ (w:=w) hcol (cs.take off++us++cs.drop (off+n)).toArray;obtain ⟨f1,f2⟩:=AV.free_spec hf;obtain ⟨us',hv',hA',_⟩:=(AV.ag l).keep ht f1 f2 (show AV.rel γ w (.ag l) (av.eval z) from ⟨us,hv,hA,hA1⟩);have eu:us'=us:=by rw [hv] at hv';simpa using hv'.symm
 subst eu;have hL':=ziN hL ht;refine hk γ _ undef ht trivial fun b' hb'=>?_
 simp only [xj,xA,xB] at hb';subst hb';refine ⟨hcol,cs.take off++us'++cs.drop (off+n),setRow_heap w _ _ _ _ _ hh,zeN (zeN (zij _ _ _ hL') hA') (zii _ _ _ hL'),fun u hu=>?_⟩;simp only [xl] at hu;rcases hu with (h| h)| h
 ·grind
 ·exact hA1 u h
 ·grind
def zuo:List Bx->List AV->Prop
 | [],[]=>True
 | b::bs,.bp r t ℓ C x::cs=>(ℓ=b.lab/\t=b.typ/\zdE b.avs=some (r.lv x)/\subN (AV.colsL b.avs) C=true)/\zuo bs cs
 | _,_=>False
theorem zou :∀(xs:List Operand) (bs:List Bx) (cs:List AV),zuo bs cs->xs.length=bs.length->(∀p∈xs.zip (bs.map fun b=>AV.ptr b.lab 0),p.2.rel γ w (ev p.1))->Bxs γ w bs->AV.relL γ w cs (xs.map ev)
 | [],[],[],_,_,_,_=>rfl
 | [],[],_::_,h,_,_,_=>h.elim
 | x::xs,b::bs,.bp r t ℓ C y::cs,h,hl,hi,hb=>by
  obtain ⟨⟨rfl,rfl,h1,h2⟩,h3⟩:=h;refine ⟨ev x,xs.map ev,rfl,?_,zou xs bs cs h3 (by simpa using hl) (fun p hp=>hi p (xg _ hp)) (fun c hc=>hb c (xg _ hc))⟩;have hv:=hi (x,.ptr b.lab 0) xf;obtain ⟨hc,cells,hh,hL,hone⟩:=hb b xf;exact ⟨γ.box b.lab,cells.toArray,hv,⟨hc,rfl⟩,(xD.1 hh).1,hh,by simpa using hone,by simpa using zgE h1 hL (zR h2)⟩
 | _::_,_::_,[],h,_,_,_=>h.elim
 | _::_,_::_,.any::_,h,_,_,_=>h.elim
 | _::_,_::_,.lf _::_,h,_,_,_=>h.elim
 | _::_,_::_,.sl ..::_,h,_,_,_=>h.elim
 | _::_,_::_,.own ..::_,h,_,_,_=>h.elim
 | _::_,_::_,.rc ..::_,h,_,_,_=>h.elim
 | _::_,_::_,.ep ..::_,h,_,_,_=>h.elim
 | _::_,_::_,.ptr ..::_,h,_,_,_=>h.elim
 | _::_,_::_,.bs ..::_,h,_,_,_=>h.elim
 | _::_,_::_,.tl ..::_,h,_,_,_=>h.elim
 | _::_,_::_,.qp ..::_,h,_,_,_=>h.elim
 | _::_,_::_,.em ..::_,h,_,_,_=>h.elim
 | _::_,_::_,@AV.mo _ _ _ _ _ _ _ _ _::_,h,_,_,_=>h.elim
 | _::_,_::_,.cu ..::_,h,_,_,_=>h.elim
 | _::_,_::_,.mp ..::_,h,_,_,_=>h.elim
 | _::_,_::_,.om ..::_,h,_,_,_=>h.elim
 | _::_,_::_,.tup ..::_,h,_,_,_=>h.elim
 | _::_,_::_,.ag ..::_,h,_,_,_=>h.elim
 | _::_,_::_,.fv ..::_,h,_,_,_=>h.elim
 | _::_,_::_,.it ..::_,h,_,_,_=>h.elim
 | [],_::_,_,_,hl,_,_=>by simp at hl
 | _::_,[],_,_,hl,_,_=>by simp at hl
theorem zzF (xs:List Operand) (bs:List Bx) (cs:List AV) (ho:o.op= .makeFunc (.func g) #[] xs.toArray) (hc:zuo bs cs) (hl:xs.length=bs.length):
  zC P o (xs.zip (bs.map fun b=>AV.ptr b.lab 0)) bs [] [] (.fv g cs) []:=by
 refine zE fun γ ev w hi hb=>?_
 exact ⟨.func (.func g) #[] (xs.map ev).toArray,w,γ,by simp [execOp,ho,Instr.makeFunc],Tr.refl _ _ _ _,⟨xs.map ev,rfl,zou xs bs cs hc hl hi hb⟩,fun b hb=>by cases hb⟩
theorem zaf.regh {γ γ':Gh} {w:World} {C:List Nat} (h:∀b,b<w.heap.size->γ.col b∈C->γ'.col b=γ.col b) {l:LV} {v:Value} (hr:zaf (γ.F C) w l v):zaf (γ'.F C) w l v:=
 hr.mono fun b hl hb=>by show γ'.col b∈C;rw [h b hl hb];exact hb
theorem zJ.regh {γ γ':Gh} {w:World} {C:List Nat} (h:∀b,b<w.heap.size->γ.col b∈C->γ'.col b=γ.col b) {ls:List LV} {cs:List Value} (hr:zJ (γ.F C) w ls cs):zJ (γ'.F C) w ls cs:=
 hr.mono fun b hl hb=>by show γ'.col b∈C;rw [h b hl hb];exact hb
mutual
theorem AV.regh {γ γ':Gh} {w:World} (a:AV) {v:Value} (h:∀b,b<w.heap.size->γ.col b∈a.cols->γ'.col b=γ.col b) (hb:∀ℓ∈a.labs,γ'.box ℓ=γ.box ℓ) (hr:a.rel γ w v):a.rel γ' w v:=by
 match a with
 | .any=>trivial
 | .lf l=>exact hr
 | .sl r C xs=>exact zaf.regh h hr
 | .own r e ℓ C xs=>
  obtain ⟨cs,ho,hg,hA,hn⟩:=hr;refine ⟨cs,ho,fun g hgb=>?_,hA.regh (fun b hl hc=>h b hl (xg _ hc)),hn⟩;obtain ⟨g1,g2⟩:=hg g hgb;exact ⟨(h g (ho.lt g hgb).2 (by rw [g1];exact xf)).trans g1,(hb ℓ xf).trans g2⟩
 | .rc r C x=>obtain ⟨cs,hv,hA⟩:=hr;exact ⟨cs,hv,hA.regh h⟩
 | .ep r C x off=>
  obtain ⟨b,o,cs,hv,hF,hlt,hA,hcell⟩:=hr;exact ⟨b,o,cs,hv,by rw [h b hlt hF];exact hF,hlt,hA.regh h,hcell⟩
 | .ptr ℓ off=>show v=_;rw [hb ℓ xf];exact hr
 | .bs ℓ n=>show v=_;rw [hb ℓ xf];exact hr
 | .tl ℓ off n=>obtain ⟨A,c,hv,hA⟩:=hr;exact ⟨A,c,hv,fun hn=>by rw [hb ℓ xf];exact hA hn⟩
 | .qp r C none=>exact hr
 | .qp r C (some x)=>
  obtain ⟨b,cs,hv,hF,hlt,hA,hcell⟩:=hr;exact ⟨b,cs,hv,by rw [h b hlt hF];exact hF,hlt,hA.regh h,hcell⟩
 | .mp rk rv C m=>
  obtain ⟨b,es,cl,hv,hF,hlt,hh,hE⟩:=hr;exact ⟨b,es,cl,hv,by rw [h b hlt hF];exact hF,hlt,hh,hE.mono fun b hl hc=>by show γ'.col b∈C;rw [h b hl hc];exact hc⟩
 | .em rk rv C m=>
  obtain ⟨a,b,es,cl,hv,hFa,ha,hc1,hF,hlt,hh,hE⟩:=hr;exact ⟨a,b,es,cl,hv,by rw [h a ha hFa];exact hFa,ha,hc1,by rw [h b hlt hF];exact hF,hlt,hh,hE.mono fun b hl hc=>by show γ'.col b∈C;rw [h b hl hc];exact hc⟩
 | .om rk rv ℓ C m=>
  obtain ⟨b,es,cl,hv,⟨g1,g2⟩,hlt,hh,hE,hn⟩:=hr;exact ⟨b,es,cl,hv,⟨(h b hlt (by rw [g1];exact xf)).trans g1,(hb ℓ xf).trans g2⟩,hlt,hh,hE.mono (fun b hl hc=>by show γ'.col b∈C;rw [h b hl (xg _ hc)];exact hc),hn⟩
 | @AV.mo _ _ _ rk r e ℓ C m=>
  obtain ⟨b,n,hv,hm⟩:=hr;exact ⟨b,n,hv,hm.regh (fun b hl hc=>(h b hl (by rw [hc];exact xf)).trans hc) (fun b hl hc=>by rw [h b hl (xg _ hc)];exact hc) (hb ℓ xf) hm.off⟩
 | .cu c ℓ C1 C2=>
  refine c.move (xi _) (fun _ _ _=>rfl) (fun b hl e=>(h b hl (by rw [e];exact xf)).trans e) (fun b hl hc=>?_) (fun b hl hc=>?_) (hb ℓ xf) hr
  ·show γ'.col b∈C1;rw [h b hl (xg _ (xN _ hc))];exact hc
  ·show γ'.col b∈C2;rw [h b hl (xg _ (xG _ hc))];exact hc
 | .tup l=>obtain ⟨vs,hv,hL⟩:=hr;exact ⟨vs,hv,AV.reghL l h hb hL⟩
 | .ag l=>obtain ⟨vs,hv,hL,h1⟩:=hr;exact ⟨vs,hv,AV.reghL l h hb hL,h1⟩
 | .fv g l=>obtain ⟨vs,hv,hL⟩:=hr;exact ⟨vs,hv,AV.reghL l h hb hL⟩
 | .bp r t ℓ C x=>
  obtain ⟨b,cs,hv,⟨g1,g2⟩,hlt,hh,h1,hA⟩:=hr;exact ⟨b,cs,hv,⟨(h b hlt (by rw [g1];exact xf)).trans g1,(hb ℓ xf).trans g2⟩,hlt,hh,h1,hA.regh (fun b hl hc=>h b hl (xg _ hc))⟩
 | .it rk rv ℓ C last left=>
  obtain ⟨r,b,hv,⟨g1,g2⟩,hr',hF,hlt,⟨es,cl,seen,since,c0,ls,la,i1,i2,i3,i4,i5,i6,i7,i8,i9,i10⟩,hn⟩:=hr;have key:∀b,b<w.heap.size->γ.F C b->γ'.F C b:=fun b hl hc=>by show γ'.col b∈C;rw [h b hl (xg _ hc)];exact hc
  exact ⟨r,b,hv,⟨(h r hr' (by rw [g1];exact xf)).trans g1,(hb ℓ xf).trans g2⟩,hr',key b hlt hF,hlt,
   ⟨es,cl,seen,since,c0,ls,la,i1,i2,i3,i4,i5,i6,i7,i8.mono key,i9.mono key,i10⟩,hn⟩
theorem AV.reghL (l:List AV) (h:∀b,b<w.heap.size->γ.col b∈AV.colsL l->γ'.col b=γ.col b) (hb:∀ℓ∈AV.labsL l,γ'.box ℓ=γ.box ℓ) (hr:AV.relL γ w l vs):AV.relL γ' w l vs:=by
 match l with
 | []=>exact hr
 | a::l=>
  obtain ⟨v,vs',rfl,h1,h2⟩:=hr
  exact ⟨v,vs',rfl,AV.regh a (fun b hl hc=>h b hl (xN _ hc)) (fun c hc=>hb c (xN _ hc)) h1,
   AV.reghL l (fun b hl hc=>h b hl (xG _ hc)) (fun c hc=>hb c (xG _ hc)) h2⟩
end
structure Lets (own:Nat->Prop) (A B:World):Prop where
 os:B.os=A.os
 tape:B.tape=A.tape
 output:B.output=A.output
 size:A.heap.size<=B.heap.size
 block:∀b,b<A.heap.size->¬own b->B.heap[b]? =A.heap[b]?
structure zud (K:Nat->Prop) (A B:World):Prop where
 os:B.os=A.os
 tape:B.tape=A.tape
 output:B.output=A.output
 size:A.heap.size<=B.heap.size
 block:∀b,b<A.heap.size->K b->B.heap[b]? =A.heap[b]?
structure ItG (F:Fp) (own:Nat->Prop) (γ:Gh) (w:World):Prop where
 zero:∀b,b<w.heap.size->γ.col b=0->F b
 mine:∀b,b<w.heap.size->2<=γ.col b->own b
 lt:∀b,own b->b<w.heap.size
def Abid {σ:Type} (I:σ->(Nat->Prop)->World->Prop):Prop:=∀s own A B,I s own A->Lets own A B->I s (fun b=>own b\/(A.heap.size<=b/\b<B.heap.size)) B
def zvh (P:Program) (l:Nat) {σ χ:Type} (ps:χ->List AV) (F:Fp) (k:Rnd σ χ) (I:σ->(Nat->Prop)->World->Prop):Prop:=
 ∀s own A x b s' us,I s own A->(∀c,own c->c<A.heap.size)->k s x=some (b,s')->(∀γ:Gh,(∀c,c<A.heap.size->F c->γ.col c=0)->AV.relL γ A (ps x) us)->
  YieldAt (RF none) 0 P l us.toArray A fun e B=>e= .returned (.bool b)/\I s' own B/\zud (fun c=>own c\/F c) A B
def ItOk (P:Program) (g:FuncId) {χ:Type} (caps:List AV) (ps:χ->List AV) (it:{σ:Type}->Rnd σ χ->σ->Option σ):Prop:=
 ∀(σ:Type) (k:Rnd σ χ) (s0 s1:σ),it k s0=some s1->∀(l:Nat) (γ:Gh) (w:World) (F:Fp) (own:Nat->Prop) (vs:List Value) (I:σ->(Nat->Prop)->World->Prop),
  AV.relL γ w caps vs->ItG F own γ w->Abid I->zvh P l ps F k I->I s0 own w->
  Calls P g (.func (.yield l) #[] #[]::vs).toArray w fun e B=>(∃v,e= .returned v)/\∃own',I s1 own' B
def itX {σ:Type} (I:σ->(Nat->Prop)->World->Prop) (hI:Abid I) (F:Fp) (s:σ):Ext where
 X γ w:=∃own,I s own w/\ItG F own γ w
 tr:=fun {γ γ' w w' W V} ⟨own,hj,hg⟩ t hW hV=>by
  have hl:Lets own w w':=⟨t.os,t.tape,t.output,t.size,fun b hb hn=>t.block b hb fun hc=>hn (hg.mine b hb (hW _ hc))⟩;refine ⟨_,hI s own w w' hj hl,fun b hb h0=>?_,fun b hb h2=>?_,fun b hb=>?_⟩
  ·by_cases hlt:b<w.heap.size
   ·exact hg.zero b hlt (by rw [<-t.col b hlt];exact h0)
   ·rcases t.fresh b (yD hlt) hb h0 with e| e
    ·have:=hW _ e;omega
    ·have:=hV _ e;omega
  ·by_cases hlt:b<w.heap.size
   ·exact .inl (hg.mine b hlt (by rw [<-t.col b hlt];exact h2))
   ·exact .inr ⟨yD hlt,hb⟩
  ·rcases hb with hb| hb
   ·exact xp (hg.lt b hb) t.size
   ·exact hb.2
 ren:=fun {γ γ' w} ⟨own,hj,hg⟩ k=>⟨own,hj,fun b hb h0=>hg.zero b hb (k.back b h0),fun b hb h2=>hg.mine b hb (by
  rcases yj (γ.col b) 2 with h| h
  ·have h01:γ.col b=0\/γ.col b=1:=by omega
   rcases h01 with e| e
   ·have:=k.zero b e;omega
   ·have:=k.one b e;omega
  ·exact h),hg.lt⟩
 base:=0
 le:=fun _=>xm _
theorem zBl {P:Program} {o:Oper} {ro:Option Nat} {a:Act} {w:World} {next M:Act->World->Prop} {Q:Exit->Act->World->Prop} (h:o.wpIn (RF ro) 0 P a w next (Exit.then M Q)):o.wpIn (RF ro) 0 P a w next Q:=by
 refine ⟨h.1,?_⟩;have h:=h.2
 generalize (o.semAt (RF ro).round a.eval).run P w=r at h
 cases r with
 | ok x w1=>
  cases x with
  | enter f args=>exact ⟨h.1,h.2.mono fun e w2 hq=>by cases e<;>exact hq⟩
  | round l f tmps asg body=>exact ⟨h.1,h.2.mono fun e w2 hq=>by cases e<;>exact hq⟩
  | _=>exact h
 | halt x w1=>cases x<;>exact h
theorem zrP :∀{l1 l2:List Oper} {a:Act} {w:World},zkU P ops (Exit.then (zkU P ops Q l2) Q) l1 a w->zkU P ops Q (l1++l2) a w:=by
 intro l1 l2 a w h0 ro;have key:∀(l1:List Oper) (a:Act) (w:World),wpListIn (RF ro) 0 P ops (Exit.then (zkU P ops Q l2) Q) l1 a w->wpListIn (RF ro) 0 P ops Q (l1++l2) a w:=by
  intro l1
  induction l1 with
  | nil=>intro a w h;exact h ro
  | cons o l1 ih=>
   intro a w h;rw [xO];unfold wpListIn at h|-;split
   ·rename_i hw;rw [xe hw] at h;exact qJ (fun a w h=>ih a w h) (zBl h)
   grind
 exact key l1 a w (h0 ro)
def zaE (γ:Gh) (n:Nat):Gh:=⟨fun b=>if b<n then γ.col b else 1,γ.box⟩
section
variable {σ χ:Type} {P:Program} {I:σ->(Nat->Prop)->World->Prop} {hI:Abid I} {F:Fp} {ps:χ->List AV} {k:Rnd σ χ} {l:Nat}
theorem ztc {m:Bool} {N:Lim} {id:Nat} {ops:List Oper} {its:List It} {E E':Env} {Q:Exit->Act->World->Prop} {s s':σ} {x:χ} {b:Bool} {o:Oper} {y:Operand} {ts:Array TypeId} (n:Nat) (d:Option Nat) (args:List Operand) (as0 as:List AV) (E1:Env)
  (ht:zvh P l ps F k I) (ho:ops.drop n=o::ops.drop (n+1)) (hop:o.op= .call ⟨.value y,args.toArray,ts⟩) (hg:o.guard=none) (hd:o.dst=d) (hN:zfs N d=true)
  (h1:zal P N ops.toArray (ops.take n) E E1) (hy:E1.opd y=some (.lf (.val (.func (.yield l) #[] #[])))) (hi:zjs E1 (args.zip as0)) (hl:args.length=as0.length) (hle:leL as0 as) (hx:ps x=as)
  (hc:((AV.colsL as).all (fun c=>Nat.beq c 0)&&(AV.labsL as).isEmpty)=true) (hk:k s x=some (b,s'))
  (h2:zal P N ops.toArray (ops.drop (n+1)) ⟨zeL d (.lf (.bool b)) (zjN [1] [] E1.sl),zds [1] [] E1.bx⟩ E') (kk:JI m P its (Sx ⟨N,itX I hI F s',false,#[]⟩ E') Q):
  JI m P (.c (.region id ops.toArray false)::its) (Sx ⟨N,itX I hI F s,false,#[]⟩ E) Q:=by
 intro a w hs;rw [zlb];refine zlc ?_;have hsplit:ops=ops.take n++o::ops.drop (n+1):=by rw [<-ho,xZ]
 rw [hsplit];refine zrP ?_;rw [<-hsplit];refine h1 ⟨N,itX I hI F s,false,#[]⟩ a w _ rfl hs fun a1 w1 hs1=>?_
 obtain ⟨γ,hB,hS,hX⟩:=hs1;obtain ⟨own,hj,hG⟩:=hB.ext;have hv:=Env.opd_rel hy hS;have hyv:a1.eval y= .func (.yield l) #[] #[]:=by
  generalize a1.eval y=u at hv|-
  cases hv.2;rfl
 have hargs:AV.relL γ w1 as (args.map a1.eval):=by
  have hr:=hi.rel hS;refine zlU hle ?_;clear hi hx hc h1 h2 hop hle
  induction args generalizing as0 with
  | nil=>cases as0 with
   | nil=>rfl
   | cons=>simp at hl
  | cons z args ih=>cases as0 with
   | nil=>simp at hl
   | cons c as0=>exact ⟨_,_,rfl,hr (z,c) xf,ih as0 (by simpa using hl) (fun p hp=>hr p (xg _ hp))⟩
 simp only [xh,xn,yX] at hc;obtain ⟨fn,tmps,asg,body,hrun,hR⟩:=ht s own w1 x b s' (args.map a1.eval) hj hG.lt hk fun γ' hγ'=>by
  rw [hx];refine AV.reghL as (fun c hcl hcm=>?_) (fun ℓ hℓ=>by rw [hc.2] at hℓ;cases hℓ) hargs;have h0:γ.col c=0:=xk (hc.1 _ hcm);rw [h0];exact hγ' c hcl (hG.zero c hcl h0)
 refine zgQ (by simp [Region.wanted,hg]) (fun ro=>⟨fun _ _=>trivial,?_⟩);have hrun':(execOp a1.eval o).run P w1= .ok (.round l fn tmps asg body) w1:=by
  simp [execOp,hop,resolve,hyv,Deferred.ofValue,invoke,hrun]
 rw [Oper.semAt_eq _ _ _ (by rw [hop];nofun),hrun'];refine ⟨nofun,RoundIn.mono hR (fun e B hq=>?_)⟩;obtain ⟨rfl,hj',hsp⟩:=hq;have hown:∀c,c<w1.heap.size->γ.col c∉[1]->own c\/F c:=fun c hcl hcn=>by
  rcases yj (γ.col c) 2 with h| h
  ·have h01:γ.col c=0\/γ.col c=1:=by omega
   rcases h01 with e| e
   ·exact .inr (hG.zero c hcl e)
   grind
  ·exact .inl (hG.mine c hcl h)
 have hT:Tr [1] [] γ w1 (zaE γ w1.heap.size) B:=⟨hsp.os,hsp.tape,hsp.output,hsp.size,fun c hcl hcn=>hsp.block c hcl (hown c hcl hcn),fun c hcl=>by simp [zaE,hcl],fun _ _=>rfl,fun c h1 _ h0=>by simp [zaE,Nat.not_lt.2 h1] at h0⟩;refine h2 ⟨N,itX I hI F s',false,#[]⟩ _ B (zdM m P Q its) rfl ⟨zaE γ w1.heap.size,⟨⟨[],?_,yw,fun D hD=>by cases hD⟩,fun _=>?_,?_,?_,own,hj',fun c hcl h0=>?_,fun c hcl h2=>?_,fun c hcc=>xp (hG.lt c hcc) hsp.size⟩,?_,hX.tr hT⟩ (fun a' w' hs'=>kk a' w' hs')
 ·rw [zfF];exact hB.clean rfl
 ·rw [zfF];exact hB.clean rfl
 ·rw [zmn];exact hB.size
 ·rw [hd];exact (hB.put d (.bool b) (zcD hN)).kept
 ·by_cases hlt:c<w1.heap.size
  ·exact hG.zero c hlt (by simpa [zaE,hlt] using h0)
  ·simp [zaE,hlt] at h0
 ·by_cases hlt:c<w1.heap.size
  ·exact hG.mine c hlt (by simpa [zaE,hlt] using h2)
  ·simp [zaE,hlt] at h2
 ·rw [hd];exact (hS.tr hT).put (fun k hk=>by rw [hB.size];exact zdZ hN _ hk) ⟨rfl,.bool b⟩
end
inductive zjq:Nat->List AV->List (Nat×AV)->List Bx->Prop
 | nil (n:Nat):zjq n [] [] []
 | cons {α:Type} {n:Nat} (r:Rp α) (t:TypeId) (ℓ:Nat) (C:List Nat) (x:α) (avs:List AV) {cs:List AV} {sl:List (Nat×AV)} {bx:List Bx} (h1:zdE avs=some (r.lv x)) (h2:avs.all (zlW C)=true)
   (h:zjq (n+1) cs sl bx):zjq n (.bp r t ℓ C x::cs) ((n,.ptr ℓ 0)::sl) (⟨ℓ,t,avs⟩::bx)
 | ep {α:Type} {n:Nat} (r:Rp α) (C:List Nat) (x:α) {cs:List AV} {sl:List (Nat×AV)} {bx:List Bx} (h:zjq (n+1) cs sl bx):zjq n (.ep r C x 0::cs) ((n,.ep r C x 0)::sl) bx
theorem zjq.rel (h:zjq n cs sl bx) :∀{vs:List Value} (ve post:List Value),ve.length=n->AV.relL γ w cs vs->
  (∀p∈sl,p.2.rel γ w ((ve++vs++post).toArray.getD p.1 undef))/\Bxs γ w bx:=by
 induction h with
 | nil n=>intro vs ve post _ _;exact ⟨(fun p hp=>by cases hp),(fun b hb=>by cases hb)⟩
 | cons r t ℓ C x avs h1 h2 h ih=>
  intro vs ve post hn hr;obtain ⟨v,vs',rfl,⟨b,cells,hv,⟨g1,g2⟩,hlt,hh,hone,hA⟩,hr'⟩:=hr;obtain ⟨k1,k2⟩:=ih (vs:=vs') (ve++[v]) post (by simp [hn]) hr';refine ⟨fun p hp=>?_,fun c hc=>?_⟩
  ·rcases xj.1 hp with rfl| hp
   ·show ((ve++v::vs'++post).toArray.getD _ undef)=_;simp_all
   grind
  ·rcases xj.1 hc with rfl| hc
   ·refine ⟨by rw [g2];exact g1,cells.toList,?_,zfQ h1 hA h2,hone⟩;simp_all
   ·exact k2 c hc
 | ep r C x h ih=>
  intro vs ve post hn hr;obtain ⟨v,vs',rfl,hv,hr'⟩:=hr;obtain ⟨k1,k2⟩:=ih (vs:=vs') (ve++[v]) post (by simp [hn]) hr';simp_all
theorem zxH {P:Program} {g:FuncId} {fn:Func} {c:Code} {χ:Type} {caps:List AV} {ps:χ->List AV} {it:{σ:Type}->Rnd σ χ->σ->Option σ} (N:Nat) (sl:List (Nat×AV)) (bx:List Bx)
  (hf:P.funcs[g]? =some fn) (hb:fn.body=some c) (hN:fn.ntmps=N) (vd:Nat.ble (caps.length+1) N=true) (hres:fn.results=#[]) (hcap:zjq 1 caps sl bx)
  (hj:∀(σ:Type) (k:Rnd σ χ) (s0 s1:σ),it k s0=some s1->∀(l:Nat) (I:σ->(Nat->Prop)->World->Prop) (hI:Abid I) (F:Fp),zvh P l ps F k I->
   J true P c (Sx ⟨⟨N,[]⟩,itX I hI F s0,false,#[]⟩ ⟨(0,.lf (.val (.func (.yield l) #[] #[])))::sl,bx⟩) fun e a w=>(e= .normal\/e= .ret)/\Sx ⟨⟨N,[]⟩,itX I hI F s1,false,#[]⟩ ⟨[],[]⟩ a w):ItOk P g caps ps it:=by
 subst hN;intro σ k s0 s1 hit l γ w F own vs I hc hG hI ht h0;have hl:=zaF hc;have hlen':=xy vd;obtain ⟨k1,k2⟩:=hcap.rel [.func (.yield l) #[] #[]] (List.replicate (fn.ntmps - (vs.length+1)) undef) rfl hc;have e:(([.func (.yield l) #[] #[]]++vs++List.replicate (fn.ntmps - (vs.length+1)) undef:List Value)).toArray=(Value.func (.yield l) #[] #[]::vs).toArray++Array.replicate (fn.ntmps - (Value.func (.yield l) #[] #[]::vs).toArray.size) undef:=by simp
 rw [e] at k1;refine calls_of_wp hf hb (wp_mono (zyZ (hj σ k s0 s1 hit l I hI F ht _ w ⟨γ,⟨⟨[],rfl,yw,(fun D hD=>by cases hD)⟩,fun _=>rfl,?_,(fun k hk=>by cases hk),own,h0,hG⟩,fun p hp=>?_,k2⟩)) ?_)
 ·simp;omega
 ·rcases xj.1 hp with rfl| hp
  ·show _/\zaf _ _ _ _;have:((Value.func (.yield l) #[] #[]::vs).toArray++Array.replicate (fn.ntmps - (Value.func (.yield l) #[] #[]::vs).toArray.size) undef).getD 0 undef= .func (.yield l) #[] #[]:=by rw [<-e];simp
   rw [this];exact ⟨rfl,.val _ rfl⟩
  ·exact k1 p hp
 ·rintro e a w' ⟨he,γ',hB,hS,hX⟩;obtain ⟨us,hr,_⟩:=zhw (P:=P) (fn:=fn) (l:=[]) hS hX (by rw [hres];trivial);have hfin:a.defers=[]/\∃v,(results fn a.tmps).run P w'= .ok v w'/\((∃v',(Ending.returned v)= .returned v')/\∃own',I s1 own' w'):=by
   obtain ⟨own',hj',_⟩:=hB.ext;exact ⟨hB.clean rfl,_,hr,⟨_,rfl⟩,own',hj'⟩
  rcases he with rfl| rfl
  ·exact hfin
  ·exact hfin
def Two (X:Ext) (ds:List Deferred) (Z:Nat->Prop) (γ:Gh) (W:World):Prop:=
 ∃γx:Gh,X.X γx W/\zlE X.base γx W ds/\γx.box=γ.box/\(∀b,Z b->γx.col b=2/\γ.col b=1)/\(∀b,¬Z b->γ.col b=γx.col b)/\∀b,Z b->b<W.heap.size
section
variable {X:Ext} {ds:List Deferred} {Z:Nat->Prop} {γ γ':Gh} {W W':World}
theorem Two.tr (h:Two X ds Z γ W) (t:Tr Ws V γ W γ' W') (hW:∀c∈Ws,2<=c) (hV:∀c∈V,2<=c):Two X ds Z γ' W':=by
 obtain ⟨γx,hX,hm,hbx,hZ,hn,hlt⟩:=h
 classical
 have ht:Tr Ws V γx W ⟨fun b=>if Z b then 2 else γ'.col b,γ'.box⟩ W':=by
  refine ⟨t.os,t.tape,t.output,t.size,fun b hb hc=>?_,fun b hb=>?_,fun ℓ hℓ=>?_,fun b h1 h2 h0=>?_⟩
  ·by_cases hz:Z b
   ·exact t.block b hb (by rw [(hZ b hz).2];intro h;have:=hW _ h;omega)
   ·exact t.block b hb (by rw [hn b hz];exact hc)
  ·by_cases hz:Z b
   ·grind
   ·simp [hz,t.col b hb,hn b hz]
  ·rw [hbx];exact t.box ℓ hℓ
  ·have hz:¬Z b:=fun hz=>by have:=hlt b hz;omega
   simp [hz] at h0;exact t.fresh b h1 h2 h0
 refine ⟨_,X.tr hX ht hW hV,hm.tr ht hW,rfl,fun b hz=>⟨by simp [hz],?_⟩,fun b hz=>by simp [hz],fun b hz=>xp (hlt b hz) t.size⟩;rw [t.col b (hlt b hz)];exact (hZ b hz).2
theorem Two.ren (h:Two X ds Z γ W) (k:zon γ γ'):Two X ds Z γ' W:=by
 obtain ⟨γx,hX,hm,hbx,hZ,hn,hlt⟩:=h
 classical
 have ha:zon γx ⟨fun b=>if Z b then 2 else γ'.col b,γ'.box⟩:=by
  refine ⟨fun b hb=>?_,fun b hb=>?_,fun b hb=>?_,fun b hb=>?_⟩
  ·have hz:¬Z b:=fun hz=>by have:=(hZ b hz).1;omega
   simp [hz];exact k.zero b (by rw [hn b hz];exact hb)
  ·have hz:¬Z b:=fun hz=>by have:=(hZ b hz).1;omega
   simp [hz];exact k.one b (by rw [hn b hz];exact hb)
  ·by_cases hz:Z b
   ·simp [hz] at hb
   ·simp [hz] at hb;rw [<-hn b hz];exact k.back b hb
  ·have hz:¬Z b:=fun hz=>by rw [(hZ b hz).1] at hb;cases hb
   have:=k.old b (by rw [hn b hz];exact hb)
   grind
 exact ⟨_,X.ren hX ha,hm.ren ha,rfl,fun b hz=>⟨by simp [hz],k.one b (hZ b hz).2⟩,fun b hz=>by simp [hz],hlt⟩
theorem Two.lets (h:Two X ds Z γ W) (t:Lets Z W W'):Two X ds (fun b=>Z b\/(W.heap.size<=b/\b<W'.heap.size)) (zaE γ W.heap.size) W':=by
 obtain ⟨γx,hX,hm,hbx,hZ,hn,hlt⟩:=h;have ht:Tr [2] [] γx W ⟨fun b=>if b<W.heap.size then γx.col b else if b<W'.heap.size then 2 else 1,γx.box⟩ W':=by
  refine ⟨t.os,t.tape,t.output,t.size,fun b hb hc=>t.block b hb (fun hz=>hc (by rw [(hZ b hz).1];exact xf)),fun b hb=>by simp [hb],fun ℓ _=>rfl,fun b h1 h2 h0=>?_⟩
  grind
 have hW:∀c∈[2],2<=c:=fun c hc=>by simp at hc;omega
 refine ⟨_,X.tr hX ht hW (fun c hc=>by cases hc),hm.tr ht hW,hbx,fun b hz=>?_,fun b hz=>?_,fun b hz=>?_⟩
 ·rcases hz with hz| ⟨h1,h2⟩
  ·simp [zaE,hlt b hz];exact hZ b hz
  ·simp [zaE,Nat.not_lt.2 h1,h2]
 ·by_cases hb:b<W.heap.size
  ·simp [zaE,hb];exact hn b fun h=>hz (.inl h)
  ·have h2:¬b<W'.heap.size:=fun h=>hz (.inr ⟨yD hb,h⟩)
   simp [zaE,hb,h2]
 ·rcases hz with hz| ⟨_,h2⟩
  ·exact xp (hlt b hz) t.size
  ·exact h2
theorem Two.out (h:Two X ds Z γ W):X.X γ W/\zlE X.base γ W ds:=by
 obtain ⟨γx,hX,hm,hbx,hZ,hn,hlt⟩:=h;have ha:zon γx γ:=by
  refine ⟨fun b hb=>?_,fun b hb=>?_,fun b hb=>?_,fun b hb=>?_⟩
  ·grind
  ·grind
  ·grind
  ·have hz:¬Z b:=fun hz=>by rw [(hZ b hz).1] at hb;cases hb
   exact hn b hz
 exact ⟨X.ren hX ha,hm.ren ha⟩
end
def zuQ (X:Ext) (ds:List Deferred) (Z:Nat->Prop) (F:Fp) (W0:World):Ext where
 X γ W:=Two X ds Z γ W/\zud (fun b=>Z b\/F b) W0 W/\(∀b,F b->γ.col b=0/\b<W0.heap.size)/\∀b,Z b->b<W0.heap.size
 tr:=fun {γ γ' W W' Ws V} ⟨h1,h2,h3,h4⟩ t hW hV=>by
  refine ⟨h1.tr t hW hV,⟨t.os.trans h2.os,t.tape.trans h2.tape,t.output.trans h2.output,yb h2.size t.size,fun b hb hz=>?_⟩,fun b hF=>⟨?_,(h3 b hF).2⟩,h4⟩
  ·refine (t.block b (xp hb h2.size) fun hc=>?_).trans (h2.block b hb hz);have:=hW _ hc;rcases hz with hz| hF
   ·obtain ⟨γx,_,_,_,hZ,_⟩:=h1;have:=(hZ b hz).2;omega
   ·have:=(h3 b hF).1;omega
  ·rw [t.col b (xp (h3 b hF).2 h2.size)];exact (h3 b hF).1
 ren:=fun {γ γ' W} ⟨h1,h2,h3,h4⟩ k=>⟨h1.ren k,h2,fun b hF=>⟨k.zero b (h3 b hF).1,(h3 b hF).2⟩,h4⟩
 base:=0
 le:=fun _=>xm _
def znc:List Nat->List AV->List (Nat×AV)->List (Nat×AV)
 | p::ps,v::vs,l=>znc ps vs (zeL (some p) v l)
 | _,_,l=>l
theorem zpp :∀(ps:List Nat) (as:List AV) (us:List Value) (l:List (Nat×AV)) (a:Act),Sl γ w a l->AV.relL γ w as us->ps.length=as.length->(∀p∈ps,p<a.tmps.size)->
  Sl γ w ⟨(ps.zip us).foldl (fun t (q:Nat×Value)=>t.setIfInBounds q.1 q.2) a.tmps,a.defers⟩ (znc ps as l)
 | [],[],us,l,a,hs,_,_,_=>by simpa [znc] using hs
 | p::ps,v::as,us,l,a,hs,hr,hl,hlt=>by
  obtain ⟨u,us',rfl,h1,h2⟩:=hr;exact zpp ps as us' _ (a.put (some p) u) (hs.put (fun k hk=>by cases hk;exact hlt p xf) h1) h2 (by simpa using hl) (fun q hq=>by rw [zmn];exact hlt q (xg _ hq))
 | [],_::_,_,_,_,_,_,hl,_=>by simp at hl
 | _::_,[],_,_,_,_,_,hl,_=>by simp at hl
theorem zqD:∀(qs:List (Nat×Value)) (t:Array Value),(qs.foldl (fun t (q:Nat×Value)=>t.setIfInBounds q.1 q.2) t).size=t.size/\∀k,(∀q∈qs,q.1≠k)->(qs.foldl (fun t (q:Nat×Value)=>t.setIfInBounds q.1 q.2) t).getD k undef=t.getD k undef
 | [],t=>⟨rfl,fun _ _=>rfl⟩
 | q::qs,t=>by
  obtain ⟨h1,h2⟩:=zqD qs (t.setIfInBounds q.1 q.2);refine ⟨by rw [qP,h1];simp,fun k hk=>?_⟩;rw [qP,h2 k fun r hr=>hk r (xg _ hr)];simp_all
def Zof (own:Nat->Prop) (l D:Nat):Nat->Prop:=fun b=>own b\/b=l\/b=D
theorem Two.congr (h:Two X ds Z γ W) (e:∀b,Z b↔Z' b):Two X ds Z' γ W:=by
 have:Z=Z':=funext fun b=>propext (e b)
 grind
theorem zir (t:Lets K W W') (hK:∀b,K b->γ.col b=1):Tr [1] [] γ W (zaE γ W.heap.size) W':=
 ⟨t.os,t.tape,t.output,t.size,fun b hb hc=>t.block b hb fun hk=>hc (by rw [hK b hk];exact xf),fun b hb=>by simp [zaE,hb],fun _ _=>rfl,fun b h1 _ h0=>by simp [zaE,Nat.not_lt.2 h1] at h0⟩
def lpOf {σ ρ:Type} (rec:LoopState->Option Code->Loop) (cd:ρ->Code):σ⊕ρ->Loop
 | .inl _=>rec .ready none
 | .inr r=>rec .done (some (cd r))
def bxOf {σ ρ:Type} (Bs:σ->List Bx) (Br:ρ->List Bx):σ⊕ρ->List Bx
 | .inl s=>Bs s
 | .inr r=>Br r
structure CI {σ ρ:Type} (X:Ext) (ds:List Deferred) (F:Fp) (l D:Nat) (rec:LoopState->Option Code->Loop) (old:Array Value) (slE:List (Nat×AV)) (Bs:σ->List Bx) (Br:ρ->List Bx) (cd:ρ->Code) (st:σ⊕ρ) (own:Nat->Prop) (W:World) (γ:Gh):Prop where
 two:Two X ds (Zof own l D) γ W
 data:∀b,F b->γ.col b=0/\b<W.heap.size
 nl:¬own l
 nD:¬own D
 blk:W.heap[D]? =some (.deferred (some []))
 sl:∀p∈slE,p.2.rel γ W (old.getD p.1 undef)
 bx:Bxs γ W (bxOf Bs Br st)
 lp:W.heap[l]? =some (.loop (lpOf rec cd st))
theorem CI.abid {σ ρ:Type} {X:Ext} {ds:List Deferred} {F:Fp} {l D:Nat} {rec:LoopState->Option Code->Loop} {old:Array Value} {slE:List (Nat×AV)} {Bs:σ->List Bx} {Br:ρ->List Bx} {cd:ρ->Code}
  (hfs:∀p∈slE,p.2.free [1] []=true) (hBs:∀s,zds [1] [] (Bs s)=Bs s) (hBr:∀r,zds [1] [] (Br r)=Br r):
  Abid fun (st:σ⊕ρ) own W=>∃γ,CI X ds F l D rec old slE Bs Br cd st own W γ:=by
 rintro st own A B ⟨γ,h⟩ t;have hl:=(xD.1 h.lp).1;have hD:=(xD.1 h.blk).1;have tZ:Lets (Zof own l D) A B:=⟨t.os,t.tape,t.output,t.size,fun b hb hn=>t.block b hb fun ho=>hn (.inl ho)⟩;have h1:∀b,own b->γ.col b=1:=fun b ho=>by
  obtain ⟨γx,_,_,_,hZ,_⟩:=h.two;exact (hZ b (.inl ho)).2
 have hT:=zir t h1;refine ⟨zaE γ A.heap.size,(h.two.lets tZ).congr fun b=>?_,fun b hF=>?_,?_,?_,(t.block D hD h.nD).trans h.blk,fun p hp=>?_,?_,(t.block l hl h.nl).trans h.lp⟩
 ·unfold Zof
  grind
 ·obtain ⟨g1,g2⟩:=h.data b hF;exact ⟨by simp [zaE,g2,g1],xp g2 t.size⟩
 ·rintro (h'| ⟨h',_⟩)
  ·exact h.nl h'
  ·omega
 ·rintro (h'| ⟨h',_⟩)
  ·exact h.nD h'
  ·omega
 ·obtain ⟨f1,f2⟩:=AV.free_spec (hfs p hp);exact p.2.keep hT f1 f2 (h.sl p hp)
 ·have:=h.bx.tr hT;cases st with
  | inl s=>rw [show bxOf Bs Br (Sum.inl s)=Bs s from rfl,hBs] at this;exact this
  | inr r=>rw [show bxOf Bs Br (Sum.inr r)=Br r from rfl,hBr] at this;exact this
def Jump:Exit->Code->Prop
 | .ret,.ret=>True
 | .exit i,.exit j=>i=j
 | _,_=>False
theorem Lets.put (hl:Z l) (o:Obj):Lets Z W (W.putObj l o):=
 ⟨rfl,rfl,rfl,by simp,fun b _ hb=>World.putObj_heap_other fun e=>hb (e▸hl)⟩
theorem Two.put (h:Two X ds Z γ W) (hl:Z l) (o:Obj):Two X ds Z (zaE γ W.heap.size) (W.putObj l o):=
 (h.lets (Lets.put hl o)).congr fun b=>⟨fun h=>h.elim id fun ⟨h1,h2⟩=>by simp at h2;omega,.inl⟩
theorem Two.one (h:Two X ds Z γ W):∀b,Z b->γ.col b=1:=fun b hb=>by
 obtain ⟨γx,_,_,_,hZ,_⟩:=h
 grind
theorem Two.lt (h:Two X ds Z γ W):∀b,Z b->b<W.heap.size:=fun b hb=>by
 obtain ⟨γx,_,_,_,_,_,hl⟩:=h;exact hl b hb
theorem CI.takes {σ ρ χ:Type} {P:Program} {X:Ext} {ds:List Deferred} {F:Fp} {l D:Nat} {rec:LoopState->Option Code->Loop} {old:Array Value} {slE:List (Nat×AV)} {Bs:σ->List Bx} {Br:ρ->List Bx} {cd:ρ->Code}
  {asg body:Code} {prm:Array Tmp} {N:Nat} {ks:List Nat} {kb:σ->χ->Option (σ⊕ρ)} {ps:χ->List AV} {Eb:σ->χ->Env} (fn:FuncId) (hrec:rec=fun st pe=>{state:=st,pending:=pe,fn:=fn,tmps:=old,params:=prm,assign:=asg,body:=body,defers:=D})
  (hN:old.size=N) (hlD:l≠D) (hfs:∀p∈slE,p.2.free [1] []=true) (hBs:∀s,zds [1] [] (Bs s)=Bs s) (hBr:∀r,zds [1] [] (Br r)=Br r)
  (hks:∀p∈slE,p.1∈ks) (hpk:∀q∈prm.toList,q∉ks/\q<N) (hprm:∀x,(ps x).length=prm.size)
  (hasg:∀(X:Ext) (old:Array Value) s x,J false P asg (Sx ⟨⟨N,ks⟩,X,false,old⟩ ⟨znc prm.toList (ps x) slE,Bs s⟩) fun e a w=>e= .normal/\Sx ⟨⟨N,ks⟩,X,false,old⟩ (Eb s x) a w)
  (hfree:∀s x,zjN [1] [] (Eb s x).sl=(Eb s x).sl/\zds [1] [] (Eb s x).bx=(Eb s x).bx)
  (hbody:∀(X:Ext) (old:Array Value) s x o,kb s x=some o->J false P body (Sx ⟨⟨N,ks⟩,X,false,old⟩ (Eb s x)) (match o with
   | .inl s'=>fun e a w=>e= .normal/\Sx ⟨⟨N,ks⟩,X,false,old⟩ ⟨slE,Bs s'⟩ a w
   | .inr r=>fun e a w=>Jump e (cd r)/\Sx ⟨⟨N,ks⟩,X,false,old⟩ ⟨slE,Br r⟩ a w)):
  zvh P l ps F (rnd kb) fun (st:σ⊕ρ) own W=>∃γ,CI X ds F l D rec old slE Bs Br cd st own W γ:=by
 rintro st own A x b st' us ⟨γ,h⟩ hown hk hus;cases st with
 | inr r=>cases hk
 | inl s=>
 have hur:=hus γ fun c hc hF=>(h.data c hF).1
 have hul:us.length=prm.size:=by rw [zaF hur,hprm]
 have hl0:A.heap[l]? =some (.loop (rec .ready none)):=h.lp;have hZl:Zof own l D l:= .inr (.inl rfl);have hnF:¬F l:=fun hF=>by have:=(h.data l hF).1;have:=h.two.one l hZl;omega
 have hy:=run_yield (P:=P) (args:=us.toArray) hl0 (by rw [hrec];simpa using hul);rw [hrec] at hy;simp only at hy;have hfold:(prm.zip us.toArray).foldl (fun tmps (q:Nat×Value)=>tmps.setIfInBounds q.1 q.2) old=(prm.toList.zip us).foldl (fun tmps (q:Nat×Value)=>tmps.setIfInBounds q.1 q.2) old:=by
  rw [<-qQ,Array.toList_zip]
 obtain ⟨q1,q2⟩:=zqD (prm.toList.zip us) old;refine ⟨_,_,asg,body,hy,roundIn_of_wpIn trivial ?_⟩;have hstart:Sx ⟨⟨N,ks⟩,zuQ X ds (Zof own l D) F A,false,old⟩ ⟨znc prm.toList (ps x) slE,Bs s⟩ {tmps:=(prm.zip us.toArray).foldl (fun tmps (q:Nat×Value)=>tmps.setIfInBounds q.1 q.2) old,defers:=[]} A:=by
  refine ⟨γ,⟨⟨[],rfl,yw,fun D hD=>by cases hD⟩,fun _=>rfl,?_,fun k hk=>?_,h.two,⟨rfl,rfl,rfl,xi _,fun _ _ _=>rfl⟩,h.data,h.two.lt⟩,?_,h.bx⟩
  ·grind
  ·show Array.getD _ k undef=_;rw [hfold];exact q2 k fun q hq e=>(hpk q.1 (List.of_mem_zip hq).1).1 (e▸hk)
  ·have:=zpp prm.toList (ps x) us slE ⟨old,[]⟩ (fun p hp=>h.sl p hp) hur (by rw [hprm];simp) (fun p hp=>by rw [hN];exact (hpk p hp).2)
   grind
 refine yF (hasg _ old s x _ A hstart (some l) nofun) ?_;rintro e a1 w1 ⟨rfl,γ1,hB1,hS1,hX1⟩;obtain ⟨hT1,hsp1,hF1,hZ1⟩:=hB1.ext;have hll:=hZ1 l hZl;have hl1:w1.heap[l]? =some (.loop (rec .ready none)):=(hsp1.block l hll (.inl hZl)).trans hl0;refine ⟨_,run_beginRound hl1 (by rw [hrec]),?_⟩;have hlt1:=(xD.1 hl1).1;obtain ⟨w2,hw2⟩:∃w2,w1.putObj l (.loop {rec .ready none with state:= .busy})=w2:=⟨_,rfl⟩;rw [hw2];have hsz2:w2.heap.size=w1.heap.size:=by rw [<-hw2];simp
 have hl2:w2.heap[l]? =some (.loop {rec .ready none with state:= .busy}):=by rw [<-hw2];exact World.putObj_heap_same hlt1
 have hL12:Lets (Zof own l D) w1 w2:=by rw [<-hw2];exact Lets.put hZl _
 have hLl:Lets (fun b=>b=l) w1 w2:=by rw [<-hw2];exact Lets.put (Z:=fun b=>b=l) rfl _
 have hT12:=zir hLl fun b e=>by rw [e];exact hT1.one l hZl
 have hT2:Two X ds (Zof own l D) (zaE γ1 w1.heap.size) w2:=by rw [<-hw2];exact hT1.put hZl _
 have hsb:Sx ⟨⟨N,ks⟩,zuQ X ds (Zof own l D) F w2,false,old⟩ (Eb s x) a1 w2:=by
  refine ⟨zaE γ1 w1.heap.size,⟨⟨[],hB1.clean rfl,yw,fun D hD=>by cases hD⟩,hB1.clean,hB1.size,hB1.kept,hT2,⟨rfl,rfl,rfl,xi _,fun _ _ _=>rfl⟩,fun c hF=>?_,hT2.lt⟩,?_,?_⟩
  ·obtain ⟨g1,g2⟩:=hF1 c hF;have g3:=xp g2 hsp1.size;exact ⟨by simp [zaE,g3,g1],by rw [hsz2];exact g3⟩
  ·have:=hS1.tr hT12
   grind
  ·have:=hX1.tr hT12
   grind
 have fin:∀(jump:Option Code) (st':σ⊕ρ) (a3:Act) (w3:World),(∃γ3,Base ⟨⟨N,ks⟩,zuQ X ds (Zof own l D) F w2,false,old⟩ γ3 a3 w3/\Sl γ3 w3 a3 slE/\Bxs γ3 w3 (bxOf Bs Br st'))->
   lpOf rec cd st'=rec (if jump.isNone then .ready else .done) jump->zds [1] [] (bxOf Bs Br st')=bxOf Bs Br st'->
   ∃w4,(Instr.endRound l jump).run P w3= .ok (.bool jump.isNone) w4/\(∃γ4,CI X ds F l D rec old slE Bs Br cd st' own w4 γ4)/\zud (fun c=>own c\/F c) A w4:=by
  rintro jump st' a3 w3 ⟨γ3,hB3,hS3,hX3⟩ hlp hkb;obtain ⟨hT3,hsp3,hF3,hZ3⟩:=hB3.ext;have hl3:w3.heap[l]? =some (.loop {rec .ready none with state:= .busy}):=(hsp3.block l (by omega) (.inl hZl)).trans hl2;have hlt3:=(xD.1 hl3).1;have hD2:D<w2.heap.size:=hZ3 D (.inr (.inr rfl));have hrun:=run_endRound (P:=P) jump hl3;have hobj:({({rec .ready none with state:= .busy}:Loop) with state:=if jump.isNone then .ready else .done,pending:=jump}:Loop)=lpOf rec cd st':=by rw [hlp,hrec]
  rw [hobj] at hrun;have hLl3:Lets (fun b=>b=l) w3 (w3.putObj l (.loop (lpOf rec cd st'))):=Lets.put (Z:=fun b=>b=l) rfl _;have hT34:=zir hLl3 fun b e=>by rw [e];exact hT3.one l hZl
  refine ⟨_,hrun,⟨zaE γ3 w3.heap.size,hT3.put hZl _,fun c hF=>?_,h.nl,h.nD,?_,fun p hp=>?_,?_,World.putObj_heap_same hlt3⟩,?_⟩
  ·obtain ⟨g1,g2⟩:=hF3 c hF;have g3:=xp g2 hsp3.size;exact ⟨by simp [zaE,g3,g1],by simpa using g3⟩
  ·rw [World.putObj_heap_other (Ne.symm hlD),hsp3.block D hD2 (.inl (.inr (.inr rfl))),hLl.block D (by omega) (Ne.symm hlD),hsp1.block D (hZ1 D (.inr (.inr rfl))) (.inl (.inr (.inr rfl)))];exact h.blk
  ·obtain ⟨f1,f2⟩:=AV.free_spec (hfs p hp);have:=p.2.keep hT34 f1 f2 (hS3 p hp);rw [hB3.kept p.1 (hks p hp)] at this;exact this
  ·have:=hX3.tr hT34
   grind
  ·have hlz:∀c,own c\/F c->c≠l:=fun c hc e=>by
    subst e;exact hc.elim h.nl hnF
   refine ⟨?_,?_,?_,?_,fun c hc hcc=>?_⟩
   ·exact hsp3.os.trans (hL12.os.trans hsp1.os)
   ·exact hsp3.tape.trans (hL12.tape.trans hsp1.tape)
   ·exact hsp3.output.trans (hL12.output.trans hsp1.output)
   ·have:=hsp1.size;have:=hsp3.size;simp;omega
   ·have h1:=hsp1.size;have hz:Zof own l D c\/F c:=hcc.imp .inl id;rw [World.putObj_heap_other (hlz c hcc),hsp3.block c (by omega) hz,hLl.block c (by omega) (hlz c hcc),hsp1.block c hc hz]
 cases hkb:kb s x with
 | none=>simp [rnd,hkb] at hk
 | some o=>
  refine yF (hbody _ old s x o hkb a1 w2 hsb (some l) nofun) ?_;rintro e a3 w3 hp;cases o with
  | inl s'=>
   simp [rnd,hkb] at hk;obtain ⟨rfl,rfl⟩:=hk;obtain ⟨rfl,hs3⟩:=hp;obtain ⟨w4,e1,e2,e3⟩:=fin none (.inl s') a3 w3 hs3 rfl (hBs s');exact ⟨_,w4,e1,rfl,e2,e3⟩
  | inr r=>
   simp [rnd,hkb] at hk;obtain ⟨rfl,rfl⟩:=hk;obtain ⟨hj,hs3⟩:=hp;obtain ⟨w4,e1,e2,e3⟩:=fin (some (cd r)) (.inr r) a3 w3 hs3 rfl (hBr r);cases e with
   | ret=>
    cases hc:cd r with
    | ret=>rw [hc] at e1;exact ⟨_,w4,e1,rfl,e2,e3⟩
    | _=>rw [hc] at hj;exact hj.elim
   | exit i=>
    cases hc:cd r with
    | exit j=>rw [hc] at e1 hj;cases (show i=j from hj);exact ⟨_,w4,e1,rfl,e2,e3⟩
    | _=>rw [hc] at hj;exact hj.elim
   | _=>exact hj.elim
theorem ztd (h:c∈zds W V l):c.lab∉W/\∀a∈c.avs,a.free W V=true:=by
 simp only [zds,xr,yn,xh] at h;obtain ⟨b,⟨_,h1,_⟩,rfl⟩:=h;refine ⟨zcn h1,fun a ha=>?_⟩;obtain ⟨x,_,rfl⟩:=xr.1 ha;unfold AV.clear;cases hf:x.free W V with
 | true=>exact hf
 | false=>rfl
theorem zvl :∀{l:List AV},(∀a∈l,a.free W V=true)->(∀c∈AV.colsL l,c∉W)/\∀c∈AV.labsL l,c∉V
 | [],_=>by
  refine ⟨?_,?_⟩
  ·intro c hc;cases hc
  ·intro c hc;cases hc
 | a::l,h=>by
  obtain ⟨h1,h2⟩:=AV.free_spec (h a xf);obtain ⟨h3,h4⟩:=zvl (l:=l) fun b hb=>h b (xg _ hb)
  exact ⟨fun c hc=>(xl.1 hc).elim (h1 c) (h3 c),fun c hc=>(xl.1 hc).elim (h2 c) (h4 c)⟩
def zAD {σ ρ:Type} (P:Program) (cx:Cx) (its:List It) (slE:List (Nat×AV)) (Bs:σ->List Bx) (Br:ρ->List Bx) (cd:ρ->Code) (Q:Exit->Act->World->Prop):σ⊕ρ->Prop
 | .inl s=>JI true P its (Sx cx ⟨slE,Bs s⟩) Q
 | .inr r=>JI true P (.c (cd r)::its) (Sx cx ⟨slE,Br r⟩) Q
theorem zxN {σ ρ χ:Type} {P:Program} {gf:Nat} {caps:List AV} {ps:χ->List AV} {it:{σ:Type}->Rnd σ χ->σ->Option σ} {g:Operand} {prm:Array Tmp} {asg body:Code} {cx:Cx} {E:Env} {its:List It} {Q:Exit->Act->World->Prop} {s0:σ} {o:σ⊕ρ}
  (ok:ItOk P gf caps ps it) (L ks bs:List Nat) (slE:List (Nat×AV)) (Bs:σ->List Bx) (Br:ρ->List Bx) (cd:ρ->Code) (kb:σ->χ->Option (σ⊕ρ)) (Eb:σ->χ->Env)
  (hmk:cx.marked=true) (hg:E.opd g=some (.fv gf caps)) (heg:∀as w,(callFunc gf as).run P w= .ok (.enter gf as) w) (hL:okW L=true) (hLs:(L.all fun c=> !spB c)=true) (hcols:subN (AV.colsL caps) (0::L)=true)
  (hp:E.pick ks bs=some ⟨slE,Bs s0⟩) (hfs:(slE.all fun p=>p.2.free (1::L) [])=true) (hB0:zds (1::L) [] (Bs s0)=Bs s0) (hBs:∀s,zds [1] [] (Bs s)=Bs s) (hBr:∀r,zds [1] [] (Br r)=Br r)
  (hpk:(prm.toList.all fun q=> !memN q ks&&Nat.blt q cx.n.n)=true) (hks:(slE.all fun p=>memN p.1 ks)=true) (hprm:∀x,(ps x).length=prm.size)
  (hasg:∀(X:Ext) (old:Array Value) s x,J false P asg (Sx ⟨⟨cx.n.n,ks⟩,X,false,old⟩ ⟨znc prm.toList (ps x) slE,Bs s⟩) fun e a w=>e= .normal/\Sx ⟨⟨cx.n.n,ks⟩,X,false,old⟩ (Eb s x) a w)
  (hfree:∀s x,zjN [1] [] (Eb s x).sl=(Eb s x).sl/\zds [1] [] (Eb s x).bx=(Eb s x).bx)
  (hbody:∀(X:Ext) (old:Array Value) s x o,kb s x=some o->J false P body (Sx ⟨⟨cx.n.n,ks⟩,X,false,old⟩ (Eb s x)) (match o with
   | .inl s'=>fun e a w=>e= .normal/\Sx ⟨⟨cx.n.n,ks⟩,X,false,old⟩ ⟨slE,Bs s'⟩ a w
   | .inr r=>fun e a w=>Jump e (cd r)/\Sx ⟨⟨cx.n.n,ks⟩,X,false,old⟩ ⟨slE,Br r⟩ a w))
  (hit:it (rnd kb) (.inl s0)=some o)
  (hk:zAD P cx its slE Bs Br cd Q o):JI true P (.c (.rangeFunc g prm asg body)::its) (Sx cx E) Q:=by
 intro a w hs;rw [zlb];intro ro hro;obtain rfl:=hro rfl;refine wpIn_rangeFunc fun fn _=>?_
 obtain ⟨γ0,hB,hS,hX⟩:=hs;obtain ⟨vs,hv,hcaps⟩:=Env.opd_rel hg hS;have hL2:=zme hL;have h0L:0∉L:=fun h=>by have:=hL2 0 h;omega
 have h1L:1∉L:=fun h=>by have:=hL2 1 h;omega
 simp only [xn] at hfs hpk hks;have hslm:∀p∈slE,p∈E.sl:=by
  unfold Env.pick at hp;split at hp
  ·rename_i s' b' e1 e2;cases hp;exact zlr _ _ e1
  ·cases hp
 have hbxm:∀b∈Bs s0,b∈E.bx:=by
  unfold Env.pick at hp;split at hp
  ·rename_i s' b' e1 e2;simp only [xF,Env.mk.injEq] at hp;rw [<-hp.2];exact ziK _ _ e2
  ·cases hp
 obtain ⟨rec,hrec⟩:∃rec:LoopState->Option Code->Loop,rec=fun st pe=>{state:=st,pending:=pe,fn:=fn,tmps:=a.tmps,params:=prm,assign:=asg,body:=body,defers:=w.heap.size}:=⟨_,rfl⟩
 obtain ⟨W1,hW1⟩:∃W1,(w.alloc (.deferred (some []))).alloc (.loop (rec .ready none))=W1:=⟨_,rfl⟩;have hl1:W1.heap[w.heap.size+1]? =some (.loop (rec .ready none)):=by
  rw [<-hW1];have:=World.alloc_heap_new (w.alloc (.deferred (some []))) (.loop (rec .ready none));rwa [World.size_alloc] at this
 have hD1:W1.heap[w.heap.size]? =some (.deferred (some [])):=by
  rw [<-hW1];exact (Below.heap_alloc _ _ _ (by simp)).trans (World.alloc_heap_new w _)
 have hsz:W1.heap.size=w.heap.size+2:=by rw [<-hW1];simp
 have hblk:∀b,b<w.heap.size->W1.heap[b]? =w.heap[b]? :=fun b hb=>by
  rw [<-hW1];exact (Below.heap_alloc _ _ _ (by simp;omega)).trans (Below.heap_alloc _ _ _ hb)
 have hos:W1.os=w.os/\W1.tape=w.tape/\W1.output=w.output:=by rw [<-hW1];exact ⟨rfl,rfl,rfl⟩
 have trn:∀γ γ':Gh,(∀b,b<w.heap.size->γ'.col b=γ.col b)->γ'.box=γ.box->(∀b,w.heap.size<=b->b<w.heap.size+2->γ'.col b≠0)->Tr [] [] γ w γ' W1:=fun γ γ' h1 h2 h3=>
  ⟨hos.1,hos.2.1,hos.2.2,by omega,fun b hb _=>hblk b hb,h1,fun ℓ _=>by rw [h2],fun b hb hb2 h0=>absurd h0 (h3 b hb (by omega))⟩
 obtain ⟨own0,hown0⟩:∃own0:Nat->Prop,own0=fun b=>b<w.heap.size/\γ0.col b∈L:=⟨_,rfl⟩
 obtain ⟨F,hF⟩:∃F:Fp,F=fun b=>b<w.heap.size/\γ0.col b=0:=⟨_,rfl⟩
 -- the iterator's view
 obtain ⟨γi,hγi⟩:∃γi:Gh,γi=⟨fun b=>if b<w.heap.size then (if γ0.col b∈L then γ0.col b else if γ0.col b=0 then 0 else 1) else 1,γ0.box⟩:=⟨_,rfl⟩;have hci:AV.relL γi W1 caps vs:=by
  refine AV.keepL caps (trn γi γi (fun _ _=>rfl) rfl (fun b h1 _=>by simp [hγi,Nat.not_lt.2 h1])) (fun c _ h=>by cases h) (fun c _ h=>by cases h) (AV.reghL caps (fun b hb hc=>?_) (fun ℓ _=>by rw [hγi]) hcaps);have:=zR hcols _ hc;rw [hγi]
  grind
 have hGi:ItG F own0 γi W1:=by
  rw [hγi,hF,hown0];refine ⟨fun b hb h0=>?_,fun b hb h2=>?_,fun b hb=>by rw [hsz];exact xp hb.1 (by omega)⟩
  ·grind
  grind
 -- the caller's
 obtain ⟨γ1,hγ1⟩:∃γ1:Gh,γ1=⟨fun b=>if b<w.heap.size then (if γ0.col b∈L then 1 else γ0.col b) else 1,γ0.box⟩:=⟨_,rfl⟩;have h1same:∀(C:List Nat),(∀c∈C,c∉1::L)->∀b,b<w.heap.size->γ0.col b∈C->γ1.col b=γ0.col b:=fun C hC b hb hc=>by
  simp_all
 have tr1:Tr [] [] γ1 w γ1 W1:=trn γ1 γ1 (fun _ _=>rfl) rfl (fun b h1 _=>by simp [hγ1,Nat.not_lt.2 h1]);have hI0:CI cx.X a.defers F (w.heap.size+1) w.heap.size rec a.tmps slE Bs Br cd (.inl s0) own0 W1 γ1:=by
  have ha:zon γ0 ⟨fun b=>if γ0.col b∈L then 2 else γ0.col b,γ0.box⟩:=by
   refine ⟨fun b hb=>by simp [hb,h0L],fun b hb=>by simp [hb,h1L],fun b hb=>?_,fun b hb=>?_⟩
   ·grind
   grind
  have htx:Tr [] [] ⟨fun b=>if γ0.col b∈L then 2 else γ0.col b,γ0.box⟩ w ⟨fun b=>if b<w.heap.size then (if γ0.col b∈L then 2 else γ0.col b) else if b<w.heap.size+2 then 2 else 1,γ0.box⟩ W1:=
   trn _ _ (fun b hb=>by simp [hb]) rfl (fun b h1 h2=>by simp [Nat.not_lt.2 h1,h2])
  refine ⟨⟨_,cx.X.tr (cx.X.ren hB.ext ha) htx (fun c hc=>by cases hc) (fun c hc=>by cases hc),(hB.defers.ren ha).tr htx (fun c hc=>by cases hc),by rw [hγ1],fun b hz=>?_,fun b hz=>?_,fun b hz=>?_⟩,fun b hb=>?_,?_,?_,hD1,fun p hp=>?_,fun c hc=>?_,hl1⟩
  ·rw [hown0] at hz;rcases hz with ⟨h1,h2⟩| rfl| rfl
   ·simp [h1,h2,hγ1]
   ·have q1:¬w.heap.size+1<w.heap.size:=by omega
    have q2:w.heap.size+1<w.heap.size+2:=by omega
    simp only [hγ1,xd q1,xe q2,and_self]
   simp_all
  ·rw [hown0] at hz;by_cases hb:b<w.heap.size
   ·have hm:γ0.col b∉L:=fun hm=>hz (.inl ⟨hb,hm⟩)
    simp [hγ1,hb,hm]
   ·have hb2:¬b<w.heap.size+2:=fun h=>hz (by
     have:b=w.heap.size+1\/b=w.heap.size:=by omega
     exact .inr this)
    simp [hγ1,hb,hb2]
  ·rw [hown0] at hz;rw [hsz];rcases hz with ⟨h1,h2⟩| rfl| rfl<;>omega
  ·rw [hF] at hb;refine ⟨?_,by rw [hsz];exact xp hb.1 (by omega)⟩;simp [hγ1,hb.1,hb.2,h0L]
  ·rw [hown0];intro h;have:=h.1;omega
  ·rw [hown0];intro h;have:=h.1;omega
  ·obtain ⟨f1,f2⟩:=AV.free_spec (hfs p hp);exact p.2.keep tr1 (fun c _ h=>by cases h) (fun c _ h=>by cases h) (AV.regh p.2 (h1same _ f1) (fun ℓ _=>by rw [hγ1]) (hS p (hslm p hp)))
  ·have hc':c∈zds (1::L) [] (Bs s0):=by rw [hB0];exact hc
   obtain ⟨k1,k2⟩:=ztd hc';obtain ⟨k3,_⟩:=zvl k2;obtain ⟨g1,cs,g2,g3,g4⟩:=hX c (hbxm c hc);have hlt:=(xD.1 g2).1;have hbox:γ1.box=γ0.box:=by rw [hγ1]
   refine ⟨?_,cs,?_,AV.keepL c.avs tr1 (fun c _ h=>by cases h) (fun c _ h=>by cases h) (AV.reghL c.avs (h1same _ k3) (fun ℓ _=>by rw [hbox]) g3),g4⟩
   ·rw [hbox];have:=h1same [c.lab] (fun d hd=>by simp at hd;rw [hd];exact k1) (γ0.box c.lab) hlt (by rw [g1];exact xf);rw [this];exact g1
   ·rw [hbox,hblk _ hlt];exact g2
 have hfs1:∀p∈slE,p.2.free [1] []=true:=fun p hp=>by
  obtain ⟨f1,f2⟩:=AV.free_spec (hfs p hp);unfold AV.free;simp only [xh,xn,xJ];refine ⟨fun c hc=>?_,fun c hc=>rfl⟩;cases hm:memN c [1] with
  | false=>rfl
  | true=>have:=zae.1 hm;exact absurd (xj.2 (.inl (by simpa using this))) (f1 c hc)
 have hT:=CI.takes (P:=P) (X:=cx.X) (ds:=a.defers) (F:=F) (l:=w.heap.size+1) (D:=w.heap.size) (rec:=rec) (old:=a.tmps) (slE:=slE) (Bs:=Bs) (Br:=Br) (cd:=cd) (asg:=asg) (body:=body) (prm:=prm) (N:=cx.n.n) (ks:=ks) (kb:=kb) (ps:=ps) (Eb:=Eb)
  fn hrec hB.size (by omega) hfs1 hBs hBr (fun p hp=>zae.1 (hks p hp)) (fun q hq=>by
   have:=hpk q hq;simp only [xh] at this;exact ⟨zcn this.1,yW (xy this.2)⟩) hprm hasg hfree hbody
 refine ⟨w.heap.size+1,[{target:= .collected w.heap.size,args:=#[]}],W1,{target:= .fn (.func gf) vs.toArray,args:=#[.func (.yield (w.heap.size+1)) #[] #[]]},W1,gf,
  (.func (.yield (w.heap.size+1)) #[] #[]::vs).toArray,W1,?_,?_,fun _ _=>trivial,?_,nofun,?_⟩
 ·rw [<-hW1,hrec];exact run_enterLoop_outer _ _ _ _ _
 ·simp only [resolve,hv];simp [go_sem]
 ·simp [invoke,go_sem,heg]
 ·refine zle.2 (Calls.mono (ok (σ⊕ρ) (rnd kb) (.inl s0) o hit (w.heap.size+1) γi W1 F own0 vs _ hci hGi (CI.abid hfs1 hBs hBr) hT ⟨γ1,hI0⟩) ?_);rintro e W2 ⟨⟨v,rfl⟩,own',γ4,h4⟩;have hend:=run_endLoop (P:=P) h4.lp (by cases o<;>simp [lpOf,hrec]);obtain ⟨w4,hw4⟩:∃w4,W2.putObj (w.heap.size+1) (.loop {lpOf rec cd o with state:= .exhausted})=w4:=⟨_,rfl⟩;rw [hw4] at hend;refine ⟨_,_,hend,?_⟩;have hZl:Zof own' (w.heap.size+1) w.heap.size (w.heap.size+1):= .inr (.inl rfl);have hsx:Sx cx ⟨slE,bxOf Bs Br o⟩ {a with defers:=[{target:= .collected w.heap.size,args:=#[]}]++a.defers} w4:=by
   have hLl:Lets (fun b=>b=w.heap.size+1) W2 w4:=by rw [<-hw4];exact Lets.put (Z:=fun b=>b=w.heap.size+1) rfl _
   have hT4:=zir hLl fun b e=>by rw [e];exact h4.two.one _ hZl
   have hout:=(show Two cx.X a.defers (Zof own' (w.heap.size+1) w.heap.size) (zaE γ4 W2.heap.size) w4 by rw [<-hw4];exact h4.two.put hZl _).out;refine ⟨zaE γ4 W2.heap.size,⟨?_,(fun e=>by rw [hmk] at e;cases e),hB.size,hB.kept,hout.1⟩,fun p hp=>?_,?_⟩
   ·obtain ⟨Ds,hd,hnd,hDs⟩:=hout.2;obtain ⟨Ds0,hd0,_,hDs0⟩:=hB.defers;refine ⟨w.heap.size::Ds,by simp only [xC,<-hd];rfl,q7.2 ⟨fun hm=>?_,hnd⟩,fun D hD=>?_⟩
    ·have:({target:= .collected w.heap.size,args:=#[]}:Deferred)∈a.defers:=by rw [hd];exact xr.2 ⟨_,hm,rfl⟩
     rw [hd0] at this;obtain ⟨D',hD',e⟩:=xr.1 this;have e':D'=w.heap.size:=by injection e with e1;injection e1
     have:=(xD.1 (hDs0 D' hD').2.1).1;omega
    ·rcases xj.1 hD with rfl| hD
     ·have hDl:=(xD.1 h4.blk).1;refine ⟨cx.X.le hB.ext,(hLl.block _ hDl (by omega)).trans h4.blk,?_⟩;simp [zaE,hDl];exact h4.two.one _ (.inr (.inr rfl))
     ·exact hDs D hD
   ·obtain ⟨f1,f2⟩:=AV.free_spec (hfs1 p hp);exact p.2.keep hT4 f1 f2 (h4.sl p hp)
   ·have:=h4.bx.tr hT4;cases o with
    | inl s=>rw [show bxOf Bs Br (Sum.inl s)=Bs s from rfl,hBs] at this;exact this
    | inr r=>rw [show bxOf Bs Br (Sum.inr r)=Br r from rfl,hBr] at this;exact this
  cases o with
  | inl s=>
   have hpn:(lpOf rec cd (Sum.inl s:σ⊕ρ)).pending=none:=by simp [lpOf,hrec]
   rw [hpn];exact hk _ _ hsx
  | inr r=>
   have hpn:(lpOf rec cd (Sum.inr r:σ⊕ρ)).pending=some (cd r):=by simp [lpOf,hrec]
   rw [hpn];exact hk _ _ hsx none (fun _=>rfl)
theorem zwp (N:Nat) (hf:P.funcs[f]? =some fn) (hb:fn.body=some c) (hN:fn.ntmps=N) (vd:Nat.ble ins.length N=true) (hres:zhs P E fn.results.toList vb)
  (hE1:zjN [1] [] E.sl=E.sl) (hE2:zds [1] [] E.bx=E.bx)
  (hj:∀X:Ext,J true P c (Sx ⟨⟨N,[]⟩,X,true,#[]⟩ ⟨ziD 0 ins,[]⟩) fun e a w=>e= .ret/\Sx ⟨⟨N,[]⟩,X,true,#[]⟩ E a w):FnOk P f ins vb:=by
 subst hN;intro w F vs hr;have hl:=zaF hr;have vd:=xy vd;refine (zle (ro:=none) (n:=0)).1 (callsIn_of_wp_marks (F:=RF none) hf hb trivial (yF (hj (fnX w F) {tmps:=vs.toArray++Array.replicate (fn.ntmps - vs.toArray.size) undef,defers:=[]} w ⟨gh0 F,⟨⟨[],rfl,yw,fun D hD=>by cases hD⟩,(fun _=>rfl),?_,(fun k hk=>by cases hk),Below.refl _ _,fun b _=>?_,fun b h1 h2=>by omega⟩,?_,fun b hb=>by cases hb⟩ none (fun _=>rfl)) ?_))
 ·simp [hl];omega
 ·by_cases hF:F b<;>simp [gh0,hF]
 ·intro p hp;have:=zlg hr [] (List.replicate (fn.ntmps - vs.length) undef) p hp;simp only [xU] at this;have e:(vs++List.replicate (fn.ntmps - vs.length) undef).toArray=vs.toArray++Array.replicate (fn.ntmps - vs.toArray.size) undef:=by simp
  grind
 ·rintro e a w1 ⟨rfl,γ,hB,hS,hX⟩;obtain ⟨Ds,hd,hnd,hDs⟩:=hB.defers;obtain ⟨hx1,hx2,hx3⟩:=hB.ext;show LeavesInM (RF none) 0 P fn a.tmps _ a.defers .returning w1;rw [hd]
  have key:∀(Ds:List Nat) (w2:World),Ds.Nodup->(∀D∈Ds,w.heap.size<=D/\w2.heap[D]? =some (.deferred (some []))/\γ.col D=1)->Lets (fun b=>γ.col b=1/\w.heap.size<=b) w1 w2->w2.heap.size=w1.heap.size->
    LeavesInM (RF none) 0 P fn a.tmps (fun e w'=>∃γ us,e= .returned (zhS us)/\Below w.heap.size w w'/\
     ((∀b,b<w.heap.size->(γ.col b=0/\F b)\/γ.col b=1)/\∀b,w.heap.size<=b->b<w'.heap.size->γ.col b≠0)/\AV.relL γ w' vb us) (Ds.map fun D=>{target:= .collected D,args:=#[]}) .returning w2:=by
   intro Ds
   induction Ds with
   | nil=>
    intro w2 _ _ hLs hsz;have hT:=zir hLs fun b hb=>hb.1
    have hS2:=hS.tr hT;have hX2:=hX.tr hT;rw [hE1] at hS2;rw [hE2] at hX2;obtain ⟨us,hu,hu'⟩:=zhw (P:=P) (fn:=fn) hS2 hX2 hres;refine ⟨_,hu,zaE γ w1.heap.size,us,rfl,⟨hLs.os.trans hx1.os,hLs.tape.trans hx1.tape,hLs.output.trans hx1.output,yb hx1.size hLs.size,fun b hb=>?_⟩,⟨fun b hb=>?_,fun b h1 h2=>?_⟩,hu'⟩
    ·rw [hLs.block b (xp hb hx1.size) (fun h=>by have:=h.2;omega)];exact hx1.block b hb
    ·have h1:=xp hb hx1.size;simp only [zaE,xe h1];exact hx2 b hb
    ·rw [hsz] at h2;simp only [zaE,xe h2];exact hx3 b h1 h2
   | cons D Ds ih=>
    intro w2 hnd hDs hLs hsz;obtain ⟨n1,n2⟩:=q7.1 hnd;obtain ⟨g0,g1,g2⟩:=hDs D xf;refine ⟨nofun,.inl ⟨D,w2.putObj D (.deferred none),rfl,run_takeDeferred g1,ih _ n2 (fun D' hD'=>?_) ⟨hLs.os,hLs.tape,hLs.output,by simpa using hLs.size,fun b hb hn=>?_⟩ (by simpa using hsz)⟩⟩
    ·obtain ⟨k0,k1,k2⟩:=hDs D' (xg _ hD');exact ⟨k0,(World.putObj_heap_other fun e=>n1 (by rw [<-e];exact hD')).trans k1,k2⟩
    ·rw [World.putObj_heap_other (fun e=>hn (by rw [e];exact ⟨g2,g0⟩))];exact hLs.block b hb hn
  exact key Ds w1 hnd hDs ⟨rfl,rfl,rfl,xi _,fun _ _ _=>rfl⟩ rfl
section
variable {m:Bool} {P:Program} {l:List It} {cx:Cx} {E E1:Env} {Q:Exit->Act->World->Prop} {id:Nat} {c:Code}
theorem zAP (h:zbI E E1):JI m P [] (Sx cx E) fun e a w=>(e= .normal\/e= .ret)/\Sx cx E1 a w:=zxM fun _ _ hs=>⟨.inl rfl,h.go hs⟩
theorem zAQ (h:zbI E E1):JI m P (.c .ret::l) (Sx cx E) fun e a w=>(e= .normal\/e= .ret)/\Sx cx E1 a w:=zoQ fun _ _ hs=>⟨.inr rfl,h.go hs⟩
theorem zAS (h:zbI E E1):∀e a w,(e= .ret/\Sx cx E a w)->zdM m P (fun e a w=>(e= .normal\/e= .ret)/\Sx cx E1 a w) l e a w:=zvE fun _ _ hs=>⟨.inr rfl,h.go hs⟩
theorem zzr (h:zbI E E1):JI m P (.c .ret::l) (Sx cx E) fun e a w=>Jump e .ret/\Sx cx E1 a w:=zoQ fun _ _ hs=>⟨trivial,h.go hs⟩
theorem zxI {σ ρ:Type} (body:σ->Option (σ⊕ρ)) (Cs:σ->Cx) (Es:σ->Env) (R:ρ->Exit->Act->World->Prop)
  (hb:∀s o,body s=some o->J m P c (Sx (Cs s) (Es s)) (match o with
   | .inl s'=>fun e a w=>e= .normal/\Sx (Cs s') (Es s') a w
   | .inr r=>fun e a w=>e≠ .normal/\R r e a w))
  {s:σ} {r:ρ} (h:zaa body s=some r) (hC:cx=Cs s) (hS:zbI E (Es s)) (k:∀e a w,R r e a w->zdM m P Q l e a w):JI m P (.c (.loop c)::l) (Sx cx E) Q:=
 zvA body (fun s=>Sx (Cs s) (Es s)) R hb h (fun _ _ hs=>by subst hC;exact hS.go hs) k
end
abbrev kI (x:Int):AV:= .lf (.int .i64 x)
abbrev kU (x:Int):AV:= .lf (.int .u64 x)
abbrev k8 (x:Int):AV:= .lf (.int .u8 x)
abbrev kB (x:Bool):AV:= .lf (.bool x)
abbrev kS (x:List UInt8):AV:= .lf (.str x)
abbrev kN:AV:= .lf (.val (.slice none 0 0))
theorem bnd {α β:Type} {x:Option α} {f:α->Option β} {r:β} (h:(x>>=f)=some r):∃a,x=some a/\f a=some r:=zuj h
theorem jb {α β:Type} {x:Option α} {f:α->Option β} {r:β} {G:Prop} (h:(x>>=f)=some r) (k:∀a,x=some a->f a=some r->G):G:=let ⟨a,e,q⟩:=bnd h;k a e q
theorem sj {α:Type} {a b:α} (h:some a=some b):a=b:=yk h
def Env.keys (E:Env):List Nat:=E.sl.map (·.1)
def Env.labs (E:Env):List Nat:=E.bx.map (·.lab)
def nthO {α:Type}:List α->Nat->Option α
 | [],_=>none
 | x::_,0=>some x
 | _::l,n+1=>nthO l n
theorem zig {α:Type}:∀{l:List α} {n:Nat} {x:α},nthO l n=some x->l.drop n=x::l.drop (n+1)
 | [],_,_,h=>by cases h
 | y::l,0,x,h=>by cases h;rfl
 | y::l,n+1,x,h=>by
  have:=zig (l:=l) (n:=n) h;simpa using this
def zgn (E:Env):List Operand->Option (List AV)
 | []=>some []
 | x::l=>match E.opd x,zgn E l with
  | some a,some r=>some (a::r)
  | _,_=>none
theorem ziJ :∀{ins:List (Operand×AV)},zgn E (ins.map (·.1))=some (ins.map (·.2))->zjs E ins
 | [],_=>trivial
 | p::l,h=>by
  simp only [xC,zgn] at h;split at h
  ·rename_i a r h1 h2;simp only [xF,yf] at h;obtain ⟨rfl,rfl⟩:=h;exact ⟨h1,ziJ h2⟩
  ·cases h
theorem zpo :∀{bxs:List Bx},zka E.bx (bxs.map (·.lab))=some bxs->zqq E bxs
 | [],_=>trivial
 | b::l,h=>by
  simp only [xC,zka] at h;split at h
  ·rename_i a r h1 h2;simp only [xF,yf] at h;obtain ⟨rfl,rfl⟩:=h;exact ⟨h1,zpo h2⟩
  ·cases h
section
variable {P:Program} {N:Lim} {ops:Array Oper} {uY:List Oper} {E E':Env} {o:Oper} {ins:List (Operand×AV)} {bxs:List Bx} {W V:List Nat} {av:AV} {bs:List Bx}
def zAC (t:Nat) (b:Bool) (E:Env):Env:=⟨E.sl.map fun p=>match Nat.beq p.1 t with
 | true=>(p.1,.lf (.bool b))
 | false=>p,E.bx⟩
theorem zAw (x o:Nat) (h:(Nat.ble 2 x&&Nat.ble 2 o&& !spB x)=true) (k:zbI (E.ren x o) E'):zbI E E':=(zAY x o h).trans k
end
section
variable {m:Bool} {P:Program} {l l':List It} {cx:Cx} {E E1:Env} {Q:Exit->Act->World->Prop} {id:Nat} {ops:List Oper}
theorem zw (h:zbI E E1):JI m P (.c .ret::l) (Sx cx E) fun e a w=>e= .ret/\Sx cx E1 a w:=zoQ fun _ _ hs=>⟨rfl,h.go hs⟩
theorem zkv (h:zbI E E1):JI m P (.c .ret::l) (Sx cx E) fun e a w=>e≠ .normal/\e= .ret/\Sx cx E1 a w:=zoQ fun _ _ hs=>⟨nofun,rfl,h.go hs⟩
theorem zU (h:zbI E E1):JI m P [] (Sx cx E) fun e a w=>e= .normal/\Sx cx E1 a w:=zxM fun _ _ hs=>⟨rfl,h.go hs⟩
theorem zap (he:zlM id l=none) (h:zbI E E1):JI m P (.c (.exit id)::l) (Sx cx E) fun e a w=>e≠ .normal/\e= .exit id/\Sx cx E1 a w:=zxL he fun _ _ hs=>⟨nofun,rfl,h.go hs⟩
end
section
variable {m:Bool} {P:Program} {l:List It} {cx:Cx} {E E1:Env} {Q:Exit->Act->World->Prop} {c:Code}
theorem zzq {σ ρ:Type} (body:σ->Option (σ⊕ρ)) (Es:σ->Env) (R:ρ->Exit->Act->World->Prop)
  (hb:∀s o,body s=some o->J m P c (Sx cx (Es s)) (match o with
   | .inl s'=>fun e a w=>e= .normal/\Sx cx (Es s') a w
   | .inr r=>fun e a w=>e≠ .normal/\R r e a w))
  {s:σ} {r:ρ} (h:zaa body s=some r) (hS:zbI E (Es s)) (k:∀e a w,R r e a w->zdM m P Q l e a w):JI m P (.c (.loop c)::l) (Sx cx E) Q:=
 zvA body (fun s=>Sx cx (Es s)) R hb h (fun _ _ hs=>hS.go hs) k
theorem zdO (h:zbI E E1):∀e a w,(e= .ret/\Sx cx E a w)->zdM m P (fun e a w=>e= .ret/\Sx cx E1 a w) l e a w:=zvE fun _ _ hs=>⟨rfl,h.go hs⟩
theorem zrL (h:zbI E E1):∀e a w,(e= .ret/\Sx cx E a w)->zdM m P (fun e a w=>e≠ .normal/\e= .ret/\Sx cx E1 a w) l e a w:=zvE fun _ _ hs=>⟨nofun,rfl,h.go hs⟩
end
set_option linter.unusedSectionVars false
def ziz (γ:Gh) (w:World) (γ':Gh) (w':World) (p:AV×AV):Prop:=∀v,p.1.rel γ w v->p.2.rel γ' w' v
def znp (W V:List Nat) (T:List (AV×AV)) (a a':AV):Prop:=∀γ w γ' w',Tr W V γ w γ' w'->(∀p∈T,ziz γ w γ' w' p)->∀v,a.rel γ w v->a'.rel γ' w' v
def ziA (W V:List Nat) (T:List (AV×AV)):List AV->List AV->Prop
 | [],[]=>True
 | a::l,b::m=>znp W V T a b/\ziA W V T l m
 | _,_=>False
section
variable {W V:List Nat} {T:List (AV×AV)} {a a':AV} {l l':List AV}
theorem zo (h:a.free W V=true):znp W V T a a:=fun _ _ _ _ t _ v hv=>a.keep t (AV.free_spec h).1 (AV.free_spec h).2 hv
theorem zBx:znp W V T a .any:=fun _ _ _ _ _ _ _ _=>trivial
theorem zeA (i:Nat) (h:T[i]? =some (a,a')):znp W V T a a':=fun _ _ _ _ _ hT v hv=>hT _ (qt h) v hv
theorem ziA.rel (t:Tr W V γ w γ' w') (hT:∀p∈T,ziz γ w γ' w' p):∀{l l':List AV} {vs:List Value},ziA W V T l l'->AV.relL γ w l vs->AV.relL γ' w' l' vs
 | [],[],_,_,h=>h
 | a::l,b::m,_,h,hr=>by
  obtain ⟨v,vs',rfl,h1,h2⟩:=hr;exact ⟨v,vs',rfl,h.1 _ _ _ _ t hT v h1,ziA.rel t hT h.2 h2⟩
 | [],_::_,_,h,_=>h.elim
 | _::_,[],_,h,_=>h.elim
theorem zla (h:ziA W V T l l'):znp W V T (.ag l) (.ag l'):=fun _ _ _ _ t hT v ⟨vs,hv,hL,h1⟩=>⟨vs,hv,h.rel t hT hL,h1⟩
end
def SlT (W V:List Nat) (T:List (AV×AV)) (l:List (Nat×AV)):List (Nat×AV)->Prop
 | []=>True
 | p::r=>(∃a,lookup l p.1=some a/\znp W V T a p.2)/\SlT W V T l r
def BxT (W V:List Nat) (T:List (AV×AV)) (l:List Bx):List Bx->Prop
 | []=>True
 | b::r=>(∃c,zdq l b.lab=some c/\c.typ=b.typ/\(!memN b.lab W&& !memN b.lab V)=true/\ziA W V T c.avs b.avs)/\BxT W V T l r
section
variable {W V:List Nat} {T:List (AV×AV)} {γ γ':Gh} {w w':World}
theorem SlT.rel (t:Tr W V γ w γ' w') (hT:∀p∈T,ziz γ w γ' w' p) (hs:Sl γ w a l):∀{r:List (Nat×AV)},SlT W V T l r->Sl γ' w' a r
 | [],_,p,hp=>by cases hp
 | q::r,h,p,hp=>by
  obtain ⟨⟨x,hx,ht⟩,h2⟩:=h;cases hp with
  | head=>exact ht _ _ _ _ t hT _ (hs _ (zbC hx))
  | tail _ hp=>exact SlT.rel t hT hs h2 p hp
theorem BxT.rel (t:Tr W V γ w γ' w') (hT:∀p∈T,ziz γ w γ' w' p) (hs:Bxs γ w l):∀{r:List Bx},BxT W V T l r->Bxs γ' w' r
 | [],_,p,hp=>by cases hp
 | q::r,h,p,hp=>by
  obtain ⟨⟨c,hc,hty,hWV,ht⟩,h2⟩:=h;cases hp with
  | head=>
   obtain ⟨hm,hlab⟩:=zbJ hc;obtain ⟨g1,cs,hh,hL,h1⟩:=hs c hm;simp only [xh] at hWV;have hlt:=(xD.1 hh).1;refine ⟨?_,cs,?_,ht.rel t hT hL,h1⟩
   ·rw [t.box _ (zcn hWV.2),<-hlab,t.col _ hlt];exact g1
   ·rw [t.box _ (zcn hWV.2),<-hlab,<-hty,t.block _ hlt (by rw [g1,hlab];exact zcn hWV.1)];exact hh
  | tail _ hp=>exact BxT.rel t hT hs h2 p hp
end
def zju (P:Program) (o:Oper) (ins:List (Operand×AV)) (W V:List Nat) (av:AV) (T:List (AV×AV)):Prop:=
 ∀(γ:Gh) (a:Act) (w:World),(∀p∈ins,p.2.rel γ w (a.eval p.1))->∀(next:Act->World->Prop) (Q:Exit->Act->World->Prop),
  (∀γ' w' v,Tr W V γ w γ' w'->av.rel γ' w' v->(∀p∈T,ziz γ w γ' w' p)->next (a.put o.dst v) w')->opq P o a w next Q
theorem zhy (E1:Env)
  (hs:zju P o ins W V av T) (hg:zdr ops E o=some true) (hi:zgn E (ins.map (·.1))=some (ins.map (·.2))) (hc:(okW W&&okW V&&zfs N o.dst)=true)
  (hS:SlT W V T E.sl E1.sl) (hB:BxT W V T E.bx E1.bx) (k:zal P N ops uY ⟨zeL o.dst av E1.sl,E1.bx⟩ E'):zal P N ops (o::uY) E E':=by
 intro cx a w Q hn hx hQ;obtain ⟨γ,hb,hsl,hbx⟩:=hx;simp only [xh] at hc;obtain ⟨⟨c1,c2⟩,c3⟩:=hc;refine zgQ (zej hg hsl) (hs γ a w ((ziJ hi).rel hsl) _ Q fun γ' w' v ht hv hT=>?_);refine k cx _ _ Q hn ⟨γ',(hb.tr ht c1 c2).put _ _ (by rw [hn];exact zcD c3),?_,hB.rel ht hT hbx⟩ hQ;exact (hS.rel ht hT hsl).put (fun k hk=>by rw [hb.size,hn];exact zdZ c3 k hk) hv
theorem zzU {P:Program} {o:Oper} {κ ν:Type} [DecidableEq κ] {rk:Rp κ} {rv:Rp ν} {m:List (κ×ν)} {t kt et:TypeId} {x0:ν} {ℓ:Nat} {y z u:Operand} {ak av:AV} {C C1 D:List Nat} (k:κ) (x:ν) (C2:List Nat) (hT:MapT P t kt et rk rv x0)
  (ho:o.op= .mapUpdate t y z u\/o.op= .insert t y z u) (hka:asV rk k C1 ak) (hva:asV rv x D av) (hC:(subN C C2&&subN C1 C2&&subN D C2&& !memN ℓ C2)=true):
  zju P o [(y,.om rk rv ℓ C m),(z,ak),(u,av)] [ℓ] [] .any [(.om rk rv ℓ C m,.om rk rv ℓ C2 (mput m k x))]:=by
 intro γ a w hi next Q hk;simp only [xh] at hC;obtain ⟨⟨⟨hC1,hC2⟩,hC3⟩,hC4⟩:=hC;obtain ⟨b,es,cl,hv,⟨g1,g2⟩,hb,hh,hE,hnC⟩:=hi (y,.om rk rv ℓ C m) (by simp);have hkr:=hka γ w _ (hi (z,ak) (by simp));have hxr:=hva γ w _ (hi (u,av) (by simp));simp only at hv hkr hxr;have hE2:zbq (γ.F C2) w rk rv m es.toList:=hE.mono fun b _ h=>zR hC1 _ h
 obtain ⟨es',cl',hrun,hE',hO'⟩:=zyz hh.2 hT hh.1 hE2 hkr (fun b h=>zR hC2 _ h) hxr (fun b h=>zR hC3 _ h);have hrun':(execOp a.eval o).run P w= .ok .skip {w with heap:=w.heap.setIfInBounds b (.map es' cl')}:=by
  rcases ho with ho| ho<;>simp [execOp,ho,hv,hrun]
 have ht:=zBy (w:=w) g1 (.map es' cl');have hnot:∀c∈C2,c∉[ℓ]:=fun c hc h=>by
  simp only [xj,xA,xB] at h;subst h;exact zcn hC4 hc
 refine zyj hrun' (hk γ _ undef ht trivial fun p hp v hpv=>?_);simp only [xj,xA,xB] at hp;subst hp;obtain ⟨b',es2,cl2,hv2,⟨q1,q2⟩,_⟩:=hpv;have hbb:b'=b:=by rw [<-q2,g2]
 subst hbb;exact ⟨b',es',cl',hv2,⟨q1,q2⟩,by simpa using hb,⟨by simp [hb],hO'⟩,ht.es hnot hE',fun hc=>zcn hC4 hc⟩
def fnXW (w0:World) (γ0:Gh):Ext where
 X γ w:=(w.os=w0.os/\w.tape=w0.tape/\w.output=w0.output/\w0.heap.size<=w.heap.size)/\(∀b,b<w0.heap.size->γ0.col b<2->γ.col b=γ0.col b/\w.heap[b]? =w0.heap[b]?)/\
  (∀b,b<w0.heap.size->2<=γ0.col b->γ.col b≠0)/\∀b,w0.heap.size<=b->b<w.heap.size->γ.col b≠0
 tr:=fun {γ γ' w w' W V} ⟨⟨h1,h2,h3,h4⟩,h5,h6,h7⟩ t hW hV=>by
  have hlt:∀b,b<w0.heap.size->b<w.heap.size:=fun b hb=>xp hb h4
  refine ⟨⟨t.os.trans h1,t.tape.trans h2,t.output.trans h3,yb h4 t.size⟩,fun b hb h0=>?_,fun b hb h0=>?_,fun b k1 k2 h0=>?_⟩
  ·obtain ⟨e1,e2⟩:=h5 b hb h0;refine ⟨(t.col b (hlt b hb)).trans e1,(t.block b (hlt b hb) fun hc=>?_).trans e2⟩;have:=hW _ hc;omega
  ·rw [t.col b (hlt b hb)];exact h6 b hb h0
  ·by_cases hb:b<w.heap.size
   ·exact h7 b k1 hb (by rw [<-t.col b hb];exact h0)
   ·rcases t.fresh b (yD hb) k2 h0 with e| e
    ·have:=hW _ e;omega
    ·have:=hV _ e;omega
 ren:=fun {γ γ' w} ⟨h1,h2,h3,h4⟩ k=>⟨h1,fun b hb h0=>by
  obtain ⟨e1,e2⟩:=h2 b hb h0;refine ⟨?_,e2⟩;rcases yj (γ0.col b) 1 with h| h
  ·have h':γ0.col b=0:=by omega
   rw [h'];exact k.zero b (by rw [e1,h'])
  ·have h':γ0.col b=1:=by omega
   rw [h'];exact k.one b (by rw [e1,h']),fun b hb h0 h=>h3 b hb h0 (k.back b h),fun b k1 k2 h=>h4 b k1 k2 (k.back b h)⟩
 base:=w0.heap.size
 le:=fun h=>h.1.2.2.2
def zeV (P:Program) (f:FuncId) (ins vb ts:List AV):Prop:=
 ∀(w:World) (γ0:Gh) (vs:List Value),AV.relL γ0 w ins vs->Calls P f vs.toArray w fun e w'=>∃γ us,e= .returned (zhS us)/\(fnXW w γ0).X γ w'/\AV.relL γ w' vb us/\AV.relL γ w' ts vs
def anyB:AV->Bool
 | .any=>true
 | _=>false
def TsOk (E:Env) (ks:List Nat):Nat->List AV->Prop
 | _,[]=>True
 | n,a::l=>(anyB a=true\/memN n ks=true/\lookup E.sl n=some a)/\TsOk E ks (n+1) l
theorem TsOk.rel {E:Env} {ks:List Nat} {γ:Gh} {w:World} {a:Act} (hs:Sl γ w a E.sl) {old:Array Value} (hk:∀k∈ks,a.tmps.getD k undef=old.getD k undef):∀(l:List AV) (vs:List Value) (n:Nat),TsOk E ks n l->l.length=vs.length->
  (∀i v,vs[i]? =some v->old.getD (n+i) undef=v)->AV.relL γ w l vs
 | [],[],_,_,_,_=>rfl
 | x::l,v::vs,n,h,hl,ho=>by
  refine ⟨v,vs,rfl,?_,TsOk.rel hs hk l vs (n+1) h.2 (by simpa using hl) fun i u hu=>by rw [show n+1+i=n+(i+1) by omega];exact ho (i+1) u (by simpa using hu)⟩;rcases h.1 with h1| ⟨h1,h2⟩
  ·cases x<;>first| trivial| cases h1
  ·have:=hs _ (zbC h2);have e:=(hk n (zae.1 h1)).trans (ho 0 v rfl)
   grind
 | [],_::_,_,_,h,_=>by simp at h
 | _::_,[],_,_,h,_=>by simp at h
theorem zgy {P:Program} {f:FuncId} {fn:Func} {c:Code} {ins vb ts:List AV} {E:Env} (N:Nat) (ks:List Nat) (hf:P.funcs[f]? =some fn) (hb:fn.body=some c) (hN:fn.ntmps=N) (vd:Nat.ble ins.length N=true) (hres:zhs P E fn.results.toList vb)
  (hts:TsOk E ks 0 ts) (hl2:ts.length=ins.length)
  (hj:∀(X:Ext) (old:Array Value),J true P c (Sx ⟨⟨N,ks⟩,X,false,old⟩ ⟨ziD 0 ins,[]⟩) fun e a w=>(e= .ret\/e= .normal)/\Sx ⟨⟨N,ks⟩,X,false,old⟩ E a w):zeV P f ins vb ts:=by
 subst hN;intro w γ0 vs hr;have hl:=zaF hr;have vd:=xy vd;obtain ⟨tm,htm⟩:∃tm:Array Value,tm=vs.toArray++Array.replicate (fn.ntmps - vs.toArray.size) undef:=⟨_,rfl⟩;have hX0:(fnXW w (⟨fun b=>if b<w.heap.size then γ0.col b else 2,γ0.box⟩)).X ⟨fun b=>if b<w.heap.size then γ0.col b else 2,γ0.box⟩ w->(fnXW w γ0).X ⟨fun b=>if b<w.heap.size then γ0.col b else 2,γ0.box⟩ w:=fun h=>⟨h.1,fun b hb h0=>by simp [hb],fun b hb h0=>by simp only [xe hb];omega,fun b k1 k2=>by omega⟩
 have hr':AV.relL ⟨fun b=>if b<w.heap.size then γ0.col b else 2,γ0.box⟩ w ins vs:=AV.reghL (γ:=γ0) ins (fun b hb _=>by simp [hb]) (fun ℓ _=>rfl) hr;have hwp:=hj (fnXW w γ0) tm {tmps:=tm,defers:=[]} w ⟨_,⟨⟨[],rfl,yw,fun D hD=>by cases hD⟩,fun _=>rfl,?_,fun k hk=>rfl,hX0 ⟨⟨rfl,rfl,rfl,xi _⟩,fun b hb h0=>⟨rfl,rfl⟩,fun b hb h0=>by have h0':=h0;simp only [xe hb] at h0'|-;omega,fun b k1 k2=>by omega⟩⟩,?_,fun b hb=>by cases hb⟩
 ·subst htm;refine calls_of_wp hf hb (wp_mono (zyZ hwp) ?_);rintro e a w' ⟨he,γ,hB,hS,hX⟩;obtain ⟨us,hu,hu'⟩:=zhw (P:=P) (fn:=fn) hS hX hres;have hts':AV.relL γ w' ts vs:=hts.rel hS (hB.kept) ts vs 0 (by rw [hl2,<-hl]) fun i v hv=>by
   rw [xL,yc,Array.getElem?_append_left (by simpa using (xY.1 hv).1)];simp [hv]
  have key:∃γ us',zhS us=zhS us'/\(fnXW w γ0).X γ w'/\AV.relL γ w' vb us'/\AV.relL γ w' ts vs:=⟨γ,us,rfl,hB.ext,hu',hts'⟩;obtain ⟨γ2,us2,k1,k2,k3,k4⟩:=key;rcases he with rfl| rfl
  ·exact ⟨hB.clean rfl,zhS us,hu,γ2,us2,by rw [k1],k2,k3,k4⟩
  ·exact ⟨hB.clean rfl,zhS us,hu,γ2,us2,by rw [k1],k2,k3,k4⟩
 ·grind
 ·intro p hp;have:=zlg hr' [] (List.replicate (fn.ntmps - vs.length) undef) p hp;simp only [xU] at this;have e:(vs++List.replicate (fn.ntmps - vs.length) undef).toArray=tm:=by rw [htm];simp
  grind
def zdA:List (Nat×Nat)->Nat->Option Nat
 | [],_=>none
 | p::l,c=>match Nat.beq p.1 c with
  | true=>some p.2
  | false=>zdA l c
def zkW:List (Nat×Nat)->Nat->Option Nat
 | [],_=>none
 | p::l,c=>match Nat.beq p.2 c with
  | true=>some p.1
  | false=>zkW l c
theorem zdK:∀{l:List (Nat×Nat)} {c k:Nat},zdA l c=some k->(c,k)∈l
 | [],_,_,h=>by cases h
 | p::l,c,k,h=>by
  rw [zdA] at h;split at h
  ·rename_i hb;cases h;rw [<-xk hb];exact xf
  ·exact xg _ (zdK h)
def inW1 (p:List (Nat×Nat)):AV->AV
 | .own r e ℓ C xs=>match zdA p ℓ with
  | some k=> .own r e k [0] xs
  | none=> .sl r [0] xs
 | .om rk rv ℓ C m=>match zdA p ℓ with
  | some k=> .om rk rv k [0] m
  | none=> .mp rk rv [0] m
 | a=>zoN a
def inW (p:List (Nat×Nat)):AV->AV
 | .ag l=> .ag (l.map (inW1 p))
 | .fv g l=> .fv g (l.map (inW1 p))
 | a=>inW1 p a
def mlab (p:List (Nat×Nat)):AV->Option Nat
 | .own _ _ ℓ _ _=>match zdA p ℓ with
  | some _=>some ℓ
  | none=>none
 | .om _ _ ℓ _ _=>match zdA p ℓ with
  | some _=>some ℓ
  | none=>none
 | _=>none
def zga (p:List (Nat×Nat)):AV->List Nat
 | .own r e ℓ C xs=>match zdA p ℓ with
  | some _=>C
  | none=>ℓ::C
 | .om rk rv ℓ C m=>match zdA p ℓ with
  | some _=>C
  | none=>ℓ::C
 | a=>zku a
def blk:Value->Option Nat
 | .map b=>b
 | v=>v.ownBlock
def zmP:AV->List AV
 | .ag m=>m
 | .fv _ m=>m
 | a=>[a]
def zht:List AV->List AV
 | []=>[]
 | x::l=>(zmP x)++zht l
def zvj:Value->List Value
 | .func _ _ cs=>cs.toList
 | _=>[]
def zhO:AV->Value->List Value
 | .ag _,v=>v.cells.toList
 | .fv _ _,v=>zvj v
 | _,v=>[v]
def znu:List AV->List Value->List Value
 | x::l,v::vs=>(zhO x v)++znu l vs
 | _,_=>[]
def zoI:AV->AV->List AV
 | .ag _,.ag m=>m
 | .ag m,_=>m.map fun _=> .any
 | .fv _ m,_=>m.map fun _=> .any
 | _,t=>[t]
def zrJ:List AV->List AV->List AV
 | x::l,t::ts=>(zoI x t)++zrJ l ts
 | _,_=>[]
theorem zmp :∀{l m:List AV} {us vs:List Value},AV.relL γ w l us->AV.relL γ w m vs->AV.relL γ w (l++m) (us++vs)
 | [],_,_,_,h,k=>by cases h;exact k
 | a::l,_,_,_,h,k=>by
  obtain ⟨v,vs',rfl,h1,h2⟩:=h;exact ⟨v,_,rfl,h1,zmp h2 k⟩
theorem zne :∀{l:List AV} {vs:List Value},l.length=vs.length->AV.relL γ w (l.map fun _=> .any) vs
 | [],[],_=>rfl
 | _::l,v::vs,h=>⟨v,vs,rfl,trivial,zne (by simpa using h)⟩
 | [],_::_,h=>by simp at h
 | _::_,[],h=>by simp at h
theorem zsS (h:x.rel γ w v):AV.relL γ w (zmP x) (zhO x v):=by
 cases x with
 | ag l=>obtain ⟨vs,rfl,hL,h1⟩:=h;simpa [zmP,zhO,Value.cells] using hL
 | fv g l=>obtain ⟨vs,rfl,hL⟩:=h;simpa [zmP,zhO,zvj] using hL
 | _=>exact ⟨v,[],rfl,h,rfl⟩
theorem zsT :∀{l:List AV} {vs:List Value},AV.relL γ w l vs->AV.relL γ w (zht l) (znu l vs)
 | [],_,h=>by cases h;rfl
 | x::l,_,h=>by
  obtain ⟨v,vs',rfl,h1,h2⟩:=h;exact zmp (zsS h1) (zsT h2)
theorem zwo (h:x.rel γ w v) (k:t.rel γ' w' v):AV.relL γ' w' (zoI x t) (zhO x v):=by
 cases x with
 | ag l=>
  obtain ⟨vs,rfl,hL,h1⟩:=h;have hl:l.length=vs.length:=(zaF hL).symm;cases t with
  | ag m=>obtain ⟨vs2,e,hL2,_⟩:=k;cases e;simpa [zoI,zhO,Value.cells] using hL2
  | _=>simpa [zoI,zhO,Value.cells] using zne (γ:=γ') (w:=w') hl
 | fv g l=>
  obtain ⟨vs,rfl,hL⟩:=h;have hl:l.length=vs.length:=(zaF hL).symm;cases t<;>simpa [zoI,zhO,zvj] using zne (γ:=γ') (w:=w') hl
 | _=>exact ⟨v,[],rfl,k,rfl⟩
theorem zqA :∀{l ts:List AV} {vs:List Value},AV.relL γ w l vs->AV.relL γ' w' ts vs->AV.relL γ' w' (zrJ l ts) (znu l vs)
 | [],_,_,h,_=>by cases h;rfl
 | x::l,[],_,h,k=>by obtain ⟨v,vs',rfl,_⟩:=h;cases k
 | x::l,t::ts,_,h,k=>by
  obtain ⟨v,vs',rfl,h1,h2⟩:=h;obtain ⟨v2,vs2,e,k1,k2⟩:=k;cases e;exact zmp (zwo h1 k1) (zqA h2 k2)
theorem ztC :∀{l m:List AV} {us:List Value},AV.relL γ w l us->AV.relL γ' w' m us->∀p∈l.zip m,∃u,(p.1,u)∈l.zip us/\p.1.rel γ w u/\p.2.rel γ' w' u
 | [],_,_,_,_,p,hp=>by cases hp
 | _::_,[],_,_,_,p,hp=>by cases hp
 | a::l,b::m,_,h,k,p,hp=>by
  obtain ⟨v,vs',rfl,h1,h2⟩:=h;obtain ⟨v2,vs2,e,k1,k2⟩:=k;cases e;cases hp with
  | head=>exact ⟨v,xf,h1,k1⟩
  | tail _ hp=>
   obtain ⟨u,g1,g2⟩:=ztC h2 k2 p hp;exact ⟨u,xg _ g1,g2⟩
theorem zng :∀{l m:List AV} {us:List Value},AV.relL γ w l us->AV.relL γ' w' m us->∀q∈l.zip us,∃t,(q.1,t)∈l.zip m/\q.1.rel γ w q.2/\t.rel γ' w' q.2
 | [],_,_,_,_,p,hp=>by cases hp
 | a::l,[],_,h,k,p,hp=>by obtain ⟨v,vs',rfl,_⟩:=h;cases k
 | a::l,b::m,_,h,k,p,hp=>by
  obtain ⟨v,vs',rfl,h1,h2⟩:=h;obtain ⟨v2,vs2,e,k1,k2⟩:=k;cases e;cases hp with
  | head=>exact ⟨b,xf,h1,k1⟩
  | tail _ hp=>
   obtain ⟨u,g1,g2⟩:=zng h2 k2 p hp;exact ⟨u,xg _ g1,g2⟩
def znA (p:List (Nat×Nat)):List AV->List Nat
 | []=>[]
 | a::l=>(match mlab p a with
  | some ℓ=>[ℓ]
  | none=>[])++znA p l
theorem zmW :∀{l:List AV} {us:List Value} {q:AV×Value},q∈l.zip us->mlab p q.1=some ℓ->ℓ∈znA p l
 | [],_,_,h,_=>by cases h
 | _::_,[],_,h,_=>by cases h
 | a::l,u::us,q,h,hl=>by
  rw [znA];cases h with
  | head=>rw [hl];simp
  | tail _ h=>exact xG _ (zmW h hl)
def zpc:List Nat->Bool
 | []=>true
 | c::l=> !memN c l&&zpc l
theorem zqR :∀{l:List AV} {us:List Value} {q q':AV×Value},zpc (znA p l)=true->q∈l.zip us->q'∈l.zip us->mlab p q.1=some ℓ->mlab p q'.1=some ℓ->q=q'
 | [],_,_,_,_,h,_,_,_=>by cases h
 | _::_,[],_,_,_,h,_,_,_=>by cases h
 | a::l,u::us,q,q',hn,h,h',hl,hl'=>by
  rw [znA] at hn;have tl:zpc (znA p l)=true/\(mlab p a=some ℓ->ℓ∉znA p l):=by
   cases ha:mlab p a with
   | none=>rw [ha] at hn;exact ⟨hn,fun e=>by cases e⟩
   | some x=>
    rw [ha] at hn;simp only [xO,xU,zpc,xh] at hn;exact ⟨hn.2,fun e=>by cases e;exact zcn hn.1⟩
  cases h with
  | head=>
   cases h' with
   | head=>rfl
   | tail _ h'=>exact absurd (zmW h' hl') (tl.2 hl)
  | tail _ h=>
   cases h' with
   | head=>exact absurd (zmW h hl) (tl.2 hl')
   | tail _ h'=>exact zqR tl.1 h h' hl hl'
def beqT {α β:Type} (r:Rp α) (r':Rp β) (e e' k k':Nat):Bool:=Nat.beq r.size r'.size&&Nat.beq e e'&&Nat.beq k k'
def tOk (p:List (Nat×Nat)) (D:List Nat) (s:Nat) (K:List Nat):AV×AV->Bool
 | (.own r e ℓ C xs,t)=>(match zdA p ℓ with
  | some k=>(match t with
   | .own r' e' k' C' xs'=>beqT r r' e e' k k'&&zeG K C'&& !memN ℓ (outC D s C')
   | _=>false)
  | none=>anyB t)
 | (.om rk rv ℓ C m,t)=>(match zdA p ℓ with
  | some k=>(match t with
   | .om rk' rv' k' C' m'=>Nat.beq k k'&&zeG K C'&& !memN ℓ (outC D s C')
   | _=>false)
  | none=>anyB t)
 | (_,t)=>anyB t
def tp1 (D:List Nat) (s:Nat):AV×AV->List (AV×AV)
 | (.own r e ℓ C xs,.own r' e' _ C' xs')=>[(.own r e ℓ C xs,.own r' e' ℓ (outC D s C') xs')]
 | (.om rk rv ℓ C m,.om rk' rv' _ C' m')=>[(.om rk rv ℓ C m,.om rk' rv' ℓ (outC D s C') m')]
 | _=>[]
def zsm (D:List Nat) (s:Nat) (xs ts:List AV):List (AV×AV):=((zht xs).zip (zrJ xs ts)).flatMap (tp1 D s)
def zxn (p:List (Nat×Nat)) (D:List Nat) (s:Nat) (V:List Nat) (xs ts:List AV):Bool:=
 zpc (znA p (zht xs))&&(p.all fun q=>Nat.ble 2 q.2&&(match zkW p q.2 with| some c=>Nat.beq c q.1| none=>false))&&zeG (p.map (·.1)) D&&
  ((zht xs).all fun a=>subN (zga p a) D)&&(((zht xs).zip (zrJ xs ts)).all (tOk p D s (1::p.map (·.2))))&&zeG (p.map (·.1)) V
open Classical in
noncomputable def ghW (γ:Gh) (D:List Nat) (p:List (Nat×Nat)) (S:Fp):Gh:=
 ⟨fun b=>match (if S b then zdA p (γ.col b) else none) with
  | some k=>k
  | none=>if γ.F D b then 0 else 1,fun k=>match zkW p k with
  | some ℓ=>γ.box ℓ
  | none=>0⟩
theorem zBI (hd:zeG (p.map (·.1)) D=true) (h:γ.F D b):(ghW γ D p S).col b=0:=by
 have hn:zdA p (γ.col b)=none:=by
  cases hf:zdA p (γ.col b) with
  | none=>rfl
  | some k=>exact absurd h (zgJ hd _ (xr.2 ⟨_,zdK hf,rfl⟩))
 unfold ghW
 grind
theorem zAk (h:S b) (hk:zdA p (γ.col b)=some k):(ghW γ D p S).col b=k:=by
 unfold ghW
 grind
theorem zvt (h:2<=(ghW γ D p S).col b):S b/\∃k,zdA p (γ.col b)=some k:=by
 unfold ghW at h
 grind
theorem zxC (hp:(p.all fun q=>Nat.ble 2 q.2)=true) (h:(ghW γ D p S).col b=0):γ.F D b:=by
 unfold ghW at h;simp only at h;split at h
 ·rename_i k hk;split at hk
  ·have:=xn.1 hp _ (zdK hk);simp_all
  ·cases hk
 grind
section
variable {γ:Gh} {w:World} {D:List Nat} {p:List (Nat×Nat)} {S:Fp}
theorem zsW (h:a.rel γ w v) (hD:∀c∈zga p a,c∈D) (hd:zeG (p.map (·.1)) D=true) (hb:∀q∈p,zkW p q.2=some q.1) (h2:∀q∈p,2<=q.2) (hS:∀ℓ,mlab p a=some ℓ->∀b,blk v=some b->S b):(inW1 p a).rel (ghW γ D p S) w v:=by
 have key:∀(C:List Nat),(∀c∈C,c∈D)->∀b,b<w.heap.size->γ.F C b->(ghW γ D p S).F [0] b:=fun C hC b _ hb=>by
  show (ghW γ D p S).col b∈[0];rw [zBI hd (hC _ hb)];exact xf
 have hbx:∀ℓ k,zdA p ℓ=some k->(ghW γ D p S).box k=γ.box ℓ:=fun ℓ k hk=>by
  have:=hb _ (zdK hk);unfold ghW;simp only [this]
 cases a with
 | own r e ℓ C xs=>
  simp only [inW1];cases hf:zdA p ℓ with
  | some k=>
   obtain ⟨cs,ho,hg,hA,hn⟩:=h;refine ⟨cs,ho,fun g hgb=>?_,hA.mono (key C (by simpa [zga,hf] using hD)),by have:=h2 _ (zdK hf);simp only [xj,xA,xB];simp only at this;omega⟩;obtain ⟨g1,g2⟩:=hg g hgb;have hbv:blk v=some g:=by cases v<;>first| (cases hgb;done)| exact hgb
   exact ⟨zAk (hS ℓ (by simp [mlab,hf]) g hbv) (by rw [g1];exact hf),(hbx ℓ k hf).trans g2⟩
  | none=>exact (zlp h).mono (key _ (by simpa [zga,hf] using hD))
 | om rk rv ℓ C m=>
  simp only [inW1];cases hf:zdA p ℓ with
  | some k=>
   obtain ⟨b,es,cl,hv,⟨g1,g2⟩,hlt,hh,hE,hn⟩:=h;refine ⟨b,es,cl,hv,⟨zAk (hS ℓ (by simp [mlab,hf]) b (by rw [hv];rfl)) (by rw [g1];exact hf),(hbx ℓ k hf).trans g2⟩,hlt,hh,hE.mono (key C (by simpa [zga,hf] using hD)),by have:=h2 _ (zdK hf);simp only [xj,xA,xB];simp only at this;omega⟩
  | none=>
   obtain ⟨b,es,cl,hv,⟨g1,g2⟩,hlt,hh,hE,hn⟩:=h;have hC:∀c∈ℓ::C,c∈D:=by simpa [zga,hf] using hD
   exact ⟨b,es,cl,hv,key (ℓ::C) hC b hlt (by show γ.col b∈ℓ::C;rw [g1];exact xf),hlt,hh,(hE.mono fun b _ hb=>xg _ hb).mono (key (ℓ::C) hC)⟩
 | any=>trivial
 | lf l=>exact h
 | sl r C xs=>exact zaf.mono h (key C hD)
 | rc r C x=>obtain ⟨cs,hv,hA⟩:=h;exact ⟨cs,hv,hA.mono (key C hD)⟩
 | mp rk rv C m=>
  obtain ⟨b,es,cl,hv,hF,hlt,hh,hE⟩:=h;exact ⟨b,es,cl,hv,key C hD b hlt hF,hlt,hh,hE.mono (key C hD)⟩
 | ep r C x off=>
  obtain ⟨b,o,cs,hv,hF,hlt,hA,hc⟩:=h;exact ⟨b,o,cs,hv,key C hD b hlt hF,hlt,hA.mono (key C hD),hc⟩
 | qp r C o=>
  cases o with
  | none=>exact h
  | some x=>
   obtain ⟨b,cs,hv,hF,hlt,hA,hc⟩:=h;exact ⟨b,cs,hv,key C hD b hlt hF,hlt,hA.mono (key C hD),hc⟩
 | em rk rv C m=>
  obtain ⟨a,b,es,cl,hv,hFa,ha,hc1,hF,hlt,hh,hE⟩:=h;exact ⟨a,b,es,cl,hv,key C hD a ha hFa,ha,hc1,key C hD b hlt hF,hlt,hh,hE.mono (key C hD)⟩
 | mo=>trivial
 | cu=>trivial
 | bs=>trivial
 | tl=>trivial
 | ptr=>trivial
 | tup=>trivial
 | ag=>trivial
 | fv=>trivial
 | bp=>trivial
 | it=>trivial
theorem zmR (hd:zeG (p.map (·.1)) D=true) (hb:∀q∈p,zkW p q.2=some q.1) (h2:∀q∈p,2<=q.2):∀{l:List AV} {vs:List Value},AV.relL γ w l vs->(∀a∈l,∀c∈zga p a,c∈D)->
  (∀q∈l.zip vs,∀ℓ,mlab p q.1=some ℓ->∀b,blk q.2=some b->S b)->AV.relL (ghW γ D p S) w (l.map (inW1 p)) vs
 | [],_,h,_,_=>h
 | a::l,_,h,hD,hS=>by
  obtain ⟨v,vs',rfl,h1,h2'⟩:=h;exact ⟨v,vs',rfl,zsW h1 (hD a xf) hd hb h2 (hS (a,v) xf),zmR hd hb h2 h2' (fun x hx=>hD x (xg _ hx)) (fun q hq=>hS q (xg _ hq))⟩
theorem zvu (hd:zeG (p.map (·.1)) D=true) (hb:∀q∈p,zkW p q.2=some q.1) (h2:∀q∈p,2<=q.2):∀{l:List AV} {vs:List Value},AV.relL γ w l vs->(∀a∈zht l,∀c∈zga p a,c∈D)->
  (∀q∈(zht l).zip (znu l vs),∀ℓ,mlab p q.1=some ℓ->∀b,blk q.2=some b->S b)->AV.relL (ghW γ D p S) w (l.map (inW p)) vs
 | [],_,h,_,_=>h
 | a::l,_,h,hD,hS=>by
  obtain ⟨v,vs',rfl,h1,h2'⟩:=h;have hf:=zsS h1;have vd:=(zaF hf).symm;have hz:∀q∈(zht l).zip (znu l vs'),∀ℓ,mlab p q.1=some ℓ->∀b,blk q.2=some b->S b:=fun q hq=>hS q (by
   rw [zht,znu,List.zip_append vd];exact xG _ hq)
  have hz1:=fun q hq=>hS q (by rw [zht,znu,List.zip_append vd];exact xN _ hq)
  have hD1:=fun x hx=>hD x (by rw [zht];exact xN _ hx)
  refine ⟨v,vs',rfl,?_,zvu hd hb h2 h2' (fun x hx=>hD x (by rw [zht];exact xG _ hx)) hz⟩;cases a with
  | ag m=>obtain ⟨us,rfl,hL,h1c⟩:=h1;exact ⟨us,rfl,zmR hd hb h2 hL hD1 (fun q hq=>hz1 q (by simpa [zmP,zhO,Value.cells] using hq)),h1c⟩
  | fv g m=>obtain ⟨us,rfl,hL⟩:=h1;exact ⟨us,rfl,zmR hd hb h2 hL hD1 (fun q hq=>hz1 q (by simpa [zmP,zhO,zvj] using hq))⟩
  | _=>exact zsW h1 (hD1 _ xf) hd hb h2 (hz1 (_,v) xf)
end
theorem znf {γ:Gh} {w:World} {a:Act}:∀{args:List Operand} {xs:List AV},xs.length=args.length->(∀p∈args.zip xs,p.2.rel γ w (a.eval p.1))->AV.relL γ w xs (args.map a.eval)
 | [],[],_,_=>rfl
 | y::args,x::xs,hl,hi=>⟨_,_,rfl,hi (y,x) (by simp),znf (by simpa using hl) (fun p hp=>hi p (by simp [hp]))⟩
 | [],_::_,h,_=>by simp at h
 | _::_,[],h,_=>by simp at h
theorem zyk {γ:Gh} {w:World} {α:Type} {r:Rp α} {e ℓ:Nat} {C:List Nat} {xs:List α} {v u:Value} {g:Nat} (h:AV.rel γ w (.own r e ℓ C xs) v) (k:AV.rel γ w (.own r e ℓ C xs) u) (hv:v.ownBlock=some g) (hu:u≠ .slice none 0 0):v=u:=by
 obtain ⟨cs,ho,hg,_⟩:=h;obtain ⟨cs2,ho2,hg2,_⟩:=k;rcases ho.2 with ⟨rfl,_⟩| ⟨g1,cap,cur,rfl,_,hh,hc,_,hs,_⟩
 ·cases hv
 ·rcases ho2.2 with ⟨rfl,_⟩| ⟨g2,cap2,cur2,rfl,_,hh2,hc2,_,hs2,_⟩
  ·grind
  ·have e1:=(hg g1 rfl).2;have e2:=(hg2 g2 rfl).2;have:g2=g1:=by rw [<-e1,<-e2]
   subst this;rw [hh] at hh2;simp only [xF,Obj.cells.injEq] at hh2;obtain ⟨rfl,_⟩:=hh2;have:cap=cap2:=Nat.eq_of_mul_eq_mul_right r.pos (hs.symm.trans hs2);subst this;rfl
theorem zgU {γ:Gh} {w:World} {α:Type} {r:Rp α} {e ℓ:Nat} {C:List Nat} {xs:List α} {v:Value} (h:AV.rel γ w (.own r e ℓ C xs) v):(v= .slice none 0 0/\xs=[])\/∃g cap,v= .slice (some ⟨g,0,none⟩) xs.length cap/\γ.col g=ℓ/\γ.box ℓ=g/\g<w.heap.size:=by
 obtain ⟨cs,ho,hg,_⟩:=h;rcases ho.2 with ⟨rfl,h0⟩| ⟨g1,cap,cur,rfl,_,hh,hc,_,hs,_⟩
 ·grind
 ·obtain ⟨q1,q2⟩:=hg g1 rfl
  grind
theorem zvS {α:Type} (r:Rp α) (e ℓ:Nat) (C:List Nat) (hn:ℓ∉C):AV.rel γ w (.own r e ℓ C ([]:List α)) (.slice none 0 0):=
 ⟨[],⟨by simp,.inl ⟨rfl,rfl⟩⟩,fun g hg=>(by cases hg),zJ.nil,hn⟩
theorem zva {γ γc:Gh} {w w':World} {K D V:List Nat} {s:Nat} {α β:Type} {r:Rp α} {r':Rp β} {e ℓ k':Nat} {C C':List Nat} {xs:List α} {xs':List β} {u:Value}
  (h1:AV.rel γ w (.own r e ℓ C xs) u) (h2:AV.rel γc w' (.own r' e k' C' xs') u) (hsz:r.size=r'.size) (hold:zoo γ γc w.heap.size K D) (hk1:1∈K) (hD:D≠[]) (hdis:zeG K C'=true) (hn:ℓ∉outC D s C') (hV:ℓ∉V)
  (hnil:u= .slice none 0 0->∀g,g<w.heap.size->γ.col g=ℓ->w'.heap[g]? =w.heap[g]?):ziz γ w (zcJ γ γc w.heap.size D s V) w' (.own r e ℓ C xs,.own r' e ℓ (outC D s C') xs'):=by
 intro v hv;have hF:∀b,b<w'.heap.size->γc.F C' b->(zcJ γ γc w.heap.size D s V).F (outC D s C') b:=fun b _ hb=>outF hold (zgJ hdis) hk1 hb (fun _ e=>absurd e hD)
 have hcol:∀g,g<w.heap.size->γ.col g=ℓ->(zcJ γ γc w.heap.size D s V).col g=ℓ:=fun g hg h=>by unfold zcJ;simp only [xe hg];exact h
 have hbox:(zcJ γ γc w.heap.size D s V).box ℓ=γ.box ℓ:=by unfold zcJ;simp only [xd hV]
 rcases zgU h1 with ⟨hu,hx⟩| ⟨g,cap,hu,hg1,hg2,hglt⟩
 ·have hx':xs'=[]:=by
   rcases zgU h2 with ⟨_,h⟩| ⟨g,cap,hu',_⟩
   ·exact h
   grind
  subst hx hx';rcases zgU hv with ⟨rfl,_⟩| ⟨g',cap',hv',q1,q2,q3⟩
  ·exact zvS r' e ℓ _ hn
  ·obtain ⟨cs,ho,_,_,_⟩:=hv;refine ⟨[],⟨by simp,?_⟩,fun g hg=>?_,zJ.nil,hn⟩
   ·rcases ho.2 with ⟨e1,_⟩| ⟨g1,cap1,cur,e1,e2,e3,e4,e5,e6,e7⟩
    ·grind
    ·have hg1:g1=g':=by rw [hv'] at e1;cases e1;rfl
     subst hg1;exact .inr ⟨g1,cap1,cur,e1,e2,(hnil hu g1 q3 q1).trans e3,xm _,e5,by rw [<-hsz];exact e6,by simp⟩
   grind
 ·by_cases hvn:v= .slice none 0 0
  ·subst hvn;have hx:xs=[]:=by
    rcases zgU hv with ⟨_,h⟩| ⟨g,cap,hu',_⟩
    ·exact h
    ·cases hu'
   have hx':xs'=[]:=by
    rcases zgU h2 with ⟨_,h⟩| ⟨g,cap,hu',_⟩
    ·exact h
    grind
   subst hx';exact zvS r' e ℓ _ hn
  ·have huv:u=v:=zyk h1 hv (by rw [hu];rfl) hvn;subst huv;obtain ⟨cs,ho,hg,hA,_⟩:=h2;refine ⟨cs,ho,fun g' hg'=>?_,hA.mono hF,hn⟩;have:g'=g:=by rw [hu] at hg';cases hg';rfl
   grind
theorem zwV {γ γc:Gh} {w w':World} {K D V:List Nat} {s:Nat} {κ ν κ' ν':Type} {rk:Rp κ} {rv:Rp ν} {rk':Rp κ'} {rv':Rp ν'} {ℓ k':Nat} {C C':List Nat} {m:List (κ×ν)} {m':List (κ'×ν')} {u:Value}
  (h1:AV.rel γ w (.om rk rv ℓ C m) u) (h2:AV.rel γc w' (.om rk' rv' k' C' m') u) (hold:zoo γ γc w.heap.size K D) (hk1:1∈K) (hD:D≠[]) (hdis:zeG K C'=true) (hn:ℓ∉outC D s C') (hV:ℓ∉V):
  ziz γ w (zcJ γ γc w.heap.size D s V) w' (.om rk rv ℓ C m,.om rk' rv' ℓ (outC D s C') m'):=by
 intro v hv;have hF:∀b,b<w'.heap.size->γc.F C' b->(zcJ γ γc w.heap.size D s V).F (outC D s C') b:=fun b _ hb=>outF hold (zgJ hdis) hk1 hb (fun _ e=>absurd e hD)
 have hbox:(zcJ γ γc w.heap.size D s V).box ℓ=γ.box ℓ:=by unfold zcJ;simp only [xd hV]
 obtain ⟨b,es,cl,hu,⟨g1,g2⟩,hb,_⟩:=h1;obtain ⟨b',es',cl',hu',_,hb',hh',hE',_⟩:=h2;obtain ⟨b2,es2,cl2,hv2,⟨q1,q2⟩,_⟩:=hv;have e1:b'=b:=by rw [hu] at hu';cases hu';rfl
 have e2:b2=b:=by rw [<-q2,<-g2]
 subst e1 e2;exact ⟨_,es',cl',hv2,⟨by unfold zcJ;simp only [xe hb];exact g1,hbox.trans g2⟩,hb',hh',hE'.mono hF,hn⟩
theorem zzV {p:List (Nat×Nat)} {D:List Nat} {s:Nat} {K:List Nat} {a t:AV} {ℓ b:Nat} {γ:Gh} {w:World} {v:Value} (h:tOk p D s K (a,t)=true) (hl:mlab p a=some ℓ) (hb:blk v=some b) (hr:t.rel γ w v):∃k,(ℓ,k)∈p/\γ.col b=k:=by
 cases a with
 | own r e ℓ' C xs=>
  simp only [mlab] at hl;cases hf:zdA p ℓ' with
  | none=>rw [hf] at hl;cases hl
  | some k=>
   rw [hf] at hl;cases hl;simp only [tOk,hf] at h;cases t with
   | own r' e' k' C' xs'=>
    simp only [xh,beqT] at h;have hk:=xk h.1.1.2;subst hk;refine ⟨k,zdK hf,?_⟩;rcases zgU hr with ⟨rfl,_⟩| ⟨g,cap,rfl,g1,_⟩
    ·cases hb
    ·cases hb;exact g1
   | _=>cases h
 | om rk rv ℓ' C m=>
  simp only [mlab] at hl;cases hf:zdA p ℓ' with
  | none=>rw [hf] at hl;cases hl
  | some k=>
   rw [hf] at hl;cases hl;simp only [tOk,hf] at h;cases t with
   | om rk' rv' k' C' m'=>
    simp only [xh] at h;have hk:=xk h.1.1;subst hk;obtain ⟨b',_,_,rfl,⟨g1,_⟩,_⟩:=hr;cases hb;exact ⟨k,zdK hf,g1⟩
   | _=>cases h
 | _=>cases hl
theorem zAc {P:Program} {o:Oper} {f:FuncId} {args:List Operand} {ts:Array TypeId} {a:Act} {w:World} {next:Act->World->Prop} {Q:Exit->Act->World->Prop} {R:Ending->World->Prop} {vs:List Value}
  (hrun:(execOp a.eval o).run P w= .ok (.enter f vs.toArray) w) (hd:∀c,o.op≠ .defer c) (h:Calls P f vs.toArray w R) (k:∀e w',R e w'->∃v,e= .returned v/\next (a.put o.dst v) w'):opq P o a w next Q:=by
 refine zln hd ?_;unfold Oper.wp;rw [hrun,yV];refine h.mono fun e w' hR=>?_
 obtain ⟨v,rfl,hn⟩:=k e w' hR;exact hn
theorem zyG {P:Program} {o:Oper} {f:FuncId} {args:List Operand} {ins vb tns:List AV} (xs:List AV) (p:List (Nat×Nat)) (D:List Nat) (s:Nat) (V:List Nat) (ok:zeV P f ins vb tns)
  (hrun:∀(a:Act) (w:World) (γ:Gh),AV.relL γ w xs (args.map a.eval)->∃vs:List Value,(execOp a.eval o).run P w= .ok (.enter f vs.toArray) w/\∃ys,ys.map (inW p)=ins/\zxn p D s V ys tns=true/\zsm D s ys tns=zsm D s xs tns/\AV.relL γ w ys vs) (hdf:∀c,o.op≠ .defer c)
  (vd:xs.length=args.length) (hD0:D.isEmpty=false) (hout:(vb.all (znB (1::p.map (·.2)) D s))=true) (hV:vb.flatMap (zdP s)=V):
  zju P o (args.zip xs) (p.map (·.1)) V (zmt (vb.map (zjW D s))) (zsm D s xs tns):=by
 intro γ a w hi next Q hk;obtain ⟨vs,hr0,ys,hin,hB,hTP,hvs⟩:=hrun a w γ (znf vd hi);simp only [zxn,xh,xn] at hB;obtain ⟨⟨⟨⟨⟨b1,b2⟩,b3⟩,b4⟩,b5⟩,b6⟩:=hB;have h2:∀q∈p,2<=q.2:=fun q hq=>xy (b2 q hq).1
 have hpb:∀q∈p,zkW p q.2=some q.1:=fun q hq=>by
  have:=(b2 q hq).2;cases hf:zkW p q.2 with
  | none=>rw [hf] at this;cases this
  | some c=>rw [hf] at this;rw [xk this]
 obtain ⟨S,hS⟩:∃S:Fp,∀b,S b↔∃q∈(zht ys).zip (znu ys vs),(∃ℓ,mlab p q.1=some ℓ)/\blk q.2=some b:=⟨_,fun b=>Iff.rfl⟩;have hin':AV.relL (ghW γ D p S) w ins vs:=by
  rw [<-hin];exact zvu b3 hpb h2 hvs (fun x hx c hc=>zR (b4 x hx) c hc) (fun q hq ℓ hℓ b hb=>(hS b).2 ⟨q,hq,⟨ℓ,hℓ⟩,hb⟩)
 have hp2:(p.all fun q=>Nat.ble 2 q.2)=true:=xn.2 fun q hq=>(b2 q hq).1
 refine zAc (args:=args) (ts:=#[]) hr0 hdf (ok w _ _ hin') fun e w' hR=>?_
 obtain ⟨γc,us,rfl,⟨⟨x1,x2,x3,x4⟩,x5,x6,x7⟩,hr,ht⟩:=hR;have hA:=zsT hvs;have hTt:=zqA hvs ht;have hold:zoo γ γc w.heap.size (1::p.map (·.2)) D:=fun b hb=>by
  rcases yj ((ghW γ D p S).col b) 2 with h| h
  ·obtain ⟨e1,_⟩:=x5 b hb h;rcases yj ((ghW γ D p S).col b) 1 with h0| h0
   ·exact .inl ⟨by omega,zxC (p:=p) (S:=S) hp2 (by omega)⟩
   grind
  ·obtain ⟨hs,_⟩:=zvt h;obtain ⟨q,hq,⟨ℓ,hℓ⟩,hbk⟩:=(hS b).1 hs;obtain ⟨t,hqt,_,g2⟩:=zng hA hTt q hq;obtain ⟨k,hk1,hk2⟩:=zzV (b5 _ hqt) hℓ hbk g2
   grind
 have hDne:D≠[]:=fun e=>by rw [e] at hD0;cases hD0
 have low:∀b,b<w.heap.size->¬(S b/\∃k,zdA p (γ.col b)=some k)->w'.heap[b]? =w.heap[b]? :=fun b hb hn=>by
  rcases yj ((ghW γ D p S).col b) 2 with h| h
  ·grind
  ·exact absurd (zvt h) hn
 simp only [xn] at hout;subst hV;refine ⟨_,rfl,hk (zcJ γ γc w.heap.size D s (vb.flatMap (zdP s))) w' _ ⟨x1,x2,x3,x4,fun b hb hn=>low b hb (fun ⟨_,k,hk⟩=>hn (xr.2 ⟨_,zdK hk,rfl⟩)),fun b hb=>?_,fun ℓ hℓ=>?_,fun b h1 h2 h0=>?_⟩ (zni (zmq hr fun x hx v hv=>?_)) ?_⟩
 ·show (if b<w.heap.size then γ.col b else _)=_;rw [xe hb]
 ·show (if ℓ∈vb.flatMap (zdP s) then _ else γ.box ℓ)=_;rw [xd hℓ]
 ·exfalso;have hne:=x7 b h1 h2;have h0':(if b<w.heap.size then γ.col b else if γc.col b=0 then D.headD 1 else if γc.col b=1 then 1 else γc.col b+s)=0:=h0
  grind
 ·exact zna hold xf hDne (hout x hx) (fun c hc=>yx.2 ⟨x,hx,hc⟩) hv
 ·intro q hq;rw [<-hTP] at hq;obtain ⟨⟨x,t⟩,hm,hq⟩:=yx.1 hq;obtain ⟨u,hu,g1,g2⟩:=ztC hA hTt (x,t) hm;have htk:=b5 _ hm;simp only at g1 g2 hu;have hdV:∀ℓ k,zdA p ℓ=some k->ℓ∉vb.flatMap (zdP s):=fun ℓ k hf=>zgJ b6 _ (xr.2 ⟨_,zdK hf,rfl⟩)
  cases x with
  | own r e ℓ C xs=>
   cases t with
   | own r' e' k' C' xs'=>
    simp only [tp1,xQ] at hq;subst hq;simp only [tOk] at htk;cases hf:zdA p ℓ with
    | none=>rw [hf] at htk;cases htk
    | some k=>
     rw [hf] at htk;simp only [xh,beqT] at htk;obtain ⟨⟨⟨⟨t1,t2⟩,t3⟩,t4⟩,t5⟩:=htk;have e1:=xk t2;subst e1;refine zva g1 g2 (xk t1) hold xf hDne t4 (zcn t5) (hdV ℓ k hf) fun hnil g hg hcol=>low g hg fun ⟨hs,_⟩=>?_
     obtain ⟨q2,hq2,⟨ℓ2,hℓ2⟩,hbk⟩:=(hS g).1 hs;obtain ⟨t',hqt',g3,_⟩:=zng hA hTt q2 hq2;have hc2:γ.col g=ℓ2:=by
      obtain ⟨a2,v2⟩:=q2;simp only at hℓ2 hbk g3;cases a2 with
      | own r2 e2 l2 C2 y2=>
       simp only [mlab] at hℓ2;rcases zgU g3 with ⟨rfl,_⟩| ⟨g',cap',rfl,p1,_⟩
       ·cases hbk
       ·cases hbk;split at hℓ2<;>cases hℓ2;exact p1
      | om rk2 uX l2 C2 m2=>
       simp only [mlab] at hℓ2;obtain ⟨b2,_,_,rfl,⟨p1,_⟩,_⟩:=g3;cases hbk;split at hℓ2<;>cases hℓ2;exact p1
      | _=>cases hℓ2
     have hl2:ℓ2=ℓ:=by rw [<-hc2,hcol]
     subst hl2;have:=zqR b1 hq2 hu hℓ2 (by simp [mlab,hf]);subst this;simp only at hbk;rw [hnil] at hbk;cases hbk
   | _=>simp [tp1] at hq
  | om rk rv ℓ C m=>
   cases t with
   | om rk' rv' k' C' m'=>
    simp only [tp1,xQ] at hq;subst hq;simp only [tOk] at htk;cases hf:zdA p ℓ with
    | none=>rw [hf] at htk;cases htk
    | some k=>
     rw [hf] at htk;simp only [xh] at htk;obtain ⟨⟨t3,t4⟩,t5⟩:=htk;exact zwV g1 g2 hold xf hDne t4 (zcn t5) (hdV ℓ k hf)
   | _=>simp [tp1] at hq
  | _=>simp [tp1] at hq
theorem zhA {P:Program} {o:Oper} {f:FuncId} {args:List Operand} {ts:Array TypeId} {ins vb tns:List AV} (xs:List AV) (p:List (Nat×Nat)) (D:List Nat) (s:Nat) (V:List Nat) (ho:o.op= .call ⟨.value (.func f),args.toArray,ts⟩)
  (hc:∀as w,(callFunc f as).run P w= .ok (.enter f as) w) (ok:zeV P f ins vb tns) (hin:xs.map (inW p)=ins) (vd:xs.length=args.length) (hB:zxn p D s V xs tns=true) (hD0:D.isEmpty=false)
  (hout:(vb.all (znB (1::p.map (·.2)) D s))=true) (hV:vb.flatMap (zdP s)=V):zju P o (args.zip xs) (p.map (·.1)) V (zmt (vb.map (zjW D s))) (zsm D s xs tns):=
 zyG xs p D s V ok (fun a w γ h=>⟨_,by simp [execOp,ho,resolve,Act.eval,Deferred.ofValue,invoke,hc],xs,hin,hB,rfl,h⟩) (fun c=>by rw [ho];exact nofun) vd hD0 hout hV
def zvp:List Bx->List AV->Prop
 | [],[]=>True
 | b::bs,.ep r C x off::cs=>(off=0/\zdE b.avs=some (r.lv x)/\subN (b.lab::AV.colsL b.avs) C=true)/\zvp bs cs
 | b::bs,.em rk rv C m::cs=>((∃ℓ C0,b.avs=[.om rk rv ℓ C0 m]/\subN (b.lab::ℓ::C0) C=true)\/∃C0,b.avs=[.mp rk rv C0 m]/\subN (b.lab::C0) C=true)/\zvp bs cs
 | _,_=>False
theorem zmL :∀(xs:List Operand) (bs:List Bx) (cs:List AV),zvp bs cs->xs.length=bs.length->(∀p∈xs.zip (bs.map fun b=>AV.ptr b.lab 0),p.2.rel γ w (ev p.1))->Bxs γ w bs->AV.relL γ w cs (xs.map ev)
 | [],[],[],_,_,_,_=>rfl
 | [],[],_::_,h,_,_,_=>h.elim
 | x::xs,b::bs,.ep r C y off::cs,h,hl,hi,hb=>by
  obtain ⟨⟨rfl,h1,h2⟩,h3⟩:=h;refine ⟨ev x,xs.map ev,rfl,?_,zmL xs bs cs h3 (by simpa using hl) (fun p hp=>hi p (xg _ hp)) (fun c hc=>hb c (xg _ hc))⟩;have hv:=hi (x,.ptr b.lab 0) xf;obtain ⟨hc,cells,hh,hL,hone⟩:=hb b xf;have hsub:=zR h2;refine ⟨γ.box b.lab,0,cells,hv,by rw [hc];exact hsub _ xf,(xD.1 hh).1,zgE h1 hL (fun c hc=>hsub c (xg _ hc)),fun i hi=>?_⟩;rw [yu w _ _ _ _ _ hh];simp
 | x::xs,b::bs,.em rk rv C m::cs,h,hl,hi,hb=>by
  obtain ⟨h1,h3⟩:=h;refine ⟨ev x,xs.map ev,rfl,?_,zmL xs bs cs h3 (by simpa using hl) (fun p hp=>hi p (xg _ hp)) (fun c hc=>hb c (xg _ hc))⟩;have hv:=hi (x,.ptr b.lab 0) xf;obtain ⟨hc,cells,hh,hL,hone⟩:=hb b xf;have hlt:=(xD.1 hh).1;have hcell:∀u,cells=[u]->w.cell? ⟨γ.box b.lab,0,none⟩=some u:=fun u hu=>by rw [yu w _ _ _ _ _ hh];simp [hu]
  rcases h1 with ⟨ℓ,C0,e1,h2⟩| ⟨C0,e1,h2⟩
  ·have hsub:=zR h2;rw [e1] at hL;obtain ⟨u,r,hu,⟨b',es,cl,hu',⟨g1,_⟩,hlt',hh',hE,_⟩,hr⟩:=hL;cases hr;exact ⟨γ.box b.lab,b',es,cl,hv,by rw [hc];exact hsub _ xf,hlt,by rw [hcell u hu,hu'],by rw [g1];exact hsub _ (xg _ xf),hlt',hh',hE.mono fun c _ hc'=>hsub _ (xg _ (xg _ hc'))⟩
  ·have hsub:=zR h2;rw [e1] at hL;obtain ⟨u,r,hu,⟨b',es,cl,hu',hF,hlt',hh',hE⟩,hr⟩:=hL;cases hr;exact ⟨γ.box b.lab,b',es,cl,hv,by rw [hc];exact hsub _ xf,hlt,by rw [hcell u hu,hu'],hsub _ (xg _ hF),hlt',hh',hE.mono fun c _ hc'=>hsub _ (xg _ hc')⟩
 | _::_,_::_,[],h,_,_,_=>h.elim
 | _::_,_::_,.any::_,h,_,_,_=>h.elim
 | _::_,_::_,.lf _::_,h,_,_,_=>h.elim
 | _::_,_::_,.sl ..::_,h,_,_,_=>h.elim
 | _::_,_::_,.own ..::_,h,_,_,_=>h.elim
 | _::_,_::_,.rc ..::_,h,_,_,_=>h.elim
 | _::_,_::_,.ptr ..::_,h,_,_,_=>h.elim
 | _::_,_::_,.bs ..::_,h,_,_,_=>h.elim
 | _::_,_::_,.tl ..::_,h,_,_,_=>h.elim
 | _::_,_::_,@AV.mo _ _ _ _ _ _ _ _ _::_,h,_,_,_=>h.elim
 | _::_,_::_,.cu ..::_,h,_,_,_=>h.elim
 | _::_,_::_,.qp ..::_,h,_,_,_=>h.elim
 | _::_,_::_,.mp ..::_,h,_,_,_=>h.elim
 | _::_,_::_,.om ..::_,h,_,_,_=>h.elim
 | _::_,_::_,.tup ..::_,h,_,_,_=>h.elim
 | _::_,_::_,.ag ..::_,h,_,_,_=>h.elim
 | _::_,_::_,.fv ..::_,h,_,_,_=>h.elim
 | _::_,_::_,.bp ..::_,h,_,_,_=>h.elim
 | _::_,_::_,.it ..::_,h,_,_,_=>h.elim
 | [],_::_,_,_,hl,_,_=>by simp at hl
 | _::_,[],_,_,hl,_,_=>by simp at hl
theorem zzE (xs:List Operand) (bs:List Bx) (cs:List AV) (ho:o.op= .makeFunc (.func g) #[] xs.toArray) (hc:zvp bs cs) (hl:xs.length=bs.length):
  zC P o (xs.zip (bs.map fun b=>AV.ptr b.lab 0)) bs [] [] (.fv g cs) []:=by
 refine zE fun γ ev w hi hb=>?_
 exact ⟨.func (.func g) #[] (xs.map ev).toArray,w,γ,by simp [execOp,ho,Instr.makeFunc],Tr.refl _ _ _ _,⟨xs.map ev,rfl,zmL xs bs cs hc hl hi hb⟩,fun b hb=>by cases hb⟩
def isFv (g:Nat) (l:List AV) (a:AV):Prop:=∀γ w v,a.rel γ w v->∃us:List Value,v= .func (.func g) #[] us.toArray/\AV.relL γ w l us
theorem zzn (g:Nat) (l:List AV):isFv g l (.fv g l):=fun _ _ _ ⟨vs,hv,hL⟩=>⟨vs,hv,hL⟩
theorem zyc {P:Program} {o:Oper} {f:FuncId} {y:Operand} {a:AV} {caps:List AV} {args:List Operand} {ts:Array TypeId} {ins vb:List AV} (xs:List AV) (D:List Nat) (s:Nat)
  (ho:o.op= .call ⟨.value y,args.toArray,ts⟩) (hf:isFv f caps a) (hc:∀as w,(callFunc f as).run P w= .ok (.enter f as) w) (ok:FnOk P f ins vb)
  (hin:(xs++caps).map inAV=ins) (vd:xs.length=args.length) (hD:((xs++caps).all fun a=>subN (zmQ a) D)=true) (hD0:D.isEmpty=false) (hout:(vb.all (znB [1] D s))=true):
  zC P o ((y,a)::args.zip xs) [] [] (vb.flatMap (zdP s)) (zmt (vb.map (zjW D s))) []:=by
 intro γ av w hi hb next Q hk;obtain ⟨us,hv,hcaps⟩:=hf γ w _ (hi (y,a) xf);have hxs:AV.relL γ w xs (args.map av.eval):=znf vd fun p hp=>hi p (xg _ hp)
 have hall:=zmp hxs hcaps;have hvs:AV.relL (gh0 (γ.F D)) w ins (args.map av.eval++us):=by
  subst hin;simp only [xn] at hD;exact zmq hall fun x hx v hv=>zsV hv (zR (hD x hx))
 have hcall:=ok w (γ.F D) _ hvs;have hrun:(execOp av.eval o).run P w= .ok (.enter f (args.map av.eval++us).toArray) w:=by
  simp only at hv;simp [execOp,ho,resolve,hv,Deferred.ofValue,invoke,hc]
 unfold Oper.wp;rw [hrun,yV];refine hcall.mono fun e w' ⟨γc,us,he,hB,⟨hold,hfr⟩,hr⟩=>?_
 subst he;have hDne:D≠[]:=fun e=>by rw [e] at hD0;cases hD0
 simp only [xn] at hout;refine hk (zcJ γ γc w.heap.size D s (vb.flatMap (zdP s))) w' _ ⟨hB.os,hB.tape,hB.output,hB.size,fun b hb _=>hB.block b hb,fun b hb=>?_,fun ℓ hℓ=>?_,fun b h1 h2 h0=>?_⟩ (zni (zmq hr fun x hx v hv=>?_)) (fun b hb=>by cases hb)
 ·show (if b<w.heap.size then γ.col b else _)=_;rw [xe hb]
 ·show (if ℓ∈vb.flatMap (zdP s) then _ else γ.box ℓ)=_;rw [xd hℓ]
 ·exfalso;have hne:=hfr b h1 h2;have h0':(if b<w.heap.size then γ.col b else if γc.col b=0 then D.headD 1 else if γc.col b=1 then 1 else γc.col b+s)=0:=h0
  grind
 ·exact zna (K:=[1]) (fun b hb=>(hold b hb).imp id fun h=>by simp [h]) (by simp) hDne (hout x hx) (fun c hc=>yx.2 ⟨x,hx,hc⟩) hv
section
variable {m:Bool} {P:Program} {l:List It} {cx:Cx} {E E1:Env}
theorem zdS (h:zbI E E1):JI m P (.c .ret::l) (Sx cx E) fun e a w=>(e= .ret\/e= .normal)/\Sx cx E1 a w:=zoQ fun _ _ hs=>⟨.inl rfl,h.go hs⟩
theorem zBK (h:zbI E E1):∀e a w,(e= .ret/\Sx cx E a w)->zdM m P (fun e a w=>(e= .ret\/e= .normal)/\Sx cx E1 a w) l e a w:=zvE fun _ _ hs=>⟨.inl rfl,h.go hs⟩
end
theorem zju.le (h:zju P o ins W V av T) (hl:leI ins' ins):zju P o ins' W V av T:=
 fun γ a w hi=>h γ a w (zrN _ _ hl hi)
theorem zeV.le (h:zeV P f ins vb ts) (hl:leL ins' ins):zeV P f ins' vb ts:=fun w γ vs hr=>h w γ vs (zlU hl hr)
section
end
set_option linter.unusedSectionVars false
section
variable {κ ν μ α:Type} [DecidableEq κ]
theorem zzX {F:Fp} {w:World} {x v:Value} (h:VRel F w Rp.valR x v):v=x/\x.oneCell'=true:=by
 have h1:zaf F w (.val x) v:=zpN rfl rfl h;cases h1 with
 | val _ h'=>exact ⟨rfl,h'⟩
theorem zjt.own (h:zjt γ w r e ℓ C xs v) (hn:ℓ∉C):AV.rel ⟨γ.col,fun _=>v.ownBlock.getD 0⟩ w (.own r e ℓ C xs) v:=by
 obtain ⟨cs,ho,hg,hA⟩:=h;exact ⟨cs,ho,fun g hgb=>⟨hg g hgb,by simp [hgb]⟩,hA,hn⟩
theorem zjt.vrel (h:zjt γ w r e ℓ C xs v) (hn:ℓ∉C):VRel (γ.F (ℓ::C)) w (Rp.list r) xs v:=
 zrr rfl rfl (zaf.mono (zlp (h.own hn)) fun _ _ h=>h)
theorem zjt.one (h:zjt γ w r e ℓ C xs v):v.oneCell'=true:=by
 obtain ⟨cs,ho,_⟩:=h;rcases ho.2 with ⟨rfl,_⟩| ⟨g,cap,cur,rfl,_⟩<;>rfl
theorem esOf (h:zbq F w rk Rp.valR n es) (hFG:∀b,F b->G b):∀{m:List (κ×ν)},m.map Prod.fst=n.map Prod.fst->(n.map Prod.fst).Nodup->
  (∀k xs u,mget m k=some xs->mget n k=some u->VRel G w rv xs u)->zbq G w rk rv m es:=by
 induction h with
 | nil=>intro m hm _ _;cases m with
  | nil=>exact .nil
  | cons p m=>simp at hm
 | @cons q n e es h1 h2 h3 ih=>
  intro m hm hnd hr;cases m with
  | nil=>simp at hm
  | cons p m=>
   simp only [xC,yf] at hm;rw [xC,q7] at hnd;refine .cons ?_ ?_ (ih hm.2 hnd.2 fun k xs u k1 k2=>?_)
   ·rw [hm.1];exact h1.mono fun b _ hb=>hFG b hb
   ·rw [(zzX h2).1];exact hr q.1 p.2 q.2 (by rw [mget,xe hm.1.symm]) (by rw [mget,xe rfl])
   ·have hk:k∈n.map Prod.fst:=Classical.byContradiction fun hk=>by
     have:mget n k=none:=by
      clear k2 k1 ih h3 hr hnd hm
      induction n with
      | nil=>rfl
      | cons x n ih=>rw [mget,xd (fun e=>hk (by rw [e];exact xf))];exact ih fun h=>hk (xg _ h)
     grind
    have hne:k≠q.1:=fun e=>hnd.1 (by rw [<-e];exact hk)
    exact hr k xs u (by rw [mget,xd (by rw [hm.1];exact hne)];exact k1) (by rw [mget,xd hne];exact k2)
theorem zzo (rk:Rp κ) (r:Rp α) (e:TypeId) (ℓ:Nat) (C:List Nat) (m:List (κ×List α)):isMp rk (Rp.list r) m (ℓ::C) (.mo rk r e ℓ C m):=fun γ w v ⟨b,n,hv,es,cl,⟨g1,g2⟩,hb,hh,hO,hE,hR,hn⟩=>
 ⟨b,es,cl,hv,by rw [g1];exact xf,hb,⟨hh,hO.1,hO.2.1,by rw [hR.keys];exact hO.2.2⟩,esOf hE (fun b hb=>xg _ hb) hR.keys hO.2.2 fun k xs u k1 k2=>(hR.row k xs u k1 k2 trivial).vrel hn⟩
theorem zBM (rk:Rp κ) (r:Rp α) (e:TypeId) (ℓ:Nat) (C C':List Nat) (m:List (κ×List α)) (h:subN C C'=true) (hn:memN ℓ C'=false):AV.le (.mo rk r e ℓ C m) (.mo rk r e ℓ C' m):=fun _ _ _ ⟨b,n,hv,hm⟩=>
 ⟨b,n,hv,hm.regh (fun _ _ h=>h) (fun _ _ hb=>zR h _ hb) rfl fun hc=>by rw [zae.2 hc] at hn;cases hn⟩
theorem zAV (rk:Rp κ) (r:Rp α) (e:TypeId) (ℓ:Nat) (C C':List Nat) (m:List (κ×List α)) (h:subN (ℓ::C) C'=true):AV.le (.mo rk r e ℓ C m) (.mp rk (Rp.list r) C' m):=fun γ w v hv=>zxU _ _ m h γ w v (zzo rk r e ℓ C m γ w v hv)
end
section
variable {P:Program} {o:Oper} {κ α:Type} [DecidableEq κ] {rk:Rp κ} {r:Rp α} {e:TypeId} {ℓ:Nat} {C D C1:List Nat} {m:List (κ×List α)} {t kt et:TypeId} {q:κ}
theorem zBC (h:zok (.sl n s ls) z=true):z= .slice none 0 0:=by
 unfold zok at h
 grind
theorem MapT.val (hT:MapT P t kt et rk (Rp.list r) ([]:List α)):MapT P t kt et rk Rp.valR (.slice none 0 0):=by
 refine ⟨hT.u,hT.key,?_⟩;obtain ⟨i,z,hi,hz,hzo,hza,hzb⟩:=hT.zero;have hz0:z= .slice none 0 0:=by
  have hc:=hzb rfl;rw [hc] at hzo;have h1:zokL [LV.sl 0 r.size []] [z]=true:=hzo;simp only [zokL,xh] at h1;exact zBC h1.1
 subst hz0;exact ⟨i,_,hi,hz,by simp [Rp.valR,Value.cells,zokL,zok],⟨fun h=>(by cases h),fun _=>rfl⟩⟩
end
def BxsT (W V:List Nat) (T:List (AV×AV)):List (Bx×Bx)->Prop
 | []=>True
 | (b,c)::l=>(b.lab=c.lab/\b.typ=c.typ/\(!memN b.lab W&& !memN b.lab V)=true/\ziA W V T b.avs c.avs)/\BxsT W V T l
theorem BxsT.rel (t:Tr W V γ w γ' w') (hT:∀p∈T,ziz γ w γ' w' p):∀{l:List (Bx×Bx)},BxsT W V T l->(∀p∈l,p.1.rel γ w)->∀p∈l,p.2.rel γ' w'
 | [],_,_,p,hp=>by cases hp
 | (b,c)::l,h,hs,p,hp=>by
  obtain ⟨⟨hlab,hty,hWV,ht⟩,h2⟩:=h;cases hp with
  | head=>
   obtain ⟨g1,cs,hh,hL,h1⟩:=hs (b,c) xf;simp only [xh] at hWV;simp only at g1 hh hL;have hlt:=(xD.1 hh).1;refine ⟨?_,cs,?_,ht.rel t hT hL,h1⟩
   ·simp only;rw [<-hlab,t.box _ (zcn hWV.2),t.col _ hlt];exact g1
   ·simp only;rw [<-hlab,t.box _ (zcn hWV.2),<-hty,t.block _ hlt (by rw [g1];exact zcn hWV.1)];exact hh
  | tail _ hp=>exact BxsT.rel t hT h2 (fun p hp=>hs p (xg _ hp)) p hp
section
variable {κ ν:Type} [DecidableEq κ]
variable {rk:Rp κ} {rv:Rp ν}
theorem zlZ (ea:AV) (ho:o.op= .lookup t x z false) (hT:MapT P t kt et rk rv x0) (hk:asV rk k C1 b) (he:elAV rv C ((mget m k).getD x0) ea):
  zC P o [(x,.om rk rv ℓ C m),(z,b)] [] [] [] ea []:=by
 refine zE fun γ ev w hi _=>?_
 obtain ⟨b',es,cl,hv,hF,hb,hh,hE,hn⟩:=hi (x,.om rk rv ℓ C m) (by simp);have h2:=hk γ w _ (hi (z,b) (by simp));simp only at hv h2;obtain ⟨v,hr,hV⟩:=zpz hT hh.1 hE h2 false;exact ⟨v,w,γ,by simp [execOp,ho,hv,hr],Tr.refl _ _ _ _,he γ w v hV,fun b hb=>by cases hb⟩
theorem zmU (ea:AV) (ho:o.op= .lookup t x z true) (hT:MapT P t kt et rk rv x0) (hk:asV rk k C1 b) (he:elAV rv C ((mget m k).getD x0) ea):
  zC P o [(x,.om rk rv ℓ C m),(z,b)] [] [] [] (.tup [ea,.lf (.bool (mget m k).isSome)]) []:=by
 refine zE fun γ ev w hi _=>?_
 obtain ⟨b',es,cl,hv,hF,hb,hh,hE,hn⟩:=hi (x,.om rk rv ℓ C m) (by simp);have h2:=hk γ w _ (hi (z,b) (by simp));simp only at hv h2;obtain ⟨v,hr,hV⟩:=zpz hT hh.1 hE h2 true;exact ⟨_,w,γ,by simp [execOp,ho,hv,hr],Tr.refl _ _ _ _,⟨[v,.bool (mget m k).isSome],rfl,v,_,rfl,he γ w v hV,_,_,rfl,zvO _ _ _,rfl⟩,fun b hb=>by cases hb⟩
end
def zoh:List LV->Option (List AV)
 | []=>some []
 | l::ls=>match l.plain,zoh ls with
  | true,some r=>some (.lf l::r)
  | _,_=>none
theorem ziL :∀{ls:List LV} {as:List AV},zoh ls=some as->zdE as=some ls/\as.all (zlW C)=true
 | [],as,h=>by cases h;exact ⟨rfl,rfl⟩
 | l::ls,as,h=>by
  rw [zoh] at h;split at h
  ·rename_i r h1 h2;cases h;obtain ⟨g1,g2⟩:=ziL (C:=C) h2;exact ⟨by simp only [zdE,AV.toLV,g1],by simp only [yo,zlW,h1,g2];rfl⟩
  ·cases h
def zow:AV->Option (List AV)
 | .ag l=>some l
 | .rc r _ x=>zoh (r.lv x)
 | a=>match ziH a with
  | true=>some [a]
  | false=>none
def zAVs:List Value->Option (List AV)
 | []=>some []
 | v::l=>match zlH v,zAVs l with
  | some a,some r=>some (a::r)
  | _,_=>none
theorem zrt :∀{vs:List Value} {as:List AV},zAVs vs=some as->AV.relL γ w as vs/\∀u∈vs,u.oneCell'=true
 | [],as,h=>by cases h;exact ⟨rfl,fun u hu=>by cases hu⟩
 | v::vs,as,h=>by
  rw [zAVs] at h;split at h
  ·rename_i a r h1 h2;cases h;obtain ⟨g1,g2⟩:=zrt (γ:=γ) (w:=w) h2;have hr:=zjz h1 γ w;have h1c:v.oneCell'=true:=by
    unfold zlH at h1;split at h1<;>first| rfl| cases h1
   exact ⟨⟨v,vs,rfl,hr,g1⟩,fun u hu=>by
    cases hu with
    | head=>exact h1c
    | tail _ hu=>exact g2 u hu⟩
  ·cases h
section
variable {P:Program} {o:Oper} {t:TypeId} {i:TypeInfo}
theorem zmv (h:P.info? t=some i) (w:World):(sizeOf t).run P w= .ok i.size w:=by simp [sizeOf,typeInfo,h]
theorem zwB (ℓ:Nat) (ho:o.op= .alloc t) (hi:P.info? t=some i) (hz:i.zero=some z) (hs:zAVs z.cells.toList=some as):zC P o [] [] [] [ℓ] (.ptr ℓ 0) [⟨ℓ,t,as⟩]:=by
 have hzv:∀w,(zeroValue t).run P w= .ok z w:=fun w=>by simp [zeroValue,typeInfo,hi,hz]
 refine zE fun γ ev w _ _=>?_
 refine ⟨.pointer (some ⟨w.heap.size,0,none⟩),w.alloc (.cells z.cells t),_,?_,zlA γ w ℓ _,?_,fun b hb=>?_⟩
 ·simp [execOp,ho,Instr.alloc,Sem.run_bind,hzv,newVar,newRow]
 ·show _=_;rw [zct]
 ·simp only [xj,xA,xB] at hb;subst hb;have h:=zrt (γ:=zch γ w.heap.size ℓ w.heap.size) (w:=w.alloc (.cells z.cells t)) hs;refine ⟨by rw [zct,zid],z.cells.toList,?_,h.1,h.2⟩;rw [zct,yG];exact yJ w _
theorem zwE (hl:zow a=some l) (ho:o.op= .store t y z) (hi:P.info? t=some i) (hn:Nat.beq l.length i.size=true) (hoff:Nat.ble (off+i.size) b.avs.length=true) (hf:AV.free [b.lab] [] (.ag l)=true):
  zC P o [(y,.ptr b.lab off),(z,a)] [b] [b.lab] [] .any [⟨b.lab,b.typ,(b.avs.map (AV.clear [b.lab] [])).take off++l++(b.avs.map (AV.clear [b.lab] [])).drop (off+i.size)⟩]:=by
 have hag:=zzG (P:=P) (o:=o) (off:=off) (b:=b) l ho (fun w=>zmv hi w) hn hoff hf;unfold zow at hl;split at hl
 ·grind
 ·rename_i r C x;obtain ⟨g1,g2⟩:=ziL (C:=C) hl;exact hag.le ⟨⟨rfl,AV.le_refl _⟩,⟨rfl,zzx r C x l g1 g2⟩,trivial⟩
 ·split at hl
  ·rename_i h1;cases hl;have hs1:i.size=1:=(xk hn).symm;rw [hs1] at hoff|-;have hlt:off<b.avs.length:=yW (xy hoff);have hf':a.free [b.lab] []=true:=by simpa [AV.free,AV.cols,AV.colsL,AV.labs,AV.labsL] using hf
   have h:=zBf (P:=P) (o:=o) (off:=off) (b:=b) ho (fun w=>by rw [zmv hi w,hs1]) (Nat.ble_eq_true_of_le hlt) h1 hf';rw [pp,xe (by simpa using hlt)] at h;simpa using h
  ·cases hl
end
def zrC (P:Program) (E:Env) (o:Oper) (ℓ:Nat):Option (List (Operand×AV)×List Bx×List Nat×List Nat×AV×List Bx):=
 match o.op with
 | .alloc t=>match P.info? t with
  | some i=>match i.zero with
   | some z=>match zAVs z.cells.toList with
    | some as=>some ([],[],[],[ℓ],.ptr ℓ 0,[⟨ℓ,t,as⟩])
    | none=>none
   | none=>none
  | none=>none
 | .box t x=>match E.opd x with
  | some (.ag l)=>match AV.free [] [ℓ] (.ag l) with
   | true=>some ([(x,.ag l)],[],[],[ℓ],.ptr ℓ 0,[⟨ℓ,t,l⟩])
   | false=>none
  | some a=>match zow a,zlq a with
   | some as,some _=>match zdE as with
    | some _=>match as.all (zlW a.cols) with
     | true=>some ([(x,a)],[],[],[ℓ],.ptr ℓ 0,[⟨ℓ,t,as⟩])
     | false=>none
    | none=>none
   | _,_=>none
  | none=>none
 | .store t y z=>match E.opd y,E.opd z,P.info? t with
  | some (.ptr k off),some a,some i=>match zdq E.bx k,zow a with
   | some b,some l=>match Nat.beq l.length i.size&&Nat.ble (off+i.size) b.avs.length&&AV.free [b.lab] [] (.ag l) with
    | true=>some ([(y,.ptr b.lab off),(z,a)],[b],[b.lab],[],.any,[⟨b.lab,b.typ,(b.avs.map (AV.clear [b.lab] [])).take off++l++(b.avs.map (AV.clear [b.lab] [])).drop (off+i.size)⟩])
    | false=>none
   | _,_=>none
  | _,_,_=>none
 | .load t y=>match E.opd y,P.underlying t,P.info? t with
  | some (.ptr k off),some (.struct _),some i=>match zdq E.bx k with
   | some b=>match Nat.beq ((b.avs.drop off).take i.size).length i.size with
    | true=>some ([(y,.ptr b.lab off)],[b],[],[],.ag ((b.avs.drop off).take i.size),[])
    | false=>none
   | none=>none
  | _,_,_=>none
 | _=>none
theorem znl (C:List Nat):subN C C=true:=by
 simp only [subN,xn];exact fun c hc=>zae.2 hc
theorem zwJ (h1:ziH a=true) (hp:zlq a=some ls) (ht:zdE [a]=some ls'):zdE [a]=some ls:=by
 cases a<;>simp_all [ziH,zlq,zdE,AV.toLV]
theorem zul (h:zrC P E o ℓ=some (ins,bxs,W,V,av,bs)):
  zC P o ins bxs W V av bs/\zjs E ins/\zqq E bxs:=by
 unfold zrC at h;split at h
 ·rename_i t ho;split at h
  ·rename_i i hi;split at h
   ·rename_i z hz;split at h
    ·rename_i as hs;simp only [xF,xS] at h;obtain ⟨rfl,rfl,rfl,rfl,rfl,rfl⟩:=h;exact ⟨zwB ℓ ho hi hz hs,trivial,trivial⟩
    ·cases h
   ·cases h
  ·cases h
 ·rename_i t x ho;split at h
  ·rename_i l hl;split at h
   ·rename_i hf;simp only [xF,xS] at h;obtain ⟨rfl,rfl,rfl,rfl,rfl,rfl⟩:=h;exact ⟨zzB ℓ ho hf,⟨hl,trivial⟩,trivial⟩
   ·cases h
  ·rename_i a _ ha;split at h
   ·rename_i as ls hc hp;split at h
    ·rename_i ls' ht;split at h
     ·rename_i hl;simp only [xF,xS] at h;obtain ⟨rfl,rfl,rfl,rfl,rfl,rfl⟩:=h;refine ⟨zgR ℓ as a.cols ho hp (znl _) ?_ hl,⟨ha,trivial⟩,trivial⟩;unfold zow at hc;split at hc
      ·grind
      ·rename_i r C y _;cases hp;exact (ziL (C:=C) hc).1
      ·split at hc
       ·cases hc;rename_i h1;exact zwJ h1 hp ht
       ·cases hc
     ·cases h
    ·cases h
   ·cases h
  ·cases h
 ·rename_i t y z ho;split at h
  ·rename_i k off a i hy hz hi;split at h
   ·rename_i b l hb hc;split at h
    ·rename_i hk;simp only [xh] at hk;simp only [xF,xS] at h;obtain ⟨rfl,rfl,rfl,rfl,rfl,rfl⟩:=h;have e:=(zbJ hb).2;refine ⟨zwE hc ho hi hk.1.1 hk.1.2 hk.2,⟨by rw [e];exact hy,hz,trivial⟩,?_⟩;refine ⟨?_,trivial⟩;rw [e];exact hb
    ·cases h
   ·cases h
  ·cases h
 ·rename_i t y ho;split at h
  ·rename_i k off fs i hy hu hi;split at h
   ·rename_i b hb;split at h
    ·rename_i hk;simp only [xF,xS] at h;obtain ⟨rfl,rfl,rfl,rfl,rfl,rfl⟩:=h;have e:=(zbJ hb).2;refine ⟨zzD _ ho ⟨fun w=>by simp [isAgg,run_underlying hu],fun w=>zmv hi w⟩ rfl hk,⟨by rw [e];exact hy,trivial⟩,?_⟩;refine ⟨?_,trivial⟩;rw [e];exact hb
    ·cases h
   ·cases h
  ·cases h
 ·cases h
def zBJ:List Nat->Nat
 | []=>0
 | x::_=>x
def zBW:List Nat->List Nat->List Nat
 | [],ls=>ls
 | _::_,ls=>ls.tail
def runX (P:Program) (N:Lim) (ops:Array Oper):List Oper->List Nat->Env->Option Env
 | [],_,E=>some E
 | o::uY,ls,E=>match zdr ops E o with
  | some true=>match zfs N o.dst with
   | true=>match zmM P E.opd E.bx o.op with
    | some av=>runX P N ops uY ls ⟨zeL o.dst av E.sl,E.bx⟩
    | none=>match zrC P E o (zBJ ls) with
     | some (_,_,W,V,av,bs)=>match okW W&&okW V with
      | true=>runX P N ops uY (zBW V ls) (E.step W V o.dst av bs)
      | false=>none
     | none=>none
   | false=>none
  | some false=>match zfs N o.dst with
   | true=>runX P N ops uY ls ⟨zeL o.dst (.tup []) E.sl,E.bx⟩
   | false=>none
  | none=>none
theorem zkE :∀(l:List Oper) (uY:List Oper) (ls:List Nat) (E:Env),runX P N ops l ls E=some E1->zal P N ops uY E1 E'->zal P N ops (l++uY) E E'
 | [],uY,ls,E,h,k=>by cases h;exact k
 | o::l,uY,ls,E,h,k=>by
  rw [runX] at h;split at h
  ·rename_i hg;split at h
   ·rename_i hd;split at h
    ·rename_i av he;intro cx a w Q hn hs hQ;obtain ⟨γ,hB,hS,hX⟩:=hs;obtain ⟨v,hr,hv⟩:=zlh he (γ:=γ) (w:=w) (ev:=a.eval) (fun x _ av hx=>Env.opd_rel hx hS) hX;rw [xO];refine zgQ (zej hg hS) (zqV hr ?_);exact zkE l uY ls _ h k cx _ _ Q hn ⟨γ,hB.put _ _ (by rw [hn];exact zcD hd),hS.put (fun k hk=>by rw [hB.size,hn];exact zdZ hd k hk) hv,hX⟩ hQ
    ·split at h
     ·rename_i ins bxs W V av bs hb;split at h
      ·rename_i hW;rw [xh] at hW;obtain ⟨h1,h2,h3⟩:=zul hb;rw [xO];exact zoj hg h1 h2 h3 hW.1 hW.2 hd (zkE l uY _ _ h k)
      ·cases h
     ·cases h
   ·cases h
  ·rename_i hg;split at h
   ·rename_i hd;rw [xO];exact zzP hg hd (zkE l uY ls _ h k)
   ·cases h
  ·cases h
def zyH (P:Program) (N:Lim) (ops:Array Oper) (uY:List Oper) (n:Nat) (ls:List Nat) (o:Oper) (E:Env) (xs:List Operand) (bl W V:List Nat) (av:AV) (bs:List Bx):Option (List AV×List Bx×Env):=
 match runX P N ops (uY.take n) ls E with
 | some E0=>match zdr ops E0 o,okW W&&okW V&&zfs N o.dst,zgn E0 xs,zka E0.bx bl with
  | some true,true,some as,some bxs=>some (as,bxs,E0.step W V o.dst av bs)
  | _,_,_,_=>none
 | none=>none
def zrk (P:Program) (N:Lim) (ops:Array Oper) (uY:List Oper) (n:Nat) (ls:List Nat) (o:Oper) (E:Env) (xs:List Operand) (bl W V:List Nat) (av:AV) (bs:List Bx):Env:=
 match zyH P N ops uY n ls o E xs bl W V av bs with
 | some r=>r.2.2
 | none=>E
def zrj (P:Program) (N:Lim) (ops:Array Oper) (uY:List Oper) (n:Nat) (ls:List Nat) (o:Oper) (E:Env) (xs:List Operand) (bl W V:List Nat) (av:AV) (bs:List Bx):Option (List AV×List Bx):=
 match zyH P N ops uY n ls o E xs bl W V av bs with
 | some r=>some (r.1,r.2.1)
 | none=>none
def endE (P:Program) (N:Lim) (ops:Array Oper) (uY:List Oper) (ls:List Nat) (E:Env):Env:=match runX P N ops uY ls E with
 | some E1=>E1
 | none=>E
def endB (P:Program) (N:Lim) (ops:Array Oper) (uY:List Oper) (ls:List Nat) (E:Env):Bool:=match runX P N ops uY ls E with
 | some _=>true
 | none=>false
theorem zoB (h:endB P N ops uY ls E=true):runX P N ops uY ls E=some (endE P N ops uY ls E):=by
 unfold endB at h;unfold endE
 grind
def splC (P:Program) (N:Lim) (ops:Array Oper) (uY:List Oper) (ls:List Nat) (E:Env) (t:Nat):Option AV:=match runX P N ops uY ls E with
 | some E1=>lookup E1.sl t
 | none=>none
def finC (P:Program) (N:Lim) (ops:Array Oper) (uY:List Oper) (ls:List Nat) (E:Env) (ks bs:List Nat):Option Env:=match runX P N ops uY ls E with
 | some E1=>E1.pick ks bs
 | none=>none
def zkX (ks ls:List Nat) (E:Env):Env:=match E.pick ks ls with
 | some E1=>E1
 | none=>E
def zvZ (ks ls:List Nat) (E:Env):Bool:=match E.pick ks ls with
 | some _=>true
 | none=>false
theorem zpn (h:zvZ ks ls E=true):E.pick ks ls=some (zkX ks ls E):=by
 unfold zvZ at h;unfold zkX
 grind
section
variable {P:Program} {N:Lim} {ops:Array Oper} {uY:List Oper} {E E' E1:Env} {o:Oper} {ins:List (Operand×AV)} {bxs:List Bx} {W V:List Nat} {av:AV} {bs:List Bx} {ls:List Nat}
theorem zgD (n:Nat) (h:runX P N ops (uY.take n) ls E=some E1) (k:zal P N ops (uY.drop n) E1 E'):zal P N ops uY E E':=by
 have:=zkE _ _ _ _ h k;simp_all
theorem rcl (n:Nat) (ls:List Nat) (ho:nthO uY n=some o) (hl:zC P o ins bxs W V av bs) (k:zal P N ops (uY.drop (n+1)) (zrk P N ops uY n ls o E (ins.map (·.1)) (bxs.map (·.lab)) W V av bs) E')
  (h:zrj P N ops uY n ls o E (ins.map (·.1)) (bxs.map (·.lab)) W V av bs=some (ins.map (·.2),bxs):=by kernel_rfl):zal P N ops uY E E':=by
 unfold zrj at h;unfold zrk at k;split at h
 ·rename_i r h0;rw [h0] at k;simp only [xF,xS] at h;unfold zyH at h0;split at h0
  ·rename_i E0 hE;refine zgD n hE ?_;rw [zig ho];split at h0
   ·rename_i as' bxs' h1 h2 h3 h4;cases h0;simp only at h k;obtain ⟨rfl,rfl⟩:=h;simp only [xh] at h2;exact zoj h1 hl (ziJ h3) (zpo h4) h2.1.1 h2.1.2 h2.2 k
   ·cases h0
  ·cases h0
 ·cases h
theorem rc (n:Nat) (ho:nthO uY n=some o) (hl:zC P o ins bxs W V av bs) (k:zal P N ops (uY.drop (n+1)) (zrk P N ops uY n [] o E (ins.map (·.1)) (bxs.map (·.lab)) W V av bs) E')
  (h:zrj P N ops uY n [] o E (ins.map (·.1)) (bxs.map (·.lab)) W V av bs=some (ins.map (·.2),bxs):=by kernel_rfl):zal P N ops uY E E':=rcl n [] ho hl k h
theorem ral (n:Nat) (ls:List Nat) (as:List AV) (ho:nthO uY n=some o) (hl:zC P o ins bxs W V av bs) (ha:ins.map (·.2)=as) (k:zal P N ops (uY.drop (n+1)) (zrk P N ops uY n ls o E (ins.map (·.1)) (bxs.map (·.lab)) W V av bs) E')
  (h:zrj P N ops uY n ls o E (ins.map (·.1)) (bxs.map (·.lab)) W V av bs=some (as,bxs):=by kernel_rfl):zal P N ops uY E E':=rcl n ls ho hl k (by rw [ha];exact h)
theorem ra (n:Nat) (as:List AV) (ho:nthO uY n=some o) (hl:zC P o ins bxs W V av bs) (ha:ins.map (·.2)=as) (k:zal P N ops (uY.drop (n+1)) (zrk P N ops uY n [] o E (ins.map (·.1)) (bxs.map (·.lab)) W V av bs) E')
  (h:zrj P N ops uY n [] o E (ins.map (·.1)) (bxs.map (·.lab)) W V av bs=some (as,bxs):=by kernel_rfl):zal P N ops uY E E':=ral n [] as ho hl ha k h
theorem rfl' (ls:List Nat) (h:endB P N ops uY ls E=true:=by kernel_rfl):zal P N ops uY E (endE P N ops uY ls E):=by
 have:=zkE uY [] ls E (zoB h) zBo
 grind
theorem rf (h:endB P N ops uY [] E=true:=by kernel_rfl):zal P N ops uY E (endE P N ops uY [] E):=rfl' [] h
theorem rgl (ls:List Nat) (h:finC P N ops uY ls E E'.keys E'.labs=some E':=by kernel_rfl):zal P N ops uY E E':=by
 unfold finC at h;split at h
 ·rename_i E1 h1;have:=zkE uY [] ls E h1 (zBn _ _ h)
  grind
 ·cases h
theorem rgg (h:finC P N ops uY [] E E'.keys E'.labs=some E':=by kernel_rfl):zal P N ops uY E E':=rgl [] h
theorem rkl (n:Nat) (ls:List Nat) (E1:Env) (k:zal P N ops (uY.drop n) E1 E') (h:finC P N ops (uY.take n) ls E E1.keys E1.labs=some E1:=by kernel_rfl):zal P N ops uY E E':=by
 unfold finC at h;split at h
 ·rename_i E2 h1;exact zgD n h1 (zBX (znZ _ _ h) k)
 ·cases h
theorem rsl (n:Nat) (ls:List Nat) (t:Nat) (b:Bool) (h1:b=true->zal P N ops (uY.drop n) ⟨zeL (some t) (.lf (.bool true)) (endE P N ops (uY.take n) ls E).sl,(endE P N ops (uY.take n) ls E).bx⟩ E')
  (h0:b=false->zal P N ops (uY.drop n) ⟨zeL (some t) (.lf (.bool false)) (endE P N ops (uY.take n) ls E).sl,(endE P N ops (uY.take n) ls E).bx⟩ E')
  (h:splC P N ops (uY.take n) ls E t=some (.lf (.bool b)):=by kernel_rfl):zal P N ops uY E E':=by
 have hB:endB P N ops (uY.take n) ls E=true:=by
  unfold splC at h;unfold endB
  grind
 have hr:=zoB hB;unfold splC at h;rw [hr] at h;exact zgD n hr (zyw t b h h1 h0)
theorem rbl (ls:List Nat) (t:Nat) (b:Bool) (_:E'.opd (.tmp t)=some (.lf (.bool b'))) (hb:b=b') (hE:zAC t b' E'=E':=by kernel_rfl) (h:finC P N ops uY ls E E'.keys E'.labs=some (zAC t b E'):=by kernel_rfl):zal P N ops uY E E':=by
 subst hb;rw [hE] at h;exact rgl ls h
theorem rel (ls:List Nat) (k:zbI (endE P N ops uY ls E) E') (h:endB P N ops uY ls E=true:=by kernel_rfl):zal P N ops uY E E':=fun cx a w Q hn hs hQ=>rfl' ls h cx a w Q hn hs fun a' w' hs'=>hQ a' w' (k cx a' w' hs')
theorem lk (ks ls:List Nat) (x y:Nat) (k:zbI ((zkX ks ls E).ren x y) E') (h:(zvZ ks ls E&&(Nat.ble 2 x&&Nat.ble 2 y&& !spB x))=true:=by kernel_rfl):zbI E E':=by
 rw [xh] at h;exact (znZ _ _ (zpn h.1)).trans (zAw x y h.2 k)
theorem lzz (h:E.pick E'.keys E'.labs=some E':=by kernel_rfl):zbI E E':=znZ _ _ h
end
def cvA:AV->AV->AV
 | .ag l,.rc r _ x=> .rc r (AV.colsL l) x
 | y,_=>y
def argL:AV->AV->Option (List LV)
 | .ag l,.rc _ _ _=>zdE l
 | _,_=>none
def argR:AV->AV->Option (List LV)
 | .ag _,.rc r _ x=>some (r.lv x)
 | _,_=>none
theorem zAK (h:argL y i=argR y i):AV.le y (cvA y i):=by
 cases y with
 | ag l=>
  cases i with
  | rc r C x=>exact zky r _ x l h (znl _)
  | _=>exact AV.le_refl _
 | _=>exact AV.le_refl _
def zipA {α:Type _} (f:AV->AV->α):List AV->List AV->List α
 | x::l,y::m=>f x y::zipA f l m
 | _,_=>[]
theorem zuc {f:AV->AV->AV}:∀{l m:List AV},l.length=m.length->(zipA f l m).length=l.length
 | [],_,_=>rfl
 | x::l,[],h=>by simp at h
 | x::l,y::m,h=>by simp [zipA,zuc (l:=l) (m:=m) (by simpa using h)]
theorem zvF:∀{args:List Operand} {ys is:List AV},ys.length=args.length->is.length=args.length->zipA argL ys is=zipA argR ys is->leI (args.zip ys) (args.zip (zipA cvA ys is))
 | [],_,_,_,_,_=>trivial
 | x::args,[],_,h,_,_=>by simp at h
 | x::args,y::ys,[],_,h,_=>by simp at h
 | x::args,y::ys,i::is,h1,h2,h=>by
  simp only [zipA,yf] at h;exact ⟨⟨rfl,zAK h.1⟩,zvF (by simpa using h1) (by simpa using h2) h.2⟩
def zot (P:Program) (N:Lim) (ops:Array Oper) (uY:List Oper) (n:Nat) (ls:List Nat) (f:FuncId) (ins vb:List AV) (D:List Nat) (s:Nat) (E:Env):Option (List (Option (List LV))×List AV×List (Option (List LV))):=
 match nthO uY n with
 | some o=>match o.op with
  | .call c=>match c.callee with
   | .value (.func g)=>match Nat.beq g f,runX P N ops (uY.take n) ls E with
    | true,some E0=>match zdr ops E0 o,okW (vb.flatMap (zdP s))&&zfs N o.dst,zgn E0 c.args.toList with
     | some true,true,some ys=>match Nat.beq ys.length ins.length&&((zipA cvA ys ins).all fun a=>subN (zmQ a) D)&& !D.isEmpty&&vb.all (znB [1] D s) with
      | true=>some (zipA argL ys ins,(zipA cvA ys ins).map inAV,zipA argR ys ins)
      | false=>none
     | _,_,_=>none
    | _,_=>none
   | _=>none
  | _=>none
 | none=>none
def zxo (P:Program) (N:Lim) (ops:Array Oper) (uY:List Oper) (n:Nat) (ls:List Nat) (vb:List AV) (D:List Nat) (s:Nat) (E:Env):Env:=
 match nthO uY n,runX P N ops (uY.take n) ls E with
 | some o,some E0=>E0.step [] (vb.flatMap (zdP s)) o.dst (zmt (vb.map (zjW D s))) []
 | _,_=>E
def zxp (ins:List AV):Option (List (Option (List LV))×List AV×List (Option (List LV)))->Option (List (Option (List LV))×List AV×List (Option (List LV)))
 | some r=>some (r.2.2,ins,r.2.2)
 | none=>none
theorem zpd :∀{l:List Operand} {as:List AV},zgn E l=some as->as.length=l.length
 | [],as,h=>by cases h;rfl
 | x::l,as,h=>by
  rw [zgn] at h;split at h
  ·rename_i a r h1 h2;cases h;simp [zpd h2]
  ·cases h
theorem zpe :∀{l:List Operand} {as:List AV},zgn E l=some as->zjs E (l.zip as)
 | [],as,_=>trivial
 | x::l,as,h=>by
  rw [zgn] at h;split at h
  ·rename_i a r h1 h2;cases h;exact ⟨h1,zpe h2⟩
  ·cases h
section
variable {P:Program} {N:Lim} {ops:Array Oper} {uY:List Oper} {E E':Env} {f:FuncId} {ins vb:List AV}
theorem rll (n:Nat) (ls:List Nat) (D:List Nat) (s:Nat) (hc:∀as w,(callFunc f as).run P w= .ok (.enter f as) w) (ok:FnOk P f ins vb) (k:zal P N ops (uY.drop (n+1)) (zxo P N ops uY n ls vb D s E) E')
  (h:zot P N ops uY n ls f ins vb D s E=zxp ins (zot P N ops uY n ls f ins vb D s E):=by kernel_rfl) (hs:(zot P N ops uY n ls f ins vb D s E).isSome=true:=by kernel_rfl):zal P N ops uY E E':=by
 obtain ⟨⟨q1,q2,q3⟩,hq⟩:=Option.isSome_iff_exists.1 hs;rw [hq] at h;simp only [zxp,xF,xS,qe] at h;rw [h.1,h.2] at hq;unfold zot at hq;split at hq
 ·rename_i o ho;unfold zxo at k;rw [ho] at k;split at hq
  ·rename_i c hop;split at hq
   ·rename_i g hcal;split at hq
    ·rename_i E0 hg hE;rw [hE] at k;have hgf:=xk hg;refine zgD n hE ?_;rw [zig ho];split at hq
     ·rename_i ys h1 h2 h3;split at hq
      ·rename_i hk;simp only [xh,xJ] at hk h2;simp only [xF,xS] at hq;obtain ⟨e1,e2,e3⟩:=hq;have vd:=xk hk.1.1.1;have hl:=zpd h3;have hop':o.op= .call ⟨.value (.func f),c.args.toList.toArray,c.argTypes⟩:=by
        rw [hop];obtain ⟨cal,args,ts⟩:=c;simp_all
       have hlaw:=zvH (zipA cvA ys ins) D s hop' hc ok e2 (by rw [zuc vd];exact hl) hk.1.1.2 hk.1.2 hk.2;refine zoj h1 (hlaw.le (zvF hl (by rw [<-vd];exact hl) (e1.trans e3.symm))) (zpe h3) trivial rfl h2.1 h2.2 k
      ·cases hq
     ·cases hq
    ·cases hq
   ·cases hq
  ·cases hq
 ·cases hq
theorem rl (n:Nat) (D:List Nat) (s:Nat) (hc:∀as w,(callFunc f as).run P w= .ok (.enter f as) w) (ok:FnOk P f ins vb) (k:zal P N ops (uY.drop (n+1)) (zxo P N ops uY n [] vb D s E) E')
  (h:zot P N ops uY n [] f ins vb D s E=zxp ins (zot P N ops uY n [] f ins vb D s E):=by kernel_rfl) (hs:(zot P N ops uY n [] f ins vb D s E).isSome=true:=by kernel_rfl):zal P N ops uY E E':=rll n [] D s hc ok k h hs
end
def isAg:TypeDesc->Bool
 | .struct _=>true
 | .array _ _=>true
 | _=>false
theorem zwt (h:P.underlying t=some d) (hd:isAg d=true) (w:World):(isAgg t).run P w= .ok true w:=by
 cases d<;>first| (cases hd;done)| simp [isAgg,run_underlying h]
def ldC (P:Program) (N:Lim) (ops:Array Oper) (uY:List Oper) (n:Nat) (ls:List Nat) (sz:Nat) (C:List Nat) (E:Env):Option (List LV):=
 match nthO uY n with
 | some o=>match o.op with
  | .load t y=>match runX P N ops (uY.take n) ls E with
   | some E0=>match zdr ops E0 o,zfs N o.dst,E0.opd y,P.underlying t,P.info? t with
    | some true,true,some (.ptr k off),some d,some i=>match zdq E0.bx k with
     | some b=>match Nat.beq i.size sz&&subN (AV.colsL ((b.avs.drop off).take sz)) C&&isAg d with
      | true=>zdE ((b.avs.drop off).take sz)
      | false=>none
     | none=>none
    | _,_,_,_,_=>none
   | none=>none
  | _=>none
 | none=>none
def ldE (P:Program) (N:Lim) (ops:Array Oper) (uY:List Oper) (n:Nat) (ls:List Nat) (av:AV) (E:Env):Env:=
 match nthO uY n,runX P N ops (uY.take n) ls E with
 | some o,some E0=>E0.step [] [] o.dst av []
 | _,_=>E
section
variable {P:Program} {N:Lim} {ops:Array Oper} {uY:List Oper} {E E':Env} {α:Type}
theorem lbl (n:Nat) (ls:List Nat) (r:Rp α) (C:List Nat) (x:α) (k:zal P N ops (uY.drop (n+1)) (ldE P N ops uY n ls (.rc r C x) E) E') (h:ldC P N ops uY n ls r.size C E=some (r.lv x):=by kernel_rfl):zal P N ops uY E E':=by
 unfold ldC at h;split at h
 ·rename_i o ho;unfold ldE at k;rw [ho] at k;split at h
  ·rename_i t y hop;split at h
   ·rename_i E0 hE;rw [hE] at k;refine zgD n hE ?_;rw [zig ho];split at h
    ·rename_i kk off fs i h1 h2 h3 h4 h5;split at h
     ·rename_i b hb;split at h
      ·rename_i hk;rw [xh,xh] at hk;have hsz:=xk hk.1.1;have e:=(zbJ hb).2;have hlaw:=zyd (P:=P) (o:=o) (r:=r) (b:=b) (off:=off) x C hop ⟨zwt h4 hk.2,fun w=>by rw [zmv h5 w,hsz]⟩ h hk.1.2;refine zoj h1 hlaw ⟨by rw [e];exact h3,trivial⟩ ⟨?_,trivial⟩ rfl rfl h2 k;rw [e];exact hb
      ·cases h
     ·cases h
    ·cases h
   ·cases h
  ·cases h
 ·cases h
theorem lb (n:Nat) (r:Rp α) (C:List Nat) (x:α) (k:zal P N ops (uY.drop (n+1)) (ldE P N ops uY n [] (.rc r C x) E) E') (h:ldC P N ops uY n [] r.size C E=some (r.lv x):=by kernel_rfl):zal P N ops uY E E':=lbl n [] r C x k h
end
section
variable {m:Bool} {P:Program} {l:List It} {cx:Cx} {E E':Env} {Q:Exit->Act->World->Prop} {id:Nat} {ops:List Oper} {o:Operand} {b:Bool} {x y:Code}
theorem jr (h:zal P cx.n ops.toArray ops E E') (k:JI m P l (Sx cx E') Q):JI m P (.c (.region id ops.toArray false)::l) (Sx cx E) Q:=zgz E' h k
theorem jq (ls:List Nat) (k:JI m P l (Sx cx (endE P cx.n ops.toArray ops ls E)) Q) (h:endB P cx.n ops.toArray ops ls E=true:=by kernel_rfl):JI m P (.c (.region id ops.toArray false)::l) (Sx cx E) Q:=zgz _ (rfl' ls h) k
theorem jp (k:JI m P l (Sx cx (endE P cx.n ops.toArray ops [] E)) Q) (h:endB P cx.n ops.toArray ops [] E=true:=by kernel_rfl):JI m P (.c (.region id ops.toArray false)::l) (Sx cx E) Q:=jq [] k h
theorem jT (hb:b=true) (k:JI m P (zeY x l) (Sx cx E) Q) (h:E.opd o=some (.lf (.bool b)):=by kernel_rfl):JI m P (.c (.cond o x y)::l) (Sx cx E) Q:=zxK h hb k
theorem jF (hb:b=false) (k:JI m P (zeY y l) (Sx cx E) Q) (h:E.opd o=some (.lf (.bool b)):=by kernel_rfl):JI m P (.c (.cond o x y)::l) (Sx cx E) Q:=zxJ h hb k
theorem jI {α:Type} {p q:Option α} {r:α} (h:(if b then p else q)=some r) (hx:b=true->p=some r->JI m P (zeY x l) (Sx cx E) Q) (hy:b=false->q=some r->JI m P (zeY y l) (Sx cx E) Q) (ho:E.opd o=some (.lf (.bool b)):=by kernel_rfl):JI m P (.c (.cond o x y)::l) (Sx cx E) Q:=by
 rcases zjK h with ⟨c,h⟩| ⟨c,h⟩
 ·exact jT c (hx c h) ho
 ·exact jF c (hy c h) ho
end
theorem lx (h:zC P o ins bxs W V av bs) (h2:zbP P l ss is):
  zbP P (o::l) (.ex (bxs.map (·.lab)) W V av bs::ss) (⟨ins,bxs,[]⟩::is):=by simp only [zbP];exact ⟨h,h2⟩
theorem ly (as:List AV) (h:zC P o ins bxs W V av bs) (_:ins.map (·.2)=as) (h2:zbP P l ss is):
  zbP P (o::l) (.ex (bxs.map (·.lab)) W V av bs::ss) (⟨ins,bxs,[]⟩::is):=lx h h2
theorem l0 :zbP P l [] []:=by cases l<;>simp [zbP]
theorem lf1 (g:Nat) (h:zC P o ins bxs W V av bs):zC P o ((.func g,.lf (.val (.func (.func g) #[] #[])))::ins) bxs W V av bs:=h.cons _
def zAi (P:Program) (N:Lim) (ops:List Oper) (ss:List zhr) (E:Env) (ks bs:List Nat):Env:=match znU P N ops ss E ks bs with
 | some r=>r.1
 | none=>E
def zAj (P:Program) (N:Lim) (ops:List Oper) (ss:List zhr) (E:Env) (ks bs:List Nat):Option (List DIn):=match znU P N ops ss E ks bs with
 | some r=>some r.2
 | none=>none
theorem jd {m:Bool} {P:Program} {cx:Cx} {E:Env} {id:Nat} {ops:List Oper} {l:List It} {Q:Exit->Act->World->Prop} {ss:List zhr} {is:List DIn} (ks bs:List Nat) (hm:P.follows .mixedOrders=true) (hl:zbP P ops ss is)
  (k:JI m P l (Sx cx (zAi P cx.n ops ss E ks bs)) Q) (h:zAj P cx.n ops ss E ks bs=some is:=by kernel_rfl):JI m P (.c (.region id ops.toArray true)::l) (Sx cx E) Q:=by
 unfold zAj at h;unfold zAi at k;split at h
 ·rename_i r hr;obtain ⟨E1,is'⟩:=r;simp only [xF] at h;subst h;rw [hr] at k;exact zzs E1 ss _ ks bs hm hr hl k
 ·cases h
set_option linter.unusedSectionVars false
def KpOk (ins:List AV) (E:Env) (keep:List Nat):List (Nat×Nat)->Prop
 | []=>True
 | q::l=>(memN q.1 keep=true/\ins[q.1]? =some (.ptr q.2 0)/\lookup E.sl q.1=some (.ptr q.2 0))/\KpOk ins E keep l
theorem KpOk.at :∀{l:List (Nat×Nat)},KpOk ins E keep l->∀q∈l,memN q.1 keep=true/\ins[q.1]? =some (.ptr q.2 0)/\lookup E.sl q.1=some (.ptr q.2 0)
 | [],_,q,hq=>by cases hq
 | p::l,h,q,hq=>by
  cases hq with
  | head=>exact h.1
  | tail _ hq=>exact KpOk.at h.2 q hq
theorem Bxs.regh (h:∀b,b<w.heap.size->γ'.col b=γ.col b) (hb:∀ℓ,γ'.box ℓ=γ.box ℓ) (hr:Bxs γ w bs):Bxs γ' w bs:=by
 intro b hm;obtain ⟨h1,cs,hh,hL,h1c⟩:=hr b hm;have hlt:=(xD.1 hh).1;exact ⟨by rw [hb,h _ hlt];exact h1,cs,by rw [hb];exact hh,AV.reghL _ (fun b hb _=>h b hb) (fun ℓ _=>hb ℓ) hL,h1c⟩
structure zCh (γ γc:Gh) (n:Nat) (D:List Nat) (p:List (Nat×Nat)) (ks:List Nat) (w':World):Prop where
 old:∀b,b<n->(γc.col b=0/\γ.F D b)\/γc.col b=1\/(2<=γc.col b/\zkW p (γc.col b)=some (γ.col b))
 new:∀b,n<=b->b<w'.heap.size->γc.col b≠0
 box:∀k∈ks,∀ℓ,zkW p k=some ℓ->γc.box k=γ.box ℓ
section
end
set_option linter.unusedSectionVars false
theorem zwx {α:Type} (r:Rp α) (C:List Nat):AV.le (.lf (.val (.pointer none))) (.qp r C none):=fun γ w v h=>zlj h
theorem zBO {α:Type} (r:Rp α) (C D:List Nat) (o:Option α) (h:subN C D=true):AV.le (.qp r C o) (.qp r D o):=by
 intro γ w v hv;cases o with
 | none=>exact hv
 | some x=>
  obtain ⟨b,cs,e,hF,hb,hA,hc⟩:=hv;exact ⟨b,cs,e,zR h _ hF,hb,hA.mono fun b _ hb=>zR h _ hb,hc⟩
set_option linter.unusedSectionVars false
structure ArT (P:Program) (t e:TypeId) (n:Nat) (zl:List LV):Prop where
 u:P.underlying t=some (.array n e)
 sz:∀w,(sizeOf e).run P w= .ok 1 w
 ex:∃z,(∀w,(zeroValue t).run P w= .ok z w)/\zokL zl z.cells.toList=true
def arB (P:Program) (t:TypeId) (zl:List LV):Bool:=match P.info? t with
 | some i=>match i.zero with
  | some z=>zokL zl z.cells.toList
  | none=>false
 | none=>false
theorem ArT.ofB (hu:P.underlying t=some (.array n e)) (hs:∀w,(sizeOf e).run P w= .ok 1 w) (h:arB P t zl=true):ArT P t e n zl:=by
 unfold arB at h;split at h
 ·rename_i i hi;split at h
  ·rename_i z hz;exact ⟨hu,hs,z,fun w=>by simp [zeroValue,typeInfo,hi,hz],h⟩
  ·cases h
 ·cases h
section
end
def nilA:AV->Bool
 | .lf (.val (.slice none 0 0))=>true
 | _=>false
theorem zrS (h:nilA a=true):a= .lf (.val (.slice none 0 0)):=by
 unfold nilA at h;split at h
 ·rfl
 ·cases h
def wk0 (a:AV):AV->AV
 | .any=> .any
 | .own r e ℓ C _=>match nilA a with
  | true=>match memN ℓ C with
   | false=> .own r e ℓ C []
   | true=>a
  | false=>match a with
   | .own r e ℓ D xs=>match subN D C&& !memN ℓ C with
    | true=> .own r e ℓ C xs
    | false=>a
   | _=>a
 | .sl r C _=>match nilA a with
  | true=> .sl r C []
  | false=>match a with
   | .own r e ℓ D xs=>match subN (ℓ::D) C with
    | true=> .sl r C xs
    | false=>a
   | .sl r D xs=>match subN D C with
    | true=> .sl r C xs
    | false=>a
   | _=>a
 | .rc _ C _=>match a with
  | .rc r D x=>match subN D C with
   | true=> .rc r C x
   | false=>a
  | _=>a
 | .qp r C _=>match a with
  | .lf (.val (.pointer none))=> .qp r C none
  | .qp r D o=>match subN D C with
   | true=> .qp r C o
   | false=>a
  | _=>a
 | .mp _ _ C _=>match a with
  | .mp rk rv D m=>match subN D C with
   | true=> .mp rk rv C m
   | false=>a
  | .om rk rv ℓ D m=>match subN (ℓ::D) C with
   | true=> .mp rk rv C m
   | false=>a
  | @AV.mo _ _ _ rk r _ ℓ D m=>match subN (ℓ::D) C with
   | true=> .mp rk (Rp.list r) C m
   | false=>a
  | _=>a
 | .om _ _ _ C _=>match a with
  | .om rk rv ℓ D m=>match subN D C&& !memN ℓ C with
   | true=> .om rk rv ℓ C m
   | false=>a
  | _=>a
 | @AV.mo _ _ _ _ _ _ _ C _=>match a with
  | @AV.mo _ _ _ rk r e ℓ D m=>match subN D C&& !memN ℓ C with
   | true=> .mo rk r e ℓ C m
   | false=>a
  | _=>a
 | _=>a
theorem andN (h:(a&& !b)=true):a=true/\b=false:=by simpa using h
theorem zyT (a b:AV):AV.le a (wk0 a b):=by
 unfold wk0;split
 ·exact zAU _
 ·split
  ·rename_i h;rw [zrS h];split
   ·exact zuy _ _ _ _ ‹_›
   ·exact AV.le_refl _
  ·split
   ·split
    ·rename_i h;exact zAX _ _ _ _ _ _ (andN h).1 (andN h).2
    ·exact AV.le_refl _
   ·exact AV.le_refl _
 ·split
  ·rename_i h;rw [zrS h];exact zmT _ _
  ·split
   ·split
    ·exact zAZ _ _ _ _ _ _ ‹_›
    ·exact AV.le_refl _
   ·split
    ·exact zBQ _ _ _ _ ‹_›
    ·exact AV.le_refl _
   ·exact AV.le_refl _
 ·split
  ·split
   ·exact zBP _ _ _ _ ‹_›
   ·exact AV.le_refl _
  ·exact AV.le_refl _
 ·split
  ·exact zwx _ _
  ·split
   ·exact zBO _ _ _ _ ‹_›
   ·exact AV.le_refl _
  ·exact AV.le_refl _
 ·split
  ·split
   ·exact zxU _ _ _ ‹_›
   ·exact AV.le_refl _
  ·split
   ·exact zAW _ _ _ _ ‹_›
   ·exact AV.le_refl _
  ·split
   ·exact zAV _ _ _ _ _ _ _ ‹_›
   ·exact AV.le_refl _
  ·exact AV.le_refl _
 ·split
  ·split
   ·rename_i h;exact zBN _ _ _ _ (andN h).1 (andN h).2
   ·exact AV.le_refl _
  ·exact AV.le_refl _
 ·split
  ·split
   ·rename_i h;exact zBM _ _ _ _ _ _ _ (andN h).1 (andN h).2
   ·exact AV.le_refl _
  ·exact AV.le_refl _
 ·exact AV.le_refl _
theorem zpV (hf:∀a b,AV.le a (f a b)):∀{l m:List AV},l.length=m.length->leL l (zipA f l m)
 | [],[],_=>trivial
 | [],_::_,h=>by simp at h
 | _::_,[],h=>by simp at h
 | x::l,y::m,h=>⟨hf x y,zpV hf (by simpa using h)⟩
def wk1 (a:AV):AV->AV
 | .ag m=>match a with
  | .ag l=>match Nat.beq l.length m.length with
   | true=> .ag (zipA wk0 l m)
   | false=>a
  | _=>a
 | b=>wk0 a b
theorem zyU (a b:AV):AV.le a (wk1 a b):=by
 unfold wk1;split
 ·split
  ·split
   ·exact zAv (zpV zyT (xk ‹_›))
   ·exact AV.le_refl _
  ·exact AV.le_refl _
 ·exact zyT _ _
def wkS (E:Env) (l:List (Nat×AV)):List (Nat×AV):=l.map fun p=>(p.1,match lookup E.sl p.1 with
 | some a=>wk1 a p.2
 | none=> .any)
def wkB (E:Env):List Bx->Option (List Bx)
 | []=>some []
 | b::l=>match zdq E.bx b.lab,wkB E l with
  | some c,some r=>match Nat.beq c.avs.length b.avs.length with
   | true=>some (⟨c.lab,c.typ,zipA wk1 c.avs b.avs⟩::r)
   | false=>none
  | _,_=>none
theorem zyV (h:Bxs γ w E.bx):∀{l r:List Bx},wkB E l=some r->Bxs γ w r
 | [],r,e=>by cases e;exact fun b hb=>by cases hb
 | b::l,r,e=>by
  rw [wkB] at e;split at e
  ·rename_i c r' h1 h2;split at e
   ·rename_i hn;cases e;intro x hx;cases hx with
    | head=>
     obtain ⟨g,cs,hh,hr,h1c⟩:=h c (zbJ h1).1;exact ⟨g,cs,hh,zlU (zpV zyU (xk hn)) hr,h1c⟩
    | tail _ hx=>exact zyV h h2 x hx
   ·cases e
  ·cases e
def wkE (E E':Env):Option Env:=match wkB E E'.bx with
 | some l=>some ⟨wkS E E'.sl,l⟩
 | none=>none
theorem lw (h:wkE E E'=some E':=by kernel_rfl):zbI E E':=by
 intro cx a w hs;obtain ⟨γ,hB,hS,hX⟩:=hs;unfold wkE at h;split at h
 ·rename_i l hl;have e:(⟨wkS E E'.sl,l⟩:Env)=E':=yk h;rw [<-e];refine ⟨γ,hB,fun p hp=>?_,zyV hX hl⟩;obtain ⟨q,_,rfl⟩:=xr.1 hp;simp only;split
  ·rename_i a0 ha;exact zyU _ _ _ _ _ (hS _ (zbC ha))
  ·exact trivial
 ·cases h
def zsD (fn:Func):Code:=match fn.body with
 | some c=>c
 | none=> .ret
def zpw:List ResultVar->List AV->List (Nat×AV)
 | .tmp t::rs,a::l=>(t,a)::zpw rs l
 | _,_=>[]
def hasT (t:Nat):List ResultVar->Bool
 | .tmp u::rs=>Nat.beq t u|| hasT t rs
 | _=>false
def zms:List ResultVar->List AV->Bool
 | [],[]=>true
 | .tmp t::rs,_::l=> !hasT t rs&&zms rs l
 | _,_=>false
theorem zrc :∀{rs:List ResultVar} {l:List AV},zms rs l=true->lookup (zpw rs l) u=some b->hasT u rs=true
 | [],[],_,h=>by cases h
 | [],_::_,n,_=>by cases n
 | .cell ..::_,_,n,_=>by simp [zms] at n
 | .tmp t::rs,[],n,_=>by cases n
 | .tmp t::rs,a::l,n,h=>by
  simp only [zms,xh,xJ] at n;rw [zpw,lookup] at h;rw [hasT];split at h
  ·rename_i e;have:=xk e;simp only at this;simp [this]
  ·rw [zrc n.2 h];simp
theorem ztD :∀{rs:List ResultVar} {l:List AV},zms rs l=true->(∀t a,lookup (zpw rs l) t=some a->lookup E.sl t=some a)->zhs P E rs l
 | [],[],_,_=>trivial
 | [],_::_,n,_=>by cases n
 | .cell ..::_,_,n,_=>by simp [zms] at n
 | .tmp t::rs,[],n,_=>by cases n
 | .tmp t::rs,a::l,n,h=>by
  simp only [zms,xh,xJ] at n;refine ⟨h t a (by rw [zpw,lookup];simp),ztD n.2 fun u b hu=>h u b ?_⟩;rw [zpw,lookup];have hne:Nat.beq t u=false:=by
   cases e:Nat.beq t u with
   | false=>rfl
   | true=>rw [xk e,zrc n.2 hu] at n;simp at n
  simp only [hne];exact hu
section
variable {P:Program} {f:FuncId} {fn:Func} {ins vb:List AV}
def hdOk (N:Nat) (fn:Func) (ins vb:List AV):Bool:=fn.body.isSome&&Nat.beq fn.ntmps N&&Nat.ble ins.length N&&zms fn.results.toList vb
theorem zwr (h:hdOk N fn ins vb=true):fn.body=some (zsD fn)/\fn.ntmps=N/\Nat.ble ins.length N=true/\zms fn.results.toList vb=true:=by
 simp only [hdOk,xh] at h;obtain ⟨⟨⟨h1,h2⟩,h3⟩,h4⟩:=h;refine ⟨?_,xk h2,h3,h4⟩;unfold zsD;cases e:fn.body with
 | none=>rw [e] at h1;cases h1
 | some c=>rfl
theorem fi (N:Nat) (hf:P.funcs[f]? =some fn) (hj:∀X:Ext,JI true P (zeY (zsD fn) []) (Sx ⟨⟨N,[]⟩,X,false,#[]⟩ ⟨ziD 0 ins,[]⟩) fun e a w=>e= .ret/\Sx ⟨⟨N,[]⟩,X,false,#[]⟩ ⟨zpw fn.results.toList vb,[]⟩ a w)
  (h:hdOk N fn ins vb=true:=by kernel_rfl):FnOk P f ins vb:=by
 obtain ⟨h1,h2,h3,h4⟩:=zwr h;exact zqC N hf h1 h2 h3 (ztD h4 fun _ _ e=>e) fun X=>zcC (hj X)
theorem fj (E:Env) (N:Nat) (hf:P.funcs[f]? =some fn) (hr:zhs P E fn.results.toList vb) (hj:∀X:Ext,JI true P (zeY (zsD fn) []) (Sx ⟨⟨N,[]⟩,X,false,#[]⟩ ⟨ziD 0 ins,[]⟩) fun e a w=>e= .ret/\Sx ⟨⟨N,[]⟩,X,false,#[]⟩ E a w)
  (h:(fn.body.isSome&&Nat.beq fn.ntmps N&&Nat.ble ins.length N)=true:=by kernel_rfl):FnOk P f ins vb:=by
 simp only [xh] at h;refine zqC N hf ?_ (xk h.1.2) h.2 hr fun X=>zcC (hj X)
 have h1:=h.1.1;unfold zsD;cases e:fn.body with
 | none=>rw [e] at h1;cases h1
 | some c=>rfl
end
theorem lzr :zbI E E:=fun _ _ _ h=>h
def addE (E:Env) (ks ls:List Nat) (nw:List (Nat×AV)) (nb:List Bx):Env:=⟨nw++(zkX ks ls E).sl,nb++(zkX ks ls E).bx⟩
inductive Ex
 | n (E:Env)
 | x (id:Nat) (E:Env)
 | r (E:Env)
 | N (ks ls:List Nat) (nw:List (Nat×AV)) (nb:List Bx)
 | X (id:Nat) (ks ls:List Nat) (nw:List (Nat×AV)) (nb:List Bx)
def Ex.R (cx:Cx) (E0:Env):Ex->Exit->Act->World->Prop
 | .n E,e,a,w=>e= .normal/\Sx cx E a w
 | .x id E,e,a,w=>e= .exit id/\Sx cx E a w
 | .r E,e,a,w=>e= .ret/\Sx cx E a w
 | .N ks ls nw nb,e,a,w=>e= .normal/\Sx cx (addE E0 ks ls nw nb) a w
 | .X id ks ls nw nb,e,a,w=>e= .exit id/\Sx cx (addE E0 ks ls nw nb) a w
section
variable {m:Bool} {P:Program} {Q:Exit->Act->World->Prop} {l:List It} {c:Code} {cx:Cx} {E:Env}
theorem jl {σ ρ:Type} {body:σ->Option (σ⊕ρ)} {s:σ} {r:ρ} (h:zaa body s=some r) (ks ls:List Nat) (nw:σ->List (Nat×AV)) (nb:σ->List Bx) (R:ρ->Ex)
  (hb:∀s o,body s=some o->JI m P (zeY c []) (Sx cx (addE E ks ls (nw s) (nb s))) (match o with
   | .inl s'=>fun e a w=>e= .normal/\Sx cx (addE E ks ls (nw s') (nb s')) a w
   | .inr r=>fun e a w=>e≠ .normal/\(R r).R cx E e a w)) (hS:zbI E (addE E ks ls (nw s) (nb s))) (k:∀e a w,(R r).R cx E e a w->zdM m P Q l e a w):JI m P (.c (.loop c)::l) (Sx cx E) Q:=
 zzq body (fun s=>addE E ks ls (nw s) (nb s)) (fun r=>(R r).R cx E) (fun s o e=>zcC (hb s o e)) h hS k
theorem jL {σ ρ:Type} {body:σ->Option (σ⊕ρ)} {s:σ} {r:ρ} (h:zaa body s=some r) (ks ls:List Nat) (nw:σ->List (Nat×AV)) (R:ρ->Ex)
  (hb:∀s o,body s=some o->JI m P (zeY c []) (Sx cx (addE E ks ls (nw s) [])) (match o with
   | .inl s'=>fun e a w=>e= .normal/\Sx cx (addE E ks ls (nw s') []) a w
   | .inr r=>fun e a w=>e≠ .normal/\(R r).R cx E e a w)) (hS:zbI E (addE E ks ls (nw s) [])) (k:∀e a w,(R r).R cx E e a w->zdM m P Q l e a w):JI m P (.c (.loop c)::l) (Sx cx E) Q:=jl h ks ls nw (fun _=>[]) R hb hS k
theorem jn (R:Ex) (h:JI m P (zeY c []) (Sx cx E) (R.R cx E)) (k:∀e a w,R.R cx E e a w->zdM m P Q l e a w):JI m P (.c c::l) (Sx cx E) Q:=zvz (zcC h) k
theorem jz {id:Nat} {ops:List Oper} {E1:Env} (h:finC P cx.n ops.toArray ops [] E E1.keys E1.labs=some E1:=by kernel_rfl):JI m P (.c (.region id ops.toArray false):: .c .ret::l) (Sx cx E) fun e a w=>e= .ret/\Sx cx E1 a w:=zgz E1 (rgg h) (zw lzr)
theorem jz' {id:Nat} {ops:List Oper} {E1:Env} (h:finC P cx.n ops.toArray ops [] E E1.keys E1.labs=some E1:=by kernel_rfl):JI m P (.c (.region id ops.toArray false):: .c .ret::l) (Sx cx E) fun e a w=>e≠ .normal/\e= .ret/\Sx cx E1 a w:=zgz E1 (rgg h) (zkv lzr)
theorem jy {id:Nat} {ops:List Oper} {E1:Env} (h:finC P cx.n ops.toArray ops [] E E1.keys E1.labs=some E1:=by kernel_rfl):JI m P [.c (.region id ops.toArray false)] (Sx cx E) fun e a w=>e= .normal/\Sx cx E1 a w:=zgz E1 (rgg h) (zU lzr)
end
def renE (E:Env):List (Nat×Nat)->Env
 | []=>E
 | p::l=>renE (E.ren p.1 p.2) l
def okRn:List (Nat×Nat)->Bool
 | []=>true
 | p::l=>(Nat.ble 2 p.1&&Nat.ble 2 p.2&& !spB p.1)&&okRn l
theorem zwa:∀(l:List (Nat×Nat)) {E E':Env},okRn l=true->zbI (renE E l) E'->zbI E E'
 | [],_,_,_,k=>k
 | p::l,_,_,h,k=>by
  simp only [okRn,xh] at h;exact zAw p.1 p.2 (by simpa using h.1) (zwa l h.2 k)
theorem lks (ls:List Nat) (rn:List (Nat×Nat)) (k:zbI (renE (zkX E'.keys ls E) rn) E') (h:(zvZ E'.keys ls E&&okRn rn)=true:=by kernel_rfl):zbI E E':=by
 rw [xh] at h;exact (znZ _ _ (zpn h.1)).trans (zwa rn h.2 k)
section
variable {P:Program} {L:List Oper} {ss:List zhr} {is:List DIn}
theorem lwn:∀(n:Nat) {L:List Oper},zbP P (L.drop n) ss is->zbP P L (List.replicate n .ev++ss) is
 | 0,_,h=>h
 | n+1,[],h=>by show zbP P [] (.ev::_) is;cases is<;>trivial
 | n+1,o::L,h=>lw_e (lwn n h)
theorem dg (t:Nat) (hc:c=b) (k:zbP P l ss is) (h:zmM P (Env.opd ⟨[(t,.lf (.bool c))],[]⟩) (zlF ⟨[(t,.lf (.bool c))],[]⟩ o.op) o.op=some (.lf (.bool c)):=by kernel_rfl):
  zbP P (o::l) (.ex ((zlF ⟨[(t,.lf (.bool c))],[]⟩ o.op).map (·.lab)) [] [] (.lf (.bool b)) []::ss) (⟨zgM ⟨[(t,.lf (.bool c))],[]⟩ o.op.operands.toList,zlF ⟨[(t,.lf (.bool c))],[]⟩ o.op,[]⟩::is):=lx (zBb _ h hc) k
theorem di {o:Oper} {l:List Oper} {α:Type} {r:Rp α} {xs:List α} {i:Int} {x:α} {t e:TypeId} {y z:Operand} {bytes:Nat} (C:List Nat) (hT:ElT P t e r.size bytes) (hx:idx xs i=some x) (k:zbP P l ss is) (ho:o.op= .indexAddr t y z:=by rfl):
  zbP P (o::l) (.ex [] [] [] (.ep r C x 0) []::ss) (⟨[(y,.sl r C xs),(z,.lf (.int .i64 i))],[],[]⟩::is):=lx (znx ho hT (zci r xs C) hx) k
end
inductive LeL:List AV->List AV->Prop
 | n:LeL [] []
 | k {a:AV} {l m:List AV} (h:LeL l m):LeL (a::l) (a::m)
 | c {a b:AV} {l m:List AV} (h:a.le b) (t:LeL l m):LeL (a::l) (b::m)
 | l {a b:AV} (h:a.le b):LeL [a] [b]
def zipI:List (Operand×AV)->List AV->List (Operand×AV)
 | p::l,a::m=>(p.1,a)::zipI l m
 | _,_=>[]
theorem zxT (h:LeL ys xs):∀{ins:List (Operand×AV)},ins.map (·.2)=xs->leI (zipI ins ys) ins:=by
 induction h with
 | n=>intro ins e;cases ins<;>first| exact trivial| cases e
 | k _ ih=>intro ins e;cases ins with
  | nil=>cases e
  | cons p l=>cases e;exact ⟨⟨rfl,AV.le_refl _⟩,ih rfl⟩
 | c h _ ih=>intro ins e;cases ins with
  | nil=>cases e
  | cons p l=>cases e;exact ⟨⟨rfl,h⟩,ih rfl⟩
 | l h=>intro ins e;cases ins with
  | nil=>cases e
  | cons p l=>cases l<;>cases e;exact ⟨⟨rfl,h⟩,trivial⟩
theorem zC.lw (h:zC P o ins bxs W V av bs) (hl:LeL ys (ins.map (·.2))):zC P o (zipI ins ys) bxs W V av bs:=h.le (zxT hl rfl)
section
variable {P:Program} {o:Oper} {f:FuncId} {args:List Operand} {ts:Array TypeId} {ins vb:List AV}
def lcK (xs vb:List AV) (D:List Nat) (s:Nat):Bool:=(xs.all fun a=>subN (zmQ a) D)&& !D.isEmpty&&vb.all (znB [1] D s)
theorem lcl (xs:List AV) (D:List Nat) (s:Nat) (hc:∀as w,(callFunc f as).run P w= .ok (.enter f as) w) (ok:FnOk P f ins vb) (ho:o.op= .call ⟨.value (.func f),args.toArray,ts⟩:=by rfl)
  (hin:xs.map inAV=ins:=by kernel_rfl) (vd:xs.length=args.length:=by rfl) (h:lcK xs vb D s=true:=by kernel_rfl):zC P o (args.zip xs) [] [] (vb.flatMap (zdP s)) (zmt (vb.map (zjW D s))) []:=by
 simp only [lcK,xh,xJ] at h;exact zvH xs D s ho hc ok hin vd h.1.1 h.1.2 h.2
theorem lc0 (s:Nat) (hc:∀as w,(callFunc f as).run P w= .ok (.enter f as) w) (ok:FnOk P f ins vb) (ho:o.op= .call ⟨.value (.func f),args.toArray,ts⟩:=by rfl)
  (hin:ins.map inAV=ins:=by kernel_rfl) (vd:ins.length=args.length:=by rfl) (h:lcK ins vb [0] s=true:=by kernel_rfl):zC P o (args.zip ins) [] [] (vb.flatMap (zdP s)) (zmt (vb.map (zjW [0] s))) []:=lcl ins [0] s hc ok ho hin vd h
def dedN:List Nat->List Nat
 | []=>[]
 | x::l=>x::(dedN l).filter fun y=> !Nat.beq y x
def colD (xs:List AV):List Nat:=match dedN (xs.flatMap zmQ) with
 | []=>[1]
 | l=>l
theorem lcd (xs:List AV) (s:Nat) (hc:∀as w,(callFunc f as).run P w= .ok (.enter f as) w) (ok:FnOk P f ins vb) (ho:o.op= .call ⟨.value (.func f),args.toArray,ts⟩:=by rfl)
  (hin:xs.map inAV=ins:=by kernel_rfl) (vd:xs.length=args.length:=by rfl) (h:lcK xs vb (colD xs) s=true:=by kernel_rfl):zC P o (args.zip xs) [] [] (vb.flatMap (zdP s)) (zmt (vb.map (zjW (colD xs) s))) []:=lcl xs (colD xs) s hc ok ho hin vd h
def rpZ (n:Nat):Rp Empty:=⟨n+1,true,nofun,nofun,Nat.succ_pos n⟩
def nil1 (a:AV):LV->AV
 | .sl _ (n+1) _=>match nilA a with
  | true=> .sl (rpZ n) [] []
  | false=>a
 | _=>a
theorem zzI (a:AV) (v:LV):AV.le a (nil1 a v)/\∀c∈AV.cols (nil1 a v),c∈AV.cols a:=by
 unfold nil1;split
 ·split
  ·rename_i h;rw [zrS h];exact ⟨zmT _ _,fun c hc=>by simp [AV.cols] at hc⟩
  ·exact ⟨AV.le_refl _,fun c hc=>hc⟩
 ·exact ⟨AV.le_refl _,fun c hc=>hc⟩
def nilZ:List AV->List LV->List AV
 | a::l,v::lv=>nil1 a v::nilZ l lv
 | _,_=>[]
theorem zvR:∀{l:List AV} {lv:List LV},l.length=lv.length->leL l (nilZ l lv)/\∀c∈AV.colsL (nilZ l lv),c∈AV.colsL l
 | [],[],_=>⟨trivial,fun c h=>h⟩
 | [],_::_,h=>by simp at h
 | _::_,[],h=>by simp at h
 | a::l,v::lv,h=>by
  obtain ⟨h1,h2⟩:=zvR (l:=l) (lv:=lv) (by simpa using h);obtain ⟨h3,h4⟩:=zzI a v;refine ⟨⟨h3,h1⟩,fun c hc=>?_⟩;simp only [nilZ,AV.colsL,xl] at hc|-;exact hc.imp (h4 c) (h2 c)
theorem zAT {α:Type} {r:Rp α} {x:α} {l:List AV} {lv:List LV} (e:r.lv x=lv) (hn:Nat.beq l.length lv.length=true) (hl:zdE (nilZ l lv)=some lv):AV.le (.ag l) (.rc r (AV.colsL l) x):=by
 obtain ⟨h1,h2⟩:=zvR (xk hn);refine zBR (zAv h1) (zky r _ x _ (by rw [e];exact hl) ?_);simp only [subN,xn];exact fun c hc=>zae.2 (h2 c hc)
inductive LeZ:List AV->List AV->List AV->Prop
 | n:LeZ [] [] []
 | k {a:AV} {ys is xs:List AV} (h:LeZ ys is xs):LeZ (a::ys) (inAV a::is) (a::xs)
 | c {α:Type} {r:Rp α} {x:α} {l:List AV} {lv:List LV} {ys is xs:List AV} (e:r.lv x=lv) (h:LeZ ys is xs) (hn:Nat.beq l.length lv.length=true:=by kernel_rfl) (hl:zdE (nilZ l lv)=some lv:=by kernel_rfl):LeZ (.ag l::ys) (.rc r [0] x::is) (.rc r (AV.colsL l) x::xs)
theorem LeZ.ok {ys is xs:List AV} (h:LeZ ys is xs):xs.map inAV=is/\xs.length=ys.length/\∀{args:List Operand},leI (args.zip ys) (args.zip xs):=by
 induction h with
 | n=>exact ⟨rfl,rfl,by intro args;cases args<;>trivial⟩
 | k _ ih=>exact ⟨by simp [ih.1],by simp [ih.2.1],by intro args;cases args with
  | nil=>trivial
  | cons p q=>exact ⟨⟨rfl,AV.le_refl _⟩,ih.2.2⟩⟩
 | c e _ hn hl ih=>exact ⟨by simp [ih.1,inAV,zoN],by simp [ih.2.1],by intro args;cases args with
  | nil=>trivial
  | cons p q=>exact ⟨⟨rfl,zAT e hn hl⟩,ih.2.2⟩⟩
theorem las {α:Type} {r:Rp α} {xs ys zs:List α} {t e:TypeId} {x y:Operand} {bytes:Nat} (ℓ:Nat) (C D C2:List Nat) (hT:ElT P t e r.size bytes) (hz:app bytes xs ys=some zs) (hC:r.Plain\/(subN C C2&&subN D C2)=true)
  (ho:o.op= .call ⟨.builtin .append,#[x,y],#[t,t]⟩:=by rfl) (hb:Nat.blt 0 bytes=true:=by rfl) (hℓ:memN ℓ C2=false:=by rfl):zC P o [(x,.own r e ℓ C xs),(y,.sl r D ys)] [] [ℓ] [ℓ] (.own r e ℓ C2 zs) []:=
 zyb ℓ C2 ho hT hb (zqI _ _ _ _ _) (zci _ _ _) hz hC hℓ
theorem lao {α:Type} {r:Rp α} {xs ys zs:List α} {t e:TypeId} {x y:Operand} {bytes:Nat} (ℓ:Nat) (C:List Nat) (e' k:Nat) (D C2:List Nat) (hT:ElT P t e r.size bytes) (hz:app bytes xs ys=some zs) (hC:r.Plain\/(subN C C2&&subN (k::D) C2)=true)
  (ho:o.op= .call ⟨.builtin .append,#[x,y],#[t,t]⟩:=by rfl) (hb:Nat.blt 0 bytes=true:=by rfl) (hℓ:memN ℓ C2=false:=by rfl):zC P o [(x,.own r e ℓ C xs),(y,.own r e' k D ys)] [] [ℓ] [ℓ] (.own r e ℓ C2 zs) []:=
 zyb ℓ C2 ho hT hb (zqI _ _ _ _ _) (zgb _ _ _ _ _) hz hC hℓ
theorem lde {α:Type} {t:TypeId} {y:Operand} (r:Rp α) (D:List Nat) (x:α) (hT:AggT P t r.size) (ho:o.op= .load t y:=by rfl):zC P o [(y,.ep r D x 0)] [] [] [] (.rc r D x) []:=zBc ho hT
theorem ldl {α β:Type} {t:TypeId} {y:Operand} (r:Rp α) (D:List Nat) (x:α) (off:Nat) (r':Rp β) (xs:List β) (hs:(r.lv x)[off]? =some (.sl xs.length r'.size (xs.flatMap r'.lv)):=by rfl) (ho:o.op= .load t y:=by rfl) (hT:zbX P t=true:=by rfl):
  zC P o [(y,.ep r D x off)] [] [] [] (.sl r' D xs) []:=zBd r' xs ho hT hs
theorem lbs1 {α:Type} {r:Rp α} {t e:TypeId} {y:Operand} {bytes:Nat} {x0:α} (ℓ:Nat) (C:List Nat) (x:α) (hT:ZeT P t e r bytes x0) (ho:o.op= .buildSlice t 1 [(0,y)].toArray:=by rfl) (hn:(Nat.ble (1*r.size) 16777216&& !memN ℓ C)=true:=by rfl):
  zC P o [(y,.rc r C x)] [] [] [ℓ] (.own r e ℓ C [x]) []:=by
 simp only [xh,xJ] at hn;have h1:=r.len x;have h0:=r.len x0;refine zdX (vi:=[(0,y)]) [.rc r C x] ℓ C [x] ho hT (by rw [hn.1];rfl) (by simp [AV.colsL,AV.cols,znl]) hn.2 ?_;simp [zsO,zkA,zlq,zqx,List.replicate,h0,h1,zmx,Nat.ble_eq_true_of_le]
theorem lbd {vi:List (Nat×Operand)} (as:List AV) (hT:StA P t places zs) (ho:o.op= .build t vi.toArray:=by rfl) (hf:zsN (fun i=>places[i]?) zs vi as=some as:=by rfl):
  zC P o ((vi.map (·.2)).zip as) [] [] [] (.ag as) []:=zwC as as ho hT hf
variable {N:Lim} {ops:Array Oper} {uY:List Oper} {E E':Env}
theorem rx {α:Type} {r:Rp α} {xs:List α} {i:Int} {x:α} {t e:TypeId} {y z:Operand} {bytes:Nat} (n:Nat) (C:List Nat) (hT:ElT P t e r.size bytes) (hx:idx xs i=some x) (ho:nthO uY n=some o) (hq:o.op= .indexAddr t y z)
  (k:zal P N ops (uY.drop (n+1)) (zrk P N ops uY n [] o E [y,z] [] [] [] (.ep r C x 0) []) E')
  (h:zrj P N ops uY n [] o E [y,z] [] [] [] (.ep r C x 0) []=some ([.sl r C xs,.lf (.int .i64 i)],[]):=by kernel_rfl):zal P N ops uY E E':=rc n ho (znx hq hT (zci r xs C) hx) k h
theorem rsI {α:Type} {p q:Option α} {v:α} {b:Bool} (n t:Nat) (h:(if b then p else q)=some v) (h1:b=true->p=some v->zal P N ops (uY.drop n) ⟨zeL (some t) (.lf (.bool true)) (endE P N ops (uY.take n) [] E).sl,(endE P N ops (uY.take n) [] E).bx⟩ E')
  (h0:b=false->q=some v->zal P N ops (uY.drop n) ⟨zeL (some t) (.lf (.bool false)) (endE P N ops (uY.take n) [] E).sl,(endE P N ops (uY.take n) [] E).bx⟩ E')
  (hk:splC P N ops (uY.take n) [] E t=some (.lf (.bool b)):=by kernel_rfl):zal P N ops uY E E':=rsl n [] t b (fun e=>h1 e (iteT h e)) (fun e=>h0 e (iteF h e)) hk
end
theorem jg {m:Bool} {P:Program} {l:List It} {cx:Cx} {E:Env} {Q:Exit->Act->World->Prop} {id:Nat} {ops:List Oper} (ks ls:List Nat) (nw:List (Nat×AV)) (h:zal P cx.n ops.toArray ops E ⟨nw++(zkX ks ls E).sl,(zkX ks ls E).bx⟩)
  (k:JI m P l (Sx cx ⟨nw++(zkX ks ls E).sl,(zkX ks ls E).bx⟩) Q):JI m P (.c (.region id ops.toArray false)::l) (Sx cx E) Q:=zgz _ h k
def frA (ℓ:Nat) (x:AV):AV:=match AV.free [ℓ] [] x with
 | true=>x
 | false=> .any
def isOm (ℓ:Nat):AV->Bool
 | .om _ _ k _ _=>Nat.beq k ℓ
 | _=>false
def ztL (ℓ:Nat) (a' x:AV):AV:=match isOm ℓ x with
 | true=>a'
 | false=>frA ℓ x
def oms0 (ℓ:Nat) (x:AV):List AV:=match isOm ℓ x with
 | true=>[x]
 | false=>[]
def zrp (ℓ:Nat) (a':AV):AV->AV
 | .ag l=> .ag (l.map (ztL ℓ a'))
 | x=>ztL ℓ a' x
def oms1 (ℓ:Nat):AV->List AV
 | .ag l=>l.flatMap (oms0 ℓ)
 | x=>oms0 ℓ x
section
variable {ℓ:Nat} {a a':AV}
theorem ztM (h:∀y∈oms0 ℓ x,y=a):znp [ℓ] [] [(a,a')] x (ztL ℓ a' x):=by
 unfold ztL;unfold oms0 at h;split
 ·rename_i e;rw [e] at h;rw [h x (by simp)];exact zeA 0 rfl
 ·unfold frA;split
  ·exact zo ‹_›
  ·exact zBx
theorem zro:∀{l:List AV},(∀y∈l.flatMap (oms0 ℓ),y=a)->ziA [ℓ] [] [(a,a')] l (l.map (ztL ℓ a'))
 | [],_=>trivial
 | x::l,h=>⟨ztM fun y hy=>h y (by rw [xI];exact xl.2 (.inl hy)),zro fun y hy=>h y (by rw [xI];exact xl.2 (.inr hy))⟩
theorem ztN (h:∀y∈oms1 ℓ x,y=a):znp [ℓ] [] [(a,a')] x (zrp ℓ a' x):=by
 cases x<;>first| exact zla (zro h)| exact ztM h
theorem zrq:∀{l:List AV},(∀y∈l.flatMap (oms1 ℓ),y=a)->ziA [ℓ] [] [(a,a')] l (l.map (zrp ℓ a'))
 | [],_=>trivial
 | x::l,h=>⟨ztN fun y hy=>h y (by rw [xI];exact xl.2 (.inl hy)),zrq fun y hy=>h y (by rw [xI];exact xl.2 (.inr hy))⟩
def zwe (ℓ:Nat) (a':AV) (E:Env):Env:=⟨E.sl.map fun p=>(p.1,zrp ℓ a' p.2),(E.bx.filter fun b=> !Nat.beq b.lab ℓ).map fun b=>⟨b.lab,b.typ,b.avs.map (zrp ℓ a')⟩⟩
def omsE (ℓ:Nat) (E:Env):List AV:=(E.sl.flatMap fun p=>oms1 ℓ p.2)++E.bx.flatMap fun b=>b.avs.flatMap (oms1 ℓ)
theorem zyL (t:Tr [ℓ] [] γ w γ' w') (hT:∀p∈[(a,a')],ziz γ w γ' w' p) (h:omsE ℓ E=List.replicate (omsE ℓ E).length a) (hs:Sl γ w c E.sl) (hx:Bxs γ w E.bx):
  Sl γ' w' c (zwe ℓ a' E).sl/\Bxs γ' w' (zwe ℓ a' E).bx:=by
 have hm:∀y∈omsE ℓ E,y=a:=fun y hy=>by rw [h] at hy;exact List.eq_of_mem_replicate hy
 refine ⟨fun p hp=>?_,fun b hb=>?_⟩
 ·obtain ⟨q,hq,rfl⟩:=xr.1 hp;exact ztN (fun y hy=>hm y (xl.2 (.inl (yx.2 ⟨q,hq,hy⟩)))) _ _ _ _ t hT _ (hs q hq)
 ·have hB:BxT [ℓ] [] [(a,a')] E.bx ((E.bx.filter fun b=> !Nat.beq b.lab ℓ).map fun b=>⟨b.lab,b.typ,b.avs.map (zrp ℓ a')⟩)->b.rel γ' w':=fun H=>BxT.rel t hT hx H b hb
  obtain ⟨q,hq,rfl⟩:=xr.1 hb;obtain ⟨hq1,hq2⟩:=yn.1 hq;have h1:BxT [ℓ] [] [(a,a')] [q] [⟨q.lab,q.typ,q.avs.map (zrp ℓ a')⟩]:=by
   refine ⟨⟨q,by simp [zdq],rfl,?_,zrq fun y hy=>hm y (xl.2 (.inr (yx.2 ⟨q,hq1,hy⟩)))⟩,trivial⟩;have hne:Nat.beq q.lab ℓ=false:=by simpa using hq2
   simp [memN,hne]
  exact BxT.rel t hT (fun x hx'=>by cases hx' with
   | head=>exact hx q hq1
   | tail _ h=>cases h) h1 _ xf
end
def zAx (uY:List Oper) (n:Nat):Option (TypeId×Operand×Operand×Operand):=match nthO uY n with
 | some o=>match o.op with
  | .mapUpdate t y z u=>some (t,y,z,u)
  | .insert t y z u=>some (t,y,z,u)
  | _=>none
 | none=>none
def msK (P:Program) (N:Lim) (ops:Array Oper) (uY:List Oper) (n:Nat) (ls:List Nat) (E:Env) (ℓ:Nat):Bool:=endB P N ops (uY.take n) ls E&&Nat.ble 2 ℓ&&match nthO uY n with
 | some o=>o.dst.isNone&&match zdr ops (endE P N ops (uY.take n) ls E) o with
  | some true=>true
  | _=>false
 | none=>false
section
variable {P:Program} {N:Lim} {ops:Array Oper} {uY:List Oper} {E E':Env} {κ ν:Type} [DecidableEq κ] {rk:Rp κ} {rv:Rp ν} {m:List (κ×ν)} {t kt et:TypeId} {x0:ν} {y z u:Operand} {ak av:AV} {C1 D:List Nat}
theorem rts (ho:nthO uY n=some o) (hs:zju P o ins [ℓ] [] .any [(a,a')]) (k:zal P N ops (uY.drop (n+1)) (zwe ℓ a' (endE P N ops (uY.take n) ls E)) E')
  (h1:msK P N ops uY n ls E ℓ=true) (h2:zgn (endE P N ops (uY.take n) ls E) (ins.map (·.1))=some (ins.map (·.2))) (h3:omsE ℓ (endE P N ops (uY.take n) ls E)=List.replicate (omsE ℓ (endE P N ops (uY.take n) ls E)).length a):zal P N ops uY E E':=by
 unfold msK at h1;rw [ho] at h1;simp only [xh] at h1;obtain ⟨⟨c1,c2⟩,c3,c4⟩:=h1;refine zgD n (zoB c1) ?_;rw [zig ho];split at c4
 ·rename_i hg;intro cx c w Q hn hx hQ;obtain ⟨γ,hb,hsl,hbx⟩:=hx;refine zgQ (zej hg hsl) (hs γ c w ((ziJ h2).rel hsl) _ Q fun γ' w' v ht hv hT=>?_);have hd:o.dst=none:=by simpa using c3
  obtain ⟨g1,g2⟩:=zyL (c:=c) ht hT h3 hsl hbx;rw [hd];exact k cx _ _ Q hn ⟨γ',hb.tr ht (by simp only [okW,c2];rfl) rfl,g1,g2⟩ hQ
 ·cases c4
theorem rms (n:Nat) (ls:List Nat) (ℓ:Nat) (C:List Nat) (m:List (κ×ν)) (k:κ) (x:ν) (C2:List Nat) (hT:MapT P t kt et rk rv x0) (hka:asV rk k C1 ak) (hva:asV rv x D av)
  (kk:zal P N ops (uY.drop (n+1)) (zwe ℓ (.om rk rv ℓ C2 (mput m k x)) (endE P N ops (uY.take n) ls E)) E') (ho:zAx uY n=some (t,y,z,u):=by rfl)
  (h1:(msK P N ops uY n ls E ℓ&&(subN C C2&&subN C1 C2&&subN D C2&& !memN ℓ C2))=true:=by kernel_rfl) (h2:zgn (endE P N ops (uY.take n) ls E) [y,z,u]=some [.om rk rv ℓ C m,ak,av]:=by kernel_rfl)
  (h3:omsE ℓ (endE P N ops (uY.take n) ls E)=List.replicate (omsE ℓ (endE P N ops (uY.take n) ls E)).length (.om rk rv ℓ C m):=by kernel_rfl):zal P N ops uY E E':=by
 rw [xh] at h1;unfold zAx at ho;split at ho
 ·rename_i o hn;refine rts hn (ins:=[(y,.om rk rv ℓ C m),(z,ak),(u,av)]) (zzU k x C2 hT ?_ hka hva h1.2) kk h1.1 h2 h3;split at ho
  ·rename_i hop;cases ho;exact .inl hop
  ·rename_i hop;cases ho;exact .inr hop
  ·cases ho
 ·cases ho
end
theorem zom (x:Int):u8.wrap x=x%256:=by simp [IntKind.wrap,IntKind.bits,IntKind.signed]
theorem zub (x:Int):u32.wrap x=x%4294967296:=by simp [IntKind.wrap,IntKind.bits,IntKind.signed]
theorem zgj (x:Int):u64.wrap x=x%18446744073709551616:=by simp [IntKind.wrap,IntKind.bits,IntKind.signed]
theorem zp (h: -9223372036854775808<=x/\x<=9223372036854775807):i64.wrap x=x:=by
 simp [IntKind.wrap,IntKind.bits,IntKind.signed];split<;>omega
theorem px {x:Int} (h: -9223372036854775808<=x/\x<=9223372036854775807:=by omega):i64.wrap x=x:=zp h
theorem zxf (x:Int):i32.wrap x=if x%4294967296<2147483648 then x%4294967296 else x%4294967296 - 4294967296:=by
 simp [IntKind.wrap,IntKind.bits,IntKind.signed];split<;>split<;>omega
theorem zmF {k:IntKind} (hk:k.signed=false) {n:Nat} (h:n<2^k.bits):k.wrap (n:Int)=n:=by
 have h2:(n:Int)%(2^k.bits:Int)=n:=qz (by omega) (by exact_mod_cast h);simp only [IntKind.wrap,hk,Bool.false_and,h2];simp
theorem zkz {b n:Nat} (h:n<2^b):(BitVec.ofInt b (n:Int)).toNat=n:=by
 rw [BitVec.toNat_ofInt];have h2:(n:Int)%((2^b:Nat):Int)=n:=qz (by omega) (by exact_mod_cast h);rw [h2];rfl
theorem zsz {k:IntKind} (hk:k.signed=false) {a b:Nat} (ha:a<2^k.bits) (hb:b<2^k.bits):andI k a b=((a&&&b:Nat):Int):=by
 unfold andI;rw [BitVec.toNat_and,zkz ha,zkz hb];exact zmF hk (Nat.lt_of_le_of_lt Nat.and_le_left ha)
theorem zvW {k:IntKind} (hk:k.signed=false) {a b:Nat} (ha:a<2^k.bits) (hb:b<2^k.bits):orI k a b=((a||| b:Nat):Int):=by
 unfold orI;rw [BitVec.toNat_or,zkz ha,zkz hb];exact zmF hk (Nat.or_lt_two_pow ha hb)
theorem zpD {k:IntKind} {a b:Nat} (hb:b<=k.bits):shrI k a b=((a/2^b:Nat):Int):=by
 unfold shrI;have h2:(2:Int)^b=((2^b:Nat):Int):=by simp
 rw [xw,qf hb,h2,Int.fdiv_eq_ediv_of_nonneg _ (Int.natCast_nonneg (2^b)),Int.natCast_ediv]
theorem ztn (a c k:Nat) (h:a<2^k):a||| (c*2^k)=a+c*2^k:=by
 rw [Nat.or_comm,yO,<-Nat.two_pow_add_eq_or_of_lt h,qA]
theorem zry (n m:Nat):((n:Int)==(m:Int))=decide (n=m):=by
 by_cases h:n=m
 ·simp [h]
 ·have:¬((n:Int)=m):=by omega
  simp [h,this]
theorem zad {α:Type} {xs:List α} {i:Int} {n:Nat} (h:i=n) (hn:n<xs.length):idx xs i=some xs[n]:=by
 unfold idx;subst h;rw [xe (by omega),xw,xu hn]
theorem zes {α:Type} {xs:List α} {i j:Int} {a b:Nat} (hi:i=a) (hj:j=b) (h:a<=b) (hb:b<=xs.length):cut xs i j=some ((xs.drop a).take (b - a)):=by
 unfold cut;subst hi hj;rw [xe (by omega),xw,xw]
theorem zlI {α:Type} {xs:List α} {i j:Int} {a:Nat} (hi:i=a) (hj:j=(xs.length:Int)) (h:a<=xs.length):cut xs i j=some (xs.drop a):=by
 rw [zes hi hj h (xi _),yY (by simp)]
theorem zsL {α:Type} {xs:List α} {j:Int} {b:Nat} (hj:j=b) (hb:b<=xs.length):cut xs 0 j=some (xs.take b):=by
 have:=zes (xs:=xs) (i:=0) (a:=0) rfl hj (xm _) hb;simpa using this
theorem zjv {α:Type} {bytes:Nat} {xs ys:List α} (h:(xs.length+ys.length)*bytes<=140737488355328):app bytes xs ys=some (xs++ys):=by
 unfold app LIM;rw [xe h]
theorem zBi {α:Type} {bytes:Nat} {x0:α} {n m:Int} {a:Nat} (hn:n=a) (h:n<=m) (hm:m*bytes<=140737488355328):mkO bytes x0 n m=some (List.replicate a x0):=by
 unfold mkO LIM;subst hn;rw [xe ⟨by omega,h,hm⟩,xw]
theorem zxm (h:x=(c.toNat:Int)):zgq x=some c:=by
 unfold zgq;subst h;have:=c.toNat_lt;rw [xe (by omega),xw,UInt8.ofNat_toNat]
theorem zdH {x:Int} {n:Nat} (h:x=n) (hn:n<256):zgq x=some (UInt8.ofNat n):=by
 refine zxm ?_;rw [h,UInt8.toNat_ofNat'];congr 1;omega
theorem zyB {k:IntKind} {x:Int} {n:Nat}:shlO k x n=some (shlI k x n):=by unfold shlO;rw [xd (by omega)]
theorem sb {α β:Type} {a:α} {f:α->Option β}:((some a:Option α)>>=f)=f a:=rfl
theorem itT {α:Type} {c:Bool} {x y:α} (h:c=true):(if c then x else y)=x:=by rw [h];rfl
theorem pv {α:Type} {c:Bool} {x y:α} (h:c=true:=by simp;omega):(if c then x else y)=x:=itT h
theorem pt {α:Type} {c:Bool} {x y:α} (h:c=true:=by rfl):(if c then x else y)=x:=itT h
theorem itF {α:Type} {c:Bool} {x y:α} (h:c=false):(if c then x else y)=y:=by rw [h];rfl
theorem pw {α:Type} {c:Bool} {x y:α} (h:c=false:=by simp;omega):(if c then x else y)=y:=itF h
theorem pu {α:Type} {c:Bool} {x y:α} (h:c=false:=by rfl):(if c then x else y)=y:=itF h
open Go.RowKit (wrap32 wrap64)
def sgnS (x:Int):Int:=if x%4294967296<2147483648 then x%4294967296 else x%4294967296 - 4294967296
def zrs (x:Int):Int:=if 0<=x then x else x+18446744073709551616
def lenN (n:Nat):Nat:=if n<128 then 1 else lenN (n/128)+1
termination_by n
decreasing_by omega
def zoW:Nat->Nat->List UInt8
 | 0,_=>[]
 | k+1,w=>UInt8.ofNat (w%256)::zoW k (w/256)
def word:List UInt8->Nat
 | []=>0
 | c::r=>c.toNat+256*word r
theorem zyA (x:Int): -2147483648<=sgnS x/\sgnS x<=2147483647:=by unfold sgnS;split<;>omega
theorem zAa (h: -9223372036854775808<=x/\x<=9223372036854775807):0<=zrs x/\zrs x<=18446744073709551615:=by unfold zrs;split<;>omega
theorem zob (h:n<128):lenN n=1:=by rw [lenN,xe h]
theorem zoa (h:¬n<128):lenN n=lenN (n/128)+1:=by rw [lenN,xd h]
theorem zzy:∀(k n:Nat),n<128^k->0<k->lenN n<=k:=by
 intro k
 induction k with
 | zero=>intro n _ h;omega
 | succ k ih=>
  intro n hn _;by_cases h:n<128
  ·rw [zob h];omega
  ·rw [zoa h];have h1:n/128<128^k:=by rw [yP] at hn;exact Nat.div_lt_of_lt_mul (by omega)
   have h2:0<k:=by
    rcases qT k with rfl| h
    ·simp at h1;omega
    ·exact h
   have:=ih _ h1 h2;omega
theorem zxX (h:n<18446744073709551616):lenN n<=10:=zzy 10 n (by omega) (by omega)
def lz (m:Nat):Nat:=if m=0 then 0 else lenN m
theorem zBh (h:m≠0):lz m=lz (m/128)+1:=by
 unfold lz;rw [xd h];split
 ·rw [zob (by omega)]
 ·rw [zoa (by omega)]
theorem zBg (n:Nat):lenN n=1+lz (n/128):=by
 unfold lz;split
 ·rw [zob (by omega)]
 ·rw [zoa (by omega),qA]
theorem zex:∀(k n:Nat),(zoW k n).length=k
 | 0,_=>rfl
 | k+1,n=>by simp [zoW,zex k]
end Go.Proofs.YtnckiilakdkklaaGreat

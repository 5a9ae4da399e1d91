/-
  What every proof here stands on. No condition.
-/
import Derived.ChangeKeysEq
import Derived.MapKept
import Derived.DeepKeys
import Derived.Lib.AppendZeros
import Derived.Lib.Bytealg
import Derived.Lib.AppendStr
import Derived.RangeFuncRecord
import Derived.RangeFuncSeq
import Derived.RangeFuncBound
import Derived.Lib.SlBytesConst
import Derived.Test.YtaglemhabeipfaaGreatx1K1
set_option autoImplicit true
set_option relaxedAutoImplicit true
namespace Go.Proofs.YtaglemhabeipfaaGreat
open Go Go.RowKit
theorem zsR (h:zB P o ins' bx W V av bs) (e:ins'=ins):zB P o ins bx W V av bs:=e▸h
theorem lw_0 :zbZ P l [] is:=by cases l<;>simp [zbZ]
theorem lw_e (h:zbZ P l ss is):zbZ P (o::l) (.ev::ss) is:=by simpa [zbZ] using h
theorem lw_x (h:zB P o ins bxs W V av bs) (h2:zbZ P l ss is):
  zbZ P (o::l) (.ex bl W V av bs::ss) (⟨ins,bxs,[]⟩::is):=by simp only [zbZ];exact ⟨h,h2⟩
theorem lw_r (h:ztN P o rq W V prod) (h2:zbZ P l ss is):
  zbZ P (o::l) (.raw ix W V prod::ss) (⟨[],[],rq⟩::is):=by simp only [zbZ];exact ⟨h,h2⟩
def zzC (P:Program):List Field->List (Nat×Nat)->Bool
 | [],[]=>true
 | f::fs,(o,s)::ps=>Nat.beq f.offset o&&(match P.info? f.type with| some i=>Nat.beq i.size s| none=>false)&&zzC P fs ps
 | _,_=>false
theorem ztB :∀(fs:List Field) (ps:List (Nat×Nat)),zzC P fs ps=true->∀w,(fs.mapM (m:=Sem) fun (f:Field)=>do pure (f.offset,<-sizeOf f.type)).run P w= .ok ps w
 | [],[],_,w=>rfl
 | f::fs,(o,s)::ps,h,w=>by
  simp only [zzC,xw] at h;obtain ⟨⟨h1,h2⟩,h3⟩:=h;have h1:=xG h1;split at h2
  ·rename_i i hi;have h2:=xG h2;subst h1 h2;have hs:(sizeOf f.type).run P w= .ok i.size w:=by simp [sizeOf,typeInfo,hi]
   simp only [qK,xX,hs,ya,yw,ztB fs ps h3 w]
  ·cases h2
 | [],_::_,h,_=>by cases h
 | _::_,[],h,_=>by cases h
def stB (P:Program) (t:TypeId) (fs:Array Field) (places:List (Nat×Nat)) (zl:List LV):Bool:=zzC P fs.toList places&&match P.info? t with
 | some i=>match i.zero with
  | some z=>zokL zl z.cells.toList
  | none=>false
 | none=>false
theorem StT.ofB (hu:P.underlying t=some (.struct fs)) (h:stB P t fs places zl=true):StT P t places zl:=by
 simp only [stB,xw] at h;obtain ⟨h1,h2⟩:=h;split at h2
 ·rename_i i hi;split at h2
  ·rename_i z hz;refine ⟨fs,z,hu,fun w=>by simp [zeroValue,typeInfo,hi,hz],fun w=>?_,h2⟩;have:=ztB fs.toList places h1 w;rw [<-qY (xs:=fs),uo,Sem.run_map];rw [this];rfl
  ·cases h2
 ·cases h2
def zvE:Option TypeDesc->LV->Bool
 | some (.int k),.int k' _=>decide (k=k')
 | some .bool,.bool _=>true
 | some .string,.str _=>true
 | _,_=>false
def zpN (P:Program):Nat->List Field->List LV->Bool
 | _,[],[]=>true
 | off, f :: fs, l :: ls => (f.name != "_" && Nat.beq f.offset off && P.plainKey f.type && zvE (P.underlying f.type) l) && zpN P (off + 1) fs ls
 | _,_,_=>false
def leq:LV->LV->Bool
 | .int _ a,.int _ b=>a==b
 | .bool a,.bool b=>a==b
 | .str a,.str b=>a==b
 | _,_=>false
def eqL:List LV->List LV->Bool
 | [],[]=>true
 | l::ls,m::ms=>leq l m&&eqL ls ms
 | _,_=>false
theorem zNx (h1:zvE (P.underlying t) l=true) (h2:zvE (P.underlying t) m=true) (d:Nat) (w:World):
  (Op.equalIn (d+1) t (zdu l) (zdu m)).run P w= .ok (leq l m) w:=by
 generalize hu:P.underlying t=u at h1 h2
 unfold zvE at h1;split at h1
 ·rename_i k k' a;have:=yx h1;subst this;cases m<;>first| cases h2| skip
  rename_i k2 b;have:=yx h2;subst this;exact run_equalIn_int w d t k k a b hu
 ·cases m<;>first| cases h2| skip
  exact run_equalIn_bool' w d t _ _ hu
 ·cases m<;>first| cases h2| skip
  have:=run_equalIn_string w d t ⟨(‹List UInt8›:List UInt8).toArray⟩ ⟨(‹List UInt8›:List UInt8).toArray⟩ hu;rename_i a b;have:=run_equalIn_string w d t ⟨a.toArray⟩ ⟨b.toArray⟩ hu;simp only [zdu,leq];rw [this];simp [ByteArray.toList_eq]
 ·cases h1
theorem ztX (d:Nat) (w:World):∀(fs:List Field) (ls ms:List LV) (off:Nat),zpN P off fs ls=true->zpN P off fs ms=true->
  (∀i,i<ls.length->xs[off+i]? =(ls.map zdu)[i]?)->(∀i,i<ms.length->ys[off+i]? =(ms.map zdu)[i]?)->(Op.eqFields (d+1) xs ys fs).run P w= .ok (eqL ls ms) w
 | [],[],[],_,_,_,_,_=>rfl
 | f::fs,l::ls,m::ms,off,h1,h2,hx,hy=>by
  simp only [zpN,xw] at h1 h2;obtain ⟨⟨⟨⟨a1,a2⟩,a3⟩,a4⟩,a5⟩:=h1;obtain ⟨⟨_,b4⟩,b5⟩:=h2;have hn : f.name ≠ "_" := by simpa using a1
  have ho:=xG a2;have p1:=uv a3 (xs:=xs) (off:=f.offset) (v:=zdu l) (w:=w) (by rw [ho];simpa using hx 0 (by simp));have p2:=uv a3 (xs:=ys) (off:=f.offset) (v:=zdu m) (w:=w) (by rw [ho];simpa using hy 0 (by simp));have ih:=ztX d w fs ls ms (off+1) a5 b5 (fun i hi=>by have:=hx (i+1) (by simpa using hi);simpa [Nat.add_assoc,Nat.add_comm 1 i] using this) (fun i hi=>by have:=hy (i+1) (by simpa using hi);simpa [Nat.add_assoc,Nat.add_comm 1 i] using this);simp only [Op.eqFields,hn,yK,not_false_eq_true,yu,xX,p1,p2,ya,zNx a4 b4 d w,eqL];cases leq l m
  ·rfl
  ·simpa using ih
 | [],[],_::_,_,_,h,_,_=>by cases h
 | [],_::_,_,_,h,_,_,_=>by cases h
 | _::_,[],_,_,h,_,_,_=>by cases h
 | _::_,_::_,[],_,_,h,_,_=>by cases h
theorem eqT (hu:P.underlying t=some (.struct fs)) (hp:P.stoodInHeld t=false) (h1:zpN P 0 fs.toList ls=true) (h2:zpN P 0 fs.toList ms=true) (he:eqL ls ms=b):
  ∀w,(Op.equalIn 10000 t (.agg (ls.map zdu).toArray) (.agg (ms.map zdu).toArray)).run P w= .ok b w:=fun w=>by
 have hf:P.fieldsOf t=fs:=by unfold Program.fieldsOf;rw [hu]
 rw [run_equalIn_struct w 9999 t _ _ (by rw [hf];exact hu) hp,hf,ztX 9998 w fs.toList ls ms 0 h1 h2 (fun i _=>by simp) (fun i _=>by simp),he]
set_option linter.unusedVariables false
set_option linter.unusedSectionVars false
theorem zfR {κ ν:Type} [DecidableEq κ] (m:List (κ×ν)) (k j:κ) (x:ν):mget (mput m k x) j=if j=k then some x else mget m j:=by
 induction m with
 | nil=>simp only [mput,mget]
 | cons p m ih=>
  rw [mput];by_cases h:k=p.1
  ·rw [xr h,mget,mget]
   grind
  ·rw [xq h,mget,mget,ih]
   grind
theorem zJD {κ ν:Type} [DecidableEq κ] {m:List (κ×ν)} {k:κ} (h:mget m k=none):k∉m.map Prod.fst:=by
 induction m with
 | nil=>simp
 | cons p m ih=>
  rw [mget] at h
  grind
theorem zkr {κ ν:Type} [DecidableEq κ] (m:List (κ×ν)) (k:κ) (x:ν):(mput m k x).map Prod.fst=match mget m k with
  | none=>m.map Prod.fst++[k]
  | some _=>m.map Prod.fst:=by
 induction m with
 | nil=>rfl
 | cons p m ih=>
  rw [mput,mget]
  grind
theorem zpw {κ ν:Type} [DecidableEq κ] {m:List (κ×ν)} (h:(m.map Prod.fst).Nodup) (k:κ) (x:ν):((mput m k x).map Prod.fst).Nodup:=by
 rw [zkr];cases hg:mget m k with
 | none=>exact List.nodup_append.2 ⟨h,by simp,fun a ha b hb e=>by
   simp only [xY] at hb;subst hb e;exact zJD hg ha⟩
 | some y=>exact h
theorem zLA {κ ν:Type} [DecidableEq κ] {m:List (κ×ν)} {k:κ} {x:ν} (h:mget m k=some x):k∈m.map Prod.fst:=by
 induction m with
 | nil=>cases h
 | cons p m ih=>
  rw [mget] at h
  grind
theorem zFz {κ ν:Type} :StOk ([]:List (κ×ν)) #[] cl:=⟨fun x hx=>by simp at hx,by simp,by simp⟩
def zov {κ ν:Type} [DecidableEq κ] (k:κ):List (κ×ν)->List MapEntry->Nat->Option (Nat×Value)
 | p::m,e::es,i=>if k=p.1 then some (i,e.val) else zov k m es (i+1)
 | _,_,_=>none
def asV {α:Type} (r:Rp α) (x:α) (D:List Nat) (a:AV):Prop:=∀γ w v,a.rel γ w v->VRel (γ.F D) w r x v
theorem zAN {v:Value} (h:v.oneCell'=true):v.cells=#[v]:=by cases v<;>first| rfl| cases h
theorem zsw {α:Type} {F:Fp} {w:World} {r:Rp α} {x:α} {l:LV} {v:Value} (hr:r.agg=false) (hl:r.lv x=[l]) (h:zat F w l v):VRel F w r x v:=by
 have hc:=zAN h.one;refine ⟨?_,⟨fun e=>?_,fun _=>hc⟩⟩
 ·rw [hl,hc];exact .cons h .nil
 grind
theorem zvd {α:Type} {F:Fp} {w:World} {r:Rp α} {x:α} {l:LV} {v:Value} (hr:r.agg=false) (hl:r.lv x=[l]) (h:VRel F w r x v):zat F w l v:=by
 have h1:=h.1;rw [hl,h.2.2 hr] at h1;exact h1.2 0 l v rfl rfl
theorem zeT {α:Type} {r:Rp α} {x:α} {l:LV} (hr:r.agg=false) (hl:r.lv x=[l]):asV r x [] (.lf l):=fun γ w v h=>zsw hr hl (h.2.plain h.1)
theorem zcN {α:Type} {r:Rp α} {x:α} {C:List Nat} (hr:r.agg=true):asV r x C (.rc r C x):=fun γ w v ⟨cs,hv,hA⟩=>by
 subst hv;refine ⟨by simpa [Value.cells] using hA,⟨fun _=>⟨cs,rfl⟩,fun e=>?_⟩⟩
 grind
theorem asV.sub {α:Type} {r:Rp α} {x:α} {D D':List Nat} {a:AV} (h:asV r x D a) (hs:subN D D'=true):asV r x D' a:=fun γ w v hv=>(h γ w v hv).mono fun b _ hb=>zad hs _ hb
def elAV {α:Type} (r:Rp α) (C:List Nat) (x:α) (a:AV):Prop:=∀γ w v,VRel (γ.F C) w r x v->a.rel γ w v
theorem zCx {α:Type} {r:Rp α} {C:List Nat} {x:α} (hr:r.agg=true):elAV r C x (.rc r C x):=fun γ w v h=>by
 obtain ⟨cs,rfl⟩:=h.2.1 hr;exact ⟨cs,rfl,by simpa [Value.cells] using h.1⟩
theorem ztV {α:Type} {r:Rp α} {C:List Nat} {x:α} {l:LV} (hr:r.agg=false) (hl:r.lv x=[l]) (hp:l.plain=true):elAV r C x (.lf l):=fun γ w v h=>⟨hp,(zvd hr hl h).plain hp⟩
theorem zNa {α:Type} (r:Rp α) (C:List Nat) (xs:List α):elAV (Rp.list r) C xs (.sl r C xs):=fun γ w v h=>zvd rfl rfl h
structure KeyT (P:Program) {κ:Type} [DecidableEq κ] (kt:TypeId) (r:Rp κ):Prop where
 check:∀(w:World) (e:Bool) (F:Fp) (k:κ) (v:Value),VRel F w r k v->(Instr.checkKey e 10000 kt v).run P w= .ok () w
 find:∀(w:World) (F F':Fp) (k:κ) (v:Value) (ν:Type) (rv:Rp ν) (m:List (κ×ν)) (es:List MapEntry),VRel F w r k v->zda F' w r rv m es->(Instr.findKey kt v es).run P w= .ok (zov k m es 0) w
 stays:∀(w:World) (F F':Fp) (k:κ) (v v':Value),VRel F w r k v->VRel F' w r k v'->Instr.sameBits 10000 v v'=true
theorem zzV {α:Type} {F:Fp} {w:World} {r:Rp α} {x:α} {l:LV} {v:Value} (hr:r.agg=false) (hl:r.lv x=[l]) (hp:l.plain=true) (h:VRel F w r x v):v=zdu l:=zxT (zvd hr hl h) hp
theorem zKO {P:Program} {κ ν:Type} [DecidableEq κ] {kt:TypeId} {d:TypeDesc} {r:Rp κ} {rv:Rp ν} (hu:P.underlying kt=some d) (hs:∀(F F':Fp) (w:World) (a b:κ) (u v:Value),VRel F w r a u->VRel F' w r b v->Instr.sameNow d u v=some (decide (a=b)))
  (w:World) (F F':Fp) (k:κ) (v:Value) (m:List (κ×ν)) (es:List MapEntry) (hk:VRel F w r k v) (he:zda F' w r rv m es):(Instr.findKey kt v es).run P w= .ok (zov k m es 0) w:=by
 have key:∀i,Instr.findNow d v es i=some (zov k m es i):=by
  induction he with
  | nil=>intro i;rfl
  | cons h1 h2 _ ih=>
   intro i;rw [Instr.findNow,hs _ _ w _ _ _ _ hk h1,zov]
   grind
 simp [Instr.findKey,run_underlying hu,key 0]
def zLO:TypeDesc->Bool
 | .int _| .bool| .string=>true
 | _=>false
theorem zmD (hu:P.underlying t=some d) (hd:zLO d=true) (e:Bool) (n:Nat) (v:Value) (w:World):(Instr.checkKey e (n+1) t v).run P w= .ok () w:=by
 rw [Instr.checkKey];simp only [xX,qb hu,ya];cases d<;>first| (cases v<;>rfl;done)| cases hd
theorem zsX (n:Nat) (h:l.plain=true) (hv:∀v,l≠ .val v):Instr.sameBits n (zdu l) (zdu l)=true:=by
 cases l with
 | int k a=>cases n<;>simp [Instr.sameBits,zdu]
 | bool b=>cases n<;>simp [Instr.sameBits,zdu]
 | str s=>
  have:(({data:=s.toArray}:ByteArray)=={data:=s.toArray})=true:=by rw [beq_toListBytes];simp
  cases n<;>simp [Instr.sameBits,zdu,this]
 | sl=>cases h
 | val v=>exact absurd rfl (hv v)
theorem zGG {P:Program} {κ:Type} [DecidableEq κ] {kt:TypeId} {d:TypeDesc} {r:Rp κ} (hu:P.underlying kt=some d) (hd:zLO d=true) (lf:κ->LV) (hr:r.agg=false) (hl:∀x,r.lv x=[lf x]) (hp:∀x,(lf x).plain=true) (hv:∀x v,lf x≠ .val v)
  (hs:∀a b,Instr.sameNow d (zdu (lf a)) (zdu (lf b))=some (decide (a=b))):KeyT P kt r:=by
 have hc:∀{F:Fp} {w:World} {x:κ} {v:Value},VRel F w r x v->v=zdu (lf x):=fun {F w x v} h=>zzV hr (hl x) (hp x) h
 refine ⟨fun w e F x v h=>zmD hu hd e 9999 v w,fun w F F' x v ν rv m es h he=>zKO hu (fun F F' w a b u v h1 h2=>?_) w F F' x v m es h he,fun w F F' x v v' h h'=>?_⟩
 ·grind
 ·rw [hc h,hc h'];exact zsX _ (hp x) (hv x)
theorem zEC {P:Program} {kt:TypeId} {k:IntKind} (hu:P.underlying kt=some (.int k)):KeyT P kt (Rp.int k):=
 zGG hu rfl (fun x=> .int k x) rfl (fun _=>rfl) (fun _=>rfl) (fun _ _=>nofun) fun a b=>by simp only [Instr.sameNow,zdu,yu,yr];by_cases h:a=b<;>simp [h]
theorem zHA {α:Type} {F:Fp} {w:World} {r:Rp α} {x:α} {v:Value} (hr:r.agg=true) (hp:(r.lv x).all LV.plain=true) (h:VRel F w r x v):v= .agg ((r.lv x).map zdu).toArray:=by
 obtain ⟨cs,rfl⟩:=h.2.1 hr;have h1:=h.1;simp only [Value.cells] at h1;rw [<-zDS h1 hp]
theorem zqK :∀(fs:List Field) (ls:List LV) (off:Nat),zpN P off fs ls=true->ls.all LV.plain=true/\∀l∈ls,∀v,l≠ .val v
 | [],[],_,_=>⟨rfl,nofun⟩
 | f::fs,l::ls,off,h=>by
  simp only [zpN,xw] at h;obtain ⟨⟨⟨⟨_,_⟩,_⟩,hk⟩,h2⟩:=h;obtain ⟨i1,i2⟩:=zqK fs ls _ h2;have:l.plain=true/\∀v,l≠ .val v:=by
   unfold zvE at hk;split at hk<;>first| exact ⟨rfl,nofun⟩| cases hk
  refine ⟨by simp [this.1,i1],fun x hx=>?_⟩;cases hx with
  | head=>exact this.2
  | tail _ hx=>exact i2 x hx
 | [],_::_,_,h=>by cases h
 | _::_,[],_,h=>by cases h
theorem zpP (e:Bool) (n:Nat) (w:World):∀(fs:List Field) (ls:List LV) (off:Nat),zpN P off fs ls=true->(∀i,i<ls.length->xs[off+i]? =(ls.map zdu)[i]?)->
  (forIn (m := Sem) fs PUnit.unit fun f _ => if f.name ≠ "_" then (do let p ← part f.type xs f.offset; Instr.checkKey e (n + 1) f.type p; pure (ForInStep.yield PUnit.unit)) else pure (ForInStep.yield PUnit.unit)).run P w = .ok PUnit.unit w
 | [],[],_,_,_=>rfl
 | f::fs,l::ls,off,h,hx=>by
  simp only [zpN,xw] at h;obtain ⟨⟨⟨⟨a1,a2⟩,a3⟩,a4⟩,a5⟩:=h;have hn : f.name ≠ "_" := by simpa using a1
  have ho:=xG a2;have p1:=uv a3 (xs:=xs) (off:=f.offset) (v:=zdu l) (w:=w) (by rw [ho];simpa using hx 0 (by simp));have hc:(Instr.checkKey e (n+1) f.type (zdu l)).run P w= .ok () w:=by
   generalize hu:P.underlying f.type=u at a4
   unfold zvE at a4;split at a4<;>first| (exact zmD hu rfl e n _ w)| cases a4
  have ih:=zpP e n w fs ls (off+1) a5 (fun i hi=>by have:=hx (i+1) (by simpa using hi);simpa [Nat.add_assoc,Nat.add_comm 1 i] using this);simp_all
 | [],_::_,_,h,_=>by cases h
 | _::_,[],_,h,_=>by cases h
theorem zsG (hu:P.underlying t=some (.struct fs)) (h:zpN P 0 fs.toList ls=true) (e:Bool) (n:Nat) (w:World):
  (Instr.checkKey e (n+1+1) t (.agg (ls.map zdu).toArray)).run P w= .ok () w:=by
 rw [Instr.checkKey];simp only [xX,qb hu,ya];rw [<-Array.forIn_toList];have:=zpP (P:=P) (xs:=(ls.map zdu).toArray) e n w fs.toList ls 0 h (fun i _=>by simp);rw [this];rfl
theorem zEd {P:Program} {κ ν:Type} [DecidableEq κ] {kt:TypeId} {r:Rp κ} {rv:Rp ν} {w:World} {F':Fp} {k:κ} {v:Value} {m:List (κ×ν)} {es:List MapEntry}
  (hq:∀(b:κ) (u:Value),VRel F' w r b u->(Op.equal kt v u).run P w= .ok (decide (k=b)) w) (he:zda F' w r rv m es):∀i,(Instr.findAsking kt v es i).run P w= .ok (zov k m es i) w:=by
 induction he with
 | nil=>intro i;rfl
 | cons h1 h2 _ ih=>
  intro i;rw [Instr.findAsking,zov];simp only [xX,hq _ _ h1,ya];split
  ·simp_all
  grind
theorem zoz {P:Program} {κ:Type} [DecidableEq κ] {kt:TypeId} {fs:Array Field} {r:Rp κ} (hu:P.underlying kt=some (.struct fs)) (hp:P.stoodInHeld kt=false) (hr:r.agg=true) (hf:∀x,zpN P 0 fs.toList (r.lv x)=true)
  (he:∀a b,eqL (r.lv a) (r.lv b)=decide (a=b)):KeyT P kt r:=by
 have hv:∀{F:Fp} {w:World} {x:κ} {v:Value},VRel F w r x v->v= .agg ((r.lv x).map zdu).toArray:=fun {F w x v} h=>zHA hr (zqK _ _ _ (hf x)).1 h
 refine ⟨fun w e F x v h=>?_,fun w F F' x v ν rv m es h hes=>?_,fun w F F' x v v' h h'=>?_⟩
 ·rw [hv h];exact zsG hu (hf x) e 9998 w
 ·rw [hv h];cases hes with
  | nil=>simp [Instr.findKey,run_underlying hu,Instr.findNow,zov]
  | cons h1 h2 h3=>
   have hq:∀(b:κ) (u:Value),VRel F' w r b u->(Op.equal kt (.agg ((r.lv x).map zdu).toArray) u).run P w= .ok (decide (x=b)) w:=fun b u hu'=>by
    rw [hv hu'];exact eqT hu hp (hf x) (hf b) (he x b) w
   have:=zEd hq (.cons h1 h2 h3) 0;simp only [Instr.findKey,xX,qb hu,ya,Instr.findNow,Instr.sameNow];exact this
 ·rw [hv h,hv h'];obtain ⟨p1,p2⟩:=zqK _ _ _ (hf x);show Instr.sameBits (9999+1) _ _=true;simp only [Instr.sameBits,BEq.rfl,ye,xI];intro p hp';have hz:∀(l:List Value) (q:Value×Value),q∈l.zip l->q.1=q.2/\q.1∈l:=by
   intro l
   induction l with
   | nil=>intro q hq;cases hq
   | cons a l ih=>
    intro q hq;cases hq with
    | head=>exact ⟨rfl,xt⟩
    | tail _ hq=>exact ⟨(ih q hq).1,xu _ (ih q hq).2⟩
  obtain ⟨e1,e2⟩:=hz _ p hp';obtain ⟨l,hl,e3⟩:=xA.1 (by simpa using e2);obtain ⟨pa,pb⟩:=p;simp only at e1 e3|-;subst e1;rw [<-e3];exact zsX _ (by simp only [xI] at p1;exact p1 l hl) (p2 l hl)
theorem zpF (h:w.heap[b]? =some (.map es cl)):(getObj b).run P w= .ok (.map es cl) w:=by simp [getObj,Sem.run,h]
theorem zzz (ob:Obj) (h:w.heap[b]? =some (.map es cl)):(setObj b ob).run P w= .ok () {w with heap:=w.heap.setIfInBounds b ob}:=by simp [setObj,Sem.run,h]
section
variable {P:Program} {o:Oper} {κ ν:Type} {rk:Rp κ} {rv:Rp ν} {C D:List Nat} {m:List (κ×ν)} {t kt et:TypeId}
def isMp (rk:Rp κ) (rv:Rp ν) (m:List (κ×ν)) (D:List Nat) (a:AV):Prop:=∀γ w v,a.rel γ w v->AV.rel γ w (.mp rk rv D m) v
theorem zHY (rk:Rp κ) (rv:Rp ν) (m:List (κ×ν)) (ℓ:Nat) (C:List Nat):isMp rk rv m (ℓ::C) (.om rk rv ℓ C m):=fun γ w v ⟨b,es,cl,hv,⟨g1,_⟩,hb,hh,hE,_⟩=>
 ⟨b,es,cl,hv,by rw [g1];exact xt,hb,hh,hE.mono fun _ _ h=>xu _ h⟩
theorem zLo (C C':List Nat) (m:List (κ×ν)) (h:subN C C'=true):AV.le (.mp rk rv C m) (.mp rk rv C' m):=fun _ _ _ ⟨b,es,cl,hv,hF,hb,hh,hE⟩=>⟨b,es,cl,hv,zad h _ hF,hb,hh,hE.mono fun _ _ h'=>zad h _ h'⟩
theorem zQA (ℓ:Nat) (C C':List Nat) (m:List (κ×ν)) (h:subN C C'=true) (hn:memN ℓ C'=false):AV.le (.om rk rv ℓ C m) (.om rk rv ℓ C' m):=fun _ _ _ ⟨b,es,cl,hv,g,hb,hh,hE,_⟩=>
 ⟨b,es,cl,hv,g,hb,hh,hE.mono fun _ _ h'=>zad h _ h',fun hc=>by rw [zaf.2 hc] at hn;cases hn⟩
theorem zPq (ℓ:Nat) (C C':List Nat) (m:List (κ×ν)) (h:subN (ℓ::C) C'=true):AV.le (.om rk rv ℓ C m) (.mp rk rv C' m):=fun γ w v hv=>zLo _ _ m h γ w v (zHY rk rv m ℓ C γ w v hv)
theorem zms (ℓ:Nat) (ho:o.op= .makeMap t none):zB P o [] [] [] [ℓ] (.om rk rv ℓ [] []) []:=by
 refine zF fun γ ev w hi _=>?_
 refine ⟨.map (some w.heap.size),w.alloc (.map #[] 0),_,?_,zrH γ w ℓ _,⟨w.heap.size,#[],0,rfl,⟨zko _ _ _ _,zeM _ _ _ _⟩,by simp,⟨yV w _,zFz⟩,.nil,by simp⟩,fun b hb=>by cases hb⟩;simp [execOp,ho,Instr.makeMap]
end
structure MapT (P:Program) {κ ν:Type} [DecidableEq κ] (t kt et:TypeId) (rk:Rp κ) (rv:Rp ν) (x0:ν):Prop where
 u:P.underlying t=some (.map kt et)
 key:KeyT P kt rk
 zero:∃i z,P.info? et=some i/\i.zero=some z/\zokL (rv.lv x0) z.cells.toList=true/\(rv.agg=true->∃cs:List Value,z= .agg cs.toArray)/\(rv.agg=false->z.cells=#[z])
def aggB:Value->Bool
 | .agg _=>true
 | _=>false
def zvB (P:Program) {ν:Type} (et:TypeId) (rv:Rp ν) (x0:ν):Bool:=match P.info? et with
 | some i=>match i.zero with
  | some z=>zokL (rv.lv x0) z.cells.toList&&(if rv.agg then aggB z else z.oneCell')
  | none=>false
 | none=>false
theorem MapT.ofB {P:Program} {κ ν:Type} [DecidableEq κ] {t kt et:TypeId} {rk:Rp κ} {rv:Rp ν} {x0:ν} (hu:P.underlying t=some (.map kt et)) (hk:KeyT P kt rk) (h:zvB P et rv x0=true):MapT P t kt et rk rv x0:=by
 refine ⟨hu,hk,?_⟩;unfold zvB at h;split at h
 ·rename_i i hi;split at h
  ·rename_i z hz;simp only [xw] at h;refine ⟨i,z,hi,hz,h.1,fun e=>?_,fun e=>?_⟩
   ·have h2:=h.2;rw [e,xr rfl] at h2;cases z<;>first| cases h2;done| skip
    grind
   ·have h2:=h.2;rw [e] at h2;exact zAN h2
  ·cases h
 ·cases h
section
variable {P:Program} {o:Oper} {κ ν:Type} [DecidableEq κ] {rk:Rp κ} {rv:Rp ν} {C D:List Nat} {m:List (κ×ν)} {t kt et:TypeId} {x0:ν}
theorem zyh (k:κ) (h:zda F w rk rv m es):∀i,(mget m k=none/\zov k m es i=none)\/
  ∃x j e,mget m k=some x/\zov k m es i=some (i+j,e.val)/\es[j]? =some e/\VRel F w rk k e.key/\VRel F w rv x e.val/\
   ∀kv xv y,VRel F w rk k kv->VRel F w rv y xv->zda F w rk rv (mput m k y) (es.modify j fun e=>{e with key:=kv,val:=xv}):=by
 induction h with
 | nil=>intro i;exact .inl ⟨rfl,rfl⟩
 | @cons p m e es h1 h2 h3 ih=>
  intro i;by_cases hk:k=p.1
  ·refine .inr ⟨p.2,0,e,by rw [mget,xr hk],by rw [zov,xr hk];rfl,rfl,by rw [hk];exact h1,h2,fun kv xv y g1 g2=>?_⟩;rw [mput,xr hk];simp only [List.modify_zero_cons];exact .cons g1 g2 h3
  ·rcases ih (i+1) with ⟨g1,g2⟩| ⟨x,j,e',g1,g2,g3,g4,g5,g6⟩
   ·exact .inl ⟨by rw [mget,xq hk,g1],by rw [zov,xq hk,g2]⟩
   ·refine .inr ⟨x,j+1,e',by rw [mget,xq hk,g1],by rw [zov,xq hk,g2];congr 2;omega,by simpa using g3,g4,g5,fun kv xv y q1 q2=>?_⟩;rw [mput,xq hk];simp only [List.modify_succ_cons];exact .cons h1 h2 (g6 kv xv y q1 q2)
theorem zda.snoc (h:zda F w rk rv m es) (hn:mget m k=none) (h1:VRel F w rk k e.key) (h2:VRel F w rv x e.val):zda F w rk rv (mput m k x) (es++[e]):=by
 induction h with
 | nil=>exact .cons h1 h2 .nil
 | @cons p m e' es g1 g2 g3 ih=>
  rw [mget] at hn;split at hn
  ·cases hn
  ·rename_i hk;rw [mput,xq hk];exact .cons g1 g2 (ih hn)
theorem zpG (hT:MapT P t kt et rk rv x0) (hh:w.heap[b]? =some (.map es cl)) (hE:zda F w rk rv m es.toList) (hk:VRel F' w rk k kv) (ok:Bool):
  ∃v,(Instr.lookup t (.map (some b)) kv ok).run P w= .ok (if ok then .tuple #[v,.bool (mget m k).isSome] else v) w/\VRel F w rv ((mget m k).getD x0) v:=by
 obtain ⟨i,z,hi,hz,hzo,hza,hzb⟩:=hT.zero;have hf:=hT.key.find w F' F k kv ν rv m es.toList hk hE;have hc:=hT.key.check w es.isEmpty F' k kv hk;have hzero:(zeroValue et).run P w= .ok z w:=by simp [zeroValue,typeInfo,hi,hz]
 rcases zyh k hE 0 with ⟨g1,g2⟩| ⟨x,j,e,g1,g2,g3,g4,g5,_⟩
 ·refine ⟨z,?_,?_⟩
  ·unfold Instr.lookup;simp only [xX,qb hT.u,ya,zpF hh,yw,hc,hf,g2,g1,hzero,Option.isSome_none]
  ·rw [g1];exact ⟨zAg hzo F w,hza,hzb⟩
 ·refine ⟨e.val,?_,?_⟩
  ·unfold Instr.lookup;simp only [xX,qb hT.u,ya,zpF hh,yw,hc,hf,g2,g1,Option.isSome_some]
  grind
theorem zNE (ea:AV) (ho:o.op= .lookup t x z false) (hT:MapT P t kt et rk rv x0) (hm:isMp rk rv m D a) (hk:asV rk k C b) (he:elAV rv D ((mget m k).getD x0) ea):
  zB P o [(x,a),(z,b)] [] [] [] ea []:=by
 refine zF fun γ ev w hi _=>?_
 obtain ⟨b',es,cl,hv,hF,hb,hh,hE⟩:=hm γ w _ (hi (x,a) (by simp));have h2:=hk γ w _ (hi (z,b) (by simp));simp only at hv h2;obtain ⟨v,hr,hV⟩:=zpG hT hh.1 hE h2 false;exact ⟨v,w,γ,by simp [execOp,ho,hv,hr],Tr.refl _ _ _ _,he γ w v hV,fun b hb=>by cases hb⟩
theorem zFw {F F' F2:Fp} {w:World} {b:Nat} {es:Array MapEntry} {cl:Nat} {k:κ} {x:ν} {kv xv:Value} (hO:StOk m es cl) (hT:MapT P t kt et rk rv x0) (hh:w.heap[b]? =some (.map es cl)) (hE:zda F w rk rv m es.toList) (hk:VRel F' w rk k kv) (hF':∀b,F' b->F b) (hx:VRel F2 w rv x xv) (hF2:∀b,F2 b->F b):
  ∃es' cl',(Instr.mapUpdate t (.map (some b)) kv xv).run P w= .ok () {w with heap:=w.heap.setIfInBounds b (.map es' cl')}/\zda F w rk rv (mput m k x) es'.toList/\StOk (mput m k x) es' cl':=by
 have hk1:=hk.mono (G:=F) fun b _ h=>hF' b h
 have hx1:=hx.mono (G:=F) fun b _ h=>hF2 b h
 have hf:=hT.key.find w F' F k kv ν rv m es.toList hk hE;have hc:=hT.key.check w false F' k kv hk;rcases zyh k hE 0 with ⟨g1,g2⟩| ⟨y,j,e,g1,g2,g3,g4,g5,g6⟩
 ·refine ⟨es.push {key:=kv,val:=xv,born:=cl},cl+1,?_,?_,fun y hy=>?_,?_,zpw hO.2.2 _ _⟩
  ·unfold Instr.mapUpdate;simp only [xX,qb hT.u,ya,zpF hh,hc,hf,g2];exact zzz _ hh
  ·rw [uw];exact hE.snoc g1 hk1 hx1
  ·rw [uw] at hy;rcases xF.1 hy with hy| hy
   ·exact Nat.lt_succ_of_lt (hO.1 y hy)
   grind
  ·rw [uw,qi];refine List.nodup_append.2 ⟨hO.2.1,by simp,fun a ha b hb e=>?_⟩;simp only [xJ,yL,xY] at hb;subst hb e;obtain ⟨y,hy,e⟩:=xA.1 ha;exact ui _ (e▸hO.1 y hy)
 ·have hbs:((es.modify j fun e=>{e with key:=kv,val:=xv}).toList.map (·.born))=es.toList.map (·.born):=by
   rw [Array.toList_modify];apply List.ext_getElem?;intro i;simp only [qa,List.getElem?_modify];cases es.toList[i]? with
   | none=>rfl
   | some e0=>simp only [qM];split<;>rfl
  refine ⟨es.modify j fun e=>{e with key:=kv,val:=xv},cl,?_,?_,fun y hy=>?_,by rw [hbs];exact hO.2.1,zpw hO.2.2 _ _⟩
  ·have hst:=hT.key.stays w F F' k e.key kv g4 hk;have hge:((es[j]?).map (·.key)).getD kv=e.key:=by
    grind
   unfold Instr.mapUpdate;simp only [xX,qb hT.u,ya,zpF hh,hc,hf,g2,xK,hge,Instr.keyThatStays,hst,yu,yw];exact zzz _ hh
  ·grind
  ·have:y.born∈es.toList.map (·.born):=by rw [<-hbs];exact yP hy
   obtain ⟨z,hz,e⟩:=xA.1 this;rw [<-e];exact hO.1 z hz
theorem zMB (kR:γ.col b=ℓ) (ob:Obj):Tr [ℓ] [] γ w γ {w with heap:=w.heap.setIfInBounds b ob}:=
 ⟨rfl,rfl,rfl,by simp,fun c hb hn=>by
  have:b≠c:=fun e=>hn (by rw [<-e,kR];exact xt)
  simp [this],fun _ _=>rfl,fun _ _=>rfl,fun b h1 h2=>absurd h2 (by simp;omega)⟩
theorem zda.app (h:zda F w rk rv m1 l1) (k:zda F w rk rv m2 l2):zda F w rk rv (m1++m2) (l1++l2):=by
 induction h with
 | nil=>exact k
 | cons h1 h2 _ ih=>exact .cons h1 h2 ih
theorem zda.split :∀{l1:List MapEntry} {m:List (κ×ν)},zda F w rk rv m (l1++e::l2)->∃m1 p m2,m=m1++p::m2/\zda F w rk rv m1 l1/\VRel F w rk p.1 e.key/\VRel F w rv p.2 e.val/\zda F w rk rv m2 l2
 | [],_,h=>by cases h with| cons h1 h2 h3=>exact ⟨[],_,_,rfl,.nil,h1,h2,h3⟩
 | _::l1,_,h=>by
  cases h with
  | cons h1 h2 h3=>
   obtain ⟨m1,p,m2,rfl,g1,g2,g3,g4⟩:=h3.split (l1:=l1);exact ⟨_::m1,p,m2,rfl,.cons h1 h2 g1,g2,g3,g4⟩
end
theorem zBl (ho:o.op= .call ⟨.builtin .cap,#[x],#[t]⟩) (hu:P.underlying t=some (.slice e)):
  zB P o [(x,.lf (.val (.slice none n 0)))] [] [] [] (.lf (.int .i64 0)) []:=by
 refine zF fun γ ev w hi _=>?_
 have h1:=zqU (hi (x,.lf (.val (.slice none n 0))) (by simp));simp only at h1;refine ⟨.int .i64 0,w,γ,zaG (args:=[x]) (ts:=[t]) ho rfl rfl rfl fun consts=>?_,Tr.refl _ _ _ _,zjA _ _ _ _,fun b hb=>by cases hb⟩;simp [builtin,h1,Builtin.cap_,run_underlying hu,goInt]
theorem zEU {w:World} {e:TypeId} {size n:Nat} {v:Value} {cs:List Value} (h:w.ownsRow 0 e size v n cs) {j:Nat} (hj:j<=n):
  ∃A c,v= .slice A n c/\n<=c/\w.ownsRow 0 e size (.slice (if c=0 then A else A.map (·.add (0*size))) j (c - 0)) j (cs.take (j*size))/\
   Value.ownBlock (.slice (if c=0 then A else A.map (·.add (0*size))) j (c - 0))=v.ownBlock:=by
 have hle:j*size<=n*size:=yI _ hj;rcases h.2 with ⟨rfl,hz⟩| ⟨g,kC,kM,rfl,hg,hh,hnc,hcm,hcs,htake⟩
 ·subst hz;have:j=0:=by omega
  subst this;exact ⟨none,0,rfl,xx _,⟨by simp,.inl ⟨rfl,rfl⟩⟩,rfl⟩
 ·have e1:(if kC=0 then (some ⟨g,0,none⟩:Option Addr) else (some (⟨g,0,none⟩:Addr)).map (·.add (0*size)))=some ⟨g,0,none⟩:=by
   split
   ·rfl
   ·simp [zfU]
  refine ⟨_,kC,rfl,hnc,?_,by rw [e1];rfl⟩;rw [e1];refine ⟨by rw [xS,h.1];omega,.inr ⟨g,kC,kM,rfl,hg,hh,by omega,hcm,hcs,?_⟩⟩
  grind
theorem zIl {P:Program} {o:Oper} {α:Type} {r:Rp α} {xs ys:List α} {C:List Nat} {j:Int} {k:IntKind} {t e:TypeId} {x y:Operand} {bytes ℓ:Nat}
  (ho:o.op= .slice t x none (some y) none) (hT:ElT P t e r.size bytes) (hy:cut xs 0 j=some ys):
  zB P o [(x,.own r e ℓ C xs),(y,.lf (.int k j))] [] [ℓ] [] (.own r e ℓ C ys) []:=by
 refine zF fun γ ev w hin _=>?_
 obtain ⟨cs,kQ,kH,hA,hnC⟩:=hin (x,.own r e ℓ C xs) (by simp);have h2:=zdU (hin (y,.lf (.int k j)) (by simp));simp only at kQ kH h2;obtain ⟨c0,c1,c2,rfl⟩:=zqy hy;have hl:=zCt hy;obtain ⟨A,c,hv,hc,hown',hblk⟩:=zEU kQ (j:=j.toNat) (by omega);have hr:=zDm hT w A xs.length c hc none (some (.int k j)) 0 j (.inl ⟨rfl,rfl⟩) (.inr ⟨k,rfl⟩) (by omega) c1 c2;rw [show (0:Int).toNat=0 from rfl,qF j.toNat] at hr;refine ⟨_,w,γ,by simp only [execOp,ho,hv,h2,pR,qM,xX,hr];rfl,Tr.refl _ _ _ _,⟨cs.take (j.toNat*r.size),?_,fun g hg=>kH g ?_,?_,hnC⟩,fun b hb=>by cases hb⟩
 ·grind
 ·grind
 ·have:=hA.take (j.toNat*r.size);rw [show (0:Int).toNat=0 from rfl,qF,yc,r.flat_take];exact this
theorem zJB {P:Program} {o:Oper} {k:IntKind} {t e:TypeId} {x y:Operand} {size bytes:Nat} (ho:o.op= .slice t x none (some y) none) (hT:ElT P t e size bytes):
  zB P o [(x,.lf (.val (.slice none 0 0))),(y,.lf (.int k 0))] [] [] [] (.lf (.val (.slice none 0 0))) []:=by
 refine zF fun γ ev w hin _=>?_
 have h1:=zqU (hin (x,.lf (.val (.slice none 0 0))) (by simp));have h2:=zdU (hin (y,.lf (.int k 0)) (by simp));simp only at h1 h2;have hr:=zDm hT w none 0 0 (xx _) none (some (.int k 0)) 0 0 (.inl ⟨rfl,rfl⟩) (.inr ⟨k,rfl⟩) (by omega) (by omega) (by omega);exact ⟨_,w,γ,by simp only [execOp,ho,h1,h2,pR,qM,xX,hr];rfl,Tr.refl _ _ _ _,⟨rfl,.val _ rfl⟩,fun b hb=>by cases hb⟩
theorem zAd (z:Array Value) (n:Nat):Builtin.zeroCells z n=madeCells z (n*z.size):=rfl
theorem zNA {P:Program} {o:Oper} {α:Type} {r:Rp α} {x0:α} {k kn:IntKind} {n:Int} {xs:List α} {t tn e:TypeId} {x y:Operand} {bytes:Nat} (ℓ:Nat)
  (ho:o.op= .call ⟨.builtin .append,#[x,y],#[t,tn]⟩) (htn:P.underlying tn=some (.int kn)) (hT:ZeT P t e r bytes x0) (hb:Nat.blt 0 bytes=true) (hm:mkO bytes x0 n n=some xs):
  zB P o [(x,.lf (.val (.slice none 0 0))),(y,.lf (.int k n))] [] [] [ℓ] (.own r e ℓ [] xs) []:=by
 refine zF fun γ ev w hin _=>?_
 have h1:=zqU (hin (x,.lf (.val (.slice none 0 0))) (by simp));have h2:=zdU (hin (y,.lf (.int k n)) (by simp));simp only at h1 h2;unfold mkO at hm;split at hm
 case isFalse=>cases hm
 rename_i hh;obtain ⟨h0,_,hlim⟩:=hh;cases hm;obtain ⟨m,rfl⟩:∃m:Nat,n=m:=⟨n.toNat,by omega⟩;obtain ⟨i,z,hi',hz,hs,hby,hzs,hzo⟩:=hT.ex;have hbp:0<bytes:=qL (xP hb);have hL:(LIM:Int)=140737488355328:=rfl;have hlim':m*bytes<=140737488355328:=by
  grind
 have hmb:m<=m*bytes:=Nat.le_mul_of_pos_right _ hbp;rcases ph m with rfl| hpos
 ·refine ⟨.slice none 0 0,w,{γ with box:=fun q=>γ.box q},zaG (args:=[x,y]) (ts:=[t,tn]) ho rfl rfl rfl fun consts=>?_,⟨rfl,rfl,rfl,xx _,fun _ _ _=>rfl,fun _ _=>rfl,fun _ _=>rfl,fun b h1 h2=>absurd h2 (qw.2 h1)⟩,⟨[],pM w 0 e r.size,(fun g hg=>nomatch hg),zX.nil,by simp⟩,fun b hb=>by cases hb⟩;have hw:IntKind.i64.wrap 0=0:=rfl;simp [builtin,h1,h2,Builtin.append_,run_underlying hT.u,run_underlying htn,sizeOf,typeInfo,hi',asInt,asIntOf,hw]
 ·have hr:=Go.Lib.run_append_nil_zeros (P:=P) w t tn o.type e i z k kn hT.u htn hi' hz m hpos (by rw [hs];exact r.pos) (by omega) (by rw [hby];omega);have hge:=pG w m 0 e;have hcm:grownCap w m 0 e<=maxLen:=uj w m 0 e (by unfold maxLen;omega);have hnew:=yV w.drew (.cells (Builtin.zeroCells z.cells m++Builtin.zeroCells z.cells (grownCap w m 0 e - m)) e);have hzl:(Builtin.zeroCells z.cells m).toList.length=m*r.size:=by rw [yJ,pH,hzs]
  refine ⟨.slice (some ⟨w.heap.size,0,none⟩) m (grownCap w m 0 e),w.drew.alloc (.cells (Builtin.zeroCells z.cells m++Builtin.zeroCells z.cells (grownCap w m 0 e - m)) e),zcD γ w.heap.size ℓ w.heap.size,
   zaG (args:=[x,y]) (ts:=[t,tn]) ho rfl rfl rfl fun consts=>by simp only [builtin,xJ,yL,h1,h2,xX,hr];rfl,
   ⟨rfl,rfl,rfl,by simp,fun b hb _=>heap_alloc_old w.drew _ hb,fun b hb=>by simp [zcD,hb],fun k hk=>?_,fun b hb _ h=> .inr (by simp [zcD,Nat.not_lt.2 hb] at h;simp [h])⟩,⟨(Builtin.zeroCells z.cells m).toList,?_,fun g hg=>?_,?_,by simp⟩,fun b hb=>by cases hb⟩
  ·simp only [xy,xL,xM] at hk;simp [zcD,hk]
  ·rw [pN,xD];refine ⟨hzl,.inr ⟨w.heap.size,_,_,rfl,xC _,hnew,hge,hcm,?_,?_⟩⟩
   ·rw [Array.size_append,pH,pH,hzs,<-Nat.add_mul];congr 1;omega
   grind
  ·cases hg;simp [zcD]
  ·rw [xD];have:=zyI hzs hzo ((zcD γ w.heap.size ℓ w.heap.size).F []) (w.drew.alloc (.cells (Builtin.zeroCells z.cells m++Builtin.zeroCells z.cells (grownCap w m 0 e - m)) e)) m m (xx _);rw [yR (by rw [yJ,po];exact xx _)] at this;have e:(Builtin.zeroCells z.cells m).toList=(madeCells z.cells (m*r.size)).toList:=by rw [zAd,hzs]
   grind
theorem zzy {P:Program} (w:World) (t u ty e:TypeId) (i:TypeInfo) (ht:P.underlying t=some (.slice e)) (hu:P.underlying u=some .string) (hi:P.info? e=some i) (hz:i.zero=some (.int .u8 0)) (hsize:i.size=1) (hby:i.bytes=1)
  (v:Value) (n:Nat) (xs:List Value) (kQ:w.ownsRow 0 e 1 v n xs) (s:ByteArray) (hb:n+s.size<=140737488355328):
  ∃v' w',(Builtin.append_ #[t,u] ty #[v,.string s]).run P w= .ok v' w'/\w'.ownsRow 0 e 1 v' (n+s.size) (xs++Go.Lib.strCells s)/\w.grownBy w' v.ownBlock/\(v'.ownBlock=v.ownBlock\/v'.ownBlock=some w.heap.size):=by
 obtain ⟨v',w',hr,ho,hg,hn⟩:=Go.Lib.run_append_own_string (P:=P) w 0 t u ty e i ht hu hi hz hsize hby v n xs kQ s (by unfold maxLen;omega) hb (xC _);refine ⟨v',w',hr,ho,hg,?_⟩;have hxl:xs.length=n:=by simpa using kQ.1
 rcases kQ.2 with ⟨rfl,rfl⟩| ⟨g,kC,kM,rfl,hbg,hh,hnc,hcm,hcs,htake⟩
 ·by_cases h0:s.size=0
  ·grind
  ·right;have h1:=run_append_nil_string (P:=P) w t u ty e i (.int .u8 0) ht hu hi hz s (by omega) (by omega) (by rw [hby];omega);rw [h1] at hr;cases hr;rfl
 ·have hcs':kM.size=kC:=by simpa using hcs
  by_cases hroom:n+s.size<=kC
  ·left;have h1:=Go.Lib.run_append_room_string (P:=P) w t u ty e i ht hu hi hsize g n kC kM hh s hroom (by omega);rw [h1] at hr;cases hr;rfl
  ·right;have holds:∀j u,xs[j]? =some u->w.cell? ((⟨g,0,none⟩:Addr).add j)=some u:=kQ.cells (g:=g) rfl;have h1:=Go.Lib.run_append_grow_string (P:=P) w t u ty e i (.int .u8 0) ht hu hi hz ⟨g,0,none⟩ n kC xs (by rw [hsize];simpa using hxl) holds s (by omega) (by omega) (by rw [hby];exact growslice_fits (by omega) (by omega));rw [h1] at hr;cases hr;rfl
structure ByT (P:Program) (t e:TypeId):Prop where
 u:P.underlying t=some (.slice e)
 ex:∃i,P.info? e=some i/\i.zero=some (.int .u8 0)/\i.size=1/\i.bytes=1
def byB (P:Program) (e:TypeId):Bool:=match P.info? e with
 | some i=>(match i.zero with
  | some (.int .u8 n)=>decide (n=0)
  | _=>false)&&Nat.beq i.size 1&&Nat.beq i.bytes 1
 | none=>false
theorem ByT.ofB (hu:P.underlying t=some (.slice e)) (h:byB P e=true):ByT P t e:=by
 unfold byB at h;split at h
 ·rename_i i hi;simp only [xw] at h;obtain ⟨⟨h1,h2⟩,h3⟩:=h;split at h1
  ·rename_i n hz;have:=yx h1;subst this;exact ⟨hu,i,hi,hz,xG h2,xG h3⟩
  ·cases h1
 ·cases h
theorem zNy {P:Program} {o:Oper} {xs l zs:List UInt8} {C:List Nat} {a:AV} {t u e:TypeId} {x y:Operand} (ℓ:Nat)
  (ho:o.op= .call ⟨.builtin .append,#[x,y],#[t,u]⟩) (hu:P.underlying u=some .string) (hT:ByT P t e) (hx:zIa Rp.byte e ℓ C xs a) (hz:app 1 xs l=some zs):
  zB P o [(x,a),(y,.lf (.str l))] [] [ℓ] [ℓ] (.own Rp.byte e ℓ [] zs) []:=by
 refine zF fun γ ev w hin _=>?_
 obtain ⟨cs,kQ,hg,hA,hnot⟩:=hx γ w _ (hin (x,a) (by simp));have h2:=ztn (hin (y,.lf (.str l)) (by simp));simp only at kQ hg h2;obtain ⟨hlim,rfl⟩:=zxM hz;obtain ⟨i,hi,hz',hs,hby⟩:=hT.ex;have hsl:(⟨l.toArray⟩:ByteArray).size=l.length:=by simp [ByteArray.size]
 have hown1:w.ownsRow 0 e 1 (ev x) xs.length cs:=kQ;obtain ⟨v',w',hr,ho',hgr,hbk⟩:=zzy w t u o.type e i hT.u hu hi hz' hs hby (ev x) xs.length cs hown1 ⟨l.toArray⟩ (by rw [hsl];omega);rw [hsl] at ho';obtain ⟨γ',ht,hg'⟩:=zHs hown1 hg hgr hbk;refine ⟨v',w',γ',?_,ht,⟨cs++Go.Lib.strCells ⟨l.toArray⟩,by rw [xz];exact ho',hg',?_,by simp⟩,fun b hb=>by cases hb⟩
 ·refine zaG (args:=[x,y]) (ts:=[t,u]) ho rfl rfl rfl fun consts=>?_
  simp [builtin,h2,hr]
 ·rw [ym];refine (hA.plain (zaI.flat xs)).append ?_;rw [zvo];refine ⟨by simp [Go.Lib.strCells],fun i l' v h1 h3=>?_⟩;simp only [qa,Option.map_eq_some_iff] at h1;obtain ⟨c,hc,rfl⟩:=h1;have:v= .int .u8 c.toNat:=by
   simp only [Go.Lib.strCells,qa] at h3
   grind
  rw [this];exact .int .u8 _
theorem zPx {P:Program} {o:Oper} {α:Type} {r:Rp α} {D:List Nat} {x:α} {t:TypeId} {y:Operand} {off:Nat} (l:LV)
  (ho:o.op= .load t y) (hT:zdS P t=true) (hs:(r.lv x)[off]? =some l) (hp:l.plain=true):zB P o [(y,.ep r D x off)] [] [] [] (.lf l) []:=by
 refine zF fun γ ev w hi _=>?_
 obtain ⟨b,o',cs,hv,hF,hb,hA,hc⟩:=hi (y,.ep r D x off) (by simp);simp only at hv;have ku:off<cs.length:=by rw [<-hA.1];exact (yA.1 hs).1
 have hr:=hA.2 off _ _ hs (xN ku);have hcell:=hc off ku;rw [xN ku] at hcell;exact ⟨_,w,γ,by simp [execOp,ho,hv,zjH hT hcell],Tr.refl _ _ _ _,⟨hp,hr.plain hp⟩,fun b hb=>by cases hb⟩
theorem zB.withBx (h:zB P o ins bxs W V av bs) (b:Bx) (hW:memN b.lab W=false) (hV:memN b.lab V=false):
  zB P o ins (b::bxs) (b.lab::W) V av (⟨b.lab,b.typ,b.avs.map (AV.clear W V)⟩::bs):=by
 intro γ a w hi hb next Q hk;refine h γ a w hi (fun c hc=>hb c (xu _ hc)) next Q fun γ' w' v t hv hbs=>hk γ' w' v ?_ hv fun c hc=>?_
 ·exact ⟨t.os,t.tape,t.output,t.size,fun b' hb' hn=>t.block b' hb' (fun hm=>hn (xu _ hm)),t.col,t.box,fun b' h1 h2 h0=>(t.fresh b' h1 h2 h0).imp (xu _) id⟩
 ·rcases xy.1 hc with rfl| hc
  ·obtain ⟨kR,cs,hh,hL,hone⟩:=hb b xt;have nW:b.lab∉W:=fun hm=>by rw [zaf.2 hm] at hW;cases hW
   have nV:b.lab∉V:=fun hm=>by rw [zaf.2 hm] at hV;cases hV
   have km:γ.box b.lab<w.heap.size:=(yh.1 hh).1;have hbx:γ'.box b.lab=γ.box b.lab:=t.box _ nV;refine ⟨?_,cs,?_,zmB hL t,hone⟩
   ·simp only;rw [hbx,t.col _ km,kR]
   ·simp only;rw [hbx,t.block _ km (by rw [kR];exact nW)];exact hh
  ·exact hbs c hc
theorem zQE {a b c:AV} (h:a.le b) (k:b.le c):a.le c:=fun γ w v hv=>k γ w v (h γ w v hv)
theorem zlC {α:Type} (r:Rp α) (C:List Nat) (x:α) (l:List AV) (h:zgv l=some (r.lv x)) (hC:subN (AV.colsL l) C=true):AV.le (.ag l) (.rc r C x):=fun _ _ _ ⟨vs,hv,hL,_⟩=>
 ⟨vs,hv,zlU h hL (zad hC)⟩
theorem zNu {α:Type} (r:Rp α) (C:List Nat) (x:α) (l:List AV) (h:zgv l=some (r.lv x)) (hC:l.all (zsQ C)=true):AV.le (.rc r C x) (.ag l):=fun _ _ _ ⟨vs,hv,hA⟩=>
 ⟨vs,hv,zkJ h hA hC,hA.one⟩
theorem zOM (h:leL l m):AV.le (.ag l) (.ag m):=fun _ _ _ ⟨vs,hv,hL,h1⟩=>⟨vs,hv,zsb h hL,h1⟩
def zKE:AV->Option (List AV)
 | .ag l=>some l
 | a=>match zpt a with
  | true=>some [a]
  | false=>none
theorem zGr (h:zKE a=some l) (hr:a.rel γ w v):AV.relL γ w l v.cells.toList/\∀u∈v.cells.toList,u.oneCell'=true:=by
 have one:zpt a=true->a.rel γ w v->AV.relL γ w [a] v.cells.toList/\∀u∈v.cells.toList,u.oneCell'=true:=fun h1 h2=>by
  obtain ⟨g1,g2⟩:=zun h1 h2;rw [g2];exact ⟨⟨v,[],rfl,h2,rfl⟩,fun u hu=>by simp at hu;subst hu;exact g1⟩
 cases a with
 | ag m=>cases h;obtain ⟨vs,rfl,hL,h1⟩:=hr;exact ⟨hL,h1⟩
 | any=>cases h
 | lf l=>cases h;exact one rfl hr
 | sl r C xs=>cases h;exact one rfl hr
 | own r e ℓ C xs=>cases h;exact one rfl hr
 | rc=>cases h
 | ep r C x off=>cases h;exact one rfl hr
 | ptr ℓ off=>cases h;exact one rfl hr
 | bs ℓ n=>cases h;exact one rfl hr
 | tl=>cases h
 | qp r C o=>cases h;exact one rfl hr
 | em rk rv C m=>cases h;exact one rfl hr
 | mo=>cases h
 | cu c ℓ C1 C2=>cases h;exact one rfl hr
 | mp rk rv C m=>cases h;exact one rfl hr
 | om rk rv ℓ C m=>cases h;exact one rfl hr
 | tup=>cases h
 | fv g l=>cases h;exact one rfl hr
 | bp=>cases h
 | it=>cases h
def setA (cs:List AV) (off:Nat) (l:List AV):List AV:=cs.take off++l++cs.drop (off+l.length)
def zEb (place:Nat->Option (Nat×Nat)) (cs:List AV):List (Nat×Operand)->List AV->Option (List AV)
 | [],[]=>some cs
 | (i,_)::ps,a::as=>match zKE a,place i with
  | some l,some (off,size)=>match Nat.beq l.length size&&Nat.ble (off+l.length) cs.length with
   | true=>zEb place (setA cs off l) ps as
   | false=>none
  | _,_=>none
 | _,_=>none
theorem zAR {γ:Gh} {w:World} {ev:Operand->Value} {place:Nat->Option (Nat×Nat)}:∀(ps:List (Nat×Operand)) (as cs:List AV) (cells:Array Value) (out:List AV),zEb place cs ps as=some out->
  AV.relL γ w cs cells.toList->(∀u∈cells.toList,u.oneCell'=true)->(∀p∈(ps.map (·.2)).zip as,p.2.rel γ w (ev p.1))->
  ∃cells',Instr.fill place cells (ps.map fun p=>(p.1,ev p.2))=some cells'/\AV.relL γ w out cells'.toList/\∀u∈cells'.toList,u.oneCell'=true
 | [],[],cs,cells,out,h,hA,h1,_=>by cases h;exact ⟨cells,rfl,hA,h1⟩
 | (i,x)::ps,a::as,cs,cells,out,h,hA,h1,hp=>by
  rw [zEb] at h;split at h
  ·rename_i l off size hl hpl;split at h
   ·rename_i hb;simp only [xw] at hb;have e1:=xG hb.1;have e2:=xP hb.2;obtain ⟨g1,g2⟩:=zGr hl (hp (x,a) (by simp));have hvl:(ev x).cells.toList.length=l.length:=zbx g1;have hcl:cells.size=cs.length:=by rw [<-yJ];exact zbx hA
    have hset:=zyo off (ev x).cells.toList 0 cells (by simp at hvl|-;omega);simp only [yz] at hset;have hA2:AV.relL γ w (setA cs off l) ((ev x).cells.toList.zipIdx.foldl (fun (cs:Array Value) (p:Value×Nat)=>cs.setIfInBounds (off+p.2) p.1) cells).toList:=by
     rw [hset];unfold setA;rw [hvl];exact zjf (zjf (zoI _ _ _ hA) g1) (zoH _ _ _ hA)
    have h1':∀u∈((ev x).cells.toList.zipIdx.foldl (fun (cs:Array Value) (p:Value×Nat)=>cs.setIfInBounds (off+p.2) p.1) cells).toList,u.oneCell'=true:=by
     grind
    obtain ⟨cells',hf,hr,hr1⟩:=zAR ps as _ _ out h hA2 h1' (fun p hp'=>hp p (by simp [hp']));refine ⟨cells',?_,hr,hr1⟩;rw [xJ,Instr.fill,hpl];simp only;rw [xq (by simp at hvl|-;omega)];rw [<-hf];congr 1;rw [<-uq];simp
   ·cases h
  ·cases h
 | [],_::_,_,_,_,h,_,_,_=>by cases h
 | _::_,[],_,_,_,h,_,_,_=>by cases h
structure StA (P:Program) (t:TypeId) (places:List (Nat×Nat)) (zs:List AV):Prop where
 ex:∃fs z,P.underlying t=some (.struct fs)/\(∀w,(zeroValue t).run P w= .ok z w)/\(∀w,(fs.mapM (m:=Sem) fun (f:Field)=>do pure (f.offset,<-sizeOf f.type)).run P w= .ok places.toArray w)/\zBZ zs z.cells.toList=true
def staB (P:Program) (t:TypeId) (fs:Array Field) (places:List (Nat×Nat)) (zs:List AV):Bool:=zzC P fs.toList places&&match P.info? t with
 | some i=>match i.zero with
  | some z=>zBZ zs z.cells.toList
  | none=>false
 | none=>false
theorem StA.ofB (hu:P.underlying t=some (.struct fs)) (h:staB P t fs places zs=true):StA P t places zs:=by
 simp only [staB,xw] at h;obtain ⟨h1,h2⟩:=h;split at h2
 ·rename_i i hi;split at h2
  ·rename_i z hz;refine ⟨fs,z,hu,fun w=>by simp [zeroValue,typeInfo,hi,hz],fun w=>?_,h2⟩;have:=ztB fs.toList places h1 w;rw [<-qY (xs:=fs),uo,Sem.run_map];rw [this];rfl
  ·cases h2
 ·cases h2
theorem zBk {P:Program} {o:Oper} {t:TypeId} {k5:List (Nat×Operand)} {places:List (Nat×Nat)} {zs:List AV} (as l:List AV)
  (ho:o.op= .build t k5.toArray) (hT:StA P t places zs) (hf:zEb (fun i=>places[i]?) zs k5 as=some l):
  zB P o ((k5.map (·.2)).zip as) [] [] [] (.ag l) []:=by
 refine zF fun γ ev w hi _=>?_
 obtain ⟨fs,z,hu,hz,hpl,hzo⟩:=hT.ex;obtain ⟨z1,z2⟩:=zCa hzo γ w;obtain ⟨cells',hfill,hA,h1⟩:=zAR (γ:=γ) (w:=w) (ev:=ev) k5 as zs z.cells _ hf z1 z2 hi;have hfill':Instr.fill (fun i=>places.toArray[i]?) z.cells (k5.map fun p=>(p.1,ev p.2))=some cells':=by
  simp_all
 refine ⟨.agg cells',w,γ,?_,Tr.refl _ _ _ _,⟨cells'.toList,by simp,hA,h1⟩,fun b hb=>by cases hb⟩;simp only [execOp,ho,Instr.build,xX,hz,qb hu,ya,hpl,pK];have e:(List.map (fun (x:Nat×Operand)=>(x.1,ev x.2)) k5)=k5.map fun p=>(p.1,ev p.2):=rfl
 simp only [hfill',yw,ya]
theorem zNB (ℓ:Nat) (ho:o.op= .box t x) (hf:AV.free [] [ℓ] (.ag l)=true):zB P o [(x,.ag l)] [] [] [ℓ] (.ptr ℓ 0) [⟨ℓ,t,l⟩]:=by
 refine zF fun γ ev w hi _=>?_
 have h0:=hi (x,.ag l) (by simp);obtain ⟨f1,f2⟩:=AV.free_spec hf;have h0':=(AV.ag l).keep (zrH γ w ℓ (.cells (ev x).cells t)) f1 f2 h0;obtain ⟨vs,hv,_,_⟩:=h0;obtain ⟨vs',hv',hL,h1⟩:=h0';simp only at hv hv';refine ⟨.pointer (some ⟨w.heap.size,0,none⟩),w.alloc (.cells (ev x).cells t),_,?_,zrH γ w ℓ _,?_,fun b hb=>?_⟩
 ·simp [execOp,ho,Instr.box,newVar,newRow]
 ·show _=_;rw [zeM]
 ·simp only [xy,xL,xM] at hb;subst hb;refine ⟨by rw [zeM,zko],vs',?_,hL,h1⟩;rw [zeM];have:(ev x).cells=vs'.toArray:=by rw [hv'];rfl
  rw [this];exact yV w _
theorem zIm (m:List AV) (ho:o.op= .load t y) (hT:AggT P t n) (hs:(b.avs.drop off).take n=m) (hn:Nat.beq m.length n=true):
  zB P o [(y,.ptr b.lab off)] [b] [] [] (.ag m) []:=by
 refine zF fun γ ev w hi hb=>?_
 have h1:ev y=_:=hi (y,.ptr b.lab off) (by simp);obtain ⟨kR,cs,hh,hL,hone⟩:=hb b (by simp);subst hs;have hL':=zoI _ _ n (zoH _ _ off hL);have ku:((cs.drop off).take n).length=n:=by rw [zbx hL'];exact xG hn
 have hl:=zhn hT (w:=w) (b:=γ.box b.lab) (o:=off) (cs:=(cs.drop off).take n) ku fun i hi=>by
  rw [ku] at hi;rw [yW w _ _ _ _ _ hh,yX,xr hi,qD];simp
 exact ⟨_,w,γ,by simp [execOp,ho,h1,Instr.loadAt,Instr.sureAddr,hl],Tr.refl _ _ _ _,⟨_,rfl,hL',fun u hu=>hone u (pi (uh hu))⟩,fun b hb=>by cases hb⟩
theorem zNJ (l:List AV) (ho:o.op= .store t y z) (kG:∀w,(sizeOf t).run P w= .ok n w) (hn:Nat.beq l.length n=true)
  (hoff:Nat.ble (off+n) b.avs.length=true) (hf:AV.free [b.lab] [] (.ag l)=true):
  zB P o [(y,.ptr b.lab off),(z,.ag l)] [b] [b.lab] [] .any [⟨b.lab,b.typ,(b.avs.map (AV.clear [b.lab] [])).take off++l++(b.avs.map (AV.clear [b.lab] [])).drop (off+n)⟩]:=by
 intro γ av w hi hb next Q hk;have h1:av.eval y=_:=hi (y,.ptr b.lab off) (by simp);have h0:=hi (z,.ag l) (by simp);obtain ⟨us,hv,hA,hA1⟩:=h0;simp only at hv;obtain ⟨kR,cs,hh,hL,hone⟩:=hb b (by simp);have hus:us.length=n:=by rw [zbx hA];exact xG hn
 have hoff':off+n<=cs.length:=by rw [zbx hL];exact xP hoff
 have hst:=pP P (γ.box b.lab) off b.typ us 0 cs.toArray w hh (by simp;omega) hA1;simp only [yz,hus] at hst;have kF:(execOp av.eval o).run P w= .ok .skip (w.setRow (γ.box b.lab) (cs.take off++us++cs.drop (off+n)).toArray):=by
  simp [execOp,ho,h1,hv,Instr.storeAt,Instr.sureAddr,storeVar,kG,Value.cells,hus,hst]
 unfold Oper.wp;rw [kF,ut];have ht:=zDz (w:=w) kR (cs.take off++us++cs.drop (off+n)).toArray;obtain ⟨f1,f2⟩:=AV.free_spec hf;obtain ⟨us',hv',hA',_⟩:=(AV.ag l).keep ht f1 f2 (show AV.rel γ w (.ag l) (av.eval z) from ⟨us,hv,hA,hA1⟩);have eu:us'=us:=by rw [hv] at hv';simpa using hv'.symm
 subst eu;have hL':=zmB hL ht;refine hk γ _ undef ht trivial fun b' hb'=>?_
 simp only [xy,xL,xM] at hb';subst hb';refine ⟨kR,cs.take off++us'++cs.drop (off+n),qq w _ _ _ _ _ hh,zjf (zjf (zoI _ _ _ hL') hA') (zoH _ _ _ hL'),fun u hu=>?_⟩;simp only [xF] at hu;rcases hu with (h| h)| h
 ·grind
 ·exact hA1 u h
 ·grind
def zGq:List Bx->List AV->Prop
 | [],[]=>True
 | b::bs,.bp r t ℓ C x::cs=>(ℓ=b.lab/\t=b.typ/\zgv b.avs=some (r.lv x)/\subN (AV.colsL b.avs) C=true)/\zGq bs cs
 | _,_=>False
theorem zxS :∀(xs:List Operand) (bs:List Bx) (cs:List AV),zGq bs cs->xs.length=bs.length->(∀p∈xs.zip (bs.map fun b=>AV.ptr b.lab 0),p.2.rel γ w (ev p.1))->Bxs γ w bs->AV.relL γ w cs (xs.map ev)
 | [],[],[],_,_,_,_=>rfl
 | [],[],_::_,h,_,_,_=>h.elim
 | x::xs,b::bs,.bp r t ℓ C y::cs,h,hl,hi,hb=>by
  obtain ⟨⟨rfl,rfl,h1,h2⟩,h3⟩:=h;refine ⟨ev x,xs.map ev,rfl,?_,zxS xs bs cs h3 (by simpa using hl) (fun p hp=>hi p (xu _ hp)) (fun c hc=>hb c (xu _ hc))⟩;have hv:=hi (x,.ptr b.lab 0) xt;obtain ⟨hc,cells,hh,hL,hone⟩:=hb b xt;exact ⟨γ.box b.lab,cells.toArray,hv,⟨hc,rfl⟩,(yh.1 hh).1,hh,by simpa using hone,by simpa using zlU h1 hL (zad h2)⟩
 | _::_,_::_,[],h,_,_,_=>h.elim
 | _::_,_::_,.any::_,h,_,_,_=>h.elim
 | _::_,_::_,.lf _::_,h,_,_,_=>h.elim
 | _::_,_::_,.sl ..::_,h,_,_,_=>h.elim
 | _::_,_::_,.own ..::_,h,_,_,_=>h.elim
 | _::_,_::_,.rc ..::_,h,_,_,_=>h.elim
 | _::_,_::_,.ep ..::_,h,_,_,_=>h.elim
 | _::_,_::_,.ptr ..::_,h,_,_,_=>h.elim
 | _::_,_::_,.bs ..::_,h,_,_,_=>h.elim
 | _::_,_::_,.tl ..::_,h,_,_,_=>h.elim
 | _::_,_::_,.qp ..::_,h,_,_,_=>h.elim
 | _::_,_::_,.em ..::_,h,_,_,_=>h.elim
 | _::_,_::_,@AV.mo _ _ _ _ _ _ _ _ _::_,h,_,_,_=>h.elim
 | _::_,_::_,.cu ..::_,h,_,_,_=>h.elim
 | _::_,_::_,.mp ..::_,h,_,_,_=>h.elim
 | _::_,_::_,.om ..::_,h,_,_,_=>h.elim
 | _::_,_::_,.tup ..::_,h,_,_,_=>h.elim
 | _::_,_::_,.ag ..::_,h,_,_,_=>h.elim
 | _::_,_::_,.fv ..::_,h,_,_,_=>h.elim
 | _::_,_::_,.it ..::_,h,_,_,_=>h.elim
 | [],_::_,_,_,hl,_,_=>by simp at hl
 | _::_,[],_,_,hl,_,_=>by simp at hl
theorem zNG (xs:List Operand) (bs:List Bx) (cs:List AV) (ho:o.op= .makeFunc (.func g) #[] xs.toArray) (hc:zGq bs cs) (hl:xs.length=bs.length):
  zB P o (xs.zip (bs.map fun b=>AV.ptr b.lab 0)) bs [] [] (.fv g cs) []:=by
 refine zF fun γ ev w hi hb=>?_
 exact ⟨.func (.func g) #[] (xs.map ev).toArray,w,γ,by simp [execOp,ho,Instr.makeFunc],Tr.refl _ _ _ _,⟨xs.map ev,rfl,zxS xs bs cs hc hl hi hb⟩,fun b hb=>by cases hb⟩
theorem zat.regh {γ γ':Gh} {w:World} {C:List Nat} (h:∀b,b<w.heap.size->γ.col b∈C->γ'.col b=γ.col b) {l:LV} {v:Value} (hr:zat (γ.F C) w l v):zat (γ'.F C) w l v:=
 hr.mono fun b hl hb=>by show γ'.col b∈C;rw [h b hl hb];exact hb
theorem zX.regh {γ γ':Gh} {w:World} {C:List Nat} (h:∀b,b<w.heap.size->γ.col b∈C->γ'.col b=γ.col b) {ls:List LV} {cs:List Value} (hr:zX (γ.F C) w ls cs):zX (γ'.F C) w ls cs:=
 hr.mono fun b hl hb=>by show γ'.col b∈C;rw [h b hl hb];exact hb
mutual
theorem AV.regh {γ γ':Gh} {w:World} (a:AV) {v:Value} (h:∀b,b<w.heap.size->γ.col b∈a.cols->γ'.col b=γ.col b) (hb:∀ℓ∈a.labs,γ'.box ℓ=γ.box ℓ) (hr:a.rel γ w v):a.rel γ' w v:=by
 match a with
 | .any=>trivial
 | .lf l=>exact hr
 | .sl r C xs=>exact zat.regh h hr
 | .own r e ℓ C xs=>
  obtain ⟨cs,ho,hg,hA,hn⟩:=hr;refine ⟨cs,ho,fun g kH=>?_,hA.regh (fun b hl hc=>h b hl (xu _ hc)),hn⟩;obtain ⟨g1,g2⟩:=hg g kH;exact ⟨(h g (ho.lt g kH).2 (by rw [g1];exact xt)).trans g1,(hb ℓ xt).trans g2⟩
 | .rc r C x=>obtain ⟨cs,hv,hA⟩:=hr;exact ⟨cs,hv,hA.regh h⟩
 | .ep r C x off=>
  obtain ⟨b,o,cs,hv,hF,km,hA,hcell⟩:=hr;exact ⟨b,o,cs,hv,by rw [h b km hF];exact hF,km,hA.regh h,hcell⟩
 | .ptr ℓ off=>show v=_;rw [hb ℓ xt];exact hr
 | .bs ℓ n=>show v=_;rw [hb ℓ xt];exact hr
 | .tl ℓ off n=>obtain ⟨A,c,hv,hA⟩:=hr;exact ⟨A,c,hv,fun hn=>by rw [hb ℓ xt];exact hA hn⟩
 | .qp r C none=>exact hr
 | .qp r C (some x)=>
  obtain ⟨b,cs,hv,hF,km,hA,hcell⟩:=hr;exact ⟨b,cs,hv,by rw [h b km hF];exact hF,km,hA.regh h,hcell⟩
 | .mp rk rv C m=>
  obtain ⟨b,es,cl,hv,hF,km,hh,hE⟩:=hr;exact ⟨b,es,cl,hv,by rw [h b km hF];exact hF,km,hh,hE.mono fun b hl hc=>by show γ'.col b∈C;rw [h b hl hc];exact hc⟩
 | .em rk rv C m=>
  obtain ⟨a,b,es,cl,hv,hFa,ha,hc1,hF,km,hh,hE⟩:=hr;exact ⟨a,b,es,cl,hv,by rw [h a ha hFa];exact hFa,ha,hc1,by rw [h b km hF];exact hF,km,hh,hE.mono fun b hl hc=>by show γ'.col b∈C;rw [h b hl hc];exact hc⟩
 | .om rk rv ℓ C m=>
  obtain ⟨b,es,cl,hv,⟨g1,g2⟩,km,hh,hE,hn⟩:=hr;exact ⟨b,es,cl,hv,⟨(h b km (by rw [g1];exact xt)).trans g1,(hb ℓ xt).trans g2⟩,km,hh,hE.mono (fun b hl hc=>by show γ'.col b∈C;rw [h b hl (xu _ hc)];exact hc),hn⟩
 | @AV.mo _ _ _ rk r e ℓ C m=>
  obtain ⟨b,n,O,hv,hm⟩:=hr;exact ⟨b,n,O,hv,hm.regh (fun b hl hc=>(h b hl (by rw [hc];exact xt)).trans hc) (fun b hl hc=>by rw [h b hl (xu _ hc)];exact hc) (hb ℓ xt) hm.off⟩
 | .cu c ℓ C1 C2=>
  refine c.move (xx _) (fun _ _ _=>rfl) (fun b hl e=>(h b hl (by rw [e];exact xt)).trans e) (fun b hl hc=>?_) (fun b hl hc=>?_) (hb ℓ xt) hr
  ·show γ'.col b∈C1;rw [h b hl (xu _ (yq _ hc))];exact hc
  ·show γ'.col b∈C2;rw [h b hl (xu _ (yl _ hc))];exact hc
 | .tup l=>obtain ⟨vs,hv,hL⟩:=hr;exact ⟨vs,hv,AV.reghL l h hb hL⟩
 | .ag l=>obtain ⟨vs,hv,hL,h1⟩:=hr;exact ⟨vs,hv,AV.reghL l h hb hL,h1⟩
 | .fv g l=>obtain ⟨vs,hv,hL⟩:=hr;exact ⟨vs,hv,AV.reghL l h hb hL⟩
 | .bp r t ℓ C x=>
  obtain ⟨b,cs,hv,⟨g1,g2⟩,km,hh,h1,hA⟩:=hr;exact ⟨b,cs,hv,⟨(h b km (by rw [g1];exact xt)).trans g1,(hb ℓ xt).trans g2⟩,km,hh,h1,hA.regh (fun b hl hc=>h b hl (xu _ hc))⟩
 | .it rk rv ℓ C last left=>
  obtain ⟨r,b,hv,⟨g1,g2⟩,hr',hF,km,⟨es,cl,seen,since,c0,ls,la,i1,i2,i3,i4,i5,i6,i7,i8,i9,i10⟩,hn⟩:=hr;have key:∀b,b<w.heap.size->γ.F C b->γ'.F C b:=fun b hl hc=>by show γ'.col b∈C;rw [h b hl (xu _ hc)];exact hc
  exact ⟨r,b,hv,⟨(h r hr' (by rw [g1];exact xt)).trans g1,(hb ℓ xt).trans g2⟩,hr',key b km hF,km,
   ⟨es,cl,seen,since,c0,ls,la,i1,i2,i3,i4,i5,i6,i7,i8.mono key,i9.mono key,i10⟩,hn⟩
theorem AV.reghL (l:List AV) (h:∀b,b<w.heap.size->γ.col b∈AV.colsL l->γ'.col b=γ.col b) (hb:∀ℓ∈AV.labsL l,γ'.box ℓ=γ.box ℓ) (hr:AV.relL γ w l vs):AV.relL γ' w l vs:=by
 match l with
 | []=>exact hr
 | a::l=>
  obtain ⟨v,vs',rfl,h1,h2⟩:=hr
  exact ⟨v,vs',rfl,AV.regh a (fun b hl hc=>h b hl (yq _ hc)) (fun c hc=>hb c (yq _ hc)) h1,
   AV.reghL l (fun b hl hc=>h b hl (yl _ hc)) (fun c hc=>hb c (yl _ hc)) h2⟩
end
structure Lets (own:Nat->Prop) (A B:World):Prop where
 os:B.os=A.os
 tape:B.tape=A.tape
 output:B.output=A.output
 size:A.heap.size<=B.heap.size
 block:∀b,b<A.heap.size->¬own b->B.heap[b]? =A.heap[b]?
structure zGf (K:Nat->Prop) (A B:World):Prop where
 os:B.os=A.os
 tape:B.tape=A.tape
 output:B.output=A.output
 size:A.heap.size<=B.heap.size
 block:∀b,b<A.heap.size->K b->B.heap[b]? =A.heap[b]?
structure ItG (F:Fp) (own:Nat->Prop) (γ:Gh) (w:World):Prop where
 zero:∀b,b<w.heap.size->γ.col b=0->F b
 mine:∀b,b<w.heap.size->2<=γ.col b->own b
 lt:∀b,own b->b<w.heap.size
def Abid {σ:Type} (I:σ->(Nat->Prop)->World->Prop):Prop:=∀s own A B,I s own A->Lets own A B->I s (fun b=>own b\/(A.heap.size<=b/\b<B.heap.size)) B
def zHF (P:Program) (l:Nat) {σ χ:Type} (ps:χ->List AV) (F:Fp) (k:Rnd σ χ) (I:σ->(Nat->Prop)->World->Prop):Prop:=
 ∀s own A x b s' us,I s own A->(∀c,own c->c<A.heap.size)->k s x=some (b,s')->(∀γ:Gh,(∀c,c<A.heap.size->F c->γ.col c=0)->AV.relL γ A (ps x) us)->
  YieldAt (RF none) 0 P l us.toArray A fun e B=>e= .returned (.bool b)/\I s' own B/\zGf (fun c=>own c\/F c) A B
def ItOk (P:Program) (g:FuncId) {χ:Type} (caps:List AV) (ps:χ->List AV) (it:{σ:Type}->Rnd σ χ->σ->Option σ):Prop:=
 ∀(σ:Type) (k:Rnd σ χ) (s0 s1:σ),it k s0=some s1->∀(l:Nat) (γ:Gh) (w:World) (F:Fp) (own:Nat->Prop) (vs:List Value) (I:σ->(Nat->Prop)->World->Prop),
  AV.relL γ w caps vs->ItG F own γ w->Abid I->zHF P l ps F k I->I s0 own w->
  Calls P g (.func (.yield l) #[] #[]::vs).toArray w fun e B=>(∃v,e= .returned v)/\∃own',I s1 own' B
def itX {σ:Type} (I:σ->(Nat->Prop)->World->Prop) (hI:Abid I) (F:Fp) (s:σ):Ext where
 X γ w:=∃own,I s own w/\ItG F own γ w
 tr:=fun {γ γ' w w' W V} ⟨own,hj,hg⟩ t hW hV=>by
  have hl:Lets own w w':=⟨t.os,t.tape,t.output,t.size,fun b hb hn=>t.block b hb fun hc=>hn (hg.mine b hb (hW _ hc))⟩;refine ⟨_,hI s own w w' hj hl,fun b hb h0=>?_,fun b hb h2=>?_,fun b hb=>?_⟩
  ·by_cases km:b<w.heap.size
   ·exact hg.zero b km (by rw [<-t.col b km];exact h0)
   ·rcases t.fresh b (qg km) hb h0 with e| e
    ·have:=hW _ e;omega
    ·have:=hV _ e;omega
  ·by_cases km:b<w.heap.size
   ·exact .inl (hg.mine b km (by rw [<-t.col b km];exact h2))
   ·exact .inr ⟨qg km,hb⟩
  ·rcases hb with hb| hb
   ·exact xV (hg.lt b hb) t.size
   ·exact hb.2
 ren:=fun {γ γ' w} ⟨own,hj,hg⟩ k=>⟨own,hj,fun b hb h0=>hg.zero b hb (k.back b h0),fun b hb h2=>hg.mine b hb (by
  rcases yB (γ.col b) 2 with h| h
  ·have h01:γ.col b=0\/γ.col b=1:=by omega
   rcases h01 with e| e
   ·have:=k.zero b e;omega
   ·have:=k.one b e;omega
  ·exact h),hg.lt⟩
 base:=0
 le:=fun _=>xC _
theorem zPH {P:Program} {o:Oper} {ro:Option Nat} {a:Act} {w:World} {next M:Act->World->Prop} {Q:Exit->Act->World->Prop} (h:o.wpIn (RF ro) 0 P a w next (Exit.then M Q)):o.wpIn (RF ro) 0 P a w next Q:=by
 refine ⟨h.1,?_⟩;have h:=h.2
 generalize (o.semAt (RF ro).round a.eval).run P w=r at h
 cases r with
 | ok x w1=>
  cases x with
  | enter f args=>exact ⟨h.1,h.2.mono fun e w2 hq=>by cases e<;>exact hq⟩
  | round l f tmps asg body=>exact ⟨h.1,h.2.mono fun e w2 hq=>by cases e<;>exact hq⟩
  | _=>exact h
 | halt x w1=>cases x<;>exact h
theorem zCI :∀{l1 l2:List Oper} {a:Act} {w:World},zmr P ops (Exit.then (zmr P ops Q l2) Q) l1 a w->zmr P ops Q (l1++l2) a w:=by
 intro l1 l2 a w h0 ro;have key:∀(l1:List Oper) (a:Act) (w:World),wpListIn (RF ro) 0 P ops (Exit.then (zmr P ops Q l2) Q) l1 a w->wpListIn (RF ro) 0 P ops Q (l1++l2) a w:=by
  intro l1
  induction l1 with
  | nil=>intro a w h;exact h ro
  | cons o l1 ih=>
   intro a w h;rw [yn];unfold wpListIn at h|-;split
   ·rename_i hw;rw [xr hw] at h;exact qU (fun a w h=>ih a w h) (zPH h)
   grind
 exact key l1 a w (h0 ro)
def zbF (γ:Gh) (n:Nat):Gh:=⟨fun b=>if b<n then γ.col b else 1,γ.box⟩
section
variable {σ χ:Type} {P:Program} {I:σ->(Nat->Prop)->World->Prop} {hI:Abid I} {F:Fp} {ps:χ->List AV} {k:Rnd σ χ} {l:Nat}
theorem zEy {m:Bool} {N:Lim} {id:Nat} {ops:List Oper} {its:List It} {E E':Env} {Q:Exit->Act->World->Prop} {s s':σ} {x:χ} {b:Bool} {o:Oper} {y:Operand} {ts:Array TypeId} (n:Nat) (d:Option Nat) (args:List Operand) (as0 as:List AV) (E1:Env)
  (ht:zHF P l ps F k I) (ho:ops.drop n=o::ops.drop (n+1)) (hop:o.op= .call ⟨.value y,args.toArray,ts⟩) (hg:o.guard=none) (hd:o.dst=d) (hN:zjZ N d=true)
  (h1:zaM P N ops.toArray (ops.take n) E E1) (hy:E1.opd y=some (.lf (.val (.func (.yield l) #[] #[])))) (hi:zqr E1 (args.zip as0)) (hl:args.length=as0.length) (hle:leL as0 as) (hx:ps x=as)
  (hc:((AV.colsL as).all (fun c=>Nat.beq c 0)&&(AV.labsL as).isEmpty)=true) (hk:k s x=some (b,s'))
  (h2:zaM P N ops.toArray (ops.drop (n+1)) ⟨zjd d (.lf (.bool b)) (zqP [1] [] E1.sl),zgZ [1] [] E1.bx⟩ E') (kk:JI m P its (Sx ⟨N,itX I hI F s',false,#[]⟩ E') Q):
  JI m P (.c (.region id ops.toArray false)::its) (Sx ⟨N,itX I hI F s,false,#[]⟩ E) Q:=by
 intro a w hs;rw [zrS];refine zaD ?_;have hsplit:ops=ops.take n++o::ops.drop (n+1):=by rw [<-ho,qn]
 rw [hsplit];refine zCI ?_;rw [<-hsplit];refine h1 ⟨N,itX I hI F s,false,#[]⟩ a w _ rfl hs fun a1 w1 hs1=>?_
 obtain ⟨γ,hB,hS,hX⟩:=hs1;obtain ⟨own,hj,hG⟩:=hB.ext;have hv:=Env.opd_rel hy hS;have hyv:a1.eval y= .func (.yield l) #[] #[]:=by
  generalize a1.eval y=u at hv|-
  cases hv.2;rfl
 have hargs:AV.relL γ w1 as (args.map a1.eval):=by
  have hr:=hi.rel hS;refine zsb hle ?_;clear hi hx hc h1 h2 hop hle
  induction args generalizing as0 with
  | nil=>cases as0 with
   | nil=>rfl
   | cons=>simp at hl
  | cons z args ih=>cases as0 with
   | nil=>simp at hl
   | cons c as0=>exact ⟨_,_,rfl,hr (z,c) xt,ih as0 (by simpa using hl) (fun p hp=>hr p (xu _ hp))⟩
 simp only [xw,xI,pn] at hc;obtain ⟨fn,tmps,asg,body,kF,hR⟩:=ht s own w1 x b s' (args.map a1.eval) hj hG.lt hk fun γ' hγ'=>by
  rw [hx];refine AV.reghL as (fun c hcl hcm=>?_) (fun ℓ hℓ=>by rw [hc.2] at hℓ;cases hℓ) hargs;have h0:γ.col c=0:=xG (hc.1 _ hcm);rw [h0];exact hγ' c hcl (hG.zero c hcl h0)
 refine zjx (by simp [Region.wanted,hg]) (fun ro=>⟨fun _ _=>trivial,?_⟩);have hrun':(execOp a1.eval o).run P w1= .ok (.round l fn tmps asg body) w1:=by
  simp [execOp,hop,resolve,hyv,Deferred.ofValue,invoke,kF]
 rw [Oper.semAt_eq _ _ _ (by rw [hop];nofun),hrun'];refine ⟨nofun,RoundIn.mono hR (fun e B hq=>?_)⟩;obtain ⟨rfl,hj',hsp⟩:=hq;have kQ:∀c,c<w1.heap.size->γ.col c∉[1]->own c\/F c:=fun c hcl hcn=>by
  rcases yB (γ.col c) 2 with h| h
  ·have h01:γ.col c=0\/γ.col c=1:=by omega
   rcases h01 with e| e
   ·exact .inr (hG.zero c hcl e)
   grind
  ·exact .inl (hG.mine c hcl h)
 have hT:Tr [1] [] γ w1 (zbF γ w1.heap.size) B:=⟨hsp.os,hsp.tape,hsp.output,hsp.size,fun c hcl hcn=>hsp.block c hcl (kQ c hcl hcn),fun c hcl=>by simp [zbF,hcl],fun _ _=>rfl,fun c h1 _ h0=>by simp [zbF,Nat.not_lt.2 h1] at h0⟩;refine h2 ⟨N,itX I hI F s',false,#[]⟩ _ B (zhA m P Q its) rfl ⟨zbF γ w1.heap.size,⟨⟨[],?_,qr,fun D hD=>by cases hD⟩,fun _=>?_,?_,?_,own,hj',fun c hcl h0=>?_,fun c hcl h2=>?_,fun c hcc=>xV (hG.lt c hcc) hsp.size⟩,?_,hX.tr hT⟩ (fun a' w' hs'=>kk a' w' hs')
 ·rw [zhR];exact hB.clean rfl
 ·rw [zhR];exact hB.clean rfl
 ·rw [zoG];exact hB.size
 ·rw [hd];exact (hB.put d (.bool b) (zfC hN)).kept
 ·by_cases km:c<w1.heap.size
  ·exact hG.zero c km (by simpa [zbF,km] using h0)
  ·simp [zbF,km] at h0
 ·by_cases km:c<w1.heap.size
  ·exact hG.mine c km (by simpa [zbF,km] using h2)
  ·simp [zbF,km] at h2
 ·rw [hd];exact (hS.tr hT).put (fun k hk=>by rw [hB.size];exact zhQ hN _ hk) ⟨rfl,.bool b⟩
end
inductive zqq:Nat->List AV->List (Nat×AV)->List Bx->Prop
 | nil (n:Nat):zqq n [] [] []
 | cons {α:Type} {n:Nat} (r:Rp α) (t:TypeId) (ℓ:Nat) (C:List Nat) (x:α) (avs:List AV) {cs:List AV} {sl:List (Nat×AV)} {bx:List Bx} (h1:zgv avs=some (r.lv x)) (h2:avs.all (zsQ C)=true)
   (h:zqq (n+1) cs sl bx):zqq n (.bp r t ℓ C x::cs) ((n,.ptr ℓ 0)::sl) (⟨ℓ,t,avs⟩::bx)
 | ep {α:Type} {n:Nat} (r:Rp α) (C:List Nat) (x:α) {cs:List AV} {sl:List (Nat×AV)} {bx:List Bx} (h:zqq (n+1) cs sl bx):zqq n (.ep r C x 0::cs) ((n,.ep r C x 0)::sl) bx
theorem zqq.rel (h:zqq n cs sl bx) :∀{vs:List Value} (pre post:List Value),pre.length=n->AV.relL γ w cs vs->
  (∀p∈sl,p.2.rel γ w ((pre++vs++post).toArray.getD p.1 undef))/\Bxs γ w bx:=by
 induction h with
 | nil n=>intro vs pre post _ _;exact ⟨(fun p hp=>by cases hp),(fun b hb=>by cases hb)⟩
 | cons r t ℓ C x avs h1 h2 h ih=>
  intro vs pre post hn hr;obtain ⟨v,vs',rfl,⟨b,cells,hv,⟨g1,g2⟩,km,hh,hone,hA⟩,hr'⟩:=hr;obtain ⟨k1,k2⟩:=ih (vs:=vs') (pre++[v]) post (by simp [hn]) hr';refine ⟨fun p hp=>?_,fun c hc=>?_⟩
  ·rcases xy.1 hp with rfl| hp
   ·show ((pre++v::vs'++post).toArray.getD _ undef)=_;simp_all
   grind
  ·rcases xy.1 hc with rfl| hc
   ·refine ⟨by rw [g2];exact g1,cells.toList,?_,zkJ h1 hA h2,hone⟩;simp_all
   ·exact k2 c hc
 | ep r C x h ih=>
  intro vs pre post hn hr;obtain ⟨v,vs',rfl,hv,hr'⟩:=hr;obtain ⟨k1,k2⟩:=ih (vs:=vs') (pre++[v]) post (by simp [hn]) hr';simp_all
theorem zLb {P:Program} {g:FuncId} {fn:Func} {c:Code} {χ:Type} {caps:List AV} {ps:χ->List AV} {it:{σ:Type}->Rnd σ χ->σ->Option σ} (N:Nat) (sl:List (Nat×AV)) (bx:List Bx)
  (hf:P.funcs[g]? =some fn) (hb:fn.body=some c) (hN:fn.ntmps=N) (ku:Nat.ble (caps.length+1) N=true) (hres:fn.results=#[]) (hcap:zqq 1 caps sl bx)
  (hj:∀(σ:Type) (k:Rnd σ χ) (s0 s1:σ),it k s0=some s1->∀(l:Nat) (I:σ->(Nat->Prop)->World->Prop) (hI:Abid I) (F:Fp),zHF P l ps F k I->
   J true P c (Sx ⟨⟨N,[]⟩,itX I hI F s0,false,#[]⟩ ⟨(0,.lf (.val (.func (.yield l) #[] #[])))::sl,bx⟩) fun e a w=>(e= .normal\/e= .ret)/\Sx ⟨⟨N,[]⟩,itX I hI F s1,false,#[]⟩ ⟨[],[]⟩ a w):ItOk P g caps ps it:=by
 subst hN;intro σ k s0 s1 hit l γ w F own vs I hc hG hI ht h0;have hl:=zbx hc;have hlen':=xP ku;obtain ⟨k1,k2⟩:=hcap.rel [.func (.yield l) #[] #[]] (List.replicate (fn.ntmps - (vs.length+1)) undef) rfl hc;have e:(([.func (.yield l) #[] #[]]++vs++List.replicate (fn.ntmps - (vs.length+1)) undef:List Value)).toArray=(Value.func (.yield l) #[] #[]::vs).toArray++Array.replicate (fn.ntmps - (Value.func (.yield l) #[] #[]::vs).toArray.size) undef:=by simp
 rw [e] at k1;refine pm hf hb (wp_mono (zFZ (hj σ k s0 s1 hit l I hI F ht _ w ⟨γ,⟨⟨[],rfl,qr,(fun D hD=>by cases hD)⟩,fun _=>rfl,?_,(fun k hk=>by cases hk),own,h0,hG⟩,fun p hp=>?_,k2⟩)) ?_)
 ·simp;omega
 ·rcases xy.1 hp with rfl| hp
  ·show _/\zat _ _ _ _;have:((Value.func (.yield l) #[] #[]::vs).toArray++Array.replicate (fn.ntmps - (Value.func (.yield l) #[] #[]::vs).toArray.size) undef).getD 0 undef= .func (.yield l) #[] #[]:=by rw [<-e];simp
   rw [this];exact ⟨rfl,.val _ rfl⟩
  ·exact k1 p hp
 ·rintro e a w' ⟨he,γ',hB,hS,hX⟩;obtain ⟨us,hr,_⟩:=zjg (P:=P) (fn:=fn) (l:=[]) hS hX (by rw [hres];trivial);have hfin:a.defers=[]/\∃v,(results fn a.tmps).run P w'= .ok v w'/\((∃v',(Ending.returned v)= .returned v')/\∃own',I s1 own' w'):=by
   obtain ⟨own',hj',_⟩:=hB.ext;exact ⟨hB.clean rfl,_,hr,⟨_,rfl⟩,own',hj'⟩
  rcases he with rfl| rfl
  ·exact hfin
  ·exact hfin
def Two (X:Ext) (ds:List Deferred) (Z:Nat->Prop) (γ:Gh) (W:World):Prop:=
 ∃γx:Gh,X.X γx W/\ztM X.base γx W ds/\γx.box=γ.box/\(∀b,Z b->γx.col b=2/\γ.col b=1)/\(∀b,¬Z b->γ.col b=γx.col b)/\∀b,Z b->b<W.heap.size
section
variable {X:Ext} {ds:List Deferred} {Z:Nat->Prop} {γ γ':Gh} {W W':World}
theorem Two.tr (h:Two X ds Z γ W) (t:Tr Ws V γ W γ' W') (hW:∀c∈Ws,2<=c) (hV:∀c∈V,2<=c):Two X ds Z γ' W':=by
 obtain ⟨γx,hX,hm,hbx,hZ,hn,km⟩:=h
 classical
 have ht:Tr Ws V γx W ⟨fun b=>if Z b then 2 else γ'.col b,γ'.box⟩ W':=by
  refine ⟨t.os,t.tape,t.output,t.size,fun b hb hc=>?_,fun b hb=>?_,fun ℓ hℓ=>?_,fun b h1 h2 h0=>?_⟩
  ·by_cases hz:Z b
   ·exact t.block b hb (by rw [(hZ b hz).2];intro h;have:=hW _ h;omega)
   ·exact t.block b hb (by rw [hn b hz];exact hc)
  ·by_cases hz:Z b
   ·grind
   ·simp [hz,t.col b hb,hn b hz]
  ·rw [hbx];exact t.box ℓ hℓ
  ·have hz:¬Z b:=fun hz=>by have:=km b hz;omega
   simp [hz] at h0;exact t.fresh b h1 h2 h0
 refine ⟨_,X.tr hX ht hW hV,hm.tr ht hW,rfl,fun b hz=>⟨by simp [hz],?_⟩,fun b hz=>by simp [hz],fun b hz=>xV (km b hz) t.size⟩;rw [t.col b (km b hz)];exact (hZ b hz).2
theorem Two.ren (h:Two X ds Z γ W) (k:zxC γ γ'):Two X ds Z γ' W:=by
 obtain ⟨γx,hX,hm,hbx,hZ,hn,km⟩:=h
 classical
 have ha:zxC γx ⟨fun b=>if Z b then 2 else γ'.col b,γ'.box⟩:=by
  refine ⟨fun b hb=>?_,fun b hb=>?_,fun b hb=>?_,fun b hb=>?_⟩
  ·have hz:¬Z b:=fun hz=>by have:=(hZ b hz).1;omega
   simp [hz];exact k.zero b (by rw [hn b hz];exact hb)
  ·have hz:¬Z b:=fun hz=>by have:=(hZ b hz).1;omega
   simp [hz];exact k.one b (by rw [hn b hz];exact hb)
  ·by_cases hz:Z b
   ·simp [hz] at hb
   ·simp [hz] at hb;rw [<-hn b hz];exact k.back b hb
  ·have hz:¬Z b:=fun hz=>by rw [(hZ b hz).1] at hb;cases hb
   have:=k.old b (by rw [hn b hz];exact hb)
   grind
 exact ⟨_,X.ren hX ha,hm.ren ha,rfl,fun b hz=>⟨by simp [hz],k.one b (hZ b hz).2⟩,fun b hz=>by simp [hz],km⟩
theorem Two.lets (h:Two X ds Z γ W) (t:Lets Z W W'):Two X ds (fun b=>Z b\/(W.heap.size<=b/\b<W'.heap.size)) (zbF γ W.heap.size) W':=by
 obtain ⟨γx,hX,hm,hbx,hZ,hn,km⟩:=h;have ht:Tr [2] [] γx W ⟨fun b=>if b<W.heap.size then γx.col b else if b<W'.heap.size then 2 else 1,γx.box⟩ W':=by
  refine ⟨t.os,t.tape,t.output,t.size,fun b hb hc=>t.block b hb (fun hz=>hc (by rw [(hZ b hz).1];exact xt)),fun b hb=>by simp [hb],fun ℓ _=>rfl,fun b h1 h2 h0=>?_⟩
  grind
 have hW:∀c∈[2],2<=c:=fun c hc=>by simp at hc;omega
 refine ⟨_,X.tr hX ht hW (fun c hc=>by cases hc),hm.tr ht hW,hbx,fun b hz=>?_,fun b hz=>?_,fun b hz=>?_⟩
 ·rcases hz with hz| ⟨h1,h2⟩
  ·simp [zbF,km b hz];exact hZ b hz
  ·simp [zbF,Nat.not_lt.2 h1,h2]
 ·by_cases hb:b<W.heap.size
  ·simp [zbF,hb];exact hn b fun h=>hz (.inl h)
  ·have h2:¬b<W'.heap.size:=fun h=>hz (.inr ⟨qg hb,h⟩)
   simp [zbF,hb,h2]
 ·rcases hz with hz| ⟨_,h2⟩
  ·exact xV (km b hz) t.size
  ·exact h2
theorem Two.out (h:Two X ds Z γ W):X.X γ W/\ztM X.base γ W ds:=by
 obtain ⟨γx,hX,hm,hbx,hZ,hn,km⟩:=h;have ha:zxC γx γ:=by
  refine ⟨fun b hb=>?_,fun b hb=>?_,fun b hb=>?_,fun b hb=>?_⟩
  ·grind
  ·grind
  ·grind
  ·have hz:¬Z b:=fun hz=>by rw [(hZ b hz).1] at hb;cases hb
   exact hn b hz
 exact ⟨X.ren hX ha,hm.ren ha⟩
end
def zHj (X:Ext) (ds:List Deferred) (Z:Nat->Prop) (F:Fp) (W0:World):Ext where
 X γ W:=Two X ds Z γ W/\zGf (fun b=>Z b\/F b) W0 W/\(∀b,F b->γ.col b=0/\b<W0.heap.size)/\∀b,Z b->b<W0.heap.size
 tr:=fun {γ γ' W W' Ws V} ⟨h1,h2,h3,h4⟩ t hW hV=>by
  refine ⟨h1.tr t hW hV,⟨t.os.trans h2.os,t.tape.trans h2.tape,t.output.trans h2.output,yg h2.size t.size,fun b hb hz=>?_⟩,fun b hF=>⟨?_,(h3 b hF).2⟩,h4⟩
  ·refine (t.block b (xV hb h2.size) fun hc=>?_).trans (h2.block b hb hz);have:=hW _ hc;rcases hz with hz| hF
   ·obtain ⟨γx,_,_,_,hZ,_⟩:=h1;have:=(hZ b hz).2;omega
   ·have:=(h3 b hF).1;omega
  ·rw [t.col b (xV (h3 b hF).2 h2.size)];exact (h3 b hF).1
 ren:=fun {γ γ' W} ⟨h1,h2,h3,h4⟩ k=>⟨h1.ren k,h2,fun b hF=>⟨k.zero b (h3 b hF).1,(h3 b hF).2⟩,h4⟩
 base:=0
 le:=fun _=>xC _
def zvQ:List Nat->List AV->List (Nat×AV)->List (Nat×AV)
 | p::ps,v::vs,l=>zvQ ps vs (zjd (some p) v l)
 | _,_,l=>l
theorem zzi :∀(ps:List Nat) (as:List AV) (us:List Value) (l:List (Nat×AV)) (a:Act),Sl γ w a l->AV.relL γ w as us->ps.length=as.length->(∀p∈ps,p<a.tmps.size)->
  Sl γ w ⟨(ps.zip us).foldl (fun t (q:Nat×Value)=>t.setIfInBounds q.1 q.2) a.tmps,a.defers⟩ (zvQ ps as l)
 | [],[],us,l,a,hs,_,_,_=>by simpa [zvQ] using hs
 | p::ps,v::as,us,l,a,hs,hr,hl,km=>by
  obtain ⟨u,us',rfl,h1,h2⟩:=hr;exact zzi ps as us' _ (a.put (some p) u) (hs.put (fun k hk=>by cases hk;exact km p xt) h1) h2 (by simpa using hl) (fun q hq=>by rw [zoG];exact km q (xu _ hq))
 | [],_::_,_,_,_,_,_,hl,_=>by simp at hl
 | _::_,[],_,_,_,_,_,hl,_=>by simp at hl
theorem zAZ:∀(qs:List (Nat×Value)) (t:Array Value),(qs.foldl (fun t (q:Nat×Value)=>t.setIfInBounds q.1 q.2) t).size=t.size/\∀k,(∀q∈qs,q.1≠k)->(qs.foldl (fun t (q:Nat×Value)=>t.setIfInBounds q.1 q.2) t).getD k undef=t.getD k undef
 | [],t=>⟨rfl,fun _ _=>rfl⟩
 | q::qs,t=>by
  obtain ⟨h1,h2⟩:=zAZ qs (t.setIfInBounds q.1 q.2);refine ⟨by rw [yi,h1];simp,fun k hk=>?_⟩;rw [yi,h2 k fun r hr=>hk r (xu _ hr)];simp_all
def Zof (own:Nat->Prop) (l D:Nat):Nat->Prop:=fun b=>own b\/b=l\/b=D
theorem Two.congr (h:Two X ds Z γ W) (e:∀b,Z b↔Z' b):Two X ds Z' γ W:=by
 have:Z=Z':=funext fun b=>propext (e b)
 grind
theorem zoR (t:Lets K W W') (hK:∀b,K b->γ.col b=1):Tr [1] [] γ W (zbF γ W.heap.size) W':=
 ⟨t.os,t.tape,t.output,t.size,fun b hb hc=>t.block b hb fun hk=>hc (by rw [hK b hk];exact xt),fun b hb=>by simp [zbF,hb],fun _ _=>rfl,fun b h1 _ h0=>by simp [zbF,Nat.not_lt.2 h1] at h0⟩
def lpOf {σ ρ:Type} (rec:LoopState->Option Code->Loop) (cd:ρ->Code):σ⊕ρ->Loop
 | .inl _=>rec .ready none
 | .inr r=>rec .done (some (cd r))
def bxOf {σ ρ:Type} (Bs:σ->List Bx) (Br:ρ->List Bx):σ⊕ρ->List Bx
 | .inl s=>Bs s
 | .inr r=>Br r
structure CI {σ ρ:Type} (X:Ext) (ds:List Deferred) (F:Fp) (l D:Nat) (rec:LoopState->Option Code->Loop) (old:Array Value) (slE:List (Nat×AV)) (Bs:σ->List Bx) (Br:ρ->List Bx) (cd:ρ->Code) (st:σ⊕ρ) (own:Nat->Prop) (W:World) (γ:Gh):Prop where
 two:Two X ds (Zof own l D) γ W
 data:∀b,F b->γ.col b=0/\b<W.heap.size
 nl:¬own l
 nD:¬own D
 blk:W.heap[D]? =some (.deferred (some []))
 sl:∀p∈slE,p.2.rel γ W (old.getD p.1 undef)
 bx:Bxs γ W (bxOf Bs Br st)
 lp:W.heap[l]? =some (.loop (lpOf rec cd st))
theorem CI.abid {σ ρ:Type} {X:Ext} {ds:List Deferred} {F:Fp} {l D:Nat} {rec:LoopState->Option Code->Loop} {old:Array Value} {slE:List (Nat×AV)} {Bs:σ->List Bx} {Br:ρ->List Bx} {cd:ρ->Code}
  (hfs:∀p∈slE,p.2.free [1] []=true) (hBs:∀s,zgZ [1] [] (Bs s)=Bs s) (hBr:∀r,zgZ [1] [] (Br r)=Br r):
  Abid fun (st:σ⊕ρ) own W=>∃γ,CI X ds F l D rec old slE Bs Br cd st own W γ:=by
 rintro st own A B ⟨γ,h⟩ t;have hl:=(yh.1 h.lp).1;have hD:=(yh.1 h.blk).1;have tZ:Lets (Zof own l D) A B:=⟨t.os,t.tape,t.output,t.size,fun b hb hn=>t.block b hb fun ho=>hn (.inl ho)⟩;have h1:∀b,own b->γ.col b=1:=fun b ho=>by
  obtain ⟨γx,_,_,_,hZ,_⟩:=h.two;exact (hZ b (.inl ho)).2
 have hT:=zoR t h1;refine ⟨zbF γ A.heap.size,(h.two.lets tZ).congr fun b=>?_,fun b hF=>?_,?_,?_,(t.block D hD h.nD).trans h.blk,fun p hp=>?_,?_,(t.block l hl h.nl).trans h.lp⟩
 ·unfold Zof
  grind
 ·obtain ⟨g1,g2⟩:=h.data b hF;exact ⟨by simp [zbF,g2,g1],xV g2 t.size⟩
 ·rintro (h'| ⟨h',_⟩)
  ·exact h.nl h'
  ·omega
 ·rintro (h'| ⟨h',_⟩)
  ·exact h.nD h'
  ·omega
 ·obtain ⟨f1,f2⟩:=AV.free_spec (hfs p hp);exact p.2.keep hT f1 f2 (h.sl p hp)
 ·have:=h.bx.tr hT;cases st with
  | inl s=>rw [show bxOf Bs Br (Sum.inl s)=Bs s from rfl,hBs] at this;exact this
  | inr r=>rw [show bxOf Bs Br (Sum.inr r)=Br r from rfl,hBr] at this;exact this
def Jump:Exit->Code->Prop
 | .ret,.ret=>True
 | .exit i,.exit j=>i=j
 | _,_=>False
theorem Lets.put (hl:Z l) (o:Obj):Lets Z W (W.putObj l o):=
 ⟨rfl,rfl,rfl,by simp,fun b _ hb=>World.putObj_heap_other fun e=>hb (e▸hl)⟩
theorem Two.put (h:Two X ds Z γ W) (hl:Z l) (o:Obj):Two X ds Z (zbF γ W.heap.size) (W.putObj l o):=
 (h.lets (Lets.put hl o)).congr fun b=>⟨fun h=>h.elim id fun ⟨h1,h2⟩=>by simp at h2;omega,.inl⟩
theorem Two.one (h:Two X ds Z γ W):∀b,Z b->γ.col b=1:=fun b hb=>by
 obtain ⟨γx,_,_,_,hZ,_⟩:=h
 grind
theorem Two.lt (h:Two X ds Z γ W):∀b,Z b->b<W.heap.size:=fun b hb=>by
 obtain ⟨γx,_,_,_,_,_,hl⟩:=h;exact hl b hb
theorem CI.takes {σ ρ χ:Type} {P:Program} {X:Ext} {ds:List Deferred} {F:Fp} {l D:Nat} {rec:LoopState->Option Code->Loop} {old:Array Value} {slE:List (Nat×AV)} {Bs:σ->List Bx} {Br:ρ->List Bx} {cd:ρ->Code}
  {asg body:Code} {prm:Array Tmp} {N:Nat} {ks:List Nat} {kb:σ->χ->Option (σ⊕ρ)} {ps:χ->List AV} {Eb:σ->χ->Env} (fn:FuncId) (kZ:rec=fun st pe=>{state:=st,pending:=pe,fn:=fn,tmps:=old,params:=prm,assign:=asg,body:=body,defers:=D})
  (hN:old.size=N) (hlD:l≠D) (hfs:∀p∈slE,p.2.free [1] []=true) (hBs:∀s,zgZ [1] [] (Bs s)=Bs s) (hBr:∀r,zgZ [1] [] (Br r)=Br r)
  (hks:∀p∈slE,p.1∈ks) (hpk:∀q∈prm.toList,q∉ks/\q<N) (hprm:∀x,(ps x).length=prm.size)
  (hasg:∀(X:Ext) (old:Array Value) s x,J false P asg (Sx ⟨⟨N,ks⟩,X,false,old⟩ ⟨zvQ prm.toList (ps x) slE,Bs s⟩) fun e a w=>e= .normal/\Sx ⟨⟨N,ks⟩,X,false,old⟩ (Eb s x) a w)
  (hfree:∀s x,zqP [1] [] (Eb s x).sl=(Eb s x).sl/\zgZ [1] [] (Eb s x).bx=(Eb s x).bx)
  (kW:∀(X:Ext) (old:Array Value) s x o,kb s x=some o->J false P body (Sx ⟨⟨N,ks⟩,X,false,old⟩ (Eb s x)) (match o with
   | .inl s'=>fun e a w=>e= .normal/\Sx ⟨⟨N,ks⟩,X,false,old⟩ ⟨slE,Bs s'⟩ a w
   | .inr r=>fun e a w=>Jump e (cd r)/\Sx ⟨⟨N,ks⟩,X,false,old⟩ ⟨slE,Br r⟩ a w)):
  zHF P l ps F (rnd kb) fun (st:σ⊕ρ) own W=>∃γ,CI X ds F l D rec old slE Bs Br cd st own W γ:=by
 rintro st own A x b st' us ⟨γ,h⟩ kQ hk hus;cases st with
 | inr r=>cases hk
 | inl s=>
 have hur:=hus γ fun c hc hF=>(h.data c hF).1
 have hul:us.length=prm.size:=by rw [zbx hur,hprm]
 have hl0:A.heap[l]? =some (.loop (rec .ready none)):=h.lp;have hZl:Zof own l D l:= .inr (.inl rfl);have hnF:¬F l:=fun hF=>by have:=(h.data l hF).1;have:=h.two.one l hZl;omega
 have hy:=run_yield (P:=P) (args:=us.toArray) hl0 (by rw [kZ];simpa using hul);rw [kZ] at hy;simp only at hy;have hfold:(prm.zip us.toArray).foldl (fun tmps (q:Nat×Value)=>tmps.setIfInBounds q.1 q.2) old=(prm.toList.zip us).foldl (fun tmps (q:Nat×Value)=>tmps.setIfInBounds q.1 q.2) old:=by
  rw [<-uq,Array.toList_zip]
 obtain ⟨q1,q2⟩:=zAZ (prm.toList.zip us) old;refine ⟨_,_,asg,body,hy,roundIn_of_wpIn trivial ?_⟩;have hstart:Sx ⟨⟨N,ks⟩,zHj X ds (Zof own l D) F A,false,old⟩ ⟨zvQ prm.toList (ps x) slE,Bs s⟩ {tmps:=(prm.zip us.toArray).foldl (fun tmps (q:Nat×Value)=>tmps.setIfInBounds q.1 q.2) old,defers:=[]} A:=by
  refine ⟨γ,⟨⟨[],rfl,qr,fun D hD=>by cases hD⟩,fun _=>rfl,?_,fun k hk=>?_,h.two,⟨rfl,rfl,rfl,xx _,fun _ _ _=>rfl⟩,h.data,h.two.lt⟩,?_,h.bx⟩
  ·grind
  ·show Array.getD _ k undef=_;rw [hfold];exact q2 k fun q hq e=>(hpk q.1 (List.of_mem_zip hq).1).1 (e▸hk)
  ·have:=zzi prm.toList (ps x) us slE ⟨old,[]⟩ (fun p hp=>h.sl p hp) hur (by rw [hprm];simp) (fun p hp=>by rw [hN];exact (hpk p hp).2)
   grind
 refine qX (hasg _ old s x _ A hstart (some l) nofun) ?_;rintro e a1 w1 ⟨rfl,γ1,hB1,hS1,hX1⟩;obtain ⟨hT1,hsp1,hF1,hZ1⟩:=hB1.ext;have hll:=hZ1 l hZl;have hl1:w1.heap[l]? =some (.loop (rec .ready none)):=(hsp1.block l hll (.inl hZl)).trans hl0;refine ⟨_,run_beginRound hl1 (by rw [kZ]),?_⟩;have hlt1:=(yh.1 hl1).1;obtain ⟨w2,hw2⟩:∃w2,w1.putObj l (.loop {rec .ready none with state:= .busy})=w2:=⟨_,rfl⟩;rw [hw2];have hsz2:w2.heap.size=w1.heap.size:=by rw [<-hw2];simp
 have hl2:w2.heap[l]? =some (.loop {rec .ready none with state:= .busy}):=by rw [<-hw2];exact World.putObj_heap_same hlt1
 have hL12:Lets (Zof own l D) w1 w2:=by rw [<-hw2];exact Lets.put hZl _
 have hLl:Lets (fun b=>b=l) w1 w2:=by rw [<-hw2];exact Lets.put (Z:=fun b=>b=l) rfl _
 have hT12:=zoR hLl fun b e=>by rw [e];exact hT1.one l hZl
 have hT2:Two X ds (Zof own l D) (zbF γ1 w1.heap.size) w2:=by rw [<-hw2];exact hT1.put hZl _
 have hsb:Sx ⟨⟨N,ks⟩,zHj X ds (Zof own l D) F w2,false,old⟩ (Eb s x) a1 w2:=by
  refine ⟨zbF γ1 w1.heap.size,⟨⟨[],hB1.clean rfl,qr,fun D hD=>by cases hD⟩,hB1.clean,hB1.size,hB1.kept,hT2,⟨rfl,rfl,rfl,xx _,fun _ _ _=>rfl⟩,fun c hF=>?_,hT2.lt⟩,?_,?_⟩
  ·obtain ⟨g1,g2⟩:=hF1 c hF;have g3:=xV g2 hsp1.size;exact ⟨by simp [zbF,g3,g1],by rw [hsz2];exact g3⟩
  ·have:=hS1.tr hT12
   grind
  ·have:=hX1.tr hT12
   grind
 have fin:∀(jump:Option Code) (st':σ⊕ρ) (a3:Act) (w3:World),(∃γ3,Base ⟨⟨N,ks⟩,zHj X ds (Zof own l D) F w2,false,old⟩ γ3 a3 w3/\Sl γ3 w3 a3 slE/\Bxs γ3 w3 (bxOf Bs Br st'))->
   lpOf rec cd st'=rec (if jump.isNone then .ready else .done) jump->zgZ [1] [] (bxOf Bs Br st')=bxOf Bs Br st'->
   ∃w4,(Instr.endRound l jump).run P w3= .ok (.bool jump.isNone) w4/\(∃γ4,CI X ds F l D rec old slE Bs Br cd st' own w4 γ4)/\zGf (fun c=>own c\/F c) A w4:=by
  rintro jump st' a3 w3 ⟨γ3,hB3,hS3,hX3⟩ hlp hkb;obtain ⟨hT3,hsp3,hF3,hZ3⟩:=hB3.ext;have hl3:w3.heap[l]? =some (.loop {rec .ready none with state:= .busy}):=(hsp3.block l (by omega) (.inl hZl)).trans hl2;have hlt3:=(yh.1 hl3).1;have hD2:D<w2.heap.size:=hZ3 D (.inr (.inr rfl));have kF:=run_endRound (P:=P) jump hl3;have hobj:({({rec .ready none with state:= .busy}:Loop) with state:=if jump.isNone then .ready else .done,pending:=jump}:Loop)=lpOf rec cd st':=by rw [hlp,kZ]
  rw [hobj] at kF;have hLl3:Lets (fun b=>b=l) w3 (w3.putObj l (.loop (lpOf rec cd st'))):=Lets.put (Z:=fun b=>b=l) rfl _;have hT34:=zoR hLl3 fun b e=>by rw [e];exact hT3.one l hZl
  refine ⟨_,kF,⟨zbF γ3 w3.heap.size,hT3.put hZl _,fun c hF=>?_,h.nl,h.nD,?_,fun p hp=>?_,?_,World.putObj_heap_same hlt3⟩,?_⟩
  ·obtain ⟨g1,g2⟩:=hF3 c hF;have g3:=xV g2 hsp3.size;exact ⟨by simp [zbF,g3,g1],by simpa using g3⟩
  ·rw [World.putObj_heap_other (Ne.symm hlD),hsp3.block D hD2 (.inl (.inr (.inr rfl))),hLl.block D (by omega) (Ne.symm hlD),hsp1.block D (hZ1 D (.inr (.inr rfl))) (.inl (.inr (.inr rfl)))];exact h.blk
  ·obtain ⟨f1,f2⟩:=AV.free_spec (hfs p hp);have:=p.2.keep hT34 f1 f2 (hS3 p hp);rw [hB3.kept p.1 (hks p hp)] at this;exact this
  ·have:=hX3.tr hT34
   grind
  ·have hlz:∀c,own c\/F c->c≠l:=fun c hc e=>by
    subst e;exact hc.elim h.nl hnF
   refine ⟨?_,?_,?_,?_,fun c hc hcc=>?_⟩
   ·exact hsp3.os.trans (hL12.os.trans hsp1.os)
   ·exact hsp3.tape.trans (hL12.tape.trans hsp1.tape)
   ·exact hsp3.output.trans (hL12.output.trans hsp1.output)
   ·have:=hsp1.size;have:=hsp3.size;simp;omega
   ·have h1:=hsp1.size;have hz:Zof own l D c\/F c:=hcc.imp .inl id;rw [World.putObj_heap_other (hlz c hcc),hsp3.block c (by omega) hz,hLl.block c (by omega) (hlz c hcc),hsp1.block c hc hz]
 cases hkb:kb s x with
 | none=>simp [rnd,hkb] at hk
 | some o=>
  refine qX (kW _ old s x o hkb a1 w2 hsb (some l) nofun) ?_;rintro e a3 w3 hp;cases o with
  | inl s'=>
   simp [rnd,hkb] at hk;obtain ⟨rfl,rfl⟩:=hk;obtain ⟨rfl,hs3⟩:=hp;obtain ⟨w4,e1,e2,e3⟩:=fin none (.inl s') a3 w3 hs3 rfl (hBs s');exact ⟨_,w4,e1,rfl,e2,e3⟩
  | inr r=>
   simp [rnd,hkb] at hk;obtain ⟨rfl,rfl⟩:=hk;obtain ⟨hj,hs3⟩:=hp;obtain ⟨w4,e1,e2,e3⟩:=fin (some (cd r)) (.inr r) a3 w3 hs3 rfl (hBr r);cases e with
   | ret=>
    cases hc:cd r with
    | ret=>rw [hc] at e1;exact ⟨_,w4,e1,rfl,e2,e3⟩
    | _=>rw [hc] at hj;exact hj.elim
   | exit i=>
    cases hc:cd r with
    | exit j=>rw [hc] at e1 hj;cases (show i=j from hj);exact ⟨_,w4,e1,rfl,e2,e3⟩
    | _=>rw [hc] at hj;exact hj.elim
   | _=>exact hj.elim
theorem zEB (h:c∈zgZ W V l):c.lab∉W/\∀a∈c.avs,a.free W V=true:=by
 simp only [zgZ,xA,xW,xw] at h;obtain ⟨b,⟨_,h1,_⟩,rfl⟩:=h;refine ⟨zec h1,fun a ha=>?_⟩;obtain ⟨x,_,rfl⟩:=xA.1 ha;unfold AV.clear;cases hf:x.free W V with
 | true=>exact hf
 | false=>rfl
theorem zHL :∀{l:List AV},(∀a∈l,a.free W V=true)->(∀c∈AV.colsL l,c∉W)/\∀c∈AV.labsL l,c∉V
 | [],_=>by
  refine ⟨?_,?_⟩
  ·intro c hc;cases hc
  ·intro c hc;cases hc
 | a::l,h=>by
  obtain ⟨h1,h2⟩:=AV.free_spec (h a xt);obtain ⟨h3,h4⟩:=zHL (l:=l) fun b hb=>h b (xu _ hb)
  exact ⟨fun c hc=>(xF.1 hc).elim (h1 c) (h3 c),fun c hc=>(xF.1 hc).elim (h2 c) (h4 c)⟩
def zOU {σ ρ:Type} (P:Program) (cx:Cx) (its:List It) (slE:List (Nat×AV)) (Bs:σ->List Bx) (Br:ρ->List Bx) (cd:ρ->Code) (Q:Exit->Act->World->Prop):σ⊕ρ->Prop
 | .inl s=>JI true P its (Sx cx ⟨slE,Bs s⟩) Q
 | .inr r=>JI true P (.c (cd r)::its) (Sx cx ⟨slE,Br r⟩) Q
theorem zEx {σ ρ χ:Type} {P:Program} {gf:Nat} {caps:List AV} {ps:χ->List AV} {it:{σ:Type}->Rnd σ χ->σ->Option σ} {g:Operand} {prm:Array Tmp} {asg body:Code} {cx:Cx} {E:Env} {its:List It} {Q:Exit->Act->World->Prop} {s0:σ} {o:σ⊕ρ}
  (ok:ItOk P gf caps ps it) (L ks bs:List Nat) (slE:List (Nat×AV)) (Bs:σ->List Bx) (Br:ρ->List Bx) (cd:ρ->Code) (kb:σ->χ->Option (σ⊕ρ)) (Eb:σ->χ->Env)
  (hmk:cx.marked=true) (hg:E.opd g=some (.fv gf caps)) (heg:∀as w,(callFunc gf as).run P w= .ok (.enter gf as) w) (hL:okW L=true) (hLs:(L.all fun c=> !spB c)=true) (hcols:subN (AV.colsL caps) (0::L)=true)
  (hp:E.pick ks bs=some ⟨slE,Bs s0⟩) (hfs:(slE.all fun p=>p.2.free (1::L) [])=true) (hB0:zgZ (1::L) [] (Bs s0)=Bs s0) (hBs:∀s,zgZ [1] [] (Bs s)=Bs s) (hBr:∀r,zgZ [1] [] (Br r)=Br r)
  (hpk:(prm.toList.all fun q=> !memN q ks&&Nat.blt q cx.n.n)=true) (hks:(slE.all fun p=>memN p.1 ks)=true) (hprm:∀x,(ps x).length=prm.size)
  (hasg:∀(X:Ext) (old:Array Value) s x,J false P asg (Sx ⟨⟨cx.n.n,ks⟩,X,false,old⟩ ⟨zvQ prm.toList (ps x) slE,Bs s⟩) fun e a w=>e= .normal/\Sx ⟨⟨cx.n.n,ks⟩,X,false,old⟩ (Eb s x) a w)
  (hfree:∀s x,zqP [1] [] (Eb s x).sl=(Eb s x).sl/\zgZ [1] [] (Eb s x).bx=(Eb s x).bx)
  (kW:∀(X:Ext) (old:Array Value) s x o,kb s x=some o->J false P body (Sx ⟨⟨cx.n.n,ks⟩,X,false,old⟩ (Eb s x)) (match o with
   | .inl s'=>fun e a w=>e= .normal/\Sx ⟨⟨cx.n.n,ks⟩,X,false,old⟩ ⟨slE,Bs s'⟩ a w
   | .inr r=>fun e a w=>Jump e (cd r)/\Sx ⟨⟨cx.n.n,ks⟩,X,false,old⟩ ⟨slE,Br r⟩ a w))
  (hit:it (rnd kb) (.inl s0)=some o)
  (hk:zOU P cx its slE Bs Br cd Q o):JI true P (.c (.rangeFunc g prm asg body)::its) (Sx cx E) Q:=by
 intro a w hs;rw [zrS];intro ro hro;obtain rfl:=hro rfl;refine wpIn_rangeFunc fun fn _=>?_
 obtain ⟨γ0,hB,hS,hX⟩:=hs;obtain ⟨vs,hv,hcaps⟩:=Env.opd_rel hg hS;have hL2:=zuy hL;have h0L:0∉L:=fun h=>by have:=hL2 0 h;omega
 have h1L:1∉L:=fun h=>by have:=hL2 1 h;omega
 simp only [xI] at hfs hpk hks;have hslm:∀p∈slE,p∈E.sl:=by
  unfold Env.pick at hp;split at hp
  ·rename_i s' b' e1 e2;cases hp;exact zpD _ _ e1
  ·cases hp
 have hbxm:∀b∈Bs s0,b∈E.bx:=by
  unfold Env.pick at hp;split at hp
  ·rename_i s' b' e1 e2;simp only [yr,Env.mk.injEq] at hp;rw [<-hp.2];exact zpC _ _ e2
  ·cases hp
 obtain ⟨rec,kZ⟩:∃rec:LoopState->Option Code->Loop,rec=fun st pe=>{state:=st,pending:=pe,fn:=fn,tmps:=a.tmps,params:=prm,assign:=asg,body:=body,defers:=w.heap.size}:=⟨_,rfl⟩
 obtain ⟨W1,hW1⟩:∃W1,(w.alloc (.deferred (some []))).alloc (.loop (rec .ready none))=W1:=⟨_,rfl⟩;have hl1:W1.heap[w.heap.size+1]? =some (.loop (rec .ready none)):=by
  rw [<-hW1];have:=World.alloc_heap_new (w.alloc (.deferred (some []))) (.loop (rec .ready none));rwa [World.size_alloc] at this
 have hD1:W1.heap[w.heap.size]? =some (.deferred (some [])):=by
  rw [<-hW1];exact (Below.heap_alloc _ _ _ (by simp)).trans (World.alloc_heap_new w _)
 have kG:W1.heap.size=w.heap.size+2:=by rw [<-hW1];simp
 have hblk:∀b,b<w.heap.size->W1.heap[b]? =w.heap[b]? :=fun b hb=>by
  rw [<-hW1];exact (Below.heap_alloc _ _ _ (by simp;omega)).trans (Below.heap_alloc _ _ _ hb)
 have hos:W1.os=w.os/\W1.tape=w.tape/\W1.output=w.output:=by rw [<-hW1];exact ⟨rfl,rfl,rfl⟩
 have trn:∀γ γ':Gh,(∀b,b<w.heap.size->γ'.col b=γ.col b)->γ'.box=γ.box->(∀b,w.heap.size<=b->b<w.heap.size+2->γ'.col b≠0)->Tr [] [] γ w γ' W1:=fun γ γ' h1 h2 h3=>
  ⟨hos.1,hos.2.1,hos.2.2,by omega,fun b hb _=>hblk b hb,h1,fun ℓ _=>by rw [h2],fun b hb hb2 h0=>absurd h0 (h3 b hb (by omega))⟩
 obtain ⟨own0,hown0⟩:∃own0:Nat->Prop,own0=fun b=>b<w.heap.size/\γ0.col b∈L:=⟨_,rfl⟩
 obtain ⟨F,hF⟩:∃F:Fp,F=fun b=>b<w.heap.size/\γ0.col b=0:=⟨_,rfl⟩
 -- the iterator's view
 obtain ⟨γi,hγi⟩:∃γi:Gh,γi=⟨fun b=>if b<w.heap.size then (if γ0.col b∈L then γ0.col b else if γ0.col b=0 then 0 else 1) else 1,γ0.box⟩:=⟨_,rfl⟩;have hci:AV.relL γi W1 caps vs:=by
  refine AV.keepL caps (trn γi γi (fun _ _=>rfl) rfl (fun b h1 _=>by simp [hγi,Nat.not_lt.2 h1])) (fun c _ h=>by cases h) (fun c _ h=>by cases h) (AV.reghL caps (fun b hb hc=>?_) (fun ℓ _=>by rw [hγi]) hcaps);have:=zad hcols _ hc;rw [hγi]
  grind
 have hGi:ItG F own0 γi W1:=by
  rw [hγi,hF,hown0];refine ⟨fun b hb h0=>?_,fun b hb h2=>?_,fun b hb=>by rw [kG];exact xV hb.1 (by omega)⟩
  ·grind
  grind
 -- the caller's
 obtain ⟨γ1,hγ1⟩:∃γ1:Gh,γ1=⟨fun b=>if b<w.heap.size then (if γ0.col b∈L then 1 else γ0.col b) else 1,γ0.box⟩:=⟨_,rfl⟩;have h1same:∀(C:List Nat),(∀c∈C,c∉1::L)->∀b,b<w.heap.size->γ0.col b∈C->γ1.col b=γ0.col b:=fun C hC b hb hc=>by
  simp_all
 have tr1:Tr [] [] γ1 w γ1 W1:=trn γ1 γ1 (fun _ _=>rfl) rfl (fun b h1 _=>by simp [hγ1,Nat.not_lt.2 h1]);have hI0:CI cx.X a.defers F (w.heap.size+1) w.heap.size rec a.tmps slE Bs Br cd (.inl s0) own0 W1 γ1:=by
  have ha:zxC γ0 ⟨fun b=>if γ0.col b∈L then 2 else γ0.col b,γ0.box⟩:=by
   refine ⟨fun b hb=>by simp [hb,h0L],fun b hb=>by simp [hb,h1L],fun b hb=>?_,fun b hb=>?_⟩
   ·grind
   grind
  have htx:Tr [] [] ⟨fun b=>if γ0.col b∈L then 2 else γ0.col b,γ0.box⟩ w ⟨fun b=>if b<w.heap.size then (if γ0.col b∈L then 2 else γ0.col b) else if b<w.heap.size+2 then 2 else 1,γ0.box⟩ W1:=
   trn _ _ (fun b hb=>by simp [hb]) rfl (fun b h1 h2=>by simp [Nat.not_lt.2 h1,h2])
  refine ⟨⟨_,cx.X.tr (cx.X.ren hB.ext ha) htx (fun c hc=>by cases hc) (fun c hc=>by cases hc),(hB.defers.ren ha).tr htx (fun c hc=>by cases hc),by rw [hγ1],fun b hz=>?_,fun b hz=>?_,fun b hz=>?_⟩,fun b hb=>?_,?_,?_,hD1,fun p hp=>?_,fun c hc=>?_,hl1⟩
  ·rw [hown0] at hz;rcases hz with ⟨h1,h2⟩| rfl| rfl
   ·simp [h1,h2,hγ1]
   ·have q1:¬w.heap.size+1<w.heap.size:=by omega
    have q2:w.heap.size+1<w.heap.size+2:=by omega
    simp only [hγ1,xq q1,xr q2,and_self]
   simp_all
  ·rw [hown0] at hz;by_cases hb:b<w.heap.size
   ·have hm:γ0.col b∉L:=fun hm=>hz (.inl ⟨hb,hm⟩)
    simp [hγ1,hb,hm]
   ·have hb2:¬b<w.heap.size+2:=fun h=>hz (by
     have:b=w.heap.size+1\/b=w.heap.size:=by omega
     exact .inr this)
    simp [hγ1,hb,hb2]
  ·rw [hown0] at hz;rw [kG];rcases hz with ⟨h1,h2⟩| rfl| rfl<;>omega
  ·rw [hF] at hb;refine ⟨?_,by rw [kG];exact xV hb.1 (by omega)⟩;simp [hγ1,hb.1,hb.2,h0L]
  ·rw [hown0];intro h;have:=h.1;omega
  ·rw [hown0];intro h;have:=h.1;omega
  ·obtain ⟨f1,f2⟩:=AV.free_spec (hfs p hp);exact p.2.keep tr1 (fun c _ h=>by cases h) (fun c _ h=>by cases h) (AV.regh p.2 (h1same _ f1) (fun ℓ _=>by rw [hγ1]) (hS p (hslm p hp)))
  ·have hc':c∈zgZ (1::L) [] (Bs s0):=by rw [hB0];exact hc
   obtain ⟨k1,k2⟩:=zEB hc';obtain ⟨k3,_⟩:=zHL k2;obtain ⟨g1,cs,g2,g3,g4⟩:=hX c (hbxm c hc);have km:=(yh.1 g2).1;have hbox:γ1.box=γ0.box:=by rw [hγ1]
   refine ⟨?_,cs,?_,AV.keepL c.avs tr1 (fun c _ h=>by cases h) (fun c _ h=>by cases h) (AV.reghL c.avs (h1same _ k3) (fun ℓ _=>by rw [hbox]) g3),g4⟩
   ·rw [hbox];have:=h1same [c.lab] (fun d hd=>by simp at hd;rw [hd];exact k1) (γ0.box c.lab) km (by rw [g1];exact xt);rw [this];exact g1
   ·rw [hbox,hblk _ km];exact g2
 have hfs1:∀p∈slE,p.2.free [1] []=true:=fun p hp=>by
  obtain ⟨f1,f2⟩:=AV.free_spec (hfs p hp);unfold AV.free;simp only [xw,xI,xZ];refine ⟨fun c hc=>?_,fun c hc=>rfl⟩;cases hm:memN c [1] with
  | false=>rfl
  | true=>have:=zaf.1 hm;exact absurd (xy.2 (.inl (by simpa using this))) (f1 c hc)
 have hT:=CI.takes (P:=P) (X:=cx.X) (ds:=a.defers) (F:=F) (l:=w.heap.size+1) (D:=w.heap.size) (rec:=rec) (old:=a.tmps) (slE:=slE) (Bs:=Bs) (Br:=Br) (cd:=cd) (asg:=asg) (body:=body) (prm:=prm) (N:=cx.n.n) (ks:=ks) (kb:=kb) (ps:=ps) (Eb:=Eb)
  fn kZ hB.size (by omega) hfs1 hBs hBr (fun p hp=>zaf.1 (hks p hp)) (fun q hq=>by
   have:=hpk q hq;simp only [xw] at this;exact ⟨zec this.1,qL (xP this.2)⟩) hprm hasg hfree kW
 refine ⟨w.heap.size+1,[{target:= .collected w.heap.size,args:=#[]}],W1,{target:= .fn (.func gf) vs.toArray,args:=#[.func (.yield (w.heap.size+1)) #[] #[]]},W1,gf,
  (.func (.yield (w.heap.size+1)) #[] #[]::vs).toArray,W1,?_,?_,fun _ _=>trivial,?_,nofun,?_⟩
 ·rw [<-hW1,kZ];exact run_enterLoop_outer _ _ _ _ _
 ·simp only [resolve,hv];simp [go_sem]
 ·simp [invoke,go_sem,heg]
 ·refine ztf.2 (Calls.mono (ok (σ⊕ρ) (rnd kb) (.inl s0) o hit (w.heap.size+1) γi W1 F own0 vs _ hci hGi (CI.abid hfs1 hBs hBr) hT ⟨γ1,hI0⟩) ?_);rintro e W2 ⟨⟨v,rfl⟩,own',γ4,h4⟩;have hend:=run_endLoop (P:=P) h4.lp (by cases o<;>simp [lpOf,kZ]);obtain ⟨w4,hw4⟩:∃w4,W2.putObj (w.heap.size+1) (.loop {lpOf rec cd o with state:= .exhausted})=w4:=⟨_,rfl⟩;rw [hw4] at hend;refine ⟨_,_,hend,?_⟩;have hZl:Zof own' (w.heap.size+1) w.heap.size (w.heap.size+1):= .inr (.inl rfl);have hsx:Sx cx ⟨slE,bxOf Bs Br o⟩ {a with defers:=[{target:= .collected w.heap.size,args:=#[]}]++a.defers} w4:=by
   have hLl:Lets (fun b=>b=w.heap.size+1) W2 w4:=by rw [<-hw4];exact Lets.put (Z:=fun b=>b=w.heap.size+1) rfl _
   have hT4:=zoR hLl fun b e=>by rw [e];exact h4.two.one _ hZl
   have hout:=(show Two cx.X a.defers (Zof own' (w.heap.size+1) w.heap.size) (zbF γ4 W2.heap.size) w4 by rw [<-hw4];exact h4.two.put hZl _).out;refine ⟨zbF γ4 W2.heap.size,⟨?_,(fun e=>by rw [hmk] at e;cases e),hB.size,hB.kept,hout.1⟩,fun p hp=>?_,?_⟩
   ·obtain ⟨Ds,hd,hnd,hDs⟩:=hout.2;obtain ⟨Ds0,hd0,_,hDs0⟩:=hB.defers;refine ⟨w.heap.size::Ds,by simp only [xJ,<-hd];rfl,pS.2 ⟨fun hm=>?_,hnd⟩,fun D hD=>?_⟩
    ·have:({target:= .collected w.heap.size,args:=#[]}:Deferred)∈a.defers:=by rw [hd];exact xA.2 ⟨_,hm,rfl⟩
     rw [hd0] at this;obtain ⟨D',hD',e⟩:=xA.1 this;have e':D'=w.heap.size:=by injection e with e1;injection e1
     have:=(yh.1 (hDs0 D' hD').2.1).1;omega
    ·rcases xy.1 hD with rfl| hD
     ·have hDl:=(yh.1 h4.blk).1;refine ⟨cx.X.le hB.ext,(hLl.block _ hDl (by omega)).trans h4.blk,?_⟩;simp [zbF,hDl];exact h4.two.one _ (.inr (.inr rfl))
     ·exact hDs D hD
   ·obtain ⟨f1,f2⟩:=AV.free_spec (hfs1 p hp);exact p.2.keep hT4 f1 f2 (h4.sl p hp)
   ·have:=h4.bx.tr hT4;cases o with
    | inl s=>rw [show bxOf Bs Br (Sum.inl s)=Bs s from rfl,hBs] at this;exact this
    | inr r=>rw [show bxOf Bs Br (Sum.inr r)=Br r from rfl,hBr] at this;exact this
  cases o with
  | inl s=>
   have hpn:(lpOf rec cd (Sum.inl s:σ⊕ρ)).pending=none:=by simp [lpOf,kZ]
   rw [hpn];exact hk _ _ hsx
  | inr r=>
   have hpn:(lpOf rec cd (Sum.inr r:σ⊕ρ)).pending=some (cd r):=by simp [lpOf,kZ]
   rw [hpn];exact hk _ _ hsx none (fun _=>rfl)
theorem zAW (N:Nat) (hf:P.funcs[f]? =some fn) (hb:fn.body=some c) (hN:fn.ntmps=N) (ku:Nat.ble ins.length N=true) (hres:zlY P E fn.results.toList ky)
  (hE1:zqP [1] [] E.sl=E.sl) (hE2:zgZ [1] [] E.bx=E.bx)
  (hj:∀X:Ext,J true P c (Sx ⟨⟨N,[]⟩,X,true,#[]⟩ ⟨znS 0 ins,[]⟩) fun e a w=>e= .ret/\Sx ⟨⟨N,[]⟩,X,true,#[]⟩ E a w):FnOk P f ins ky:=by
 subst hN;intro w F vs hr;have hl:=zbx hr;have ku:=xP ku;refine (ztf (ro:=none) (n:=0)).1 (callsIn_of_wp_marks (F:=RF none) hf hb trivial (qX (hj (fnX w F) {tmps:=vs.toArray++Array.replicate (fn.ntmps - vs.toArray.size) undef,defers:=[]} w ⟨gh0 F,⟨⟨[],rfl,qr,fun D hD=>by cases hD⟩,(fun _=>rfl),?_,(fun k hk=>by cases hk),Below.refl _ _,fun b _=>?_,fun b h1 h2=>by omega⟩,?_,fun b hb=>by cases hb⟩ none (fun _=>rfl)) ?_))
 ·simp [hl];omega
 ·by_cases hF:F b<;>simp [gh0,hF]
 ·intro p hp;have:=zpm hr [] (List.replicate (fn.ntmps - vs.length) undef) p hp;simp only [xH] at this;have e:(vs++List.replicate (fn.ntmps - vs.length) undef).toArray=vs.toArray++Array.replicate (fn.ntmps - vs.toArray.size) undef:=by simp
  grind
 ·rintro e a w1 ⟨rfl,γ,hB,hS,hX⟩;obtain ⟨Ds,hd,hnd,hDs⟩:=hB.defers;obtain ⟨hx1,hx2,hx3⟩:=hB.ext;show LeavesInM (RF none) 0 P fn a.tmps _ a.defers .returning w1;rw [hd]
  have key:∀(Ds:List Nat) (w2:World),Ds.Nodup->(∀D∈Ds,w.heap.size<=D/\w2.heap[D]? =some (.deferred (some []))/\γ.col D=1)->Lets (fun b=>γ.col b=1/\w.heap.size<=b) w1 w2->w2.heap.size=w1.heap.size->
    LeavesInM (RF none) 0 P fn a.tmps (fun e w'=>∃γ us,e= .returned (ziM us)/\Below w.heap.size w w'/\
     ((∀b,b<w.heap.size->(γ.col b=0/\F b)\/γ.col b=1)/\∀b,w.heap.size<=b->b<w'.heap.size->γ.col b≠0)/\AV.relL γ w' ky us) (Ds.map fun D=>{target:= .collected D,args:=#[]}) .returning w2:=by
   intro Ds
   induction Ds with
   | nil=>
    intro w2 _ _ hLs kG;have hT:=zoR hLs fun b hb=>hb.1
    have hS2:=hS.tr hT;have hX2:=hX.tr hT;rw [hE1] at hS2;rw [hE2] at hX2;obtain ⟨us,hu,hu'⟩:=zjg (P:=P) (fn:=fn) hS2 hX2 hres;refine ⟨_,hu,zbF γ w1.heap.size,us,rfl,⟨hLs.os.trans hx1.os,hLs.tape.trans hx1.tape,hLs.output.trans hx1.output,yg hx1.size hLs.size,fun b hb=>?_⟩,⟨fun b hb=>?_,fun b h1 h2=>?_⟩,hu'⟩
    ·rw [hLs.block b (xV hb hx1.size) (fun h=>by have:=h.2;omega)];exact hx1.block b hb
    ·have h1:=xV hb hx1.size;simp only [zbF,xr h1];exact hx2 b hb
    ·rw [kG] at h2;simp only [zbF,xr h2];exact hx3 b h1 h2
   | cons D Ds ih=>
    intro w2 hnd hDs hLs kG;obtain ⟨n1,n2⟩:=pS.1 hnd;obtain ⟨g0,g1,g2⟩:=hDs D xt;refine ⟨nofun,.inl ⟨D,w2.putObj D (.deferred none),rfl,run_takeDeferred g1,ih _ n2 (fun D' hD'=>?_) ⟨hLs.os,hLs.tape,hLs.output,by simpa using hLs.size,fun b hb hn=>?_⟩ (by simpa using kG)⟩⟩
    ·obtain ⟨k0,k1,k2⟩:=hDs D' (xu _ hD');exact ⟨k0,(World.putObj_heap_other fun e=>n1 (by rw [<-e];exact hD')).trans k1,k2⟩
    ·rw [World.putObj_heap_other (fun e=>hn (by rw [e];exact ⟨g2,g0⟩))];exact hLs.block b hb hn
  exact key Ds w1 hnd hDs ⟨rfl,rfl,rfl,xx _,fun _ _ _=>rfl⟩ rfl
section
variable {m:Bool} {P:Program} {l:List It} {cx:Cx} {E E1:Env} {Q:Exit->Act->World->Prop} {id:Nat} {c:Code}
theorem zPj (h:zdM E E1):JI m P [] (Sx cx E) fun e a w=>(e= .normal\/e= .ret)/\Sx cx E1 a w:=zLh fun _ _ hs=>⟨.inl rfl,h.go hs⟩
theorem zPk (h:zdM E E1):JI m P (.c .ret::l) (Sx cx E) fun e a w=>(e= .normal\/e= .ret)/\Sx cx E1 a w:=zyy fun _ _ hs=>⟨.inr rfl,h.go hs⟩
theorem zPm (h:zdM E E1):∀e a w,(e= .ret/\Sx cx E a w)->zhA m P (fun e a w=>(e= .normal\/e= .ret)/\Sx cx E1 a w) l e a w:=zIg fun _ _ hs=>⟨.inr rfl,h.go hs⟩
theorem zIb (h:zdM E E1):JI m P (.c .ret::l) (Sx cx E) fun e a w=>Jump e .ret/\Sx cx E1 a w:=zyy fun _ _ hs=>⟨trivial,h.go hs⟩
theorem zLd {σ ρ:Type} (body:σ->Option (σ⊕ρ)) (Cs:σ->Cx) (Es:σ->Env) (R:ρ->Exit->Act->World->Prop)
  (hb:∀s o,body s=some o->J m P c (Sx (Cs s) (Es s)) (match o with
   | .inl s'=>fun e a w=>e= .normal/\Sx (Cs s') (Es s') a w
   | .inr r=>fun e a w=>e≠ .normal/\R r e a w))
  {s:σ} {r:ρ} (h:zW body s=some r) (hC:cx=Cs s) (hS:zdM E (Es s)) (k:∀e a w,R r e a w->zhA m P Q l e a w):JI m P (.c (.loop c)::l) (Sx cx E) Q:=
 zId body (fun s=>Sx (Cs s) (Es s)) R hb h (fun _ _ hs=>by subst hC;exact hS.go hs) k
end
abbrev kI (x:Int):AV:= .lf (.int .i64 x)
abbrev kU (x:Int):AV:= .lf (.int .u64 x)
abbrev k8 (x:Int):AV:= .lf (.int .u8 x)
abbrev kB (x:Bool):AV:= .lf (.bool x)
abbrev kS (x:List UInt8):AV:= .lf (.str x)
abbrev kN:AV:= .lf (.val (.slice none 0 0))
theorem bnd {α β:Type} {x:Option α} {f:α->Option β} {r:β} (h:(x>>=f)=some r):∃a,x=some a/\f a=some r:=zGk h
theorem jb {α β:Type} {x:Option α} {f:α->Option β} {r:β} {G:Prop} (h:(x>>=f)=some r) (k:∀a,x=some a->f a=some r->G):G:=let ⟨a,e,q⟩:=bnd h;k a e q
theorem sj {α:Type} {a b:α} (h:some a=some b):a=b:=qO h
def Env.keys (E:Env):List Nat:=E.sl.map (·.1)
def Env.labs (E:Env):List Nat:=E.bx.map (·.lab)
def nthO {α:Type}:List α->Nat->Option α
 | [],_=>none
 | x::_,0=>some x
 | _::l,n+1=>nthO l n
theorem zoE {α:Type}:∀{l:List α} {n:Nat} {x:α},nthO l n=some x->l.drop n=x::l.drop (n+1)
 | [],_,_,h=>by cases h
 | y::l,0,x,h=>by cases h;rfl
 | y::l,n+1,x,h=>by
  have:=zoE (l:=l) (n:=n) h;simpa using this
def zlo (E:Env):List Operand->Option (List AV)
 | []=>some []
 | x::l=>match E.opd x,zlo E l with
  | some a,some r=>some (a::r)
  | _,_=>none
theorem zpz :∀{ins:List (Operand×AV)},zlo E (ins.map (·.1))=some (ins.map (·.2))->zqr E ins
 | [],_=>trivial
 | p::l,h=>by
  simp only [xJ,zlo] at h;split at h
  ·rename_i a r h1 h2;simp only [yr,yM] at h;obtain ⟨rfl,rfl⟩:=h;exact ⟨h1,zpz h2⟩
  ·cases h
theorem zzf :∀{bxs:List Bx},zrq E.bx (bxs.map (·.lab))=some bxs->zAG E bxs
 | [],_=>trivial
 | b::l,h=>by
  simp only [xJ,zrq] at h;split at h
  ·rename_i a r h1 h2;simp only [yr,yM] at h;obtain ⟨rfl,rfl⟩:=h;exact ⟨h1,zzf h2⟩
  ·cases h
section
variable {P:Program} {N:Lim} {ops:Array Oper} {kl:List Oper} {E E':Env} {o:Oper} {ins:List (Operand×AV)} {bxs:List Bx} {W V:List Nat} {av:AV} {bs:List Bx}
def zOS (t:Nat) (b:Bool) (E:Env):Env:=⟨E.sl.map fun p=>match Nat.beq p.1 t with
 | true=>(p.1,.lf (.bool b))
 | false=>p,E.bx⟩
theorem zON (x o:Nat) (h:(Nat.ble 2 x&&Nat.ble 2 o&& !spB x)=true) (k:zdM (E.ren x o) E'):zdM E E':=(zPs x o h).trans k
end
section
variable {m:Bool} {P:Program} {l l':List It} {cx:Cx} {E E1:Env} {Q:Exit->Act->World->Prop} {id:Nat} {ops:List Oper}
theorem zx (h:zdM E E1):JI m P (.c .ret::l) (Sx cx E) fun e a w=>e= .ret/\Sx cx E1 a w:=zyy fun _ _ hs=>⟨rfl,h.go hs⟩
theorem zrZ (h:zdM E E1):JI m P (.c .ret::l) (Sx cx E) fun e a w=>e≠ .normal/\e= .ret/\Sx cx E1 a w:=zyy fun _ _ hs=>⟨nofun,rfl,h.go hs⟩
theorem zV (h:zdM E E1):JI m P [] (Sx cx E) fun e a w=>e= .normal/\Sx cx E1 a w:=zLh fun _ _ hs=>⟨rfl,h.go hs⟩
theorem zae (he:zsO id l=none) (h:zdM E E1):JI m P (.c (.exit id)::l) (Sx cx E) fun e a w=>e≠ .normal/\e= .exit id/\Sx cx E1 a w:=zLg he fun _ _ hs=>⟨nofun,rfl,h.go hs⟩
end
section
variable {m:Bool} {P:Program} {l:List It} {cx:Cx} {E E1:Env} {Q:Exit->Act->World->Prop} {c:Code}
theorem zNp {σ ρ:Type} (body:σ->Option (σ⊕ρ)) (Es:σ->Env) (R:ρ->Exit->Act->World->Prop)
  (hb:∀s o,body s=some o->J m P c (Sx cx (Es s)) (match o with
   | .inl s'=>fun e a w=>e= .normal/\Sx cx (Es s') a w
   | .inr r=>fun e a w=>e≠ .normal/\R r e a w))
  {s:σ} {r:ρ} (h:zW body s=some r) (hS:zdM E (Es s)) (k:∀e a w,R r e a w->zhA m P Q l e a w):JI m P (.c (.loop c)::l) (Sx cx E) Q:=
 zId body (fun s=>Sx cx (Es s)) R hb h (fun _ _ hs=>hS.go hs) k
theorem zgY (h:zdM E E1):∀e a w,(e= .ret/\Sx cx E a w)->zhA m P (fun e a w=>e= .ret/\Sx cx E1 a w) l e a w:=zIg fun _ _ hs=>⟨rfl,h.go hs⟩
theorem zCE (h:zdM E E1):∀e a w,(e= .ret/\Sx cx E a w)->zhA m P (fun e a w=>e≠ .normal/\e= .ret/\Sx cx E1 a w) l e a w:=zIg fun _ _ hs=>⟨nofun,rfl,h.go hs⟩
end
theorem zPw {P:Program} {o:Oper} {α:Type} {r:Rp α} {e ℓ:Nat} {C:List Nat} {xs:List α} {k:IntKind} {i:Int} {x:α} {t e':TypeId} {y z:Operand} {bytes:Nat}
  (ho:o.op= .indexAddr t y z) (hT:ElT P t e' r.size bytes) (hx:idx xs i=some x):zB P o [(y,.own r e ℓ C xs),(z,.lf (.int k i))] [] [] [] (.ptr ℓ (i.toNat*r.size)) []:=by
 refine zF fun γ ev w hi _=>?_
 obtain ⟨cs,kQ,hg,hA,hn⟩:=hi (y,.own r e ℓ C xs) (by simp);have h2:=zdU (hi (z,.lf (.int k i)) (by simp));simp only at kQ hg h2;obtain ⟨i0,i1,_⟩:=zuh hx;rcases kQ.2 with ⟨_,hz⟩| ⟨g,kC,kM,hv,_,hh,hnc,hcm,hcs,htake⟩
 ·omega
 ·have hbox:=(hg g (by rw [hv];rfl)).2;refine ⟨.pointer (some ⟨g,0+i.toNat*r.size,none⟩),w,γ,by simp [execOp,ho,hv,h2,zwF hT w g 0 _ kC k i i0 i1],Tr.refl _ _ _ _,?_,fun b hb=>by cases hb⟩;show _=_;rw [hbox,xK]
theorem zKR {α:Type} (r:Rp α) (xs:List α) (i f:Nat) (x x':α) (ls:List LV) (hx:xs[i]? =some x) (hf:f+ls.length<=r.size) (h:r.lv x'=(r.lv x).take f++ls++(r.lv x).drop (f+ls.length)):
  (xs.set i x').flatMap r.lv=(xs.flatMap r.lv).take (i*r.size+f)++ls++(xs.flatMap r.lv).drop (i*r.size+f+ls.length):=by
 have hi:=(yA.1 hx).1;have hs:xs=xs.take i++x::xs.drop (i+1):=by
  have h1:=(yA.1 hx).2;rw [<-h1,<-yf hi,qn]
 have hA:((xs.take i).flatMap r.lv).length=i*r.size:=by rw [r.flat,xS,yU (by omega)]
 have hB:=r.len x;have e:xs.flatMap r.lv=(xs.take i).flatMap r.lv++(r.lv x++(xs.drop (i+1)).flatMap r.lv):=by
  have:=congrArg (List.flatMap r.lv) hs;rw [ym,xE] at this;exact this
 have e1:(xs.flatMap r.lv).take (i*r.size+f)=(xs.take i).flatMap r.lv++(r.lv x).take f:=by
  rw [e,qV,hA,yR (by omega),uy,ul (by omega)]
 have e2:(xs.flatMap r.lv).drop (i*r.size+f+ls.length)=(r.lv x).drop (f+ls.length)++(xs.drop (i+1)).flatMap r.lv:=by
  rw [e,List.drop_append,hA,yo (by omega),xH,show i*r.size+f+ls.length - i*r.size=f+ls.length by omega,pr (by omega)]
 rw [ur,xr hi,ym,xE,h,e1,e2];simp only [yj]
theorem zMk {v:Int} {y:UInt8} (h:zhL v=some y) (x:UInt8):Rp.byte.lv y=(Rp.byte.lv x).take 0++[LV.int .u8 v]++(Rp.byte.lv x).drop (0+[LV.int .u8 v].length):=by rw [zDR h];rfl
theorem zNk {α:Type} {xs:List α} {i:Int} {x:α} (h:idx xs i=some x):xs[i.toNat]? =some x:=by
 unfold idx at h;split at h
 ·exact h
 ·cases h
theorem zPN {P:Program} {N:Lim} {ops:Array Oper} {kl:List Oper} {E E':Env} {o:Oper} {α:Type} {r:Rp α} {e ℓ:Nat} {C:List Nat} {xs:List α} {t:TypeId} {y z:Operand} {a:AV} {ls:List LV} {off:Nat}
  (ks:List Nat) (i f:Nat) (x x':α) (C2:List Nat) (hg:zgy ops E o=some true) (ho:o.op= .store t y z) (hd:o.dst=none) (hy:E.opd y=some (.ptr ℓ off)) (hz:E.opd z=some a) (hp:zrm a=some ls) (kG:∀w,(sizeOf t).run P w= .ok ls.length w)
  (hoff:off=i*r.size+f) (hk:E.pick ks []=some ⟨ks.map fun k=>(k,.own r e ℓ C xs),[]⟩) (kO:ks.isEmpty=false) (hx:xs[i]? =some x) (hf:Nat.ble (f+ls.length) r.size=true)
  (hx':r.lv x'=(r.lv x).take f++ls++(r.lv x).drop (f+ls.length)) (hC:(subN a.cols C2&&subN C C2&& !memN ℓ C2&&Nat.ble 2 ℓ)=true)
  (k:zaM P N ops kl ⟨(ks.map fun k=>(k,.own r e ℓ C2 (xs.set i x')))++(E.step [ℓ] [] none .any []).sl,(E.step [ℓ] [] none .any []).bx⟩ E'):zaM P N ops (o::kl) E E':=by
 intro cx a' w Q hn hs hQ;simp only [xw] at hC;obtain ⟨⟨⟨hC1,hC2⟩,hC3⟩,hC4⟩:=hC;have hs2:=hs;obtain ⟨γ,hB,hS,hX⟩:=hs;have hsl:∀kk∈ks,AV.rel γ w (.own r e ℓ C xs) (a'.tmps.getD kk undef):=by
  have hS1:Sl γ w a' (ks.map fun k=>(k,AV.own r e ℓ C xs)):=by
   have hk':=hk;unfold Env.pick at hk';split at hk'
   ·rename_i s b h1 h2;simp only [yr,Env.mk.injEq] at hk';rw [<-hk'.1];exact fun p hp=>hS p (zpD _ _ h1 p hp)
   ·cases hk'
  intro kk hkk;exact hS1 (kk,.own r e ℓ C xs) (xA.2 ⟨kk,hkk,rfl⟩)
 obtain ⟨k0,hk0⟩:∃k0,k0∈ks:=by
  cases ks with
  | nil=>cases kO
  | cons k0 ks=>exact ⟨k0,xt⟩
 obtain ⟨cs,kQ,kH,hA,hnC⟩:=hsl k0 hk0;have hi:=(yA.1 hx).1;rcases kQ.2 with ⟨_,hz0⟩| ⟨g,kC,kM,hv,_,hh,hnc,hcm,hcs,htake⟩
 ·omega
 ·obtain ⟨kR,hbox⟩:=kH g (by rw [hv];rfl);have hf':=xP hf;have h1:a'.eval y= .pointer (some ⟨g,off,none⟩):=by
   have:=Env.opd_rel hy hS;rw [show a'.eval y=_ from this,hbox]
  have hzr:=Env.opd_rel hz hS;have hV:=ztt hp hzr hC1;have hVl:(a'.eval z).cells.toList.length=ls.length:=hV.1.symm;have hcl:cs.length=xs.length*r.size:=kQ.1;have hin:i*r.size+f+ls.length<=xs.length*r.size:=by
   have:(i+1)*r.size<=xs.length*r.size:=yI _ hi;rw [qI] at this;omega
  have hcap:xs.length*r.size<=kC*r.size:=yI _ hnc;have hst:=pP P g off e (a'.eval z).cells.toList 0 kM w hh (by rw [hVl,hoff,hcs];omega) hV.one;simp only [yz,hVl] at hst;have kF:(execOp a'.eval o).run P w= .ok .skip (w.setRow g (kM.toList.take off++(a'.eval z).cells.toList++kM.toList.drop (off+ls.length)).toArray):=by
   have hsz':(a'.eval z).cells.size=ls.length:=by simpa using hVl
   simp [execOp,ho,h1,Instr.storeAt,Instr.sureAddr,storeVar,kG,hsz',hst]
  have hcol':γ.col (γ.box ℓ)=ℓ:=by rw [hbox];exact kR
  have ht:=zDz (w:=w) hcol' (kM.toList.take off++(a'.eval z).cells.toList++kM.toList.drop (off+ls.length)).toArray;rw [hbox] at ht;refine zjx (zgX hg hS) (zyW kF ?_);rw [hd];have hnot:∀c∈C2,c∉[ℓ]:=fun c hc h=>by
   simp only [xy,xL,xM] at h;subst h;exact zec hC3 hc
  have hA2:zX (γ.F C2) w (xs.flatMap r.lv) cs:=hA.mono fun b _ hb=>zad hC2 _ hb
  refine k cx _ _ Q hn ⟨γ,(hB.tr ht (W:=[ℓ]) (V:=[]) (by simp [okW,hC4]) rfl).put _ _ (fun k hk=>by first| cases hk| (rw [hd] at hk;cases hk)),?_,hX.tr ht⟩ hQ;intro p hp;rcases xF.1 hp with hp| hp
  ·obtain ⟨kk,hkk,rfl⟩:=xA.1 hp;obtain ⟨cs1,hown1,hgb1,_,_⟩:=hsl kk hkk;show AV.rel γ _ (.own r e ℓ C2 (xs.set i x')) (a'.tmps.getD kk undef);rcases hown1.2 with ⟨_,hz0⟩| ⟨g1,cap1,cur1,hv1,_,hh1,hnc1,hcm1,hcs1,htake1⟩
   ·omega
   ·have hg1:g1=g:=by rw [<-(hgb1 g1 (by rw [hv1];rfl)).2,hbox]
    subst hg1;rw [hh] at hh1;simp only [yr,Obj.cells.injEq] at hh1;obtain ⟨rfl,_⟩:=hh1;have ecs:cs1=cs:=by rw [<-htake1,<-htake]
    subst ecs;have hcurl:kM.toList.length=kC*r.size:=by rw [yJ,hcs]
    have hcap1:xs.length*r.size<=cap1*r.size:=yI _ hnc1;refine ⟨cs1.take off++(a'.eval z).cells.toList++cs1.drop (off+ls.length),⟨?_,.inr ⟨g1,cap1,_,hv1.trans ?_,xC _,qq w _ _ _ _ _ hh,?_,hcm1,?_,?_⟩⟩,?_,?_,fun hc=>zec hC3 hc⟩
    ·simp only [xz,xS,xR,hVl,List.length_set,hcl,hoff];omega
    ·simp
    ·simpa using hnc1
    ·simp only [qf,xz,xS,xR,hVl,hcurl,<-hcs1,hcs];omega
    ·have e1:kM.toList.take off=cs1.take off:=by rw [<-htake,qo,yU (by omega)]
     have e2:(kM.toList.drop (off+ls.length)).take (xs.length*r.size - (off+ls.length))=cs1.drop (off+ls.length):=by
      rw [<-htake,qx]
     have e3:(cs1.take off++(a'.eval z).cells.toList).length=off+ls.length:=by simp only [xz,xS,hVl,hcl,hoff];omega
     rw [List.length_set,e1,qV,e3,yR (by omega),e2]
    ·intro g2 hg2;have:g2=g1:=by rw [hv1] at hg2;simpa [Value.ownBlock] using hg2.symm
     subst this;exact ⟨kR,hbox⟩
    ·rw [zKR r xs i f x x' ls hx hf' hx',<-hoff];exact ((ht.all hnot (hA2.take off)).append (ht.all hnot hV)).append (ht.all hnot (hA2.drop (off+ls.length)))
  ·exact ((hS.tr ht):Sl _ _ _ _) p hp
set_option linter.unusedSectionVars false
def znF (γ:Gh) (w:World) (γ':Gh) (w':World) (p:AV×AV):Prop:=∀v,p.1.rel γ w v->p.2.rel γ' w' v
def zsM (W V:List Nat) (T:List (AV×AV)) (a a':AV):Prop:=∀γ w γ' w',Tr W V γ w γ' w'->(∀p∈T,znF γ w γ' w' p)->∀v,a.rel γ w v->a'.rel γ' w' v
def zpa (W V:List Nat) (T:List (AV×AV)):List AV->List AV->Prop
 | [],[]=>True
 | a::l,b::m=>zsM W V T a b/\zpa W V T l m
 | _,_=>False
section
variable {W V:List Nat} {T:List (AV×AV)} {a a':AV} {l l':List AV}
theorem zq (h:a.free W V=true):zsM W V T a a:=fun _ _ _ _ t _ v hv=>a.keep t (AV.free_spec h).1 (AV.free_spec h).2 hv
theorem zQe:zsM W V T a .any:=fun _ _ _ _ _ _ _ _=>trivial
theorem zeF (i:Nat) (h:T[i]? =some (a,a')):zsM W V T a a':=fun _ _ _ _ _ hT v hv=>hT _ (qS h) v hv
theorem zpa.rel (t:Tr W V γ w γ' w') (hT:∀p∈T,znF γ w γ' w' p):∀{l l':List AV} {vs:List Value},zpa W V T l l'->AV.relL γ w l vs->AV.relL γ' w' l' vs
 | [],[],_,_,h=>h
 | a::l,b::m,_,h,hr=>by
  obtain ⟨v,vs',rfl,h1,h2⟩:=hr;exact ⟨v,vs',rfl,h.1 _ _ _ _ t hT v h1,zpa.rel t hT h.2 h2⟩
 | [],_::_,_,h,_=>h.elim
 | _::_,[],_,h,_=>h.elim
theorem ziB (h:zpa W V T l l'):zsM W V T (.ag l) (.ag l'):=fun _ _ _ _ t hT v ⟨vs,hv,hL,h1⟩=>⟨vs,hv,h.rel t hT hL,h1⟩
end
def SlT (W V:List Nat) (T:List (AV×AV)) (l:List (Nat×AV)):List (Nat×AV)->Prop
 | []=>True
 | p::r=>(∃a,lookup l p.1=some a/\zsM W V T a p.2)/\SlT W V T l r
def BxT (W V:List Nat) (T:List (AV×AV)) (l:List Bx):List Bx->Prop
 | []=>True
 | b::r=>(∃c,zgW l b.lab=some c/\c.typ=b.typ/\(!memN b.lab W&& !memN b.lab V)=true/\zpa W V T c.avs b.avs)/\BxT W V T l r
section
variable {W V:List Nat} {T:List (AV×AV)} {γ γ':Gh} {w w':World}
theorem SlT.rel (t:Tr W V γ w γ' w') (hT:∀p∈T,znF γ w γ' w' p) (hs:Sl γ w a l):∀{r:List (Nat×AV)},SlT W V T l r->Sl γ' w' a r
 | [],_,p,hp=>by cases hp
 | q::r,h,p,hp=>by
  obtain ⟨⟨x,hx,ht⟩,h2⟩:=h;cases hp with
  | head=>exact ht _ _ _ _ t hT _ (hs _ (zdC hx))
  | tail _ hp=>exact SlT.rel t hT hs h2 p hp
theorem BxT.rel (t:Tr W V γ w γ' w') (hT:∀p∈T,znF γ w γ' w' p) (hs:Bxs γ w l):∀{r:List Bx},BxT W V T l r->Bxs γ' w' r
 | [],_,p,hp=>by cases hp
 | q::r,h,p,hp=>by
  obtain ⟨⟨c,hc,hty,hWV,ht⟩,h2⟩:=h;cases hp with
  | head=>
   obtain ⟨hm,hlab⟩:=zdO hc;obtain ⟨g1,cs,hh,hL,h1⟩:=hs c hm;simp only [xw] at hWV;have km:=(yh.1 hh).1;refine ⟨?_,cs,?_,ht.rel t hT hL,h1⟩
   ·rw [t.box _ (zec hWV.2),<-hlab,t.col _ km];exact g1
   ·rw [t.box _ (zec hWV.2),<-hlab,<-hty,t.block _ km (by rw [g1,hlab];exact zec hWV.1)];exact hh
  | tail _ hp=>exact BxT.rel t hT hs h2 p hp
end
def zni (P:Program) (o:Oper) (ins:List (Operand×AV)) (W V:List Nat) (av:AV) (T:List (AV×AV)):Prop:=
 ∀(γ:Gh) (a:Act) (w:World),(∀p∈ins,p.2.rel γ w (a.eval p.1))->∀(next:Act->World->Prop) (Q:Exit->Act->World->Prop),
  (∀γ' w' v,Tr W V γ w γ' w'->av.rel γ' w' v->(∀p∈T,znF γ w γ' w' p)->next (a.put o.dst v) w')->opq P o a w next Q
theorem ziI (E1:Env)
  (hs:zni P o ins W V av T) (hg:zgy ops E o=some true) (hi:zlo E (ins.map (·.1))=some (ins.map (·.2))) (hc:(okW W&&okW V&&zjZ N o.dst)=true)
  (hS:SlT W V T E.sl E1.sl) (hB:BxT W V T E.bx E1.bx) (k:zaM P N ops kl ⟨zjd o.dst av E1.sl,E1.bx⟩ E'):zaM P N ops (o::kl) E E':=by
 intro cx a w Q hn hx hQ;obtain ⟨γ,hb,hsl,hbx⟩:=hx;simp only [xw] at hc;obtain ⟨⟨c1,c2⟩,c3⟩:=hc;refine zjx (zgX hg hsl) (hs γ a w ((zpz hi).rel hsl) _ Q fun γ' w' v ht hv hT=>?_);refine k cx _ _ Q hn ⟨γ',(hb.tr ht c1 c2).put _ _ (by rw [hn];exact zfC c3),?_,hB.rel ht hT hbx⟩ hQ;exact (hS.rel ht hT hsl).put (fun k hk=>by rw [hb.size,hn];exact zhQ c3 k hk) hv
theorem zOf {P:Program} {o:Oper} {κ ν:Type} [DecidableEq κ] {rk:Rp κ} {rv:Rp ν} {m:List (κ×ν)} {t kt et:TypeId} {x0:ν} {ℓ:Nat} {y z u:Operand} {ak av:AV} {C C1 D:List Nat} (k:κ) (x:ν) (C2:List Nat) (hT:MapT P t kt et rk rv x0)
  (ho:o.op= .mapUpdate t y z u\/o.op= .insert t y z u) (hka:asV rk k C1 ak) (hva:asV rv x D av) (hC:(subN C C2&&subN C1 C2&&subN D C2&& !memN ℓ C2)=true):
  zni P o [(y,.om rk rv ℓ C m),(z,ak),(u,av)] [ℓ] [] .any [(.om rk rv ℓ C m,.om rk rv ℓ C2 (mput m k x))]:=by
 intro γ a w hi next Q hk;simp only [xw] at hC;obtain ⟨⟨⟨hC1,hC2⟩,hC3⟩,hC4⟩:=hC;obtain ⟨b,es,cl,hv,⟨g1,g2⟩,hb,hh,hE,hnC⟩:=hi (y,.om rk rv ℓ C m) (by simp);have hkr:=hka γ w _ (hi (z,ak) (by simp));have hxr:=hva γ w _ (hi (u,av) (by simp));simp only at hv hkr hxr;have hE2:zda (γ.F C2) w rk rv m es.toList:=hE.mono fun b _ h=>zad hC1 _ h
 obtain ⟨es',cl',kF,hE',hO'⟩:=zFw hh.2 hT hh.1 hE2 hkr (fun b h=>zad hC2 _ h) hxr (fun b h=>zad hC3 _ h);have hrun':(execOp a.eval o).run P w= .ok .skip {w with heap:=w.heap.setIfInBounds b (.map es' cl')}:=by
  rcases ho with ho| ho<;>simp [execOp,ho,hv,kF]
 have ht:=zMB (w:=w) g1 (.map es' cl');have hnot:∀c∈C2,c∉[ℓ]:=fun c hc h=>by
  simp only [xy,xL,xM] at h;subst h;exact zec hC4 hc
 refine zyW hrun' (hk γ _ undef ht trivial fun p hp v hpv=>?_);simp only [xy,xL,xM] at hp;subst hp;obtain ⟨b',es2,cl2,hv2,⟨q1,q2⟩,_⟩:=hpv;have hbb:b'=b:=by rw [<-q2,g2]
 subst hbb;exact ⟨b',es',cl',hv2,⟨q1,q2⟩,by simpa using hb,⟨by simp [hb],hO'⟩,ht.es hnot hE',fun hc=>zec hC4 hc⟩
def fnXW (w0:World) (γ0:Gh):Ext where
 X γ w:=(w.os=w0.os/\w.tape=w0.tape/\w.output=w0.output/\w0.heap.size<=w.heap.size)/\(∀b,b<w0.heap.size->γ0.col b<2->γ.col b=γ0.col b/\w.heap[b]? =w0.heap[b]?)/\
  (∀b,b<w0.heap.size->2<=γ0.col b->γ.col b≠0)/\∀b,w0.heap.size<=b->b<w.heap.size->γ.col b≠0
 tr:=fun {γ γ' w w' W V} ⟨⟨h1,h2,h3,h4⟩,h5,h6,h7⟩ t hW hV=>by
  have km:∀b,b<w0.heap.size->b<w.heap.size:=fun b hb=>xV hb h4
  refine ⟨⟨t.os.trans h1,t.tape.trans h2,t.output.trans h3,yg h4 t.size⟩,fun b hb h0=>?_,fun b hb h0=>?_,fun b k1 k2 h0=>?_⟩
  ·obtain ⟨e1,e2⟩:=h5 b hb h0;refine ⟨(t.col b (km b hb)).trans e1,(t.block b (km b hb) fun hc=>?_).trans e2⟩;have:=hW _ hc;omega
  ·rw [t.col b (km b hb)];exact h6 b hb h0
  ·by_cases hb:b<w.heap.size
   ·exact h7 b k1 hb (by rw [<-t.col b hb];exact h0)
   ·rcases t.fresh b (qg hb) k2 h0 with e| e
    ·have:=hW _ e;omega
    ·have:=hV _ e;omega
 ren:=fun {γ γ' w} ⟨h1,h2,h3,h4⟩ k=>⟨h1,fun b hb h0=>by
  obtain ⟨e1,e2⟩:=h2 b hb h0;refine ⟨?_,e2⟩;rcases yB (γ0.col b) 1 with h| h
  ·have h':γ0.col b=0:=by omega
   rw [h'];exact k.zero b (by rw [e1,h'])
  ·have h':γ0.col b=1:=by omega
   rw [h'];exact k.one b (by rw [e1,h']),fun b hb h0 h=>h3 b hb h0 (k.back b h),fun b k1 k2 h=>h4 b k1 k2 (k.back b h)⟩
 base:=w0.heap.size
 le:=fun h=>h.1.2.2.2
def ziS (P:Program) (f:FuncId) (ins ky ts:List AV):Prop:=
 ∀(w:World) (γ0:Gh) (vs:List Value),AV.relL γ0 w ins vs->Calls P f vs.toArray w fun e w'=>∃γ us,e= .returned (ziM us)/\(fnXW w γ0).X γ w'/\AV.relL γ w' ky us/\AV.relL γ w' ts vs
def anyB:AV->Bool
 | .any=>true
 | _=>false
def TsOk (E:Env) (ks:List Nat):Nat->List AV->Prop
 | _,[]=>True
 | n,a::l=>(anyB a=true\/memN n ks=true/\lookup E.sl n=some a)/\TsOk E ks (n+1) l
theorem TsOk.rel {E:Env} {ks:List Nat} {γ:Gh} {w:World} {a:Act} (hs:Sl γ w a E.sl) {old:Array Value} (hk:∀k∈ks,a.tmps.getD k undef=old.getD k undef):∀(l:List AV) (vs:List Value) (n:Nat),TsOk E ks n l->l.length=vs.length->
  (∀i v,vs[i]? =some v->old.getD (n+i) undef=v)->AV.relL γ w l vs
 | [],[],_,_,_,_=>rfl
 | x::l,v::vs,n,h,hl,ho=>by
  refine ⟨v,vs,rfl,?_,TsOk.rel hs hk l vs (n+1) h.2 (by simpa using hl) fun i u hu=>by rw [show n+1+i=n+(i+1) by omega];exact ho (i+1) u (by simpa using hu)⟩;rcases h.1 with h1| ⟨h1,h2⟩
  ·cases x<;>first| trivial| cases h1
  ·have:=hs _ (zdC h2);have e:=(hk n (zaf.1 h1)).trans (ho 0 v rfl)
   grind
 | [],_::_,_,_,h,_=>by simp at h
 | _::_,[],_,_,h,_=>by simp at h
theorem zkn {P:Program} {f:FuncId} {fn:Func} {c:Code} {ins ky ts:List AV} {E:Env} (N:Nat) (ks:List Nat) (hf:P.funcs[f]? =some fn) (hb:fn.body=some c) (hN:fn.ntmps=N) (ku:Nat.ble ins.length N=true) (hres:zlY P E fn.results.toList ky)
  (hts:TsOk E ks 0 ts) (hl2:ts.length=ins.length)
  (hj:∀(X:Ext) (old:Array Value),J true P c (Sx ⟨⟨N,ks⟩,X,false,old⟩ ⟨znS 0 ins,[]⟩) fun e a w=>(e= .ret\/e= .normal)/\Sx ⟨⟨N,ks⟩,X,false,old⟩ E a w):ziS P f ins ky ts:=by
 subst hN;intro w γ0 vs hr;have hl:=zbx hr;have ku:=xP ku;obtain ⟨tm,htm⟩:∃tm:Array Value,tm=vs.toArray++Array.replicate (fn.ntmps - vs.toArray.size) undef:=⟨_,rfl⟩;have hX0:(fnXW w (⟨fun b=>if b<w.heap.size then γ0.col b else 2,γ0.box⟩)).X ⟨fun b=>if b<w.heap.size then γ0.col b else 2,γ0.box⟩ w->(fnXW w γ0).X ⟨fun b=>if b<w.heap.size then γ0.col b else 2,γ0.box⟩ w:=fun h=>⟨h.1,fun b hb h0=>by simp [hb],fun b hb h0=>by simp only [xr hb];omega,fun b k1 k2=>by omega⟩
 have hr':AV.relL ⟨fun b=>if b<w.heap.size then γ0.col b else 2,γ0.box⟩ w ins vs:=AV.reghL (γ:=γ0) ins (fun b hb _=>by simp [hb]) (fun ℓ _=>rfl) hr;have hwp:=hj (fnXW w γ0) tm {tmps:=tm,defers:=[]} w ⟨_,⟨⟨[],rfl,qr,fun D hD=>by cases hD⟩,fun _=>rfl,?_,fun k hk=>rfl,hX0 ⟨⟨rfl,rfl,rfl,xx _⟩,fun b hb h0=>⟨rfl,rfl⟩,fun b hb h0=>by have h0':=h0;simp only [xr hb] at h0'|-;omega,fun b k1 k2=>by omega⟩⟩,?_,fun b hb=>by cases hb⟩
 ·subst htm;refine pm hf hb (wp_mono (zFZ hwp) ?_);rintro e a w' ⟨he,γ,hB,hS,hX⟩;obtain ⟨us,hu,hu'⟩:=zjg (P:=P) (fn:=fn) hS hX hres;have hts':AV.relL γ w' ts vs:=hts.rel hS (hB.kept) ts vs 0 (by rw [hl2,<-hl]) fun i v hv=>by
   rw [xK,yF,pF (by simpa using (yA.1 hv).1)];simp [hv]
  have key:∃γ us',ziM us=ziM us'/\(fnXW w γ0).X γ w'/\AV.relL γ w' ky us'/\AV.relL γ w' ts vs:=⟨γ,us,rfl,hB.ext,hu',hts'⟩;obtain ⟨γ2,us2,k1,k2,k3,k4⟩:=key;rcases he with rfl| rfl
  ·exact ⟨hB.clean rfl,ziM us,hu,γ2,us2,by rw [k1],k2,k3,k4⟩
  ·exact ⟨hB.clean rfl,ziM us,hu,γ2,us2,by rw [k1],k2,k3,k4⟩
 ·grind
 ·intro p hp;have:=zpm hr' [] (List.replicate (fn.ntmps - vs.length) undef) p hp;simp only [xH] at this;have e:(vs++List.replicate (fn.ntmps - vs.length) undef).toArray=tm:=by rw [htm];simp
  grind
def zer:List (Nat×Nat)->Nat->Option Nat
 | [],_=>none
 | p::l,c=>match Nat.beq p.1 c with
  | true=>some p.2
  | false=>zer l c
def zhm:List (Nat×Nat)->Nat->Option Nat
 | [],_=>none
 | p::l,c=>match Nat.beq p.2 c with
  | true=>some p.1
  | false=>zhm l c
theorem zdm:∀{l:List (Nat×Nat)} {c k:Nat},zer l c=some k->(c,k)∈l
 | [],_,_,h=>by cases h
 | p::l,c,k,h=>by
  rw [zer] at h;split at h
  ·rename_i hb;cases h;rw [<-xG hb];exact xt
  ·exact xu _ (zdm h)
def inW1 (p:List (Nat×Nat)):AV->AV
 | .own r e ℓ C xs=>match zer p ℓ with
  | some k=> .own r e k [0] xs
  | none=> .sl r [0] xs
 | .om rk rv ℓ C m=>match zer p ℓ with
  | some k=> .om rk rv k [0] m
  | none=> .mp rk rv [0] m
 | a=>zyv a
def inW (p:List (Nat×Nat)):AV->AV
 | .ag l=> .ag (l.map (inW1 p))
 | .fv g l=> .fv g (l.map (inW1 p))
 | a=>inW1 p a
def mlab (p:List (Nat×Nat)):AV->Option Nat
 | .own _ _ ℓ _ _=>match zer p ℓ with
  | some _=>some ℓ
  | none=>none
 | .om _ _ ℓ _ _=>match zer p ℓ with
  | some _=>some ℓ
  | none=>none
 | _=>none
def zgj (p:List (Nat×Nat)):AV->List Nat
 | .own r e ℓ C xs=>match zer p ℓ with
  | some _=>C
  | none=>ℓ::C
 | .om rk rv ℓ C m=>match zer p ℓ with
  | some _=>C
  | none=>ℓ::C
 | a=>zrY a
def blk:Value->Option Nat
 | .map b=>b
 | v=>v.ownBlock
def zvv:AV->List AV
 | .ag m=>m
 | .fv _ m=>m
 | a=>[a]
def zgi:List AV->List AV
 | []=>[]
 | x::l=>(zvv x)++zgi l
def zHI:Value->List Value
 | .func _ _ cs=>cs.toList
 | _=>[]
def znT:AV->Value->List Value
 | .ag _,v=>v.cells.toList
 | .fv _ _,v=>zHI v
 | _,v=>[v]
def zwn:List AV->List Value->List Value
 | x::l,v::vs=>(znT x v)++zwn l vs
 | _,_=>[]
def zyk:AV->AV->List AV
 | .ag _,.ag m=>m
 | .ag m,_=>m.map fun _=> .any
 | .fv _ m,_=>m.map fun _=> .any
 | _,t=>[t]
def zqL:List AV->List AV->List AV
 | x::l,t::ts=>(zyk x t)++zqL l ts
 | _,_=>[]
theorem zrw :∀{l m:List AV} {us vs:List Value},AV.relL γ w l us->AV.relL γ w m vs->AV.relL γ w (l++m) (us++vs)
 | [],_,_,_,h,k=>by cases h;exact k
 | a::l,_,_,_,h,k=>by
  obtain ⟨v,vs',rfl,h1,h2⟩:=h;exact ⟨v,_,rfl,h1,zrw h2 k⟩
theorem zvT :∀{l:List AV} {vs:List Value},l.length=vs.length->AV.relL γ w (l.map fun _=> .any) vs
 | [],[],_=>rfl
 | _::l,v::vs,h=>⟨v,vs,rfl,trivial,zvT (by simpa using h)⟩
 | [],_::_,h=>by simp at h
 | _::_,[],h=>by simp at h
theorem zEg (h:x.rel γ w v):AV.relL γ w (zvv x) (znT x v):=by
 cases x with
 | ag l=>obtain ⟨vs,rfl,hL,h1⟩:=h;simpa [zvv,znT,Value.cells] using hL
 | fv g l=>obtain ⟨vs,rfl,hL⟩:=h;simpa [zvv,znT,zHI] using hL
 | _=>exact ⟨v,[],rfl,h,rfl⟩
theorem zym :∀{l:List AV} {vs:List Value},AV.relL γ w l vs->AV.relL γ w (zgi l) (zwn l vs)
 | [],_,h=>by cases h;rfl
 | x::l,_,h=>by
  obtain ⟨v,vs',rfl,h1,h2⟩:=h;exact zrw (zEg h1) (zym h2)
theorem zJm (h:x.rel γ w v) (k:t.rel γ' w' v):AV.relL γ' w' (zyk x t) (znT x v):=by
 cases x with
 | ag l=>
  obtain ⟨vs,rfl,hL,h1⟩:=h;have hl:l.length=vs.length:=(zbx hL).symm;cases t with
  | ag m=>obtain ⟨vs2,e,hL2,_⟩:=k;cases e;simpa [zyk,znT,Value.cells] using hL2
  | _=>simpa [zyk,znT,Value.cells] using zvT (γ:=γ') (w:=w') hl
 | fv g l=>
  obtain ⟨vs,rfl,hL⟩:=h;have hl:l.length=vs.length:=(zbx hL).symm;cases t<;>simpa [zyk,znT,zHI] using zvT (γ:=γ') (w:=w') hl
 | _=>exact ⟨v,[],rfl,k,rfl⟩
theorem zvx :∀{l ts:List AV} {vs:List Value},AV.relL γ w l vs->AV.relL γ' w' ts vs->AV.relL γ' w' (zqL l ts) (zwn l vs)
 | [],_,_,h,_=>by cases h;rfl
 | x::l,[],_,h,k=>by obtain ⟨v,vs',rfl,_⟩:=h;cases k
 | x::l,t::ts,_,h,k=>by
  obtain ⟨v,vs',rfl,h1,h2⟩:=h;obtain ⟨v2,vs2,e,k1,k2⟩:=k;cases e;exact zrw (zJm h1 k1) (zvx h2 k2)
theorem zzt :∀{l m:List AV} {us:List Value},AV.relL γ w l us->AV.relL γ' w' m us->∀p∈l.zip m,∃u,(p.1,u)∈l.zip us/\p.1.rel γ w u/\p.2.rel γ' w' u
 | [],_,_,_,_,p,hp=>by cases hp
 | _::_,[],_,_,_,p,hp=>by cases hp
 | a::l,b::m,_,h,k,p,hp=>by
  obtain ⟨v,vs',rfl,h1,h2⟩:=h;obtain ⟨v2,vs2,e,k1,k2⟩:=k;cases e;cases hp with
  | head=>exact ⟨v,xt,h1,k1⟩
  | tail _ hp=>
   obtain ⟨u,g1,g2⟩:=zzt h2 k2 p hp;exact ⟨u,xu _ g1,g2⟩
theorem zvU :∀{l m:List AV} {us:List Value},AV.relL γ w l us->AV.relL γ' w' m us->∀q∈l.zip us,∃t,(q.1,t)∈l.zip m/\q.1.rel γ w q.2/\t.rel γ' w' q.2
 | [],_,_,_,_,p,hp=>by cases hp
 | a::l,[],_,h,k,p,hp=>by obtain ⟨v,vs',rfl,_⟩:=h;cases k
 | a::l,b::m,_,h,k,p,hp=>by
  obtain ⟨v,vs',rfl,h1,h2⟩:=h;obtain ⟨v2,vs2,e,k1,k2⟩:=k;cases e;cases hp with
  | head=>exact ⟨b,xt,h1,k1⟩
  | tail _ hp=>
   obtain ⟨u,g1,g2⟩:=zvU h2 k2 p hp;exact ⟨u,xu _ g1,g2⟩
def zsT (p:List (Nat×Nat)):List AV->List Nat
 | []=>[]
 | a::l=>(match mlab p a with
  | some ℓ=>[ℓ]
  | none=>[])++zsT p l
theorem zoC :∀{l:List AV} {us:List Value} {q:AV×Value},q∈l.zip us->mlab p q.1=some ℓ->ℓ∈zsT p l
 | [],_,_,h,_=>by cases h
 | _::_,[],_,h,_=>by cases h
 | a::l,u::us,q,h,hl=>by
  rw [zsT];cases h with
  | head=>rw [hl];simp
  | tail _ h=>exact yl _ (zoC h hl)
def zyN:List Nat->Bool
 | []=>true
 | c::l=> !memN c l&&zyN l
theorem zBm :∀{l:List AV} {us:List Value} {q q':AV×Value},zyN (zsT p l)=true->q∈l.zip us->q'∈l.zip us->mlab p q.1=some ℓ->mlab p q'.1=some ℓ->q=q'
 | [],_,_,_,_,h,_,_,_=>by cases h
 | _::_,[],_,_,_,h,_,_,_=>by cases h
 | a::l,u::us,q,q',hn,h,h',hl,hl'=>by
  rw [zsT] at hn;have tl:zyN (zsT p l)=true/\(mlab p a=some ℓ->ℓ∉zsT p l):=by
   cases ha:mlab p a with
   | none=>rw [ha] at hn;exact ⟨hn,fun e=>by cases e⟩
   | some x=>
    rw [ha] at hn;simp only [yn,xH,zyN,xw] at hn;exact ⟨hn.2,fun e=>by cases e;exact zec hn.1⟩
  cases h with
  | head=>
   cases h' with
   | head=>rfl
   | tail _ h'=>exact absurd (zoC h' hl') (tl.2 hl)
  | tail _ h=>
   cases h' with
   | head=>exact absurd (zoC h hl) (tl.2 hl')
   | tail _ h'=>exact zBm tl.1 h h' hl hl'
def beqT {α β:Type} (r:Rp α) (r':Rp β) (e e' k k':Nat):Bool:=Nat.beq r.size r'.size&&Nat.beq e e'&&Nat.beq k k'
def tOk (p:List (Nat×Nat)) (D:List Nat) (s:Nat) (K:List Nat):AV×AV->Bool
 | (.own r e ℓ C xs,t)=>(match zer p ℓ with
  | some k=>(match t with
   | .own r' e' k' C' xs'=>beqT r r' e e' k k'&&zhG K C'&& !memN ℓ (outC D s C')
   | _=>false)
  | none=>anyB t)
 | (.om rk rv ℓ C m,t)=>(match zer p ℓ with
  | some k=>(match t with
   | .om rk' rv' k' C' m'=>Nat.beq k k'&&zhG K C'&& !memN ℓ (outC D s C')
   | _=>false)
  | none=>anyB t)
 | (_,t)=>anyB t
def tp1 (D:List Nat) (s:Nat):AV×AV->List (AV×AV)
 | (.own r e ℓ C xs,.own r' e' _ C' xs')=>[(.own r e ℓ C xs,.own r' e' ℓ (outC D s C') xs')]
 | (.om rk rv ℓ C m,.om rk' rv' _ C' m')=>[(.om rk rv ℓ C m,.om rk' rv' ℓ (outC D s C') m')]
 | _=>[]
def zDv (D:List Nat) (s:Nat) (xs ts:List AV):List (AV×AV):=((zgi xs).zip (zqL xs ts)).flatMap (tp1 D s)
def zKy (p:List (Nat×Nat)) (D:List Nat) (s:Nat) (V:List Nat) (xs ts:List AV):Bool:=
 zyN (zsT p (zgi xs))&&(p.all fun q=>Nat.ble 2 q.2&&(match zhm p q.2 with| some c=>Nat.beq c q.1| none=>false))&&zhG (p.map (·.1)) D&&
  ((zgi xs).all fun a=>subN (zgj p a) D)&&(((zgi xs).zip (zqL xs ts)).all (tOk p D s (1::p.map (·.2))))&&zhG (p.map (·.1)) V
open Classical in
noncomputable def ghW (γ:Gh) (D:List Nat) (p:List (Nat×Nat)) (S:Fp):Gh:=
 ⟨fun b=>match (if S b then zer p (γ.col b) else none) with
  | some k=>k
  | none=>if γ.F D b then 0 else 1,fun k=>match zhm p k with
  | some ℓ=>γ.box ℓ
  | none=>0⟩
theorem zOC (hd:zhG (p.map (·.1)) D=true) (h:γ.F D b):(ghW γ D p S).col b=0:=by
 have hn:zer p (γ.col b)=none:=by
  cases hf:zer p (γ.col b) with
  | none=>rfl
  | some k=>exact absurd h (zmk hd _ (xA.2 ⟨_,zdm hf,rfl⟩))
 unfold ghW
 grind
theorem zHW (h:S b) (hk:zer p (γ.col b)=some k):(ghW γ D p S).col b=k:=by
 unfold ghW
 grind
theorem zug (h:2<=(ghW γ D p S).col b):S b/\∃k,zer p (γ.col b)=some k:=by
 unfold ghW at h
 grind
theorem zys (hp:(p.all fun q=>Nat.ble 2 q.2)=true) (h:(ghW γ D p S).col b=0):γ.F D b:=by
 unfold ghW at h;simp only at h;split at h
 ·rename_i k hk;split at hk
  ·have:=xI.1 hp _ (zdm hk);simp_all
  ·cases hk
 grind
section
variable {γ:Gh} {w:World} {D:List Nat} {p:List (Nat×Nat)} {S:Fp}
theorem zEo (h:a.rel γ w v) (hD:∀c∈zgj p a,c∈D) (hd:zhG (p.map (·.1)) D=true) (hb:∀q∈p,zhm p q.2=some q.1) (h2:∀q∈p,2<=q.2) (hS:∀ℓ,mlab p a=some ℓ->∀b,blk v=some b->S b):(inW1 p a).rel (ghW γ D p S) w v:=by
 have key:∀(C:List Nat),(∀c∈C,c∈D)->∀b,b<w.heap.size->γ.F C b->(ghW γ D p S).F [0] b:=fun C hC b _ hb=>by
  show (ghW γ D p S).col b∈[0];rw [zOC hd (hC _ hb)];exact xt
 have hbx:∀ℓ k,zer p ℓ=some k->(ghW γ D p S).box k=γ.box ℓ:=fun ℓ k hk=>by
  have:=hb _ (zdm hk);unfold ghW;simp only [this]
 cases a with
 | own r e ℓ C xs=>
  simp only [inW1];cases hf:zer p ℓ with
  | some k=>
   obtain ⟨cs,ho,hg,hA,hn⟩:=h;refine ⟨cs,ho,fun g kH=>?_,hA.mono (key C (by simpa [zgj,hf] using hD)),by have:=h2 _ (zdm hf);simp only [xy,xL,xM];simp only at this;omega⟩;obtain ⟨g1,g2⟩:=hg g kH;have hbv:blk v=some g:=by cases v<;>first| (cases kH;done)| exact kH
   exact ⟨zHW (hS ℓ (by simp [mlab,hf]) g hbv) (by rw [g1];exact hf),(hbx ℓ k hf).trans g2⟩
  | none=>exact (zrk h).mono (key _ (by simpa [zgj,hf] using hD))
 | om rk rv ℓ C m=>
  simp only [inW1];cases hf:zer p ℓ with
  | some k=>
   obtain ⟨b,es,cl,hv,⟨g1,g2⟩,km,hh,hE,hn⟩:=h;refine ⟨b,es,cl,hv,⟨zHW (hS ℓ (by simp [mlab,hf]) b (by rw [hv];rfl)) (by rw [g1];exact hf),(hbx ℓ k hf).trans g2⟩,km,hh,hE.mono (key C (by simpa [zgj,hf] using hD)),by have:=h2 _ (zdm hf);simp only [xy,xL,xM];simp only at this;omega⟩
  | none=>
   obtain ⟨b,es,cl,hv,⟨g1,g2⟩,km,hh,hE,hn⟩:=h;have hC:∀c∈ℓ::C,c∈D:=by simpa [zgj,hf] using hD
   exact ⟨b,es,cl,hv,key (ℓ::C) hC b km (by show γ.col b∈ℓ::C;rw [g1];exact xt),km,hh,(hE.mono fun b _ hb=>xu _ hb).mono (key (ℓ::C) hC)⟩
 | any=>trivial
 | lf l=>exact h
 | sl r C xs=>exact zat.mono h (key C hD)
 | rc r C x=>obtain ⟨cs,hv,hA⟩:=h;exact ⟨cs,hv,hA.mono (key C hD)⟩
 | mp rk rv C m=>
  obtain ⟨b,es,cl,hv,hF,km,hh,hE⟩:=h;exact ⟨b,es,cl,hv,key C hD b km hF,km,hh,hE.mono (key C hD)⟩
 | ep r C x off=>
  obtain ⟨b,o,cs,hv,hF,km,hA,hc⟩:=h;exact ⟨b,o,cs,hv,key C hD b km hF,km,hA.mono (key C hD),hc⟩
 | qp r C o=>
  cases o with
  | none=>exact h
  | some x=>
   obtain ⟨b,cs,hv,hF,km,hA,hc⟩:=h;exact ⟨b,cs,hv,key C hD b km hF,km,hA.mono (key C hD),hc⟩
 | em rk rv C m=>
  obtain ⟨a,b,es,cl,hv,hFa,ha,hc1,hF,km,hh,hE⟩:=h;exact ⟨a,b,es,cl,hv,key C hD a ha hFa,ha,hc1,key C hD b km hF,km,hh,hE.mono (key C hD)⟩
 | mo=>trivial
 | cu=>trivial
 | bs=>trivial
 | tl=>trivial
 | ptr=>trivial
 | tup=>trivial
 | ag=>trivial
 | fv=>trivial
 | bp=>trivial
 | it=>trivial
theorem zvC (hd:zhG (p.map (·.1)) D=true) (hb:∀q∈p,zhm p q.2=some q.1) (h2:∀q∈p,2<=q.2):∀{l:List AV} {vs:List Value},AV.relL γ w l vs->(∀a∈l,∀c∈zgj p a,c∈D)->
  (∀q∈l.zip vs,∀ℓ,mlab p q.1=some ℓ->∀b,blk q.2=some b->S b)->AV.relL (ghW γ D p S) w (l.map (inW1 p)) vs
 | [],_,h,_,_=>h
 | a::l,_,h,hD,hS=>by
  obtain ⟨v,vs',rfl,h1,h2'⟩:=h;exact ⟨v,vs',rfl,zEo h1 (hD a xt) hd hb h2 (hS (a,v) xt),zvC hd hb h2 h2' (fun x hx=>hD x (xu _ hx)) (fun q hq=>hS q (xu _ hq))⟩
theorem zui (hd:zhG (p.map (·.1)) D=true) (hb:∀q∈p,zhm p q.2=some q.1) (h2:∀q∈p,2<=q.2):∀{l:List AV} {vs:List Value},AV.relL γ w l vs->(∀a∈zgi l,∀c∈zgj p a,c∈D)->
  (∀q∈(zgi l).zip (zwn l vs),∀ℓ,mlab p q.1=some ℓ->∀b,blk q.2=some b->S b)->AV.relL (ghW γ D p S) w (l.map (inW p)) vs
 | [],_,h,_,_=>h
 | a::l,_,h,hD,hS=>by
  obtain ⟨v,vs',rfl,h1,h2'⟩:=h;have hf:=zEg h1;have ku:=(zbx hf).symm;have hz:∀q∈(zgi l).zip (zwn l vs'),∀ℓ,mlab p q.1=some ℓ->∀b,blk q.2=some b->S b:=fun q hq=>hS q (by
   rw [zgi,zwn,List.zip_append ku];exact yl _ hq)
  have hz1:=fun q hq=>hS q (by rw [zgi,zwn,List.zip_append ku];exact yq _ hq)
  have hD1:=fun x hx=>hD x (by rw [zgi];exact yq _ hx)
  refine ⟨v,vs',rfl,?_,zui hd hb h2 h2' (fun x hx=>hD x (by rw [zgi];exact yl _ hx)) hz⟩;cases a with
  | ag m=>obtain ⟨us,rfl,hL,h1c⟩:=h1;exact ⟨us,rfl,zvC hd hb h2 hL hD1 (fun q hq=>hz1 q (by simpa [zvv,znT,Value.cells] using hq)),h1c⟩
  | fv g m=>obtain ⟨us,rfl,hL⟩:=h1;exact ⟨us,rfl,zvC hd hb h2 hL hD1 (fun q hq=>hz1 q (by simpa [zvv,znT,zHI] using hq))⟩
  | _=>exact zEo h1 (hD1 _ xt) hd hb h2 (hz1 (_,v) xt)
end
theorem zlP {γ:Gh} {w:World} {a:Act}:∀{args:List Operand} {xs:List AV},xs.length=args.length->(∀p∈args.zip xs,p.2.rel γ w (a.eval p.1))->AV.relL γ w xs (args.map a.eval)
 | [],[],_,_=>rfl
 | y::args,x::xs,hl,hi=>⟨_,_,rfl,hi (y,x) (by simp),zlP (by simpa using hl) (fun p hp=>hi p (by simp [hp]))⟩
 | [],_::_,h,_=>by simp at h
 | _::_,[],h,_=>by simp at h
theorem zLM {γ:Gh} {w:World} {α:Type} {r:Rp α} {e ℓ:Nat} {C:List Nat} {xs:List α} {v u:Value} {g:Nat} (h:AV.rel γ w (.own r e ℓ C xs) v) (k:AV.rel γ w (.own r e ℓ C xs) u) (hv:v.ownBlock=some g) (hu:u≠ .slice none 0 0):v=u:=by
 obtain ⟨cs,ho,hg,_⟩:=h;obtain ⟨cs2,ho2,hg2,_⟩:=k;rcases ho.2 with ⟨rfl,_⟩| ⟨g1,kC,kM,rfl,_,hh,hc,_,hs,_⟩
 ·cases hv
 ·rcases ho2.2 with ⟨rfl,_⟩| ⟨g2,cap2,cur2,rfl,_,hh2,hc2,_,hs2,_⟩
  ·grind
  ·have e1:=(hg g1 rfl).2;have e2:=(hg2 g2 rfl).2;have:g2=g1:=by rw [<-e1,<-e2]
   subst this;rw [hh] at hh2;simp only [yr,Obj.cells.injEq] at hh2;obtain ⟨rfl,_⟩:=hh2;have:kC=cap2:=Nat.eq_of_mul_eq_mul_right r.pos (hs.symm.trans hs2);subst this;rfl
theorem zmy {γ:Gh} {w:World} {α:Type} {r:Rp α} {e ℓ:Nat} {C:List Nat} {xs:List α} {v:Value} (h:AV.rel γ w (.own r e ℓ C xs) v):(v= .slice none 0 0/\xs=[])\/∃g kC,v= .slice (some ⟨g,0,none⟩) xs.length kC/\γ.col g=ℓ/\γ.box ℓ=g/\g<w.heap.size:=by
 obtain ⟨cs,ho,hg,_⟩:=h;rcases ho.2 with ⟨rfl,h0⟩| ⟨g1,kC,kM,rfl,_,hh,hc,_,hs,_⟩
 ·grind
 ·obtain ⟨q1,q2⟩:=hg g1 rfl
  grind
theorem zIt {α:Type} (r:Rp α) (e ℓ:Nat) (C:List Nat) (hn:ℓ∉C):AV.rel γ w (.own r e ℓ C ([]:List α)) (.slice none 0 0):=
 ⟨[],⟨by simp,.inl ⟨rfl,rfl⟩⟩,fun g hg=>(by cases hg),zX.nil,hn⟩
theorem zHu {γ γc:Gh} {w w':World} {K D V:List Nat} {s:Nat} {α β:Type} {r:Rp α} {r':Rp β} {e ℓ k':Nat} {C C':List Nat} {xs:List α} {xs':List β} {u:Value}
  (h1:AV.rel γ w (.own r e ℓ C xs) u) (h2:AV.rel γc w' (.own r' e k' C' xs') u) (kG:r.size=r'.size) (hold:zxD γ γc w.heap.size K D) (hk1:1∈K) (hD:D≠[]) (hdis:zhG K C'=true) (hn:ℓ∉outC D s C') (hV:ℓ∉V)
  (hnil:u= .slice none 0 0->∀g,g<w.heap.size->γ.col g=ℓ->w'.heap[g]? =w.heap[g]?):znF γ w (zfK γ γc w.heap.size D s V) w' (.own r e ℓ C xs,.own r' e ℓ (outC D s C') xs'):=by
 intro v hv;have hF:∀b,b<w'.heap.size->γc.F C' b->(zfK γ γc w.heap.size D s V).F (outC D s C') b:=fun b _ hb=>outF hold (zmk hdis) hk1 hb (fun _ e=>absurd e hD)
 have kR:∀g,g<w.heap.size->γ.col g=ℓ->(zfK γ γc w.heap.size D s V).col g=ℓ:=fun g hg h=>by unfold zfK;simp only [xr hg];exact h
 have hbox:(zfK γ γc w.heap.size D s V).box ℓ=γ.box ℓ:=by unfold zfK;simp only [xq hV]
 rcases zmy h1 with ⟨hu,hx⟩| ⟨g,kC,hu,hg1,hg2,hglt⟩
 ·have hx':xs'=[]:=by
   rcases zmy h2 with ⟨_,h⟩| ⟨g,kC,hu',_⟩
   ·exact h
   grind
  subst hx hx';rcases zmy hv with ⟨rfl,_⟩| ⟨g',cap',hv',q1,q2,q3⟩
  ·exact zIt r' e ℓ _ hn
  ·obtain ⟨cs,ho,_,_,_⟩:=hv;refine ⟨[],⟨by simp,?_⟩,fun g hg=>?_,zX.nil,hn⟩
   ·rcases ho.2 with ⟨e1,_⟩| ⟨g1,cap1,kM,e1,e2,e3,e4,e5,e6,e7⟩
    ·grind
    ·have hg1:g1=g':=by rw [hv'] at e1;cases e1;rfl
     subst hg1;exact .inr ⟨g1,cap1,kM,e1,e2,(hnil hu g1 q3 q1).trans e3,xC _,e5,by rw [<-kG];exact e6,by simp⟩
   grind
 ·by_cases hvn:v= .slice none 0 0
  ·subst hvn;have hx:xs=[]:=by
    rcases zmy hv with ⟨_,h⟩| ⟨g,kC,hu',_⟩
    ·exact h
    ·cases hu'
   have hx':xs'=[]:=by
    rcases zmy h2 with ⟨_,h⟩| ⟨g,kC,hu',_⟩
    ·exact h
    grind
   subst hx';exact zIt r' e ℓ _ hn
  ·have huv:u=v:=zLM h1 hv (by rw [hu];rfl) hvn;subst huv;obtain ⟨cs,ho,hg,hA,_⟩:=h2;refine ⟨cs,ho,fun g' hg'=>?_,hA.mono hF,hn⟩;have:g'=g:=by rw [hu] at hg';cases hg';rfl
   grind
theorem zKh {γ γc:Gh} {w w':World} {K D V:List Nat} {s:Nat} {κ ν κ' ν':Type} {rk:Rp κ} {rv:Rp ν} {rk':Rp κ'} {rv':Rp ν'} {ℓ k':Nat} {C C':List Nat} {m:List (κ×ν)} {m':List (κ'×ν')} {u:Value}
  (h1:AV.rel γ w (.om rk rv ℓ C m) u) (h2:AV.rel γc w' (.om rk' rv' k' C' m') u) (hold:zxD γ γc w.heap.size K D) (hk1:1∈K) (hD:D≠[]) (hdis:zhG K C'=true) (hn:ℓ∉outC D s C') (hV:ℓ∉V):
  znF γ w (zfK γ γc w.heap.size D s V) w' (.om rk rv ℓ C m,.om rk' rv' ℓ (outC D s C') m'):=by
 intro v hv;have hF:∀b,b<w'.heap.size->γc.F C' b->(zfK γ γc w.heap.size D s V).F (outC D s C') b:=fun b _ hb=>outF hold (zmk hdis) hk1 hb (fun _ e=>absurd e hD)
 have hbox:(zfK γ γc w.heap.size D s V).box ℓ=γ.box ℓ:=by unfold zfK;simp only [xq hV]
 obtain ⟨b,es,cl,hu,⟨g1,g2⟩,hb,_⟩:=h1;obtain ⟨b',es',cl',hu',_,hb',hh',hE',_⟩:=h2;obtain ⟨b2,es2,cl2,hv2,⟨q1,q2⟩,_⟩:=hv;have e1:b'=b:=by rw [hu] at hu';cases hu';rfl
 have e2:b2=b:=by rw [<-q2,<-g2]
 subst e1 e2;exact ⟨_,es',cl',hv2,⟨by unfold zfK;simp only [xr hb];exact g1,hbox.trans g2⟩,hb',hh',hE'.mono hF,hn⟩
theorem zOg {p:List (Nat×Nat)} {D:List Nat} {s:Nat} {K:List Nat} {a t:AV} {ℓ b:Nat} {γ:Gh} {w:World} {v:Value} (h:tOk p D s K (a,t)=true) (hl:mlab p a=some ℓ) (hb:blk v=some b) (hr:t.rel γ w v):∃k,(ℓ,k)∈p/\γ.col b=k:=by
 cases a with
 | own r e ℓ' C xs=>
  simp only [mlab] at hl;cases hf:zer p ℓ' with
  | none=>rw [hf] at hl;cases hl
  | some k=>
   rw [hf] at hl;cases hl;simp only [tOk,hf] at h;cases t with
   | own r' e' k' C' xs'=>
    simp only [xw,beqT] at h;have hk:=xG h.1.1.2;subst hk;refine ⟨k,zdm hf,?_⟩;rcases zmy hr with ⟨rfl,_⟩| ⟨g,kC,rfl,g1,_⟩
    ·cases hb
    ·cases hb;exact g1
   | _=>cases h
 | om rk rv ℓ' C m=>
  simp only [mlab] at hl;cases hf:zer p ℓ' with
  | none=>rw [hf] at hl;cases hl
  | some k=>
   rw [hf] at hl;cases hl;simp only [tOk,hf] at h;cases t with
   | om rk' rv' k' C' m'=>
    simp only [xw] at h;have hk:=xG h.1.1;subst hk;obtain ⟨b',_,_,rfl,⟨g1,_⟩,_⟩:=hr;cases hb;exact ⟨k,zdm hf,g1⟩
   | _=>cases h
 | _=>cases hl
theorem zJa {P:Program} {o:Oper} {f:FuncId} {args:List Operand} {ts:Array TypeId} {a:Act} {w:World} {next:Act->World->Prop} {Q:Exit->Act->World->Prop} {R:Ending->World->Prop} {vs:List Value}
  (kF:(execOp a.eval o).run P w= .ok (.enter f vs.toArray) w) (hd:∀c,o.op≠ .defer c) (h:Calls P f vs.toArray w R) (k:∀e w',R e w'->∃v,e= .returned v/\next (a.put o.dst v) w'):opq P o a w next Q:=by
 refine zrg hd ?_;unfold Oper.wp;rw [kF,qG];refine h.mono fun e w' hR=>?_
 obtain ⟨v,rfl,hn⟩:=k e w' hR;exact hn
theorem zMs {P:Program} {o:Oper} {f:FuncId} {args:List Operand} {ins ky tns:List AV} (xs:List AV) (p:List (Nat×Nat)) (D:List Nat) (s:Nat) (V:List Nat) (ok:ziS P f ins ky tns)
  (kF:∀(a:Act) (w:World) (γ:Gh),AV.relL γ w xs (args.map a.eval)->∃vs:List Value,(execOp a.eval o).run P w= .ok (.enter f vs.toArray) w/\∃ys,ys.map (inW p)=ins/\zKy p D s V ys tns=true/\zDv D s ys tns=zDv D s xs tns/\AV.relL γ w ys vs) (hdf:∀c,o.op≠ .defer c)
  (ku:xs.length=args.length) (hD0:D.isEmpty=false) (hout:(ky.all (zwx (1::p.map (·.2)) D s))=true) (hV:ky.flatMap (zhe s)=V):
  zni P o (args.zip xs) (p.map (·.1)) V (zoJ (ky.map (zpO D s))) (zDv D s xs tns):=by
 intro γ a w hi next Q hk;obtain ⟨vs,hr0,ys,hin,hB,hTP,hvs⟩:=kF a w γ (zlP ku hi);simp only [zKy,xw,xI] at hB;obtain ⟨⟨⟨⟨⟨b1,b2⟩,b3⟩,b4⟩,b5⟩,b6⟩:=hB;have h2:∀q∈p,2<=q.2:=fun q hq=>xP (b2 q hq).1
 have hpb:∀q∈p,zhm p q.2=some q.1:=fun q hq=>by
  have:=(b2 q hq).2;cases hf:zhm p q.2 with
  | none=>rw [hf] at this;cases this
  | some c=>rw [hf] at this;rw [xG this]
 obtain ⟨S,hS⟩:∃S:Fp,∀b,S b↔∃q∈(zgi ys).zip (zwn ys vs),(∃ℓ,mlab p q.1=some ℓ)/\blk q.2=some b:=⟨_,fun b=>Iff.rfl⟩;have hin':AV.relL (ghW γ D p S) w ins vs:=by
  rw [<-hin];exact zui b3 hpb h2 hvs (fun x hx c hc=>zad (b4 x hx) c hc) (fun q hq ℓ hℓ b hb=>(hS b).2 ⟨q,hq,⟨ℓ,hℓ⟩,hb⟩)
 have hp2:(p.all fun q=>Nat.ble 2 q.2)=true:=xI.2 fun q hq=>(b2 q hq).1
 refine zJa (args:=args) (ts:=#[]) hr0 hdf (ok w _ _ hin') fun e w' hR=>?_
 obtain ⟨γc,us,rfl,⟨⟨x1,x2,x3,x4⟩,x5,x6,x7⟩,hr,ht⟩:=hR;have hA:=zym hvs;have hTt:=zvx hvs ht;have hold:zxD γ γc w.heap.size (1::p.map (·.2)) D:=fun b hb=>by
  rcases yB ((ghW γ D p S).col b) 2 with h| h
  ·obtain ⟨e1,_⟩:=x5 b hb h;rcases yB ((ghW γ D p S).col b) 1 with h0| h0
   ·exact .inl ⟨by omega,zys (p:=p) (S:=S) hp2 (by omega)⟩
   grind
  ·obtain ⟨hs,_⟩:=zug h;obtain ⟨q,hq,⟨ℓ,hℓ⟩,hbk⟩:=(hS b).1 hs;obtain ⟨t,hqt,_,g2⟩:=zvU hA hTt q hq;obtain ⟨k,hk1,hk2⟩:=zOg (b5 _ hqt) hℓ hbk g2
   grind
 have hDne:D≠[]:=fun e=>by rw [e] at hD0;cases hD0
 have low:∀b,b<w.heap.size->¬(S b/\∃k,zer p (γ.col b)=some k)->w'.heap[b]? =w.heap[b]? :=fun b hb hn=>by
  rcases yB ((ghW γ D p S).col b) 2 with h| h
  ·grind
  ·exact absurd (zug h) hn
 simp only [xI] at hout;subst hV;refine ⟨_,rfl,hk (zfK γ γc w.heap.size D s (ky.flatMap (zhe s))) w' _ ⟨x1,x2,x3,x4,fun b hb hn=>low b hb (fun ⟨_,k,hk⟩=>hn (xA.2 ⟨_,zdm hk,rfl⟩)),fun b hb=>?_,fun ℓ hℓ=>?_,fun b h1 h2 h0=>?_⟩ (zsm (zrx hr fun x hx v hv=>?_)) ?_⟩
 ·show (if b<w.heap.size then γ.col b else _)=_;rw [xr hb]
 ·show (if ℓ∈ky.flatMap (zhe s) then _ else γ.box ℓ)=_;rw [xq hℓ]
 ·exfalso;have kO:=x7 b h1 h2;have h0':(if b<w.heap.size then γ.col b else if γc.col b=0 then D.headD 1 else if γc.col b=1 then 1 else γc.col b+s)=0:=h0
  grind
 ·exact zvN hold xt hDne (hout x hx) (fun c hc=>qh.2 ⟨x,hx,hc⟩) hv
 ·intro q hq;rw [<-hTP] at hq;obtain ⟨⟨x,t⟩,hm,hq⟩:=qh.1 hq;obtain ⟨u,hu,g1,g2⟩:=zzt hA hTt (x,t) hm;have htk:=b5 _ hm;simp only at g1 g2 hu;have hdV:∀ℓ k,zer p ℓ=some k->ℓ∉ky.flatMap (zhe s):=fun ℓ k hf=>zmk b6 _ (xA.2 ⟨_,zdm hf,rfl⟩)
  cases x with
  | own r e ℓ C xs=>
   cases t with
   | own r' e' k' C' xs'=>
    simp only [tp1,xY] at hq;subst hq;simp only [tOk] at htk;cases hf:zer p ℓ with
    | none=>rw [hf] at htk;cases htk
    | some k=>
     rw [hf] at htk;simp only [xw,beqT] at htk;obtain ⟨⟨⟨⟨t1,t2⟩,t3⟩,t4⟩,t5⟩:=htk;have e1:=xG t2;subst e1;refine zHu g1 g2 (xG t1) hold xt hDne t4 (zec t5) (hdV ℓ k hf) fun hnil g hg kR=>low g hg fun ⟨hs,_⟩=>?_
     obtain ⟨q2,hq2,⟨ℓ2,hℓ2⟩,hbk⟩:=(hS g).1 hs;obtain ⟨t',hqt',g3,_⟩:=zvU hA hTt q2 hq2;have hc2:γ.col g=ℓ2:=by
      obtain ⟨a2,v2⟩:=q2;simp only at hℓ2 hbk g3;cases a2 with
      | own r2 e2 l2 C2 y2=>
       simp only [mlab] at hℓ2;rcases zmy g3 with ⟨rfl,_⟩| ⟨g',cap',rfl,p1,_⟩
       ·cases hbk
       ·cases hbk;split at hℓ2<;>cases hℓ2;exact p1
      | om rk2 kj l2 C2 m2=>
       simp only [mlab] at hℓ2;obtain ⟨b2,_,_,rfl,⟨p1,_⟩,_⟩:=g3;cases hbk;split at hℓ2<;>cases hℓ2;exact p1
      | _=>cases hℓ2
     have hl2:ℓ2=ℓ:=by rw [<-hc2,kR]
     subst hl2;have:=zBm b1 hq2 hu hℓ2 (by simp [mlab,hf]);subst this;simp only at hbk;rw [hnil] at hbk;cases hbk
   | _=>simp [tp1] at hq
  | om rk rv ℓ C m=>
   cases t with
   | om rk' rv' k' C' m'=>
    simp only [tp1,xY] at hq;subst hq;simp only [tOk] at htk;cases hf:zer p ℓ with
    | none=>rw [hf] at htk;cases htk
    | some k=>
     rw [hf] at htk;simp only [xw] at htk;obtain ⟨⟨t3,t4⟩,t5⟩:=htk;exact zKh g1 g2 hold xt hDne t4 (zec t5) (hdV ℓ k hf)
   | _=>simp [tp1] at hq
  | _=>simp [tp1] at hq
theorem zlH {P:Program} {o:Oper} {f:FuncId} {args:List Operand} {ts:Array TypeId} {ins ky tns:List AV} (xs:List AV) (p:List (Nat×Nat)) (D:List Nat) (s:Nat) (V:List Nat) (ho:o.op= .call ⟨.value (.func f),args.toArray,ts⟩)
  (hc:∀as w,(callFunc f as).run P w= .ok (.enter f as) w) (ok:ziS P f ins ky tns) (hin:xs.map (inW p)=ins) (ku:xs.length=args.length) (hB:zKy p D s V xs tns=true) (hD0:D.isEmpty=false)
  (hout:(ky.all (zwx (1::p.map (·.2)) D s))=true) (hV:ky.flatMap (zhe s)=V):zni P o (args.zip xs) (p.map (·.1)) V (zoJ (ky.map (zpO D s))) (zDv D s xs tns):=
 zMs xs p D s V ok (fun a w γ h=>⟨_,by simp [execOp,ho,resolve,Act.eval,Deferred.ofValue,invoke,hc],xs,hin,hB,rfl,h⟩) (fun c=>by rw [ho];exact nofun) ku hD0 hout hV
def zHP:List Bx->List AV->Prop
 | [],[]=>True
 | b::bs,.ep r C x off::cs=>(off=0/\zgv b.avs=some (r.lv x)/\subN (b.lab::AV.colsL b.avs) C=true)/\zHP bs cs
 | b::bs,.em rk rv C m::cs=>((∃ℓ C0,b.avs=[.om rk rv ℓ C0 m]/\subN (b.lab::ℓ::C0) C=true)\/∃C0,b.avs=[.mp rk rv C0 m]/\subN (b.lab::C0) C=true)/\zHP bs cs
 | _,_=>False
theorem zvr :∀(xs:List Operand) (bs:List Bx) (cs:List AV),zHP bs cs->xs.length=bs.length->(∀p∈xs.zip (bs.map fun b=>AV.ptr b.lab 0),p.2.rel γ w (ev p.1))->Bxs γ w bs->AV.relL γ w cs (xs.map ev)
 | [],[],[],_,_,_,_=>rfl
 | [],[],_::_,h,_,_,_=>h.elim
 | x::xs,b::bs,.ep r C y off::cs,h,hl,hi,hb=>by
  obtain ⟨⟨rfl,h1,h2⟩,h3⟩:=h;refine ⟨ev x,xs.map ev,rfl,?_,zvr xs bs cs h3 (by simpa using hl) (fun p hp=>hi p (xu _ hp)) (fun c hc=>hb c (xu _ hc))⟩;have hv:=hi (x,.ptr b.lab 0) xt;obtain ⟨hc,cells,hh,hL,hone⟩:=hb b xt;have hsub:=zad h2;refine ⟨γ.box b.lab,0,cells,hv,by rw [hc];exact hsub _ xt,(yh.1 hh).1,zlU h1 hL (fun c hc=>hsub c (xu _ hc)),fun i hi=>?_⟩;rw [yW w _ _ _ _ _ hh];simp
 | x::xs,b::bs,.em rk rv C m::cs,h,hl,hi,hb=>by
  obtain ⟨h1,h3⟩:=h;refine ⟨ev x,xs.map ev,rfl,?_,zvr xs bs cs h3 (by simpa using hl) (fun p hp=>hi p (xu _ hp)) (fun c hc=>hb c (xu _ hc))⟩;have hv:=hi (x,.ptr b.lab 0) xt;obtain ⟨hc,cells,hh,hL,hone⟩:=hb b xt;have km:=(yh.1 hh).1;have hcell:∀u,cells=[u]->w.cell? ⟨γ.box b.lab,0,none⟩=some u:=fun u hu=>by rw [yW w _ _ _ _ _ hh];simp [hu]
  rcases h1 with ⟨ℓ,C0,e1,h2⟩| ⟨C0,e1,h2⟩
  ·have hsub:=zad h2;rw [e1] at hL;obtain ⟨u,r,hu,⟨b',es,cl,hu',⟨g1,_⟩,hlt',hh',hE,_⟩,hr⟩:=hL;cases hr;exact ⟨γ.box b.lab,b',es,cl,hv,by rw [hc];exact hsub _ xt,km,by rw [hcell u hu,hu'],by rw [g1];exact hsub _ (xu _ xt),hlt',hh',hE.mono fun c _ hc'=>hsub _ (xu _ (xu _ hc'))⟩
  ·have hsub:=zad h2;rw [e1] at hL;obtain ⟨u,r,hu,⟨b',es,cl,hu',hF,hlt',hh',hE⟩,hr⟩:=hL;cases hr;exact ⟨γ.box b.lab,b',es,cl,hv,by rw [hc];exact hsub _ xt,km,by rw [hcell u hu,hu'],hsub _ (xu _ hF),hlt',hh',hE.mono fun c _ hc'=>hsub _ (xu _ hc')⟩
 | _::_,_::_,[],h,_,_,_=>h.elim
 | _::_,_::_,.any::_,h,_,_,_=>h.elim
 | _::_,_::_,.lf _::_,h,_,_,_=>h.elim
 | _::_,_::_,.sl ..::_,h,_,_,_=>h.elim
 | _::_,_::_,.own ..::_,h,_,_,_=>h.elim
 | _::_,_::_,.rc ..::_,h,_,_,_=>h.elim
 | _::_,_::_,.ptr ..::_,h,_,_,_=>h.elim
 | _::_,_::_,.bs ..::_,h,_,_,_=>h.elim
 | _::_,_::_,.tl ..::_,h,_,_,_=>h.elim
 | _::_,_::_,@AV.mo _ _ _ _ _ _ _ _ _::_,h,_,_,_=>h.elim
 | _::_,_::_,.cu ..::_,h,_,_,_=>h.elim
 | _::_,_::_,.qp ..::_,h,_,_,_=>h.elim
 | _::_,_::_,.mp ..::_,h,_,_,_=>h.elim
 | _::_,_::_,.om ..::_,h,_,_,_=>h.elim
 | _::_,_::_,.tup ..::_,h,_,_,_=>h.elim
 | _::_,_::_,.ag ..::_,h,_,_,_=>h.elim
 | _::_,_::_,.fv ..::_,h,_,_,_=>h.elim
 | _::_,_::_,.bp ..::_,h,_,_,_=>h.elim
 | _::_,_::_,.it ..::_,h,_,_,_=>h.elim
 | [],_::_,_,_,hl,_,_=>by simp at hl
 | _::_,[],_,_,hl,_,_=>by simp at hl
theorem zNF (xs:List Operand) (bs:List Bx) (cs:List AV) (ho:o.op= .makeFunc (.func g) #[] xs.toArray) (hc:zHP bs cs) (hl:xs.length=bs.length):
  zB P o (xs.zip (bs.map fun b=>AV.ptr b.lab 0)) bs [] [] (.fv g cs) []:=by
 refine zF fun γ ev w hi hb=>?_
 exact ⟨.func (.func g) #[] (xs.map ev).toArray,w,γ,by simp [execOp,ho,Instr.makeFunc],Tr.refl _ _ _ _,⟨xs.map ev,rfl,zvr xs bs cs hc hl hi hb⟩,fun b hb=>by cases hb⟩
def isFv (g:Nat) (l:List AV) (a:AV):Prop:=∀γ w v,a.rel γ w v->∃us:List Value,v= .func (.func g) #[] us.toArray/\AV.relL γ w l us
theorem zNm (g:Nat) (l:List AV):isFv g l (.fv g l):=fun _ _ _ ⟨vs,hv,hL⟩=>⟨vs,hv,hL⟩
theorem zLy {P:Program} {o:Oper} {f:FuncId} {y:Operand} {a:AV} {caps:List AV} {args:List Operand} {ts:Array TypeId} {ins ky:List AV} (xs:List AV) (D:List Nat) (s:Nat)
  (ho:o.op= .call ⟨.value y,args.toArray,ts⟩) (hf:isFv f caps a) (hc:∀as w,(callFunc f as).run P w= .ok (.enter f as) w) (ok:FnOk P f ins ky)
  (hin:(xs++caps).map inAV=ins) (ku:xs.length=args.length) (hD:((xs++caps).all fun a=>subN (zvA a) D)=true) (hD0:D.isEmpty=false) (hout:(ky.all (zwx [1] D s))=true):
  zB P o ((y,a)::args.zip xs) [] [] (ky.flatMap (zhe s)) (zoJ (ky.map (zpO D s))) []:=by
 intro γ av w hi hb next Q hk;obtain ⟨us,hv,hcaps⟩:=hf γ w _ (hi (y,a) xt);have hxs:AV.relL γ w xs (args.map av.eval):=zlP ku fun p hp=>hi p (xu _ hp)
 have hall:=zrw hxs hcaps;have hvs:AV.relL (gh0 (γ.F D)) w ins (args.map av.eval++us):=by
  subst hin;simp only [xI] at hD;exact zrx hall fun x hx v hv=>zEn hv (zad (hD x hx))
 have hcall:=ok w (γ.F D) _ hvs;have kF:(execOp av.eval o).run P w= .ok (.enter f (args.map av.eval++us).toArray) w:=by
  simp only at hv;simp [execOp,ho,resolve,hv,Deferred.ofValue,invoke,hc]
 unfold Oper.wp;rw [kF,qG];refine hcall.mono fun e w' ⟨γc,us,he,hB,⟨hold,hfr⟩,hr⟩=>?_
 subst he;have hDne:D≠[]:=fun e=>by rw [e] at hD0;cases hD0
 simp only [xI] at hout;refine hk (zfK γ γc w.heap.size D s (ky.flatMap (zhe s))) w' _ ⟨hB.os,hB.tape,hB.output,hB.size,fun b hb _=>hB.block b hb,fun b hb=>?_,fun ℓ hℓ=>?_,fun b h1 h2 h0=>?_⟩ (zsm (zrx hr fun x hx v hv=>?_)) (fun b hb=>by cases hb)
 ·show (if b<w.heap.size then γ.col b else _)=_;rw [xr hb]
 ·show (if ℓ∈ky.flatMap (zhe s) then _ else γ.box ℓ)=_;rw [xq hℓ]
 ·exfalso;have kO:=hfr b h1 h2;have h0':(if b<w.heap.size then γ.col b else if γc.col b=0 then D.headD 1 else if γc.col b=1 then 1 else γc.col b+s)=0:=h0
  grind
 ·exact zvN (K:=[1]) (fun b hb=>(hold b hb).imp id fun h=>by simp [h]) (by simp) hDne (hout x hx) (fun c hc=>qh.2 ⟨x,hx,hc⟩) hv
section
variable {m:Bool} {P:Program} {l:List It} {cx:Cx} {E E1:Env}
theorem zdP (h:zdM E E1):JI m P (.c .ret::l) (Sx cx E) fun e a w=>(e= .ret\/e= .normal)/\Sx cx E1 a w:=zyy fun _ _ hs=>⟨.inl rfl,h.go hs⟩
theorem zQx (h:zdM E E1):∀e a w,(e= .ret/\Sx cx E a w)->zhA m P (fun e a w=>(e= .ret\/e= .normal)/\Sx cx E1 a w) l e a w:=zIg fun _ _ hs=>⟨.inl rfl,h.go hs⟩
end
theorem zni.le (h:zni P o ins W V av T) (hl:leI ins' ins):zni P o ins' W V av T:=
 fun γ a w hi=>h γ a w (zCG _ _ hl hi)
theorem ziS.le (h:ziS P f ins ky ts) (hl:leL ins' ins):ziS P f ins' ky ts:=fun w γ vs hr=>h w γ vs (zsb hl hr)
theorem zKb {γ':Gh} {a:Act} {w':World} {d:Option Nat} {av:AV} {v:Value} (hd:∀k,d=some k->k<a.tmps.size) (hv:av.rel γ' w' v):∀f∈slOf d av,f.rel γ' (a.put d v) w':=by
 intro f hf;cases d with
 | none=>cases hf
 | some k=>
  simp only [slOf,xy,xL,xM] at hf;subst hf;show av.rel γ' w' ((a.put (some k) v).tmps.getD k undef);rw [zdt (hd k rfl)];exact hv
def zGu:Operand×AV->Prop
 | (.tmp _,_)=>True
 | (.const v,a)=>zrU v=some a
 | _=>False
def ztR:List (Operand×AV)->Prop
 | []=>True
 | p::l=>zGu p/\ztR l
theorem zry :∀{ins:List (Operand×AV)},ztR ins->(∀f∈zla ins,f.rel γ a w)->∀p∈ins,p.2.rel γ w (a.eval p.1)
 | [],_,_,p,hp=>by cases hp
 | (x,y)::l,hc,h,p,hp=>by
  obtain ⟨h1,h2⟩:=hc;have ht:∀f∈zla l,f.rel γ a w:=fun f hf=>h f (by cases x<;>simp [zla,hf])
  cases hp with
  | head=>
   cases x with
   | tmp k=>exact h (.sl k y) (by simp [zla])
   | const v=>exact znn h1 γ w
   | _=>exact h1.elim
  | tail _ hp=>exact zry h2 ht p hp
section
end
set_option linter.unusedSectionVars false
section
variable {κ ν μ α:Type} [DecidableEq κ]
theorem znu:∀{m:List (κ×ν)} {n:List (κ×μ)},m.map Prod.fst=n.map Prod.fst->∀k,(mget m k).isSome=(mget n k).isSome
 | [],[],_,_=>rfl
 | [],_::_,h,_=>by simp at h
 | _::_,[],h,_=>by simp at h
 | p::m,q::n,h,k=>by
  simp only [xJ,yM] at h;rw [mget,mget,h.1];split
  ·rfl
  ·exact znu h.2 k
theorem zGQ (h:m.map Prod.fst=n.map Prod.fst) (k:κ) (x:ν) (y:μ):(mput m k x).map Prod.fst=(mput n k y).map Prod.fst:=by
 have hs:=znu h k;rw [zkr,zkr]
 grind
theorem zIV {F:Fp} {w:World} {x v:Value} (h:VRel F w Rp.valR x v):v=x/\x.oneCell'=true:=by
 have h1:zat F w (.val x) v:=zvd rfl rfl h;cases h1 with
 | val _ h'=>exact ⟨rfl,h'⟩
theorem zOn (h:v.oneCell'=true):VRel F w Rp.valR v v:=zsw rfl rfl (.val v h)
theorem zsL.own (h:zsL γ w r e ℓ C xs v) (hn:ℓ∉C):AV.rel ⟨γ.col,fun _=>v.ownBlock.getD 0⟩ w (.own r e ℓ C xs) v:=by
 obtain ⟨cs,ho,hg,hA⟩:=h;exact ⟨cs,ho,fun g kH=>⟨hg g kH,by simp [kH]⟩,hA,hn⟩
theorem zsL.vrel (h:zsL γ w r e ℓ C xs v) (hn:ℓ∉C):VRel (γ.F (ℓ::C)) w (Rp.list r) xs v:=
 zsw rfl rfl (zat.mono (zrk (h.own hn)) fun _ _ h=>h)
theorem zsL.one (h:zsL γ w r e ℓ C xs v):v.oneCell'=true:=by
 obtain ⟨cs,ho,_⟩:=h;rcases ho.2 with ⟨rfl,_⟩| ⟨g,kC,kM,rfl,_⟩<;>rfl
theorem RowX.sl {γ:Gh} {w:World} {r:Rp α} {e:TypeId} {ℓ:Nat} {C:List Nat} {o:Prop} {xs:List α} {v:Value} (h:RowX γ w r e ℓ C o xs v) (hn:ℓ∉C):zat (γ.F (ℓ::C)) w (.sl xs.length r.size (xs.flatMap r.lv)) v:=by
 rcases h with ⟨_,h⟩| ⟨_,_,h⟩
 ·exact zat.mono (zrk (h.own hn)) fun _ _ h=>h
 ·exact h.mono fun b _ hb=>xu _ hb
theorem RowX.vrel {γ:Gh} {w:World} {r:Rp α} {e:TypeId} {ℓ:Nat} {C:List Nat} {o:Prop} {xs:List α} {v:Value} (h:RowX γ w r e ℓ C o xs v) (hn:ℓ∉C):VRel (γ.F (ℓ::C)) w (Rp.list r) xs v:=zsw rfl rfl (h.sl hn)
theorem RowX.one {γ:Gh} {w:World} {r:Rp α} {e:TypeId} {ℓ:Nat} {C:List Nat} {o:Prop} {xs:List α} {v:Value} (h:RowX γ w r e ℓ C o xs v):v.oneCell'=true:=by
 rcases h with ⟨_,h⟩| ⟨_,_,h⟩
 ·exact h.one
 ·exact h.one
theorem esOf (h:zda F w rk Rp.valR n es) (hFG:∀b,F b->G b):∀{m:List (κ×ν)},m.map Prod.fst=n.map Prod.fst->(n.map Prod.fst).Nodup->
  (∀k xs u,mget m k=some xs->mget n k=some u->VRel G w rv xs u)->zda G w rk rv m es:=by
 induction h with
 | nil=>intro m hm _ _;cases m with
  | nil=>exact .nil
  | cons p m=>simp at hm
 | @cons q n e es h1 h2 h3 ih=>
  intro m hm hnd hr;cases m with
  | nil=>simp at hm
  | cons p m=>
   simp only [xJ,yM] at hm;rw [xJ,pS] at hnd;refine .cons ?_ ?_ (ih hm.2 hnd.2 fun k xs u k1 k2=>?_)
   ·rw [hm.1];exact h1.mono fun b _ hb=>hFG b hb
   ·rw [(zIV h2).1];exact hr q.1 p.2 q.2 (by rw [mget,xr hm.1.symm]) (by rw [mget,xr rfl])
   ·have hk:k∈n.map Prod.fst:=uz fun hk=>by
     have:mget n k=none:=by
      clear k2 k1 ih h3 hr hnd hm
      induction n with
      | nil=>rfl
      | cons x n ih=>rw [mget,xq (fun e=>hk (by rw [e];exact xt))];exact ih fun h=>hk (xu _ h)
     grind
    have kO:k≠q.1:=fun e=>hnd.1 (by rw [<-e];exact hk)
    exact hr k xs u (by rw [mget,xq (by rw [hm.1];exact kO)];exact k1) (by rw [mget,xq kO];exact k2)
theorem zCD (rk:Rp κ) (r:Rp α) (e:TypeId) (ℓ:Nat) (C:List Nat) (m:List (κ×List α)):isMp rk (Rp.list r) m (ℓ::C) (.mo rk r e ℓ C m):=fun γ w v ⟨b,n,O,hv,es,cl,⟨g1,g2⟩,hb,hh,hO,hE,hR,hn⟩=>
 ⟨b,es,cl,hv,by rw [g1];exact xt,hb,⟨hh,hO.1,hO.2.1,by rw [hR.keys];exact hO.2.2⟩,esOf hE (fun b hb=>xu _ hb) hR.keys hO.2.2 fun k xs u k1 k2=>(hR.row k xs u k1 k2 trivial).vrel hn⟩
theorem zQz (rk:Rp κ) (r:Rp α) (e:TypeId) (ℓ:Nat) (C C':List Nat) (m:List (κ×List α)) (h:subN C C'=true) (hn:memN ℓ C'=false):AV.le (.mo rk r e ℓ C m) (.mo rk r e ℓ C' m):=fun _ _ _ ⟨b,n,O,hv,hm⟩=>
 ⟨b,n,O,hv,hm.regh (fun _ _ h=>h) (fun _ _ hb=>zad h _ hb) rfl fun hc=>by rw [zaf.2 hc] at hn;cases hn⟩
theorem zPp (rk:Rp κ) (r:Rp α) (e:TypeId) (ℓ:Nat) (C C':List Nat) (m:List (κ×List α)) (h:subN (ℓ::C) C'=true):AV.le (.mo rk r e ℓ C m) (.mp rk (Rp.list r) C' m):=fun γ w v hv=>zLo _ _ m h γ w v (zCD rk r e ℓ C m γ w v hv)
theorem zNH {P:Program} {o:Oper} {t:TypeId} {rk:Rp κ} {r:Rp α} {e:TypeId} (ℓ:Nat) (ho:o.op= .makeMap t none):zB P o [] [] [] [ℓ] (.mo rk r e ℓ [] []) []:=by
 refine zF fun γ ev w hi _=>?_
 refine ⟨.map (some w.heap.size),w.alloc (.map #[] 0),_,?_,zrH γ w ℓ _,⟨w.heap.size,[],fun _=>True,rfl,#[],0,⟨zko _ _ _ _,zeM _ _ _ _⟩,by simp,yV w _,zFz,.nil,⟨rfl,fun k xs u h=>(by cases h),fun j k u v _ h=>(by cases h)⟩,by simp⟩,fun b hb=>by cases hb⟩;simp [execOp,ho,Instr.makeMap]
end
section
variable {P:Program} {o:Oper} {κ α:Type} [DecidableEq κ] {rk:Rp κ} {r:Rp α} {e:TypeId} {ℓ:Nat} {C D C1:List Nat} {m:List (κ×List α)} {t kt et:TypeId} {q:κ}
theorem zQl (h:zok (.sl n s ls) z=true):z= .slice none 0 0:=by
 unfold zok at h
 grind
theorem MapT.val (hT:MapT P t kt et rk (Rp.list r) ([]:List α)):MapT P t kt et rk Rp.valR (.slice none 0 0):=by
 refine ⟨hT.u,hT.key,?_⟩;obtain ⟨i,z,hi,hz,hzo,hza,hzb⟩:=hT.zero;have hz0:z= .slice none 0 0:=by
  have hc:=hzb rfl;rw [hc] at hzo;have h1:zokL [LV.sl 0 r.size []] [z]=true:=hzo;simp only [zokL,xw] at h1;exact zQl h1.1
 subst hz0;exact ⟨i,_,hi,hz,by simp [Rp.valR,Value.cells,zokL,zok],⟨fun h=>(by cases h),fun _=>rfl⟩⟩
theorem zLU (k d ℓ:Nat) (ho:o.op= .move (.tmp k)\/o.op= .assign (.tmp k)) (hd:o.dst=some d):ztN P o [.ms k ℓ] [] [] [.ms d ℓ]:=by
 intro γ a w hs hr next Q hk;have h:a.tmps.getD k undef=_:=hr (.ms k ℓ) (by simp);have kF:(execOp a.eval o).run P w= .ok (.value (a.tmps.getD k undef)) w:=by rcases ho with ho| ho<;>simp [execOp,ho,Act.eval]
 refine zkt kF (hk γ w _ (Tr.refl _ _ _ _) fun f hf=>?_);simp only [xy,xL,xM] at hf;subst hf;show _=_;rw [hd,zdt (hs d hd)];exact h
theorem zPJ (k0 k1 d:Nat) (ho:o.op= .lookup t (.tmp k1) z false) (hd:o.dst=some d) (hT:MapT P t kt et rk (Rp.list r) ([]:List α)) (hk:asV rk q C1 ak) (hc:zGu (z,ak)):
  ztN P o (.ms k1 ℓ:: .sl k0 (.mo rk r e ℓ C m)::zla [(z,ak)]) [] [] [.lk d rk r e ℓ C m q]:=by
 intro γ a w hs hr next Q hnx;have h1:a.tmps.getD k1 undef=_:=hr (.ms k1 ℓ) (by simp);obtain ⟨b,n,O,hv,hm⟩:=hr (.sl k0 (.mo rk r e ℓ C m)) (by simp);have h2:=hk γ w _ (zry (ins:=[(z,ak)]) ⟨hc,trivial⟩ (fun f hf=>hr f (xu _ (xu _ hf))) (z,ak) (by simp));have hm0:=hm;obtain ⟨es,cl,⟨g1,g2⟩,hb,hh,hO,hE,hR,hn⟩:=hm;rw [g2] at h1;obtain ⟨u,kF,hu⟩:=zpG hT.val hh hE h2 false;have hrun':(execOp a.eval o).run P w= .ok (.value u) w:=by
  have e1:a.eval (.tmp k1)= .map (some b):=h1;simp [execOp,ho,e1,kF]
 refine zkt hrun' (hnx γ w _ (Tr.refl _ _ _ _) fun f hf=>?_);simp only [xy,xL,xM] at hf;subst hf;exact ⟨b,n,O,hm0,by rw [hd,zdt (hs d hd)];exact (zIV hu).1⟩
theorem zMd {α:Type} {r:Rp α} {e:TypeId} {P:Program} {t:TypeId} {bytes:Nat} (hT:ElT P t e r.size bytes) (hb:0<bytes) (ty:TypeId) {γ:Gh} {w:World} {ℓ:Nat} {C:List Nat} {o:Prop} {xs:List α} {v:Value} (hx:RowX γ w r e ℓ C o xs v)
  (A:Option Addr) (m c:Nat) (news:List Value) (hl:news.length=m*r.size) (hA:0<m->∃b off,A=some ⟨b,off,none⟩/\∀i,i<m*r.size->w.cell? ⟨b,off+i,none⟩=news[i]?) (h1:∀u∈news,u.oneCell'=true) (hlim:(xs.length+m)*bytes<=140737488355328):
  ∃v' w',(Builtin.append_ #[t,t] ty #[v,.slice A m c]).run P w= .ok v' w'/\(∃g,w.grownBy w' g/\∀b,g=some b->o/\v.ownBlock=some b)/\
   ((∃cs,w'.ownsRow 0 e r.size v' (xs.length+m) (cs++news)/\zX (γ.F C) w (xs.flatMap r.lv) cs/\∀g,v'.ownBlock=some g->w.heap.size<=g\/(o/\v.ownBlock=some g))\/(¬o/\m=0/\v'=v/\w'=w)):=by
 rcases hx with ⟨ho,cs,kQ,hg,hA0⟩| ⟨ho,⟨A0,rfl⟩,hL⟩
 ·obtain ⟨v',w',hr,ho',hgr,hbk⟩:=zxw hT r.pos hb ty w _ _ _ kQ A m c news hl hA h1 hlim;refine ⟨v',w',hr,⟨_,hgr,fun b hb=>⟨ho,hb⟩⟩,.inl ⟨cs,ho',hA0,fun g hg'=>?_⟩⟩;rcases hbk with h| h
  ·exact .inr ⟨ho,by rw [<-h];exact hg'⟩
  ·rw [h] at hg';cases hg';exact .inl (xx _)
 ·obtain ⟨A1,c1,cs,he,hcc,hmm,hA0,hcs,hcell⟩:=znB hL;cases he;obtain ⟨i,z,hi,hz,hs,hby,hzs⟩:=hT.ex;have hnm:xs.length+m<=maxLen:=by
   have:(xs.length+m)*1<=(xs.length+m)*bytes:=up _ hb;unfold maxLen;omega
  rcases ph m with rfl| hm
  ·refine ⟨_,w,?_,⟨none,⟨rfl,rfl,rfl,xx _,fun _ _ _=>rfl⟩,fun b hb=>by cases hb⟩,.inr ⟨ho,rfl,rfl,rfl⟩⟩;cases A with
   | none=>cases A0<;>simp [Builtin.append_,run_underlying hT.u,sizeOf,typeInfo,hi,Builtin.lenOf,Builtin.firstCells,storeCells]
   | some ad=>
    have hf:=run_firstCells_some (P:=P) w i.size 0 ad 0 c [] (by simp) (fun j v h=>by simp at h);cases A0<;>simp [Builtin.append_,run_underlying hT.u,sizeOf,typeInfo,hi,Builtin.lenOf,hf,storeCells]
  ·obtain ⟨b,off,rfl,hcb⟩:=hA hm;have hnews:∀j u,news[j]? =some u->w.cell? ((⟨b,off,none⟩:Addr).add j)=some u:=fun j u hu=>by
    rw [zfU,hcb j (by rw [<-hl];exact (yA.1 hu).1)];exact hu
   cases A0 with
   | some b0=>
    have holds:∀j u,cs[j]? =some u->w.cell? (b0.add j)=some u:=fun j u hu=>by
     have hj:=(yA.1 hu).1;have hpos:0<xs.length:=Nat.pos_of_ne_zero fun h=>by rw [hcs,h] at hj;omega
     obtain ⟨b1,off1,e1,_,_,hc0⟩:=hcell hpos;cases e1;rw [zfU,hc0 j (by rw [<-hcs];exact hj)];exact hu
    obtain ⟨v',w',hr,ho',hgr⟩:=run_append_arg_grows (P:=P) w t ty e i z r.size bytes hT.u hi hz hs hby hzs r.pos b0 xs.length xs.length cs hcs holds ⟨b,off,none⟩ m c news hl hnews (by omega) hnm hlim;refine ⟨v',w',hr,⟨none,hgr,fun b hb=>by cases hb⟩,.inl ⟨cs,⟨ho'.1,?_⟩,hA0,fun g hg=>?_⟩⟩
    ·rcases ho'.2 with h| ⟨g,kC,kM,h1,_,h2⟩
     ·exact .inl h
     ·exact .inr ⟨g,kC,kM,h1,xC _,h2⟩
    ·rcases ho'.2 with ⟨h,_⟩| ⟨g',kC,kM,h,hge,_⟩
     ·rw [h] at hg;cases hg
     ·rw [h] at hg;have:g'=g:=by simpa [Value.ownBlock] using hg
      subst this;exact .inl hge
   | none=>
    have h0:xs.length=0:=uz fun h=>by
     obtain ⟨_,_,e1,_⟩:=hcell (Nat.pos_of_ne_zero h);cases e1
    have hx0:xs=[]:=yE h0;subst hx0;obtain ⟨v',w',hr,ho',hgr,hbk⟩:=zxw hT r.pos hb ty w (.slice none 0 0) 0 [] (pM w 0 e r.size) (some ⟨b,off,none⟩) m c news hl (fun _=>⟨b,off,rfl,hcb⟩) h1 hlim;refine ⟨v',w',hr,⟨none,hgr,fun b hb=>by cases hb⟩,.inl ⟨[],ho',zX.nil,fun g hg=>?_⟩⟩;rcases hbk with h| h
    ·rw [h] at hg;cases hg
    ·rw [h] at hg;cases hg;exact .inl (xx _)
theorem zPO {γ:Gh} {w:World} {b:Nat} {n:List (κ×Value)} {O:κ->Prop} {v:Value} (hm:MoIn γ w rk r e ℓ C (fun _=>True) O m b n) (hv:v=(mget n q).getD (.slice none 0 0)):
  ∃o:Prop,RowX γ w r e ℓ C o ((mget m q).getD []) v/\∀k u,k≠q->O k->o->mget n k=some u->zCg u v:=by
 obtain ⟨es,cl,_,_,_,_,_,hR,_⟩:=hm;have hq:=znu hR.keys q;cases h1:mget n q with
 | none=>
  rw [h1] at hv hq;cases h3:mget m q with
  | some x=>rw [h3] at hq;cases hq
  | none=>
   rw [hv];exact ⟨True,.inl ⟨trivial,[],pM w 0 e r.size,fun g hg=>(by cases hg),zX.nil⟩,fun k u _ _ _ _ g _ h=>by cases h⟩
 | some v1=>
  rw [h1] at hv hq;cases h3:mget m q with
  | none=>rw [h3] at hq;cases hq
  | some x=>
   rw [hv];exact ⟨O q,hR.row q x v1 h3 h1 trivial,fun k u hk h1' h2' hu=>hR.apart k q u v1 hk hu h1 trivial trivial h1' h2'⟩
theorem zMW {γ γ':Gh} {w w':World} {bm:Nat} {n:List (κ×Value)} {O:κ->Prop} {o1 o2:Prop} {xs zs:List α} {v v':Value} {C2:List Nat} {d:Nat} {a:Act} (hm:MoIn γ w rk r e ℓ C (fun _=>True) O m bm n) (hrow:RowX γ w r e ℓ C o1 xs v)
  (hap:∀k u,k≠q->O k->o1->mget n k=some u->zCg u v) (ht:Tr [ℓ] [] γ w γ' w') (hbk:∀b,b<w.heap.size->¬(o1/\v.ownBlock=some b)->w'.heap[b]? =w.heap[b]?) (hC2:ℓ∉C2) (hCC:∀c∈C,c∈C2)
  (hnew:RowX γ' w' r e ℓ C2 o2 zs v') (hat:o2->∀g,v'.ownBlock=some g->w.heap.size<=g\/(o1/\v.ownBlock=some g)) (hslot:a.tmps.getD d undef=v'):Fact.rel γ' a w' (.ap d rk r e ℓ C2 m q zs):=by
 obtain ⟨es,cl,⟨g1,g2⟩,hbm,hh,hO,hE,hR,hn⟩:=hm;have hn2:∀c∈C2,c∉[ℓ]:=fun c hc h=>by
  simp only [xy,xL,xM] at h;subst h;exact hC2 hc
 have hq:((q=q/\o2)\/(q≠q/\O q))=o2:=by simp
 have hk:∀k,k≠q->((k=q/\o2)\/(k≠q/\O k))=O k:=fun k h=>by simp [h]
 refine ⟨bm,n,fun k=>(k=q/\o2)\/(k≠q/\O k),⟨es,cl,⟨by rw [ht.col bm hbm];exact g1,by rw [ht.box ℓ (by simp)];exact g2⟩,xV hbm ht.size,?_,hO,ht.es hn2 (hE.mono fun b _ hb=>hCC _ hb),⟨hR.keys,fun k x u k1 k2 k3=>?_,fun i k u u' h k1 k2 s1 s2 o1' o2'=>?_⟩,hC2⟩,?_,fun i u hi o1' o2' hu g hgu hgv=>?_⟩
 ·rw [hbk bm hbm fun ⟨h1,h2⟩=>?_];exact hh;rcases hrow with ⟨_,cs,kQ,_⟩| ⟨hno,_⟩
  ·rcases kQ.2 with ⟨h3,_⟩| ⟨g,kC,kM,h3,_,h4,_⟩
   ·rw [h3] at h2;cases h2
   ·rw [h3] at h2;have:g=bm:=by simpa [Value.ownBlock] using h2
    grind
  ·exact hno h1
 ·simp only [hk k k3];rcases hR.row k x u k1 k2 trivial with ⟨ho,cs,hw,hg,hA⟩| ⟨ho,hv,hL⟩
  ·refine .inl ⟨ho,cs,zjC hw fun g kH=>hbk g (hw.lt g kH).2 fun ⟨h1,h2⟩=>hap k u k3 ho h1 k2 g kH h2,fun g kH=>by rw [ht.col g (hw.lt g kH).2];exact hg g kH,ht.all hn2 (hA.mono fun b _ hb=>hCC _ hb)⟩
  ·exact .inr ⟨ho,hv,ht.lv hn2 (hL.mono fun b _ hb=>hCC _ hb)⟩
 ·simp only [hk i s1] at o1';simp only [hk k s2] at o2';exact hR.apart i k u u' h k1 k2 trivial trivial o1' o2'
 ·show RowX γ' w' r e ℓ C2 ((q=q/\o2)\/(q≠q/\O q)) zs _;rw [hq,hslot];exact hnew
 ·simp only [hk i hi] at o1';replace o2':o2:=hq▸o2';rw [hslot] at hgv;rcases hat o2' g hgv with h| ⟨h1,h2⟩
  ·have hs:=znu hR.keys i;rw [hu] at hs;cases h3:mget m i with
   | none=>rw [h3] at hs;cases hs
   | some x=>
    rcases hR.row i x u h3 hu trivial with ⟨_,cs,hw,_⟩| ⟨hno,_⟩
    ·have:=(hw.lt g hgu).2;omega
    ·exact hno o1'
  ·exact hap i u hi o1' h1 hu g hgu h2
theorem zNY (j k1:Nat) (ks:List Nat) (ho:o.op= .mapUpdate t (.tmp k1) z (.tmp j)) (hd:o.dst=none) (hT:MapT P t kt et rk (Rp.list r) ([]:List α)) (hk:asV rk q C1 ak) (hc:zGu (z,ak)) (hC:subN C1 C=true):
  ztN P o (.ap j rk r e ℓ C m q ys:: .ms k1 ℓ::(zla [(z,ak)]++ks.map fun k=> .ms k ℓ)) [ℓ] [] (ks.map fun k=> .sl k (.mo rk r e ℓ C (mput m q ys))):=by
 intro γ a w hs hr next Q hnx;obtain ⟨b,n,O,hm,hrow,hap⟩:=hr (.ap j rk r e ℓ C m q ys) (by simp);have h1:a.tmps.getD k1 undef=_:=hr (.ms k1 ℓ) (by simp);have h2:=hk γ w _ (zry (ins:=[(z,ak)]) ⟨hc,trivial⟩ (fun f hf=>hr f (xu _ (xu _ (yq _ hf)))) (z,ak) (by simp));simp only at h2;obtain ⟨es,cl,⟨g1,g2⟩,hb,hh,hO,hE,hR,hn⟩:=hm;rw [g2] at h1;obtain ⟨v,hve⟩:∃v,v=a.tmps.getD j undef:=⟨_,rfl⟩;rw [<-hve] at hrow hap;obtain ⟨es',cl',kF,hE',hO'⟩:=zFw hO hT.val hh hE h2 (fun b h=>zad hC _ h) (zOn (F:=γ.F C) (w:=w) hrow.one) (fun _ h=>h);have hrun':(execOp a.eval o).run P w= .ok .skip {w with heap:=w.heap.setIfInBounds b (.map es' cl')}:=by
  have e1:a.eval (.tmp k1)= .map (some b):=h1;have e2:a.eval (.tmp j)=v:=hve.symm;simp [execOp,ho,e1,e2,kF]
 have ht:=zMB (w:=w) g1 (.map es' cl');have hnot:∀c∈C,c∉[ℓ]:=fun c hc h=>by
  grind
 have keepR:∀{o':Prop} {x:List α} {u:Value},RowX γ w r e ℓ C o' x u->RowX γ {w with heap:=w.heap.setIfInBounds b (.map es' cl')} r e ℓ C o' x u:=fun {o' x u} h=>by
  rcases h with ⟨ho',ds,do',dg,dA⟩| ⟨ho',hv',hL⟩
  ·refine .inl ⟨ho',ds,zjC do' fun g kH=>?_,dg,ht.all hnot dA⟩;have kO:b≠g:=fun e=>by
    rcases do'.2 with ⟨h1,_⟩| ⟨g',kC,kM,h1,_,h3,_⟩
    ·rw [h1] at kH;cases kH
    ·rw [h1] at kH;have:g'=g:=by simpa [Value.ownBlock] using kH
     grind
   grind
  ·exact .inr ⟨ho',hv',ht.lv hnot hL⟩
 refine zyW hrun' (hnx γ _ undef ht fun f hf=>?_);obtain ⟨k,hk',rfl⟩:=xA.1 hf;have h0:a.tmps.getD k undef=_:=hr (.ms k ℓ) (xu _ (xu _ (yl _ (xA.2 ⟨k,hk',rfl⟩))));have hslot:(a.put o.dst undef).tmps.getD k undef= .map (some b):=by rw [hd,<-g2];exact h0
 refine ⟨b,mput n q v,O,by rw [hslot],es',cl',⟨g1,g2⟩,by simpa using hb,by simp [hb],hO',ht.es hnot hE',⟨zGQ hR.keys _ _ _,fun k x u k1 k2 _=>?_,fun i k u u' hik k1 k2 _ _ o1 o2=>?_⟩,hn⟩
 ·rw [zfR] at k1 k2;by_cases e1:k=q
  ·rw [xr e1] at k1 k2;cases k1;cases k2;rw [e1];exact keepR hrow
  ·rw [xq e1] at k1 k2;exact keepR (hR.row k x u k1 k2 e1)
 ·rw [zfR] at k1 k2;by_cases e1:i=q
  ·rw [xr e1] at k1;cases k1;have e2:k≠q:=fun e=>hik (by rw [e1,e])
   rw [xq e2] at k2;exact fun g h3 h4=>hap k u' e2 o2 (e1▸o1) k2 g h4 h3
  ·rw [xq e1] at k1;by_cases e2:k=q
   ·rw [xr e2] at k2;cases k2;exact hap i u e1 o1 (e2▸o2) k1
   ·rw [xq e2] at k2;exact hR.apart i k u u' hik k1 k2 e1 e2 o1 o2
end
def BxsT (W V:List Nat) (T:List (AV×AV)):List (Bx×Bx)->Prop
 | []=>True
 | (b,c)::l=>(b.lab=c.lab/\b.typ=c.typ/\(!memN b.lab W&& !memN b.lab V)=true/\zpa W V T b.avs c.avs)/\BxsT W V T l
theorem BxsT.rel (t:Tr W V γ w γ' w') (hT:∀p∈T,znF γ w γ' w' p):∀{l:List (Bx×Bx)},BxsT W V T l->(∀p∈l,p.1.rel γ w)->∀p∈l,p.2.rel γ' w'
 | [],_,_,p,hp=>by cases hp
 | (b,c)::l,h,hs,p,hp=>by
  obtain ⟨⟨hlab,hty,hWV,ht⟩,h2⟩:=h;cases hp with
  | head=>
   obtain ⟨g1,cs,hh,hL,h1⟩:=hs (b,c) xt;simp only [xw] at hWV;simp only at g1 hh hL;have km:=(yh.1 hh).1;refine ⟨?_,cs,?_,ht.rel t hT hL,h1⟩
   ·simp only;rw [<-hlab,t.box _ (zec hWV.2),t.col _ km];exact g1
   ·simp only;rw [<-hlab,t.box _ (zec hWV.2),<-hty,t.block _ km (by rw [g1];exact zec hWV.1)];exact hh
  | tail _ hp=>exact BxsT.rel t hT h2 (fun p hp=>hs p (xu _ hp)) p hp
section
variable {κ ν:Type} [DecidableEq κ]
variable {rk:Rp κ} {rv:Rp ν}
theorem zuq (ea:AV) (ho:o.op= .lookup t x z false) (hT:MapT P t kt et rk rv x0) (hk:asV rk k C1 b) (he:elAV rv C ((mget m k).getD x0) ea):
  zB P o [(x,.om rk rv ℓ C m),(z,b)] [] [] [] ea []:=by
 refine zF fun γ ev w hi _=>?_
 obtain ⟨b',es,cl,hv,hF,hb,hh,hE,hn⟩:=hi (x,.om rk rv ℓ C m) (by simp);have h2:=hk γ w _ (hi (z,b) (by simp));simp only at hv h2;obtain ⟨v,hr,hV⟩:=zpG hT hh.1 hE h2 false;exact ⟨v,w,γ,by simp [execOp,ho,hv,hr],Tr.refl _ _ _ _,he γ w v hV,fun b hb=>by cases hb⟩
theorem zsc (ea:AV) (ho:o.op= .lookup t x z true) (hT:MapT P t kt et rk rv x0) (hk:asV rk k C1 b) (he:elAV rv C ((mget m k).getD x0) ea):
  zB P o [(x,.om rk rv ℓ C m),(z,b)] [] [] [] (.tup [ea,.lf (.bool (mget m k).isSome)]) []:=by
 refine zF fun γ ev w hi _=>?_
 obtain ⟨b',es,cl,hv,hF,hb,hh,hE,hn⟩:=hi (x,.om rk rv ℓ C m) (by simp);have h2:=hk γ w _ (hi (z,b) (by simp));simp only at hv h2;obtain ⟨v,hr,hV⟩:=zpG hT hh.1 hE h2 true;exact ⟨_,w,γ,by simp [execOp,ho,hv,hr],Tr.refl _ _ _ _,⟨[v,.bool (mget m k).isSome],rfl,v,_,rfl,he γ w v hV,_,_,rfl,zIr _ _ _,rfl⟩,fun b hb=>by cases hb⟩
end
set_option linter.unusedSectionVars false
def fnXP (w0:World) (γ0:Gh):Ext where
 X γ w:=(fnXW w0 γ0).X γ w/\∀b,b<w0.heap.size->spB (γ0.col b)=true->γ.col b=γ0.col b
 tr:=fun {γ γ' w w' W V} h t hW hV=>⟨(fnXW w0 γ0).tr h.1 t hW hV,fun b hb hs=>(t.col b (xV hb h.1.1.2.2.2)).trans (h.2 b hb hs)⟩
 ren:=fun {γ γ' w} h k=>⟨(fnXW w0 γ0).ren h.1 k,fun b hb hs=>(k.old b (by rw [h.2 b hb hs];exact hs)).trans (h.2 b hb hs)⟩
 base:=w0.heap.size
 le:=fun h=>h.1.1.2.2.2
def KpOk (ins:List AV) (E:Env) (keep:List Nat):List (Nat×Nat)->Prop
 | []=>True
 | q::l=>(memN q.1 keep=true/\ins[q.1]? =some (.ptr q.2 0)/\lookup E.sl q.1=some (.ptr q.2 0))/\KpOk ins E keep l
theorem KpOk.at :∀{l:List (Nat×Nat)},KpOk ins E keep l->∀q∈l,memN q.1 keep=true/\ins[q.1]? =some (.ptr q.2 0)/\lookup E.sl q.1=some (.ptr q.2 0)
 | [],_,q,hq=>by cases hq
 | p::l,h,q,hq=>by
  cases hq with
  | head=>exact h.1
  | tail _ hq=>exact KpOk.at h.2 q hq
theorem Bxs.regh (h:∀b,b<w.heap.size->γ'.col b=γ.col b) (hb:∀ℓ,γ'.box ℓ=γ.box ℓ) (hr:Bxs γ w bs):Bxs γ' w bs:=by
 intro b hm;obtain ⟨h1,cs,hh,hL,h1c⟩:=hr b hm;have km:=(yh.1 hh).1;exact ⟨by rw [hb,h _ km];exact h1,cs,by rw [hb];exact hh,AV.reghL _ (fun b hb _=>h b hb) (fun ℓ _=>hb ℓ) hL,h1c⟩
def inP (p:List (Nat×Nat)):AV->AV
 | .ptr ℓ off=>match zer p ℓ with
  | some k=> .ptr k off
  | none=> .any
 | a=>inW p a
def mapP (p:List (Nat×Nat)) (s c:Nat):Nat:=match zhm p c with
 | some ℓ=>ℓ
 | none=>c+s
def zjB (D:List Nat) (p:List (Nat×Nat)) (s:Nat):List Nat->List Nat
 | []=>[]
 | c::C=>(match c with
  | 0=>D
  | c+1=>[mapP p s (c+1)])++zjB D p s C
def zIA (D:List Nat) (p:List (Nat×Nat)) (s:Nat):AV->AV
 | .lf l=> .lf l
 | .sl r C xs=> .sl r (zjB D p s C) xs
 | .own r e ℓ C xs=> .own r e (mapP p s ℓ) (zjB D p s C) xs
 | .rc r C x=> .rc r (zjB D p s C) x
 | .qp r C o=> .qp r (zjB D p s C) o
 | .mp rk rv C m=> .mp rk rv (zjB D p s C) m
 | .om rk rv ℓ C m=> .om rk rv (mapP p s ℓ) (zjB D p s C) m
 | .ptr k off=> .ptr (mapP p s k) off
 | _=> .any
def outP (D:List Nat) (p:List (Nat×Nat)) (s:Nat):AV->AV
 | .ag l=> .ag (l.map (zIA D p s))
 | a=>zIA D p s a
def labP (p:List (Nat×Nat)) (s k:Nat):Bool:=Nat.ble 2 k&&(match zhm p k with
 | some ℓ=>(match zer p ℓ with
  | some k'=>Nat.beq k' k
  | none=>false)
 | none=>(match zer p (k+s) with
  | some _=>false
  | none=>true))
def boxP (p:List (Nat×Nat)) (s:Nat) (V ks:List Nat) (k:Nat):Bool:=labP p s k&&(memN (mapP p s k) V|| (memN k ks&&(match zhm p k with
 | some _=>true
 | none=>false)))
def okP1 (D:List Nat) (p:List (Nat×Nat)) (s:Nat) (V ks:List Nat):AV->Bool
 | .sl _ C _| .rc _ C _| .qp _ C _=> !memN 1 C
 | .mp _ _ C _=> !memN 1 C
 | .own _ _ ℓ C _=> !memN 1 C&&labP p s ℓ&&memN (mapP p s ℓ) V&& !memN (mapP p s ℓ) (zjB D p s C)
 | .om _ _ ℓ C _=> !memN 1 C&&labP p s ℓ&&memN (mapP p s ℓ) V&& !memN (mapP p s ℓ) (zjB D p s C)
 | .ptr k _=>boxP p s V ks k
 | _=>true
def okP (D:List Nat) (p:List (Nat×Nat)) (s:Nat) (V ks:List Nat):AV->Bool
 | .ag l=>l.all (okP1 D p s V ks)
 | a=>okP1 D p s V ks a
def pOk (p:List (Nat×Nat)) (D:List Nat):Bool:=(p.all fun q=>Nat.ble 2 q.1&&spB q.2&&(match zhm p q.2 with
 | some c=>Nat.beq c q.1
 | none=>false))&&zhG (p.map (·.1)) D
theorem zBx:∀{l:List (Nat×Nat)} {c k:Nat},zhm l k=some c->(c,k)∈l
 | [],_,_,h=>by cases h
 | p::l,c,k,h=>by
  rw [zhm] at h;split at h
  ·rename_i hb;cases h;rw [<-xG hb];exact xt
  ·exact xu _ (zBx h)
noncomputable def ghP (γ γc:Gh) (n:Nat) (D:List Nat) (p:List (Nat×Nat)) (s:Nat) (V:List Nat):Gh:=
 ⟨fun b=>if b<n then γ.col b else if γc.col b=0 then D.headD 1 else if γc.col b=1 then 1 else mapP p s (γc.col b),fun ℓ=>match memN ℓ V with
  | true=>γc.box (match zer p ℓ with
   | some k=>k
   | none=>ℓ - s)
  | false=>γ.box ℓ⟩
structure zxE (γ γc:Gh) (n:Nat) (D:List Nat) (p:List (Nat×Nat)) (ks:List Nat) (w':World):Prop where
 old:∀b,b<n->(γc.col b=0/\γ.F D b)\/γc.col b=1\/(2<=γc.col b/\zhm p (γc.col b)=some (γ.col b))
 new:∀b,n<=b->b<w'.heap.size->γc.col b≠0
 box:∀k∈ks,∀ℓ,zhm p k=some ℓ->γc.box k=γ.box ℓ
section
variable {γ γc:Gh} {n:Nat} {D:List Nat} {p:List (Nat×Nat)} {s:Nat} {V ks:List Nat} {w':World}
theorem zBt {C:List Nat} {c:Nat} (h:c∈C):(c=0->∀d∈D,d∈zjB D p s C)/\(c≠0->mapP p s c∈zjB D p s C):=by
 induction C with
 | nil=>cases h
 | cons x C ih=>
  cases h with
  | head=>
   refine ⟨?_,?_⟩
   ·rintro rfl d hd;simp [zjB,hd]
   ·intro hc;cases c with
    | zero=>exact absurd rfl hc
    | succ c=>simp [zjB]
  | tail _ h=>
   obtain ⟨h1,h2⟩:=ih h;exact ⟨fun h0 d hd=>by simp only [zjB,xF];exact .inr (h1 h0 d hd),fun h0=>by simp only [zjB,xF];exact .inr (h2 h0)⟩
theorem zCB (h:zxE γ γc n D p ks w') {b:Nat} (hk:2<=γc.col b):(ghP γ γc n D p s V).col b=mapP p s (γc.col b):=by
 unfold ghP;simp only;by_cases hb:b<n
 ·rw [xr hb];rcases h.old b hb with ⟨h0,_⟩| h1| ⟨_,h2⟩
  ·omega
  ·omega
  ·unfold mapP;rw [h2]
 grind
theorem zOB (h:zxE γ γc n D p ks w') {C:List Nat} (h1:memN 1 C=false) {b:Nat} (km:b<w'.heap.size) (hb:γc.F C b):(ghP γ γc n D p s V).F (zjB D p s C) b:=by
 have hb':γc.col b∈C:=hb;show (ghP γ γc n D p s V).col b∈_;by_cases h0:γc.col b=0
 ·by_cases hn:b<n
  ·rcases h.old b hn with ⟨_,hF⟩| h1'| ⟨h2,_⟩
   ·rw [h0] at hb';have:(ghP γ γc n D p s V).col b=γ.col b:=by unfold ghP;simp only [xr hn]
    rw [this];exact (zBt hb').1 rfl _ hF
   ·omega
   ·omega
  ·exact absurd h0 (h.new b (qg hn) km)
 ·by_cases hk:γc.col b=1
  ·rw [hk] at hb';rw [zaf.2 hb'] at h1;cases h1
  ·rw [zCB h (by omega)];exact (zBt hb').2 h0
theorem zCA (h:zxE γ γc n D p ks w') {k:Nat} (hk:boxP p s V ks k=true):(ghP γ γc n D p s V).box (mapP p s k)=γc.box k:=by
 simp only [boxP,labP,xw,qZ] at hk;obtain ⟨⟨h2,hl⟩,hv⟩:=hk;unfold ghP;simp only;cases hm:memN (mapP p s k) V with
 | true=>
  simp only;unfold mapP;cases hp:zhm p k with
  | some ℓ=>
   rw [hp] at hl;simp only at hl|-;cases hf:zer p ℓ with
   | some k'=>rw [hf] at hl;simp only at hl|-;rw [xG hl]
   | none=>rw [hf] at hl;cases hl
  | none=>
   rw [hp] at hl;simp only at hl|-;cases hf:zer p (k+s) with
   | some k'=>rw [hf] at hl;cases hl
   | none=>simp
 | false=>
  rw [hm] at hv;simp only [qj,false_or] at hv;cases hp:zhm p k with
  | some ℓ=>
   simp only;rw [show mapP p s k=ℓ by unfold mapP;rw [hp]];exact (h.box k (zaf.1 hv.1) ℓ hp).symm
  | none=>rw [hp] at hv;exact absurd hv.2 (by simp)
theorem zHH {k:Nat} (h:labP p s k=true) (hv:memN (mapP p s k) V=true):boxP p s V ks k=true:=by unfold boxP;rw [h,hv];rfl
theorem zEJ {k:Nat} (h:labP p s k=true):2<=k:=by
 simp only [labP,xw] at h;simp_all
theorem zbY (h:zxE γ γc n D p ks w') {a:AV} {v:Value} (kz:okP1 D p s V ks a=true) (hr:a.rel γc w' v):(zIA D p s a).rel (ghP γ γc n D p s V) w' v:=by
 have hF:∀C,memN 1 C=false->∀b,b<w'.heap.size->γc.F C b->(ghP γ γc n D p s V).F (zjB D p s C) b:=fun C h1 b hb hF=>zOB h h1 hb hF
 cases a with
 | any=>trivial
 | lf l=>exact hr
 | sl r C xs=>simp only [okP1,xZ] at kz;exact zat.mono hr (hF C kz)
 | rc r C x=>
  simp only [okP1,xZ] at kz;obtain ⟨cs,hv,hA⟩:=hr;exact ⟨cs,hv,hA.mono (hF C kz)⟩
 | own r e ℓ C xs=>
  obtain ⟨cs,ho,hg,hA,hnot⟩:=hr;simp only [okP1,xw,xZ] at kz;obtain ⟨⟨⟨k1,k2⟩,k3⟩,k4⟩:=kz;refine ⟨cs,ho,fun g kH=>?_,hA.mono (hF C k1),fun hc=>by rw [zaf.2 hc] at k4;cases k4⟩;obtain ⟨g1,g2⟩:=hg g kH;refine ⟨?_,?_⟩
  ·rw [zCB h (by rw [g1];exact zEJ k2),g1]
  ·rw [zCA h (zHH k2 k3)];exact g2
 | mp rk rv C m=>
  simp only [okP1,xZ] at kz;obtain ⟨b,es,cl,hv,hF',hb,hh,hE⟩:=hr;exact ⟨b,es,cl,hv,hF C kz b hb hF',hb,hh,hE.mono (hF C kz)⟩
 | om rk rv ℓ C m=>
  obtain ⟨b,es,cl,hv,⟨g1,g2⟩,hb,hh,hE,hnot⟩:=hr;simp only [okP1,xw,xZ] at kz;obtain ⟨⟨⟨k1,k2⟩,k3⟩,k4⟩:=kz;refine ⟨b,es,cl,hv,⟨?_,?_⟩,hb,hh,hE.mono (hF C k1),fun hc=>by rw [zaf.2 hc] at k4;cases k4⟩
  ·rw [zCB h (by rw [g1];exact zEJ k2),g1]
  ·rw [zCA h (zHH k2 k3)];exact g2
 | ptr k off=>
  have hv:v= .pointer (some ⟨γc.box k,off,none⟩):=hr;show v=_;rw [zCA h kz];exact hv
 | ep=>trivial
 | bs=>trivial
 | tl=>trivial
 | qp r C o=>
  simp only [okP1,xZ] at kz;cases o with
  | none=>exact hr
  | some x=>
   obtain ⟨b,cs,hv,hF',hb,hA,hc⟩:=hr;exact ⟨b,cs,hv,hF C kz b hb hF',hb,hA.mono (hF C kz),hc⟩
 | em=>trivial
 | mo=>trivial
 | cu=>trivial
 | tup=>trivial
 | ag=>trivial
 | fv=>trivial
 | bp=>trivial
 | it=>trivial
theorem zza (h:zxE γ γc n D p ks w'):∀{l:List AV} {vs:List Value},l.all (okP1 D p s V ks)=true->AV.relL γc w' l vs->AV.relL (ghP γ γc n D p s V) w' (l.map (zIA D p s)) vs
 | [],_,_,hr=>hr
 | a::l,_,kz,hr=>by
  obtain ⟨v,vs',rfl,h1,h2⟩:=hr;simp only [yO,xw] at kz;exact ⟨v,vs',rfl,zbY h kz.1 h1,zza h kz.2 h2⟩
theorem zLL (h:zxE γ γc n D p ks w') {a:AV} {v:Value} (kz:okP D p s V ks a=true) (hr:a.rel γc w' v):(outP D p s a).rel (ghP γ γc n D p s V) w' v:=by
 cases a with
 | ag l=>obtain ⟨vs,hv,hL,h1⟩:=hr;exact ⟨vs,hv,zza h kz hL,h1⟩
 | any=>exact zbY (s:=s) (V:=V) (ks:=ks) (a:= .any) h kz hr
 | lf l=>exact zbY (s:=s) (V:=V) (ks:=ks) (a:= .lf l) h kz hr
 | sl r C xs=>exact zbY (s:=s) (V:=V) (ks:=ks) (a:= .sl r C xs) h kz hr
 | own r e ℓ C xs=>exact zbY (s:=s) (V:=V) (ks:=ks) (a:= .own r e ℓ C xs) h kz hr
 | rc r C x=>exact zbY (s:=s) (V:=V) (ks:=ks) (a:= .rc r C x) h kz hr
 | ep r C x off=>exact zbY (s:=s) (V:=V) (ks:=ks) (a:= .ep r C x off) h kz hr
 | ptr ℓ off=>exact zbY (s:=s) (V:=V) (ks:=ks) (a:= .ptr ℓ off) h kz hr
 | bs ℓ n=>exact zbY (s:=s) (V:=V) (ks:=ks) (a:= .bs ℓ n) h kz hr
 | tl ℓ off n=>exact zbY (s:=s) (V:=V) (ks:=ks) (a:= .tl ℓ off n) h kz hr
 | qp r C o=>exact zbY (s:=s) (V:=V) (ks:=ks) (a:= .qp r C o) h kz hr
 | em rk rv C m=>exact zbY (s:=s) (V:=V) (ks:=ks) (a:= .em rk rv C m) h kz hr
 | cu c ℓ C1 C2=>exact zbY (s:=s) (V:=V) (ks:=ks) (a:= .cu c ℓ C1 C2) h kz hr
 | mo rk r e ℓ C m=>exact zbY (s:=s) (V:=V) (ks:=ks) (a:= .mo rk r e ℓ C m) h kz hr
 | mp rk rv C m=>exact zbY (s:=s) (V:=V) (ks:=ks) (a:= .mp rk rv C m) h kz hr
 | om rk rv ℓ C m=>exact zbY (s:=s) (V:=V) (ks:=ks) (a:= .om rk rv ℓ C m) h kz hr
 | tup l=>exact zbY (s:=s) (V:=V) (ks:=ks) (a:= .tup l) h kz hr
 | fv g l=>exact zbY (s:=s) (V:=V) (ks:=ks) (a:= .fv g l) h kz hr
 | bp r t ℓ C x=>exact zbY (s:=s) (V:=V) (ks:=ks) (a:= .bp r t ℓ C x) h kz hr
 | it rk rv ℓ C last left=>exact zbY (s:=s) (V:=V) (ks:=ks) (a:= .it rk rv ℓ C last left) h kz hr
end
theorem zHX {γ:Gh} {w:World} {D:List Nat} {p:List (Nat×Nat)} (hd:zhG (p.map (·.1)) D=true) (hb:∀q∈p,zhm p q.2=some q.1) (h2:∀q∈p,2<=q.2):∀{l:List AV} {vs:List Value},AV.relL γ w l vs->
  (∀a∈zgi l,∀c∈zgj p a,c∈D)->AV.relL (ghW γ D p fun _=>True) w (l.map (inP p)) vs
 | [],_,h,_=>h
 | a::l,_,h,hD=>by
  obtain ⟨v,vs',rfl,h1,h2'⟩:=h;refine ⟨v,vs',rfl,?_,zHX hd hb h2 h2' (fun x hx=>hD x (by rw [zgi];exact yl _ hx))⟩;have key:(inW p a).rel (ghW γ D p fun _=>True) w v:=by
   have:=zui (S:=fun _=>True) hd hb h2 (l:=[a]) (vs:=[v]) ⟨v,[],rfl,h1,rfl⟩ (fun x hx=>hD x (by rw [zgi] at hx|-;simp only [zgi,xQ] at hx;exact yq _ hx)) (fun _ _ _ _ _ _=>trivial);obtain ⟨v',_,e,hr,_⟩:=this;cases e;exact hr
  cases a with
  | ptr ℓ off=>
   have hv:v= .pointer (some ⟨γ.box ℓ,off,none⟩):=h1;simp only [inP];cases hf:zer p ℓ with
   | none=>trivial
   | some k=>
    show v= .pointer (some ⟨(ghW γ D p fun _=>True).box k,off,none⟩);have:(ghW γ D p fun _=>True).box k=γ.box ℓ:=by
     unfold ghW;simp only [hb _ (zdm hf)]
    grind
  | _=>exact key
set_option linter.unusedSectionVars false
theorem zJw {α:Type} (r:Rp α) (C:List Nat):AV.le (.lf (.val (.pointer none))) (.qp r C none):=fun γ w v h=>zqU h
theorem zQB {α:Type} (r:Rp α) (C D:List Nat) (o:Option α) (h:subN C D=true):AV.le (.qp r C o) (.qp r D o):=by
 intro γ w v hv;cases o with
 | none=>exact hv
 | some x=>
  obtain ⟨b,cs,e,hF,hb,hA,hc⟩:=hv;exact ⟨b,cs,e,zad h _ hF,hb,hA.mono fun b _ hb=>zad h _ hb,hc⟩
set_option linter.unusedSectionVars false
structure ArT (P:Program) (t e:TypeId) (n:Nat) (zl:List LV):Prop where
 u:P.underlying t=some (.array n e)
 sz:∀w,(sizeOf e).run P w= .ok 1 w
 ex:∃z,(∀w,(zeroValue t).run P w= .ok z w)/\zokL zl z.cells.toList=true
def arB (P:Program) (t:TypeId) (zl:List LV):Bool:=match P.info? t with
 | some i=>match i.zero with
  | some z=>zokL zl z.cells.toList
  | none=>false
 | none=>false
theorem ArT.ofB (hu:P.underlying t=some (.array n e)) (hs:∀w,(sizeOf e).run P w= .ok 1 w) (h:arB P t zl=true):ArT P t e n zl:=by
 unfold arB at h;split at h
 ·rename_i i hi;split at h
  ·rename_i z hz;exact ⟨hu,hs,z,fun w=>by simp [zeroValue,typeInfo,hi,hz],h⟩
  ·cases h
 ·cases h
section
end
def zxs:List LV->Option (List AV)
 | []=>some []
 | l::ls=>match l.plain,zxs ls with
  | true,some r=>some (.lf l::r)
  | _,_=>none
theorem zpE :∀{ls:List LV} {as:List AV},zxs ls=some as->zgv as=some ls/\as.all (zsQ C)=true
 | [],as,h=>by cases h;exact ⟨rfl,rfl⟩
 | l::ls,as,h=>by
  rw [zxs] at h;split at h
  ·rename_i r h1 h2;cases h;obtain ⟨g1,g2⟩:=zpE (C:=C) h2;exact ⟨by simp only [zgv,AV.toLV,g1],by simp only [yO,zsQ,h1,g2];rfl⟩
  ·cases h
def zxU:AV->Option (List AV)
 | .ag l=>some l
 | .rc r _ x=>zxs (r.lv x)
 | a=>match zpt a with
  | true=>some [a]
  | false=>none
def zAVs:List Value->Option (List AV)
 | []=>some []
 | v::l=>match zrU v,zAVs l with
  | some a,some r=>some (a::r)
  | _,_=>none
theorem zBW :∀{vs:List Value} {as:List AV},zAVs vs=some as->AV.relL γ w as vs/\∀u∈vs,u.oneCell'=true
 | [],as,h=>by cases h;exact ⟨rfl,fun u hu=>by cases hu⟩
 | v::vs,as,h=>by
  rw [zAVs] at h;split at h
  ·rename_i a r h1 h2;cases h;obtain ⟨g1,g2⟩:=zBW (γ:=γ) (w:=w) h2;have hr:=znn h1 γ w;have h1c:v.oneCell'=true:=by
    unfold zrU at h1;split at h1<;>first| rfl| cases h1
   exact ⟨⟨v,vs,rfl,hr,g1⟩,fun u hu=>by
    cases hu with
    | head=>exact h1c
    | tail _ hu=>exact g2 u hu⟩
  ·cases h
section
variable {P:Program} {o:Oper} {t:TypeId} {i:TypeInfo}
theorem zuM (h:P.info? t=some i) (w:World):(sizeOf t).run P w= .ok i.size w:=by simp [sizeOf,typeInfo,h]
theorem zJA (ℓ:Nat) (ho:o.op= .alloc t) (hi:P.info? t=some i) (hz:i.zero=some z) (hs:zAVs z.cells.toList=some as):zB P o [] [] [] [ℓ] (.ptr ℓ 0) [⟨ℓ,t,as⟩]:=by
 have hzv:∀w,(zeroValue t).run P w= .ok z w:=fun w=>by simp [zeroValue,typeInfo,hi,hz]
 refine zF fun γ ev w _ _=>?_
 refine ⟨.pointer (some ⟨w.heap.size,0,none⟩),w.alloc (.cells z.cells t),_,?_,zrH γ w ℓ _,?_,fun b hb=>?_⟩
 ·simp [execOp,ho,Instr.alloc,Sem.run_bind,hzv,newVar,newRow]
 ·show _=_;rw [zeM]
 ·simp only [xy,xL,xM] at hb;subst hb;have h:=zBW (γ:=zcD γ w.heap.size ℓ w.heap.size) (w:=w.alloc (.cells z.cells t)) hs;refine ⟨by rw [zeM,zko],z.cells.toList,?_,h.1,h.2⟩;rw [zeM,qY];exact yV w _
theorem zJC (hl:zxU a=some l) (ho:o.op= .store t y z) (hi:P.info? t=some i) (hn:Nat.beq l.length i.size=true) (hoff:Nat.ble (off+i.size) b.avs.length=true) (hf:AV.free [b.lab] [] (.ag l)=true):
  zB P o [(y,.ptr b.lab off),(z,a)] [b] [b.lab] [] .any [⟨b.lab,b.typ,(b.avs.map (AV.clear [b.lab] [])).take off++l++(b.avs.map (AV.clear [b.lab] [])).drop (off+i.size)⟩]:=by
 have hag:=zNJ (P:=P) (o:=o) (off:=off) (b:=b) l ho (fun w=>zuM hi w) hn hoff hf;unfold zxU at hl;split at hl
 ·grind
 ·rename_i r C x;obtain ⟨g1,g2⟩:=zpE (C:=C) hl;exact hag.le ⟨⟨rfl,AV.le_refl _⟩,⟨rfl,zNu r C x l g1 g2⟩,trivial⟩
 ·split at hl
  ·rename_i h1;cases hl;have hs1:i.size=1:=(xG hn).symm;rw [hs1] at hoff|-;have km:off<b.avs.length:=qL (xP hoff);have hf':a.free [b.lab] []=true:=by simpa [AV.free,AV.cols,AV.colsL,AV.labs,AV.labsL] using hf
   have h:=zGL (P:=P) (o:=o) (off:=off) (b:=b) ho (fun w=>by rw [zuM hi w,hs1]) (uu km) h1 hf';rw [ur,xr (by simpa using km)] at h;simpa using h
  ·cases hl
end
def zCn (P:Program) (E:Env) (o:Oper) (ℓ:Nat):Option (List (Operand×AV)×List Bx×List Nat×List Nat×AV×List Bx):=
 match o.op with
 | .alloc t=>match P.info? t with
  | some i=>match i.zero with
   | some z=>match zAVs z.cells.toList with
    | some as=>some ([],[],[],[ℓ],.ptr ℓ 0,[⟨ℓ,t,as⟩])
    | none=>none
   | none=>none
  | none=>none
 | .box t x=>match E.opd x with
  | some (.ag l)=>match AV.free [] [ℓ] (.ag l) with
   | true=>some ([(x,.ag l)],[],[],[ℓ],.ptr ℓ 0,[⟨ℓ,t,l⟩])
   | false=>none
  | some a=>match zxU a,zrm a with
   | some as,some _=>match zgv as with
    | some _=>match as.all (zsQ a.cols) with
     | true=>some ([(x,a)],[],[],[ℓ],.ptr ℓ 0,[⟨ℓ,t,as⟩])
     | false=>none
    | none=>none
   | _,_=>none
  | none=>none
 | .store t y z=>match E.opd y,E.opd z,P.info? t with
  | some (.ptr k off),some a,some i=>match zgW E.bx k,zxU a with
   | some b,some l=>match Nat.beq l.length i.size&&Nat.ble (off+i.size) b.avs.length&&AV.free [b.lab] [] (.ag l) with
    | true=>some ([(y,.ptr b.lab off),(z,a)],[b],[b.lab],[],.any,[⟨b.lab,b.typ,(b.avs.map (AV.clear [b.lab] [])).take off++l++(b.avs.map (AV.clear [b.lab] [])).drop (off+i.size)⟩])
    | false=>none
   | _,_=>none
  | _,_,_=>none
 | .load t y=>match E.opd y,P.underlying t,P.info? t with
  | some (.ptr k off),some (.struct _),some i=>match zgW E.bx k with
   | some b=>match Nat.beq ((b.avs.drop off).take i.size).length i.size with
    | true=>some ([(y,.ptr b.lab off)],[b],[],[],.ag ((b.avs.drop off).take i.size),[])
    | false=>none
   | none=>none
  | _,_,_=>none
 | _=>none
theorem zss (C:List Nat):subN C C=true:=by
 simp only [subN,xI];exact fun c hc=>zaf.2 hc
theorem zJN (h1:zpt a=true) (hp:zrm a=some ls) (ht:zgv [a]=some ls'):zgv [a]=some ls:=by
 cases a<;>simp_all [zpt,zrm,zgv,AV.toLV]
theorem zGm (h:zCn P E o ℓ=some (ins,bxs,W,V,av,bs)):
  zB P o ins bxs W V av bs/\zqr E ins/\zAG E bxs:=by
 unfold zCn at h;split at h
 ·rename_i t ho;split at h
  ·rename_i i hi;split at h
   ·rename_i z hz;split at h
    ·rename_i as hs;simp only [yr,yy] at h;obtain ⟨rfl,rfl,rfl,rfl,rfl,rfl⟩:=h;exact ⟨zJA ℓ ho hi hz hs,trivial,trivial⟩
    ·cases h
   ·cases h
  ·cases h
 ·rename_i t x ho;split at h
  ·rename_i l hl;split at h
   ·rename_i hf;simp only [yr,yy] at h;obtain ⟨rfl,rfl,rfl,rfl,rfl,rfl⟩:=h;exact ⟨zNB ℓ ho hf,⟨hl,trivial⟩,trivial⟩
   ·cases h
  ·rename_i a _ ha;split at h
   ·rename_i as ls hc hp;split at h
    ·rename_i ls' ht;split at h
     ·rename_i hl;simp only [yr,yy] at h;obtain ⟨rfl,rfl,rfl,rfl,rfl,rfl⟩:=h;refine ⟨zjy ℓ as a.cols ho hp (zss _) ?_ hl,⟨ha,trivial⟩,trivial⟩;unfold zxU at hc;split at hc
      ·grind
      ·rename_i r C y _;cases hp;exact (zpE (C:=C) hc).1
      ·split at hc
       ·cases hc;rename_i h1;exact zJN h1 hp ht
       ·cases hc
     ·cases h
    ·cases h
   ·cases h
  ·cases h
 ·rename_i t y z ho;split at h
  ·rename_i k off a i hy hz hi;split at h
   ·rename_i b l hb hc;split at h
    ·rename_i hk;simp only [xw] at hk;simp only [yr,yy] at h;obtain ⟨rfl,rfl,rfl,rfl,rfl,rfl⟩:=h;have e:=(zdO hb).2;refine ⟨zJC hc ho hi hk.1.1 hk.1.2 hk.2,⟨by rw [e];exact hy,hz,trivial⟩,?_⟩;refine ⟨?_,trivial⟩;rw [e];exact hb
    ·cases h
   ·cases h
  ·cases h
 ·rename_i t y ho;split at h
  ·rename_i k off fs i hy hu hi;split at h
   ·rename_i b hb;split at h
    ·rename_i hk;simp only [yr,yy] at h;obtain ⟨rfl,rfl,rfl,rfl,rfl,rfl⟩:=h;have e:=(zdO hb).2;refine ⟨zIm _ ho ⟨fun w=>by simp [isAgg,run_underlying hu],fun w=>zuM hi w⟩ rfl hk,⟨by rw [e];exact hy,trivial⟩,?_⟩;refine ⟨?_,trivial⟩;rw [e];exact hb
    ·cases h
   ·cases h
  ·cases h
 ·cases h
def zQw:List Nat->Nat
 | []=>0
 | x::_=>x
def zQK:List Nat->List Nat->List Nat
 | [],ls=>ls
 | _::_,ls=>ls.tail
def runX (P:Program) (N:Lim) (ops:Array Oper):List Oper->List Nat->Env->Option Env
 | [],_,E=>some E
 | o::kl,ls,E=>match zgy ops E o with
  | some true=>match zjZ N o.dst with
   | true=>match zvt P E.opd E.bx o.op with
    | some av=>runX P N ops kl ls ⟨zjd o.dst av E.sl,E.bx⟩
    | none=>match zCn P E o (zQw ls) with
     | some (_,_,W,V,av,bs)=>match okW W&&okW V with
      | true=>runX P N ops kl (zQK V ls) (E.step W V o.dst av bs)
      | false=>none
     | none=>none
   | false=>none
  | some false=>match zjZ N o.dst with
   | true=>runX P N ops kl ls ⟨zjd o.dst (.tup []) E.sl,E.bx⟩
   | false=>none
  | none=>none
theorem zsp :∀(l:List Oper) (kl:List Oper) (ls:List Nat) (E:Env),runX P N ops l ls E=some E1->zaM P N ops kl E1 E'->zaM P N ops (l++kl) E E'
 | [],kl,ls,E,h,k=>by cases h;exact k
 | o::l,kl,ls,E,h,k=>by
  rw [runX] at h;split at h
  ·rename_i hg;split at h
   ·rename_i hd;split at h
    ·rename_i av he;intro cx a w Q hn hs hQ;obtain ⟨γ,hB,hS,hX⟩:=hs;obtain ⟨v,hr,hv⟩:=ztj he (γ:=γ) (w:=w) (ev:=a.eval) (fun x _ av hx=>Env.opd_rel hx hS) hX;rw [yn];refine zjx (zgX hg hS) (zkt hr ?_);exact zsp l kl ls _ h k cx _ _ Q hn ⟨γ,hB.put _ _ (by rw [hn];exact zfC hd),hS.put (fun k hk=>by rw [hB.size,hn];exact zhQ hd k hk) hv,hX⟩ hQ
    ·split at h
     ·rename_i ins bxs W V av bs hb;split at h
      ·rename_i hW;rw [xw] at hW;obtain ⟨h1,h2,h3⟩:=zGm hb;rw [yn];exact zxv hg h1 h2 h3 hW.1 hW.2 hd (zsp l kl _ _ h k)
      ·cases h
     ·cases h
   ·cases h
  ·rename_i hg;split at h
   ·rename_i hd;rw [yn];exact zOb hg hd (zsp l kl ls _ h k)
   ·cases h
  ·cases h
def zMt (P:Program) (N:Lim) (ops:Array Oper) (kl:List Oper) (n:Nat) (ls:List Nat) (o:Oper) (E:Env) (xs:List Operand) (bl W V:List Nat) (av:AV) (bs:List Bx):Option (List AV×List Bx×Env):=
 match runX P N ops (kl.take n) ls E with
 | some E0=>match zgy ops E0 o,okW W&&okW V&&zjZ N o.dst,zlo E0 xs,zrq E0.bx bl with
  | some true,true,some as,some bxs=>some (as,bxs,E0.step W V o.dst av bs)
  | _,_,_,_=>none
 | none=>none
def zBO (P:Program) (N:Lim) (ops:Array Oper) (kl:List Oper) (n:Nat) (ls:List Nat) (o:Oper) (E:Env) (xs:List Operand) (bl W V:List Nat) (av:AV) (bs:List Bx):Env:=
 match zMt P N ops kl n ls o E xs bl W V av bs with
 | some r=>r.2.2
 | none=>E
def zBN (P:Program) (N:Lim) (ops:Array Oper) (kl:List Oper) (n:Nat) (ls:List Nat) (o:Oper) (E:Env) (xs:List Operand) (bl W V:List Nat) (av:AV) (bs:List Bx):Option (List AV×List Bx):=
 match zMt P N ops kl n ls o E xs bl W V av bs with
 | some r=>some (r.1,r.2.1)
 | none=>none
def endE (P:Program) (N:Lim) (ops:Array Oper) (kl:List Oper) (ls:List Nat) (E:Env):Env:=match runX P N ops kl ls E with
 | some E1=>E1
 | none=>E
def endB (P:Program) (N:Lim) (ops:Array Oper) (kl:List Oper) (ls:List Nat) (E:Env):Bool:=match runX P N ops kl ls E with
 | some _=>true
 | none=>false
theorem zyb (h:endB P N ops kl ls E=true):runX P N ops kl ls E=some (endE P N ops kl ls E):=by
 unfold endB at h;unfold endE
 grind
def splC (P:Program) (N:Lim) (ops:Array Oper) (kl:List Oper) (ls:List Nat) (E:Env) (t:Nat):Option AV:=match runX P N ops kl ls E with
 | some E1=>lookup E1.sl t
 | none=>none
def finC (P:Program) (N:Lim) (ops:Array Oper) (kl:List Oper) (ls:List Nat) (E:Env) (ks bs:List Nat):Option Env:=match runX P N ops kl ls E with
 | some E1=>E1.pick ks bs
 | none=>none
def zrr (ks ls:List Nat) (E:Env):Env:=match E.pick ks ls with
 | some E1=>E1
 | none=>E
def zEW (ks ls:List Nat) (E:Env):Bool:=match E.pick ks ls with
 | some _=>true
 | none=>false
theorem ztu (h:zEW ks ls E=true):E.pick ks ls=some (zrr ks ls E):=by
 unfold zEW at h;unfold zrr
 grind
section
variable {P:Program} {N:Lim} {ops:Array Oper} {kl:List Oper} {E E' E1:Env} {o:Oper} {ins:List (Operand×AV)} {bxs:List Bx} {W V:List Nat} {av:AV} {bs:List Bx} {ls:List Nat}
theorem zlR (n:Nat) (h:runX P N ops (kl.take n) ls E=some E1) (k:zaM P N ops (kl.drop n) E1 E'):zaM P N ops kl E E':=by
 have:=zsp _ _ _ _ h k;simp_all
theorem rcl (n:Nat) (ls:List Nat) (ho:nthO kl n=some o) (hl:zB P o ins bxs W V av bs) (k:zaM P N ops (kl.drop (n+1)) (zBO P N ops kl n ls o E (ins.map (·.1)) (bxs.map (·.lab)) W V av bs) E')
  (h:zBN P N ops kl n ls o E (ins.map (·.1)) (bxs.map (·.lab)) W V av bs=some (ins.map (·.2),bxs):=by kernel_rfl):zaM P N ops kl E E':=by
 unfold zBN at h;unfold zBO at k;split at h
 ·rename_i r h0;rw [h0] at k;simp only [yr,yy] at h;unfold zMt at h0;split at h0
  ·rename_i E0 hE;refine zlR n hE ?_;rw [zoE ho];split at h0
   ·rename_i as' bxs' h1 h2 h3 h4;cases h0;simp only at h k;obtain ⟨rfl,rfl⟩:=h;simp only [xw] at h2;exact zxv h1 hl (zpz h3) (zzf h4) h2.1.1 h2.1.2 h2.2 k
   ·cases h0
  ·cases h0
 ·cases h
theorem rc (n:Nat) (ho:nthO kl n=some o) (hl:zB P o ins bxs W V av bs) (k:zaM P N ops (kl.drop (n+1)) (zBO P N ops kl n [] o E (ins.map (·.1)) (bxs.map (·.lab)) W V av bs) E')
  (h:zBN P N ops kl n [] o E (ins.map (·.1)) (bxs.map (·.lab)) W V av bs=some (ins.map (·.2),bxs):=by kernel_rfl):zaM P N ops kl E E':=rcl n [] ho hl k h
theorem ral (n:Nat) (ls:List Nat) (as:List AV) (ho:nthO kl n=some o) (hl:zB P o ins bxs W V av bs) (ha:ins.map (·.2)=as) (k:zaM P N ops (kl.drop (n+1)) (zBO P N ops kl n ls o E (ins.map (·.1)) (bxs.map (·.lab)) W V av bs) E')
  (h:zBN P N ops kl n ls o E (ins.map (·.1)) (bxs.map (·.lab)) W V av bs=some (as,bxs):=by kernel_rfl):zaM P N ops kl E E':=rcl n ls ho hl k (by rw [ha];exact h)
theorem ra (n:Nat) (as:List AV) (ho:nthO kl n=some o) (hl:zB P o ins bxs W V av bs) (ha:ins.map (·.2)=as) (k:zaM P N ops (kl.drop (n+1)) (zBO P N ops kl n [] o E (ins.map (·.1)) (bxs.map (·.lab)) W V av bs) E')
  (h:zBN P N ops kl n [] o E (ins.map (·.1)) (bxs.map (·.lab)) W V av bs=some (as,bxs):=by kernel_rfl):zaM P N ops kl E E':=ral n [] as ho hl ha k h
theorem rfl' (ls:List Nat) (h:endB P N ops kl ls E=true:=by kernel_rfl):zaM P N ops kl E (endE P N ops kl ls E):=by
 have:=zsp kl [] ls E (zyb h) zPM
 grind
theorem rf (h:endB P N ops kl [] E=true:=by kernel_rfl):zaM P N ops kl E (endE P N ops kl [] E):=rfl' [] h
theorem rgl (ls:List Nat) (h:finC P N ops kl ls E E'.keys E'.labs=some E':=by kernel_rfl):zaM P N ops kl E E':=by
 unfold finC at h;split at h
 ·rename_i E1 h1;have:=zsp kl [] ls E h1 (zPL _ _ h)
  grind
 ·cases h
theorem rgg (h:finC P N ops kl [] E E'.keys E'.labs=some E':=by kernel_rfl):zaM P N ops kl E E':=rgl [] h
theorem rkl (n:Nat) (ls:List Nat) (E1:Env) (k:zaM P N ops (kl.drop n) E1 E') (h:finC P N ops (kl.take n) ls E E1.keys E1.labs=some E1:=by kernel_rfl):zaM P N ops kl E E':=by
 unfold finC at h;split at h
 ·rename_i E2 h1;exact zlR n h1 (zQL (zxk _ _ h) k)
 ·cases h
theorem rsl (n:Nat) (ls:List Nat) (t:Nat) (b:Bool) (h1:b=true->zaM P N ops (kl.drop n) ⟨zjd (some t) (.lf (.bool true)) (endE P N ops (kl.take n) ls E).sl,(endE P N ops (kl.take n) ls E).bx⟩ E')
  (h0:b=false->zaM P N ops (kl.drop n) ⟨zjd (some t) (.lf (.bool false)) (endE P N ops (kl.take n) ls E).sl,(endE P N ops (kl.take n) ls E).bx⟩ E')
  (h:splC P N ops (kl.take n) ls E t=some (.lf (.bool b)):=by kernel_rfl):zaM P N ops kl E E':=by
 have hB:endB P N ops (kl.take n) ls E=true:=by
  unfold splC at h;unfold endB
  grind
 have hr:=zyb hB;unfold splC at h;rw [hr] at h;exact zlR n hr (zMa t b h h1 h0)
theorem rbl (ls:List Nat) (t:Nat) (b:Bool) (_:E'.opd (.tmp t)=some (.lf (.bool b'))) (hb:b=b') (hE:zOS t b' E'=E':=by kernel_rfl) (h:finC P N ops kl ls E E'.keys E'.labs=some (zOS t b E'):=by kernel_rfl):zaM P N ops kl E E':=by
 subst hb;rw [hE] at h;exact rgl ls h
theorem rel (ls:List Nat) (k:zdM (endE P N ops kl ls E) E') (h:endB P N ops kl ls E=true:=by kernel_rfl):zaM P N ops kl E E':=fun cx a w Q hn hs hQ=>rfl' ls h cx a w Q hn hs fun a' w' hs'=>hQ a' w' (k cx a' w' hs')
theorem lk (ks ls:List Nat) (x y:Nat) (k:zdM ((zrr ks ls E).ren x y) E') (h:(zEW ks ls E&&(Nat.ble 2 x&&Nat.ble 2 y&& !spB x))=true:=by kernel_rfl):zdM E E':=by
 rw [xw] at h;exact (zxk _ _ (ztu h.1)).trans (zON x y h.2 k)
theorem lzz (h:E.pick E'.keys E'.labs=some E':=by kernel_rfl):zdM E E':=zxk _ _ h
end
def cvA:AV->AV->AV
 | .ag l,.rc r _ x=> .rc r (AV.colsL l) x
 | y,_=>y
def argL:AV->AV->Option (List LV)
 | .ag l,.rc _ _ _=>zgv l
 | _,_=>none
def argR:AV->AV->Option (List LV)
 | .ag _,.rc r _ x=>some (r.lv x)
 | _,_=>none
theorem zPa (h:argL y i=argR y i):AV.le y (cvA y i):=by
 cases y with
 | ag l=>
  cases i with
  | rc r C x=>exact zlC r _ x l h (zss _)
  | _=>exact AV.le_refl _
 | _=>exact AV.le_refl _
def zipA {α:Type _} (f:AV->AV->α):List AV->List AV->List α
 | x::l,y::m=>f x y::zipA f l m
 | _,_=>[]
theorem zGd {f:AV->AV->AV}:∀{l m:List AV},l.length=m.length->(zipA f l m).length=l.length
 | [],_,_=>rfl
 | x::l,[],h=>by simp at h
 | x::l,y::m,h=>by simp [zipA,zGd (l:=l) (m:=m) (by simpa using h)]
theorem zIi:∀{args:List Operand} {ys is:List AV},ys.length=args.length->is.length=args.length->zipA argL ys is=zipA argR ys is->leI (args.zip ys) (args.zip (zipA cvA ys is))
 | [],_,_,_,_,_=>trivial
 | x::args,[],_,h,_,_=>by simp at h
 | x::args,y::ys,[],_,h,_=>by simp at h
 | x::args,y::ys,i::is,h1,h2,h=>by
  simp only [zipA,yM] at h;exact ⟨⟨rfl,zPa h.1⟩,zIi (by simpa using h1) (by simpa using h2) h.2⟩
def zxR (P:Program) (N:Lim) (ops:Array Oper) (kl:List Oper) (n:Nat) (ls:List Nat) (f:FuncId) (ins ky:List AV) (D:List Nat) (s:Nat) (E:Env):Option (List (Option (List LV))×List AV×List (Option (List LV))):=
 match nthO kl n with
 | some o=>match o.op with
  | .call c=>match c.callee with
   | .value (.func g)=>match Nat.beq g f,runX P N ops (kl.take n) ls E with
    | true,some E0=>match zgy ops E0 o,okW (ky.flatMap (zhe s))&&zjZ N o.dst,zlo E0 c.args.toList with
     | some true,true,some ys=>match Nat.beq ys.length ins.length&&((zipA cvA ys ins).all fun a=>subN (zvA a) D)&& !D.isEmpty&&ky.all (zwx [1] D s) with
      | true=>some (zipA argL ys ins,(zipA cvA ys ins).map inAV,zipA argR ys ins)
      | false=>none
     | _,_,_=>none
    | _,_=>none
   | _=>none
  | _=>none
 | none=>none
def zKz (P:Program) (N:Lim) (ops:Array Oper) (kl:List Oper) (n:Nat) (ls:List Nat) (ky:List AV) (D:List Nat) (s:Nat) (E:Env):Env:=
 match nthO kl n,runX P N ops (kl.take n) ls E with
 | some o,some E0=>E0.step [] (ky.flatMap (zhe s)) o.dst (zoJ (ky.map (zpO D s))) []
 | _,_=>E
def zKA (ins:List AV):Option (List (Option (List LV))×List AV×List (Option (List LV)))->Option (List (Option (List LV))×List AV×List (Option (List LV)))
 | some r=>some (r.2.2,ins,r.2.2)
 | none=>none
theorem zyS :∀{l:List Operand} {as:List AV},zlo E l=some as->as.length=l.length
 | [],as,h=>by cases h;rfl
 | x::l,as,h=>by
  rw [zlo] at h;split at h
  ·rename_i a r h1 h2;cases h;simp [zyS h2]
  ·cases h
theorem zyT :∀{l:List Operand} {as:List AV},zlo E l=some as->zqr E (l.zip as)
 | [],as,_=>trivial
 | x::l,as,h=>by
  rw [zlo] at h;split at h
  ·rename_i a r h1 h2;cases h;exact ⟨h1,zyT h2⟩
  ·cases h
section
variable {P:Program} {N:Lim} {ops:Array Oper} {kl:List Oper} {E E':Env} {f:FuncId} {ins ky:List AV}
theorem rll (n:Nat) (ls:List Nat) (D:List Nat) (s:Nat) (hc:∀as w,(callFunc f as).run P w= .ok (.enter f as) w) (ok:FnOk P f ins ky) (k:zaM P N ops (kl.drop (n+1)) (zKz P N ops kl n ls ky D s E) E')
  (h:zxR P N ops kl n ls f ins ky D s E=zKA ins (zxR P N ops kl n ls f ins ky D s E):=by kernel_rfl) (hs:(zxR P N ops kl n ls f ins ky D s E).isSome=true:=by kernel_rfl):zaM P N ops kl E E':=by
 obtain ⟨⟨q1,q2,q3⟩,hq⟩:=Option.isSome_iff_exists.1 hs;rw [hq] at h;simp only [zKA,yr,yy,qy] at h;rw [h.1,h.2] at hq;unfold zxR at hq;split at hq
 ·rename_i o ho;unfold zKz at k;rw [ho] at k;split at hq
  ·rename_i c hop;split at hq
   ·rename_i g hcal;split at hq
    ·rename_i E0 hg hE;rw [hE] at k;have hgf:=xG hg;refine zlR n hE ?_;rw [zoE ho];split at hq
     ·rename_i ys h1 h2 h3;split at hq
      ·rename_i hk;simp only [xw,xZ] at hk h2;simp only [yr,yy] at hq;obtain ⟨e1,e2,e3⟩:=hq;have ku:=xG hk.1.1.1;have hl:=zyS h3;have hop':o.op= .call ⟨.value (.func f),c.args.toList.toArray,c.argTypes⟩:=by
        rw [hop];obtain ⟨cal,args,ts⟩:=c;simp_all
       have hlaw:=zIk (zipA cvA ys ins) D s hop' hc ok e2 (by rw [zGd ku];exact hl) hk.1.1.2 hk.1.2 hk.2;refine zxv h1 (hlaw.le (zIi hl (by rw [<-ku];exact hl) (e1.trans e3.symm))) (zyT h3) trivial rfl h2.1 h2.2 k
      ·cases hq
     ·cases hq
    ·cases hq
   ·cases hq
  ·cases hq
 ·cases hq
theorem rl (n:Nat) (D:List Nat) (s:Nat) (hc:∀as w,(callFunc f as).run P w= .ok (.enter f as) w) (ok:FnOk P f ins ky) (k:zaM P N ops (kl.drop (n+1)) (zKz P N ops kl n [] ky D s E) E')
  (h:zxR P N ops kl n [] f ins ky D s E=zKA ins (zxR P N ops kl n [] f ins ky D s E):=by kernel_rfl) (hs:(zxR P N ops kl n [] f ins ky D s E).isSome=true:=by kernel_rfl):zaM P N ops kl E E':=rll n [] D s hc ok k h hs
end
def isAg:TypeDesc->Bool
 | .struct _=>true
 | .array _ _=>true
 | _=>false
theorem zJs (h:P.underlying t=some d) (hd:isAg d=true) (w:World):(isAgg t).run P w= .ok true w:=by
 cases d<;>first| (cases hd;done)| simp [isAgg,run_underlying h]
def ldC (P:Program) (N:Lim) (ops:Array Oper) (kl:List Oper) (n:Nat) (ls:List Nat) (sz:Nat) (C:List Nat) (E:Env):Option (List LV):=
 match nthO kl n with
 | some o=>match o.op with
  | .load t y=>match runX P N ops (kl.take n) ls E with
   | some E0=>match zgy ops E0 o,zjZ N o.dst,E0.opd y,P.underlying t,P.info? t with
    | some true,true,some (.ptr k off),some d,some i=>match zgW E0.bx k with
     | some b=>match Nat.beq i.size sz&&subN (AV.colsL ((b.avs.drop off).take sz)) C&&isAg d with
      | true=>zgv ((b.avs.drop off).take sz)
      | false=>none
     | none=>none
    | _,_,_,_,_=>none
   | none=>none
  | _=>none
 | none=>none
def ldE (P:Program) (N:Lim) (ops:Array Oper) (kl:List Oper) (n:Nat) (ls:List Nat) (av:AV) (E:Env):Env:=
 match nthO kl n,runX P N ops (kl.take n) ls E with
 | some o,some E0=>E0.step [] [] o.dst av []
 | _,_=>E
section
variable {P:Program} {N:Lim} {ops:Array Oper} {kl:List Oper} {E E':Env} {α:Type}
theorem lbl (n:Nat) (ls:List Nat) (r:Rp α) (C:List Nat) (x:α) (k:zaM P N ops (kl.drop (n+1)) (ldE P N ops kl n ls (.rc r C x) E) E') (h:ldC P N ops kl n ls r.size C E=some (r.lv x):=by kernel_rfl):zaM P N ops kl E E':=by
 unfold ldC at h;split at h
 ·rename_i o ho;unfold ldE at k;rw [ho] at k;split at h
  ·rename_i t y hop;split at h
   ·rename_i E0 hE;rw [hE] at k;refine zlR n hE ?_;rw [zoE ho];split at h
    ·rename_i kk off fs i h1 h2 h3 h4 h5;split at h
     ·rename_i b hb;split at h
      ·rename_i hk;rw [xw,xw] at hk;have kG:=xG hk.1.1;have e:=(zdO hb).2;have hlaw:=zCM (P:=P) (o:=o) (r:=r) (b:=b) (off:=off) x C hop ⟨zJs h4 hk.2,fun w=>by rw [zuM h5 w,kG]⟩ h hk.1.2;refine zxv h1 hlaw ⟨by rw [e];exact h3,trivial⟩ ⟨?_,trivial⟩ rfl rfl h2 k;rw [e];exact hb
      ·cases h
     ·cases h
    ·cases h
   ·cases h
  ·cases h
 ·cases h
theorem lb (n:Nat) (r:Rp α) (C:List Nat) (x:α) (k:zaM P N ops (kl.drop (n+1)) (ldE P N ops kl n [] (.rc r C x) E) E') (h:ldC P N ops kl n [] r.size C E=some (r.lv x):=by kernel_rfl):zaM P N ops kl E E':=lbl n [] r C x k h
end
section
variable {m:Bool} {P:Program} {l:List It} {cx:Cx} {E E':Env} {Q:Exit->Act->World->Prop} {id:Nat} {ops:List Oper} {o:Operand} {b:Bool} {x y:Code}
theorem jr (h:zaM P cx.n ops.toArray ops E E') (k:JI m P l (Sx cx E') Q):JI m P (.c (.region id ops.toArray false)::l) (Sx cx E) Q:=zlK E' h k
theorem jq (ls:List Nat) (k:JI m P l (Sx cx (endE P cx.n ops.toArray ops ls E)) Q) (h:endB P cx.n ops.toArray ops ls E=true:=by kernel_rfl):JI m P (.c (.region id ops.toArray false)::l) (Sx cx E) Q:=zlK _ (rfl' ls h) k
theorem jp (k:JI m P l (Sx cx (endE P cx.n ops.toArray ops [] E)) Q) (h:endB P cx.n ops.toArray ops [] E=true:=by kernel_rfl):JI m P (.c (.region id ops.toArray false)::l) (Sx cx E) Q:=jq [] k h
theorem jk (ks ls:List Nat) (k:JI m P l (Sx cx (zrr ks ls E)) Q) (h:zEW ks ls E=true:=by kernel_rfl):JI m P l (Sx cx E) Q:=fun a w hs=>k a w (hs.pick (ztu h))
theorem jT (hb:b=true) (k:JI m P (zju x l) (Sx cx E) Q) (h:E.opd o=some (.lf (.bool b)):=by kernel_rfl):JI m P (.c (.cond o x y)::l) (Sx cx E) Q:=zLf h hb k
theorem jF (hb:b=false) (k:JI m P (zju y l) (Sx cx E) Q) (h:E.opd o=some (.lf (.bool b)):=by kernel_rfl):JI m P (.c (.cond o x y)::l) (Sx cx E) Q:=zLe h hb k
theorem jI {α:Type} {p q:Option α} {r:α} (h:(if b then p else q)=some r) (hx:b=true->p=some r->JI m P (zju x l) (Sx cx E) Q) (hy:b=false->q=some r->JI m P (zju y l) (Sx cx E) Q) (ho:E.opd o=some (.lf (.bool b)):=by kernel_rfl):JI m P (.c (.cond o x y)::l) (Sx cx E) Q:=by
 rcases zjw h with ⟨c,h⟩| ⟨c,h⟩
 ·exact jT c (hx c h) ho
 ·exact jF c (hy c h) ho
end
theorem lx (h:zB P o ins bxs W V av bs) (h2:zbZ P l ss is):
  zbZ P (o::l) (.ex (bxs.map (·.lab)) W V av bs::ss) (⟨ins,bxs,[]⟩::is):=by simp only [zbZ];exact ⟨h,h2⟩
theorem ly (as:List AV) (h:zB P o ins bxs W V av bs) (_:ins.map (·.2)=as) (h2:zbZ P l ss is):
  zbZ P (o::l) (.ex (bxs.map (·.lab)) W V av bs::ss) (⟨ins,bxs,[]⟩::is):=lx h h2
theorem l0 :zbZ P l [] []:=by cases l<;>simp [zbZ]
theorem lf1 (g:Nat) (h:zB P o ins bxs W V av bs):zB P o ((.func g,.lf (.val (.func (.func g) #[] #[])))::ins) bxs W V av bs:=h.cons _
def zOz (P:Program) (N:Lim) (ops:List Oper) (ss:List zlu) (E:Env) (ks bs:List Nat):Env:=match zxe P N ops ss E ks bs with
 | some r=>r.1
 | none=>E
def zOA (P:Program) (N:Lim) (ops:List Oper) (ss:List zlu) (E:Env) (ks bs:List Nat):Option (List DIn):=match zxe P N ops ss E ks bs with
 | some r=>some r.2
 | none=>none
theorem jd {m:Bool} {P:Program} {cx:Cx} {E:Env} {id:Nat} {ops:List Oper} {l:List It} {Q:Exit->Act->World->Prop} {ss:List zlu} {is:List DIn} (ks bs:List Nat) (hm:P.follows .mixedOrders=true) (hl:zbZ P ops ss is)
  (k:JI m P l (Sx cx (zOz P cx.n ops ss E ks bs)) Q) (h:zOA P cx.n ops ss E ks bs=some is:=by kernel_rfl):JI m P (.c (.region id ops.toArray true)::l) (Sx cx E) Q:=by
 unfold zOA at h;unfold zOz at k;split at h
 ·rename_i r hr;obtain ⟨E1,is'⟩:=r;simp only [yr] at h;subst h;rw [hr] at k;exact zxj E1 ss _ ks bs hm hr hl k
 ·cases h
end Go.Proofs.YtaglemhabeipfaaGreat

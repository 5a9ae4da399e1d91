/-
  What every proof here stands on. No condition.
-/
import Derived.WalkKit
import Derived.Laws.OwnMore
import Derived.Maps.AppendAt
import Derived.LoopN
import Derived.Maps.RangeRun
import Derived.CallsIn
import Derived.LoopNIn
import Derived.TacticsIn
import Derived.OrdersIn
import Derived.Laws.IdiomStrings
import Derived.Laws.StructEq
import Derived.Orders
import Derived.ProofKit
import Derived.OpenShut
import Derived.ShutString
import Derived.ChangeOld
import Derived.Below
import Derived.SizedLaws
import Derived.ChangeKeysEq
namespace Go.Proofs.YtcbkcblkecmjnaaGreat
open Go Go.RowKit
def zhA {σ ρ:Type} (body:σ→Option (σ⊕ρ)):Nat→σ→Option ρ
 | 0,_=>none
 | n+1,s=>match body s with
  | none=>none
  | some (.inl s')=>zhA body n s'
  | some (.inr r)=>some r
open Classical in
noncomputable def zak {σ ρ:Type} (body:σ→Option (σ⊕ρ)) (s:σ):Option ρ:=
 if h:∃n r,zhA body n s=some r then zhA body h.choose s else none
theorem zyE {σ ρ:Type} {body:σ→Option (σ⊕ρ)} {n:Nat} {s:σ} {r:ρ} (h:zhA body n s=some r):zhA body (n+1) s=some r:=by
 induction n generalizing s with
 | zero=>simp [zhA] at h
 | succ n ih=>
  rw [zhA] at h⊢
  split at h
  ·cases h
  ·exact ih h
  ·exact h
theorem zxk {σ ρ:Type} {body:σ→Option (σ⊕ρ)} {n m:Nat} {s:σ} {r:ρ} (h:zhA body n s=some r) (hm:n≤m):zhA body m s=some r:=by
 obtain ⟨k,rfl⟩:=Nat.exists_eq_add_of_le hm
 clear hm
 induction k with
 | zero=>exact h
 | succ k ih=>exact zyE ih
theorem zqK {σ ρ:Type} {body:σ→Option (σ⊕ρ)} {n:Nat} {s:σ} {r:ρ} (h:zhA body n s=some r):zak body s=some r:=by
 have hex:∃n r,zhA body n s=some r:=⟨n,r,h⟩
 unfold zak
 rw [dif_pos hex]
 obtain ⟨r',h'⟩:=hex.choose_spec
 rw [h']
 have h1:=zxk h' (Nat.le_max_left hex.choose n)
 have h2:=zxk h (Nat.le_max_right hex.choose n)
 rw [h1] at h2
 exact h2
theorem zsy {σ ρ:Type} {body:σ→Option (σ⊕ρ)} {s:σ} {r:ρ} (h:zak body s=some r):∃n,zhA body n s=some r:=by
 unfold zak at h
 split at h
 ·exact ⟨_,h⟩
 ·cases h
theorem zM {σ ρ:Type} {body:σ→Option (σ⊕ρ)} {s s':σ} (h:body s=some (.inl s')):zak body s=zak body s':=by
 cases hw:zak body s' with
 | some r=>
  obtain ⟨n,hn⟩:=zsy hw
  exact zqK (n:=n+1) (by rw [zhA,h];exact hn)
 | none=>
  cases hw':zak body s with
  | none=>rfl
  | some r=>
   obtain ⟨n,hn⟩:=zsy hw'
   cases n with
   | zero=>simp [zhA] at hn
   | succ n=>rw [zhA,h] at hn;rw [zqK hn] at hw;cases hw
theorem zN {σ ρ:Type} {body:σ→Option (σ⊕ρ)} {s:σ} {r:ρ} (h:body s=some (.inr r)):zak body s=some r:=
 zqK (n:=1) (by rw [zhA,h])
def zpb {ν:Type} (m:List (Int×ν)):Option (List Int):=
 if (m.all fun p=>(Lit.int .i64 p.1).wf)=true∧m.length*8≤140737488355328 then some ((m.map Prod.fst).mergeSort fun x y=>decide (x≤y)) else none
abbrev Rnd (σ χ:Type):=σ→χ→Option (Bool×σ)
def rnd {σ ρ χ:Type} (kb:σ→χ→Option (σ⊕ρ)):Rnd (σ⊕ρ) χ
 | .inl s,x=>match kb s x with
  | some (.inl s')=>some (true,.inl s')
  | some (.inr r)=>some (false,.inr r)
  | none=>none
 | .inr _,_=>none
theorem zys {α β:Type} {x:Option α} {f:α→Option β} {r:β} (h:(x>>=f)=some r):∃a,x=some a∧f a=some r:=by
 cases x with
 | none=>cases h
 | some a=>exact ⟨a,rfl,h⟩
theorem zn {α:Type} {c:Bool} {x y:Option α} {r:α} (h:(if c then x else y)=some r):(c=true∧x=some r)∨(c=false∧y=some r):=by
 cases c
 ·exact .inr ⟨rfl,h⟩
 ·exact .inl ⟨rfl,h⟩
def idx {α:Type} (xs:List α) (i:Int):Option α:=if 0≤i then xs[i.toNat]? else none
def cut {α:Type} (xs:List α) (i j:Int):Option (List α):=if 0≤i∧i≤j∧j≤xs.length then some ((xs.drop i.toNat).take (j.toNat - i.toNat)) else none
inductive LV where
 | int (k:IntKind) (n:Int)
 | bool (b:Bool)
 | str (l:List UInt8)
 | sl (n size:Nat) (ls:List LV)
 | val (v:Value)
abbrev Fp:=Nat→Prop
inductive zbg (F:Fp) (w:World):LV→Value→Prop
 | int (k:IntKind) (n:Int):zbg F w (.int k n) (.int k n)
 | bool (b:Bool):zbg F w (.bool b) (.bool b)
 | str (l:List UInt8):zbg F w (.str l) (.string ⟨l.toArray⟩)
 | val (v:Value) (h:v.oneCell'=true):zbg F w (.val v) v
 | sl (n size:Nat) (ls:List LV) (A:Option Addr) (c:Nat) (cs:List Value) (hl:ls.length=n*size) (hcs:cs.length=n*size) (hc:n≤c) (hm:c≤maxLen)
   (hA:0<n→∃b off,A=some ⟨b,off,none⟩∧F b∧b<w.heap.size∧∀i,i<n*size→w.cell? ⟨b,off+i,none⟩=cs[i]?)
   (hr:∀(i:Nat) (l:LV) (u:Value),ls[i]? =some l→cs[i]? =some u→zbg F w l u):
   zbg F w (.sl n size ls) (.slice A n c)
def zab (F:Fp) (w:World) (ls:List LV) (cs:List Value):Prop:=ls.length=cs.length∧∀(i:Nat) (l:LV) (u:Value),ls[i]? =some l→cs[i]? =some u→zbg F w l u
structure zul (F:Fp) (w w':World):Prop where
 size:w.heap.size≤w'.heap.size
 block:∀b,b<w.heap.size→F b→w'.heap[b]? =w.heap[b]?
section
variable {F G:Fp} {w w':World}
theorem zul.cell (h:zul F w w') {a:Addr} (hb:a.block<w.heap.size) (hF:F a.block):w'.cell? a=w.cell? a:=World.cell?_of_block (h.block _ hb hF)
theorem zbg.keep {l:LV} {v:Value} (h:zbg F w l v) (hk:zul F w w'):zbg F w' l v:=by
 induction h with
 | int k n=>exact .int k n
 | bool b=>exact .bool b
 | str l=>exact .str l
 | val v h=>exact .val v h
 | sl n size ls A c cs hl hcs hc hm hA hr ih=>
  refine .sl n size ls A c cs hl hcs hc hm (fun hn=>?_) ih
  obtain ⟨b,off,e,hF,hb,hcell⟩:=hA hn
  exact ⟨b,off,e,hF,Nat.lt_of_lt_of_le hb hk.size,fun i hi=>(hk.cell (a:=⟨b,off+i,none⟩) hb hF).trans (hcell i hi)⟩
theorem zbg.mono {l:LV} {v:Value} (h:zbg F w l v) (hG:∀b,b<w.heap.size→F b→G b):zbg G w l v:=by
 induction h with
 | int k n=>exact .int k n
 | bool b=>exact .bool b
 | str l=>exact .str l
 | val v h=>exact .val v h
 | sl n size ls A c cs hl hcs hc hm hA hr ih=>
  refine .sl n size ls A c cs hl hcs hc hm (fun hn=>?_) ih
  obtain ⟨b,off,e,hF,hb,hcell⟩:=hA hn
  exact ⟨b,off,e,hG b hb hF,hb,hcell⟩
theorem zbg.one {l:LV} {v:Value} (h:zbg F w l v):v.oneCell'=true:=by
 cases h<;>first| rfl| assumption
theorem zab.keep {ls:List LV} {cs:List Value} (h:zab F w ls cs) (hk:zul F w w'):zab F w' ls cs:=⟨h.1,fun i l u h1 h2=>(h.2 i l u h1 h2).keep hk⟩
theorem zab.mono {ls:List LV} {cs:List Value} (h:zab F w ls cs) (hG:∀b,b<w.heap.size→F b→G b):zab G w ls cs:=⟨h.1,fun i l u h1 h2=>(h.2 i l u h1 h2).mono hG⟩
theorem zab.nil:zab F w [] []:=⟨rfl,fun i l u h1=>by simp at h1⟩
theorem zab.append {ls ms:List LV} {cs ds:List Value} (h:zab F w ls cs) (k:zab F w ms ds):zab F w (ls++ms) (cs++ds):=by
 refine ⟨by rw [List.length_append,List.length_append,h.1,k.1],fun i l u h1 h2=>?_⟩
 rw [List.getElem?_append] at h1 h2
 rw [h.1] at h1
 split at h1
 ·rename_i hi;rw [if_pos hi] at h2;exact h.2 i l u h1 h2
 ·rename_i hi;rw [if_neg hi] at h2;exact k.2 _ l u h1 h2
theorem zab.drop {ls:List LV} {cs:List Value} (h:zab F w ls cs) (k:Nat):zab F w (ls.drop k) (cs.drop k):=
 ⟨by simp [h.1],fun i l u h1 h2=>h.2 (k+i) l u (by simpa using h1) (by simpa using h2)⟩
theorem zab.take {ls:List LV} {cs:List Value} (h:zab F w ls cs) (k:Nat):zab F w (ls.take k) (cs.take k):=by
 refine ⟨by simp [h.1],fun i l u h1 h2=>?_⟩
 rw [List.getElem?_take] at h1 h2
 split at h1
 ·rename_i hi;rw [if_pos hi] at h2;exact h.2 i l u h1 h2
 ·cases h1
theorem zab.cons {l:LV} {v:Value} {ls:List LV} {cs:List Value} (h:zbg F w l v) (k:zab F w ls cs):zab F w (l::ls) (v::cs):=
 zab.append (ls:=[l]) (cs:=[v]) ⟨rfl,fun i l' u h1 h2=>by
  cases i with
  | zero=>simp at h1 h2;subst h1 h2;exact h
  | succ i=>simp at h1⟩ k
theorem zab.one {ls:List LV} {cs:List Value} (h:zab F w ls cs):∀u∈cs,u.oneCell'=true:=by
 intro u hu
 obtain ⟨i,hi,rfl⟩:=List.getElem_of_mem hu
 exact (h.2 i _ _ (List.getElem?_eq_getElem (by rw [h.1];exact hi)) (List.getElem?_eq_getElem hi)).one
theorem zab.head {l:LV} {ls:List LV} {cs:List Value} (h:zab F w (l::ls) cs):∃v cs',cs=v::cs'∧zbg F w l v∧zab F w ls cs':=by
 cases cs with
 | nil=>have:=h.1;simp at this
 | cons v cs'=>exact ⟨v,cs',rfl,h.2 0 l v rfl rfl,h.drop 1⟩
theorem zab.single {l:LV} {cs:List Value} (h:zab F w [l] cs):∃v,cs=[v]∧zbg F w l v:=by
 obtain ⟨v,cs',rfl,h1,h2⟩:=h.head
 have:=h2.1
 cases cs' with
 | nil=>exact ⟨v,rfl,h1⟩
 | cons=>simp at this
end
structure Rp (α:Type) where
 size:Nat
 agg:Bool
 lv:α→List LV
 len:∀x,(lv x).length=size
 pos:0<size
theorem Rp.flat {α:Type} (r:Rp α) (xs:List α):(xs.flatMap r.lv).length=xs.length*r.size:=by
 induction xs with
 | nil=>simp
 | cons x xs ih=>simp only [List.flatMap_cons,List.length_append,ih,r.len,List.length_cons,Nat.succ_mul];omega
theorem Rp.flat_drop {α:Type} (r:Rp α) (xs:List α) (k:Nat):(xs.drop k).flatMap r.lv=(xs.flatMap r.lv).drop (k*r.size):=by
 induction k generalizing xs with
 | zero=>simp
 | succ k ih=>
  cases xs with
  | nil=>simp
  | cons x xs=>
   have hx:=r.len x
   rw [List.drop_succ_cons,ih,List.flatMap_cons,List.drop_append,hx,Nat.succ_mul]
   rw [List.drop_eq_nil_of_le (as:=r.lv x) (by omega),List.nil_append,Nat.add_sub_cancel]
theorem Rp.flat_take {α:Type} (r:Rp α) (xs:List α) (k:Nat):(xs.take k).flatMap r.lv=(xs.flatMap r.lv).take (k*r.size):=by
 induction k generalizing xs with
 | zero=>simp
 | succ k ih=>
  cases xs with
  | nil=>simp
  | cons x xs=>
   have hx:=r.len x
   rw [List.take_succ_cons,List.flatMap_cons,ih,List.flatMap_cons,List.take_append,hx,Nat.succ_mul]
   rw [List.take_of_length_le (l:=r.lv x) (by omega),Nat.add_sub_cancel]
theorem Rp.flat_at {α:Type} (r:Rp α) (xs:List α) (k:Nat) (x:α) (h:xs[k]? =some x):((xs.flatMap r.lv).drop (k*r.size)).take r.size=r.lv x:=by
 rw [←r.flat_drop]
 have hk:k<xs.length:=(List.getElem?_eq_some_iff.1 h).1
 have e:xs.drop k=x::xs.drop (k+1):=by
  rw [List.drop_eq_getElem_cons hk]
  congr 1
  exact (List.getElem?_eq_some_iff.1 h).2
 have hx:=r.len x
 rw [e,List.flatMap_cons,List.take_append,hx,List.take_of_length_le (l:=r.lv x) (by omega)]
 simp
def Rp.byte:Rp UInt8:=⟨1,false,fun c=>[.int .u8 c.toNat],fun _=>rfl,Nat.one_pos⟩
def Rp.int (k:IntKind):Rp Int:=⟨1,false,fun n=>[.int k n],fun _=>rfl,Nat.one_pos⟩
def Rp.bool:Rp Bool:=⟨1,false,fun n=>[.bool n],fun _=>rfl,Nat.one_pos⟩
def Rp.str:Rp (List UInt8):=⟨1,false,fun n=>[.str n],fun _=>rfl,Nat.one_pos⟩
def Rp.list {α:Type} (r:Rp α):Rp (List α):=⟨1,false,fun xs=>[.sl xs.length r.size (xs.flatMap r.lv)],fun _=>rfl,Nat.one_pos⟩
structure Gh where
 col:Nat→Nat
 box:Nat→Nat
def Gh.F (γ:Gh) (C:List Nat):Fp:=fun b=>γ.col b∈C
inductive AV:Type 1 where
 | any
 | lf (l:LV)
 | sl {α:Type} (r:Rp α) (C:List Nat) (xs:List α)
 | own {α:Type} (r:Rp α) (e:TypeId) (ℓ:Nat) (C:List Nat) (xs:List α)
 | rc {α:Type} (r:Rp α) (C:List Nat) (x:α)
 | ep {α:Type} (r:Rp α) (C:List Nat) (x:α) (off:Nat)
 | ptr (ℓ off:Nat)
 | mp {κ ν:Type} (rk:Rp κ) (rv:Rp ν) (C:List Nat) (m:List (κ×ν))
 | om {κ ν:Type} (rk:Rp κ) (rv:Rp ν) (ℓ:Nat) (C:List Nat) (m:List (κ×ν))
 | tup (l:List AV)
 | ag (l:List AV)
 | fv (g:Nat) (l:List AV)
 | bp {α:Type} (r:Rp α) (t:TypeId) (ℓ:Nat) (C:List Nat) (x:α)
 | it {κ ν:Type} (rk:Rp κ) (rv:Rp ν) (ℓ:Nat) (C:List Nat) (last left:List (κ×ν))
 | bs (ℓ n:Nat)
 | tl (ℓ off n:Nat)
 | qp {α:Type} (r:Rp α) (C:List Nat) (o:Option α)
 | em {κ ν:Type} (rk:Rp κ) (rv:Rp ν) (C:List Nat) (m:List (κ×ν))
 | mo {κ α:Type} [DecidableEq κ] (rk:Rp κ) (r:Rp α) (e:TypeId) (ℓ:Nat) (C:List Nat) (m:List (κ×List α))
def LV.plain:LV→Bool
 | .sl ..=>false
 | _=>true
theorem zbg.plain {F G:Fp} {w w':World} {l:LV} {v:Value} (h:zbg F w l v) (hp:l.plain=true):zbg G w' l v:=by
 cases h with
 | int k n=>exact .int k n
 | bool b=>exact .bool b
 | str l=>exact .str l
 | val v h=>exact .val v h
 | sl=>cases hp
def VRel {α:Type} (F:Fp) (w:World) (r:Rp α) (x:α) (v:Value):Prop:=zab F w (r.lv x) v.cells.toList∧(r.agg=true→∃cs:List Value,v= .agg cs.toArray)∧(r.agg=false→v.cells=#[v])
theorem VRel.mono {α:Type} {F G:Fp} {w:World} {r:Rp α} {x:α} {v:Value} (h:VRel F w r x v) (hG:∀b,b<w.heap.size→F b→G b):VRel G w r x v:=⟨h.1.mono hG,h.2⟩
theorem VRel.keep {α:Type} {F:Fp} {w w':World} {r:Rp α} {x:α} {v:Value} (h:VRel F w r x v) (hk:zul F w w'):VRel F w' r x v:=⟨h.1.keep hk,h.2⟩
inductive zcx {κ ν:Type} (F:Fp) (w:World) (rk:Rp κ) (rv:Rp ν):List (κ×ν)→List MapEntry→Prop
 | nil:zcx F w rk rv [] []
 | cons {p:κ×ν} {m:List (κ×ν)} {e:MapEntry} {es:List MapEntry} (h1:VRel F w rk p.1 e.key) (h2:VRel F w rv p.2 e.val) (h:zcx F w rk rv m es):zcx F w rk rv (p::m) (e::es)
theorem zcx.mono {κ ν:Type} {F G:Fp} {w:World} {rk:Rp κ} {rv:Rp ν} {m:List (κ×ν)} {es:List MapEntry} (h:zcx F w rk rv m es) (hG:∀b,b<w.heap.size→F b→G b):zcx G w rk rv m es:=by
 induction h with
 | nil=>exact .nil
 | cons h1 h2 _ ih=>exact .cons (h1.mono hG) (h2.mono hG) ih
theorem zcx.keep {κ ν:Type} {F:Fp} {w w':World} {rk:Rp κ} {rv:Rp ν} {m:List (κ×ν)} {es:List MapEntry} (h:zcx F w rk rv m es) (hk:zul F w w'):zcx F w' rk rv m es:=by
 induction h with
 | nil=>exact .nil
 | cons h1 h2 _ ih=>exact .cons (h1.keep hk) (h2.keep hk) ih
def StOk {κ ν:Type} (m:List (κ×ν)) (es:Array MapEntry) (cl:Nat):Prop:=(∀x∈es.toList,x.born<cl)∧(es.toList.map (·.born)).Nodup∧(m.map Prod.fst).Nodup
def mget {κ ν:Type} [DecidableEq κ]:List (κ×ν)→κ→Option ν
 | [],_=>none
 | p::m,k=>if k=p.1 then some p.2 else mget m k
def mput {κ ν:Type} [DecidableEq κ]:List (κ×ν)→κ→ν→List (κ×ν)
 | [],k,x=>[(k,x)]
 | p::m,k,x=>if k=p.1 then (k,x)::m else p::mput m k x
def Rp.valR:Rp Value:=⟨1,false,fun v=>[.val v],fun _=>rfl,by decide⟩
def zjZ {α:Type} (γ:Gh) (w:World) (r:Rp α) (e:TypeId) (ℓ:Nat) (C:List Nat) (xs:List α) (v:Value):Prop:=
 ∃cs,w.ownsRow 0 e r.size v xs.length cs∧(∀g,v.ownBlock=some g→γ.col g=ℓ)∧zab (γ.F C) w (xs.flatMap r.lv) cs
def zyo (u v:Value):Prop:=∀g,u.ownBlock=some g→v.ownBlock≠some g
structure zFo {κ α:Type} [DecidableEq κ] (γ:Gh) (w:World) (r:Rp α) (e:TypeId) (ℓ:Nat) (C:List Nat) (S:κ→Prop) (m:List (κ×List α)) (n:List (κ×Value)):Prop where
 keys:m.map Prod.fst=n.map Prod.fst
 row:∀k xs u,mget m k=some xs→mget n k=some u→S k→zjZ γ w r e ℓ C xs u
 apart:∀j k u v,j≠k→mget n j=some u→mget n k=some v→S j→S k→zyo u v
def MoIn {κ α:Type} [DecidableEq κ] (γ:Gh) (w:World) (rk:Rp κ) (r:Rp α) (e:TypeId) (ℓ:Nat) (C:List Nat) (S:κ→Prop) (m:List (κ×List α)) (b:Nat) (n:List (κ×Value)):Prop:=
 ∃es cl,(γ.col b=ℓ∧γ.box ℓ=b)∧b<w.heap.size∧w.heap[b]? =some (.map es cl)∧StOk n es cl∧zcx (γ.F C) w rk Rp.valR n es.toList∧zFo γ w r e ℓ C S m n∧ℓ∉C
def zGe {κ ν:Type} (F:Fp) (w:World) (rk:Rp κ) (rv:Rp ν) (last left:List (κ×ν)) (b r:Nat):Prop:=
 ∃es cl seen since c0 ls la,w.heap[r]? =some (.mapIter (some b) since seen c0)∧w.heap[b]? =some (.map es cl)∧(∀x∈es.toList,x.born<since)∧(es.toList.map (·.born)).Nodup∧since≤c0∧since≤cl∧
  ls.Perm (leftOf es seen).toList∧zcx F w rk rv left ls∧zcx F w rk rv last la∧∀e∈la,e∈es.toList∧(∃se:Array Nat,seen=se.push e.born)∧c0=cl
mutual
def AV.rel (γ:Gh) (w:World):AV→Value→Prop
 | .any,_=>True
 | .lf l,v=>l.plain=true∧zbg (fun _=>False) w l v
 | .sl r C xs,v=>zbg (γ.F C) w (.sl xs.length r.size (xs.flatMap r.lv)) v
 | .own r e ℓ C xs,v=>∃cs,w.ownsRow 0 e r.size v xs.length cs∧(∀g,v.ownBlock=some g→γ.col g=ℓ∧γ.box ℓ=g)∧zab (γ.F C) w (xs.flatMap r.lv) cs∧ℓ∉C
 | .rc r C x,v=>∃cs,v= .agg cs.toArray∧zab (γ.F C) w (r.lv x) cs
 | .ep r C x off,v=>∃b o cs,v= .pointer (some ⟨b,o+off,none⟩)∧γ.col b∈C∧b<w.heap.size∧zab (γ.F C) w (r.lv x) cs∧∀i,i<cs.length→w.cell? ⟨b,o+i,none⟩=cs[i]?
 | .ptr ℓ off,v=>v= .pointer (some ⟨γ.box ℓ,off,none⟩)
 | .bs ℓ n,v=>v= .slice (some ⟨γ.box ℓ,0,none⟩) n n
 | .tl ℓ off n,v=>∃A c,v= .slice A n c∧(0<n→A=some ⟨γ.box ℓ,off,none⟩)
 | .qp r C o,v=>match o with
  | none=>v= .pointer none
  | some x=>∃b cs,v= .pointer (some ⟨b,0,none⟩)∧γ.col b∈C∧b<w.heap.size∧zab (γ.F C) w (r.lv x) cs∧∀i,i<cs.length→w.cell? ⟨b,0+i,none⟩=cs[i]?
 | .mp rk rv C m,v=>∃b es cl,v= .map (some b)∧γ.col b∈C∧b<w.heap.size∧(w.heap[b]? =some (.map es cl)∧StOk m es cl)∧zcx (γ.F C) w rk rv m es.toList
 | .em rk rv C m,v=>∃a b es cl,v= .pointer (some ⟨a,0,none⟩)∧γ.col a∈C∧a<w.heap.size∧w.cell? ⟨a,0,none⟩=some (.map (some b))∧γ.col b∈C∧b<w.heap.size∧(w.heap[b]? =some (.map es cl)∧StOk m es cl)∧zcx (γ.F C) w rk rv m es.toList
 | .om rk rv ℓ C m,v=>∃b es cl,v= .map (some b)∧(γ.col b=ℓ∧γ.box ℓ=b)∧b<w.heap.size∧(w.heap[b]? =some (.map es cl)∧StOk m es cl)∧zcx (γ.F C) w rk rv m es.toList∧ℓ∉C
 | @AV.mo _ _ _ rk r e ℓ C m,v=>∃b n,v= .map (some b)∧MoIn γ w rk r e ℓ C (fun _=>True) m b n
 | .tup l,v=>∃vs:List Value,v= .tuple vs.toArray∧AV.relL γ w l vs
 | .ag l,v=>∃vs:List Value,v= .agg vs.toArray∧AV.relL γ w l vs∧∀u∈vs,u.oneCell'=true
 | .fv g l,v=>∃vs:List Value,v= .func (.func g) #[] vs.toArray∧AV.relL γ w l vs
 | .bp r t ℓ C x,v=>∃b cs,v= .pointer (some ⟨b,0,none⟩)∧(γ.col b=ℓ∧γ.box ℓ=b)∧b<w.heap.size∧w.heap[b]? =some (.cells cs t (0,0))∧(∀u∈cs.toList,u.oneCell'=true)∧zab (γ.F C) w (r.lv x) cs.toList
 | .it rk rv ℓ C last left,v=>∃r b,v= .pointer (some ⟨r,0,none⟩)∧(γ.col r=ℓ∧γ.box ℓ=r)∧r<w.heap.size∧γ.col b∈C∧b<w.heap.size∧zGe (γ.F C) w rk rv last left b r∧ℓ∉C
def AV.relL (γ:Gh) (w:World):List AV→List Value→Prop
 | [],vs=>vs=[]
 | a::l,vs=>∃v vs',vs=v::vs'∧AV.rel γ w a v∧AV.relL γ w l vs'
end
mutual
/-- The colors that a reading looks at. -/
def AV.cols:AV→List Nat
 | .any| .lf _| .ptr _ _| .bs _ _| .tl _ _ _=>[]
 | .sl _ C _| .rc _ C _| .ep _ C _ _| .qp _ C _=>C
 | .own _ _ ℓ C _=>ℓ::C
 | .mp _ _ C _| .em _ _ C _=>C
 | .om _ _ ℓ C _=>ℓ::C
 | @AV.mo _ _ _ _ _ _ ℓ C _=>ℓ::C
 | .tup l=>AV.colsL l
 | .ag l=>AV.colsL l
 | .fv _ l=>AV.colsL l
 | .bp _ _ ℓ C _=>ℓ::C
 | .it _ _ ℓ C _ _=>ℓ::C
def AV.colsL:List AV→List Nat
 | []=>[]
 | a::l=>AV.cols a++AV.colsL l
end
mutual
/-- The boxes that it points into. -/
def AV.labs:AV→List Nat
 | .ptr ℓ _=>[ℓ]
 | .bs ℓ _=>[ℓ]
 | .tl ℓ _ _=>[ℓ]
 | .own _ _ ℓ _ _=>[ℓ]
 | .om _ _ ℓ _ _=>[ℓ]
 | @AV.mo _ _ _ _ _ _ ℓ _ _=>[ℓ]
 | .tup l=>AV.labsL l
 | .ag l=>AV.labsL l
 | .fv _ l=>AV.labsL l
 | .bp _ _ ℓ _ _=>[ℓ]
 | .it _ _ ℓ _ _ _=>[ℓ]
 | _=>[]
def AV.labsL:List AV→List Nat
 | []=>[]
 | a::l=>AV.labs a++AV.labsL l
end
structure Tr (W V:List Nat) (γ:Gh) (w:World) (γ':Gh) (w':World):Prop where
 os:w'.os=w.os
 tape:w'.tape=w.tape
 output:w'.output=w.output
 size:w.heap.size≤w'.heap.size
 block:∀b,b<w.heap.size→γ.col b∉W→w'.heap[b]? =w.heap[b]?
 col:∀b,b<w.heap.size→γ'.col b=γ.col b
 box:∀ℓ,ℓ∉V→γ'.box ℓ=γ.box ℓ
 fresh:∀b,w.heap.size≤b→b<w'.heap.size→γ'.col b=0→0∈W∨0∈V
section
variable {W V:List Nat} {γ γ':Gh} {w w':World}
theorem Tr.refl (W V:List Nat) (γ:Gh) (w:World):Tr W V γ w γ w:=⟨rfl,rfl,rfl,Nat.le_refl _,fun _ _ _=>rfl,fun _ _=>rfl,fun _ _=>rfl,fun b h1 h2=>by omega⟩
theorem Tr.lv (h:Tr W V γ w γ' w') {C:List Nat} (hC:∀c∈C,c∉W) {l:LV} {v:Value} (hl:zbg (γ.F C) w l v):zbg (γ'.F C) w' l v:=by
 have h1:zbg (fun b=>γ.F C b∧b<w.heap.size) w l v:=hl.mono fun b hb hF=>⟨hF,hb⟩
 refine (h1.keep (w':=w') ⟨h.size,fun b hb hF=>h.block b hb (hC _ hF.1)⟩).mono fun b hb hF=>?_
 show γ'.col b∈C
 rw [h.col b hF.2]
 exact hF.1
theorem Tr.all (h:Tr W V γ w γ' w') {C:List Nat} (hC:∀c∈C,c∉W) {ls:List LV} {cs:List Value} (hl:zab (γ.F C) w ls cs):zab (γ'.F C) w' ls cs:=
 ⟨hl.1,fun i l u h1 h2=>h.lv hC (hl.2 i l u h1 h2)⟩
theorem Tr.es (h:Tr W V γ w γ' w') {C:List Nat} (hC:∀c∈C,c∉W) {κ ν:Type} {rk:Rp κ} {rv:Rp ν} {m:List (κ×ν)} {es:List MapEntry} (hl:zcx (γ.F C) w rk rv m es):zcx (γ'.F C) w' rk rv m es:=by
 induction hl with
 | nil=>exact .nil
 | cons h1 h2 _ ih=>exact .cons ⟨h.all hC h1.1,h1.2⟩ ⟨h.all hC h2.1,h2.2⟩ ih
theorem ziW {base:Nat} {e:TypeId} {size n:Nat} {v:Value} {cs:List Value} (ho:w.ownsRow base e size v n cs) (hb:∀g,v.ownBlock=some g→w'.heap[g]? =w.heap[g]?):w'.ownsRow base e size v n cs:=by
 refine ⟨ho.1,?_⟩
 rcases ho.2 with hn| ⟨g,cap,cur,rfl,hg,hh,rest⟩
 ·exact .inl hn
 ·exact .inr ⟨g,cap,cur,rfl,hg,(hb g rfl).trans hh,rest⟩
theorem MoIn.off {κ α:Type} [DecidableEq κ] {γ:Gh} {w:World} {rk:Rp κ} {r:Rp α} {e:TypeId} {ℓ:Nat} {C:List Nat} {S:κ→Prop} {m:List (κ×List α)} {b:Nat} {n:List (κ×Value)} (h:MoIn γ w rk r e ℓ C S m b n):ℓ∉C:=by
 obtain ⟨es,cl,_,_,_,_,_,_,hn⟩:=h;exact hn
theorem MoIn.regh {κ α:Type} [DecidableEq κ] {γ γ':Gh} {w:World} {rk:Rp κ} {r:Rp α} {e:TypeId} {ℓ ℓ':Nat} {C C':List Nat} {S:κ→Prop} {m:List (κ×List α)} {b:Nat} {n:List (κ×Value)} (h1:∀b,b<w.heap.size→γ.col b=ℓ→γ'.col b=ℓ')
  (h2:∀b,b<w.heap.size→γ.col b∈C→γ'.col b∈C') (h3:γ'.box ℓ'=γ.box ℓ) (h4:ℓ'∉C') (h:MoIn γ w rk r e ℓ C S m b n):MoIn γ' w rk r e ℓ' C' S m b n:=by
 obtain ⟨es,cl,⟨g1,g2⟩,hb,hh,hO,hE,hR,_⟩:=h
 refine ⟨es,cl,⟨h1 b hb g1,h3.trans g2⟩,hb,hh,hO,hE.mono h2,⟨hR.keys,fun k xs u a1 a2 a3=>?_,hR.apart⟩,h4⟩
 obtain ⟨cs,ho,hg,hA⟩:=hR.row k xs u a1 a2 a3
 exact ⟨cs,ho,fun g hgb=>h1 g (ho.lt g hgb).2 (hg g hgb),hA.mono h2⟩
theorem zjZ.keep (h:Tr W V γ w γ' w') {α:Type} {r:Rp α} {e:TypeId} {ℓ:Nat} {C:List Nat} {xs:List α} {v:Value} (h1:ℓ∉W) (h2:∀c∈C,c∉W) (hr:zjZ γ w r e ℓ C xs v):zjZ γ' w' r e ℓ C xs v:=by
 obtain ⟨cs,ho,hg,hA⟩:=hr
 have hlt:=ho.lt
 exact ⟨cs,ziW ho fun g hgb=>h.block g (hlt g hgb).2 (by rw [hg g hgb];exact h1),fun g hgb=>by rw [h.col g (hlt g hgb).2];exact hg g hgb,h.all h2 hA⟩
theorem MoIn.keep (h:Tr W V γ w γ' w') {κ α:Type} [DecidableEq κ] {rk:Rp κ} {r:Rp α} {e:TypeId} {ℓ:Nat} {C:List Nat} {S:κ→Prop} {m:List (κ×List α)} {b:Nat} {n:List (κ×Value)} (h1:ℓ∉W) (h2:∀c∈C,c∉W) (h3:ℓ∉V)
  (hr:MoIn γ w rk r e ℓ C S m b n):MoIn γ' w' rk r e ℓ C S m b n:=by
 obtain ⟨es,cl,⟨g1,g2⟩,hb,hh,hO,hE,hR,hn⟩:=hr
 exact ⟨es,cl,⟨by rw [h.col b hb];exact g1,by rw [h.box ℓ h3];exact g2⟩,Nat.lt_of_lt_of_le hb h.size,(h.block b hb (by rw [g1];exact h1)).trans hh,hO,h.es h2 hE,⟨hR.keys,fun k xs u a1 a2 a3=>(hR.row k xs u a1 a2 a3).keep h h1 h2,hR.apart⟩,hn⟩
mutual
theorem AV.keep (a:AV) {v:Value} (h:Tr W V γ w γ' w') (hc:∀c∈a.cols,c∉W) (hl:∀c∈a.labs,c∉V) (hr:a.rel γ w v):a.rel γ' w' v:=by
 match a with
 | .any=>trivial
 | .lf l=>exact ⟨hr.1,hr.2.plain hr.1⟩
 | .sl r C xs=>exact h.lv hc hr
 | .own r e ℓ C xs=>
  obtain ⟨cs,ho,hg,hA,hn⟩:=hr
  have hlt:=ho.lt
  refine ⟨cs,ziW ho fun g hgb=>h.block g (hlt g hgb).2 ?_,fun g hgb=>?_,h.all (fun c hC=>hc c (List.mem_cons_of_mem _ hC)) hA,hn⟩
  ·rw [(hg g hgb).1];exact hc ℓ List.mem_cons_self
  ·rw [h.col g (hlt g hgb).2,h.box ℓ (hl ℓ List.mem_cons_self)];exact hg g hgb
 | .rc r C x=>
  obtain ⟨cs,hv,hA⟩:=hr
  exact ⟨cs,hv,h.all hc hA⟩
 | .ep r C x off=>
  obtain ⟨b,o,cs,hv,hF,hb,hA,hcell⟩:=hr
  refine ⟨b,o,cs,hv,by rw [h.col b hb];exact hF,Nat.lt_of_lt_of_le hb h.size,h.all hc hA,fun i hi=>?_⟩
  rw [←hcell i hi]
  exact World.cell?_of_block (h.block b hb (hc _ hF))
 | .ptr ℓ off=>
  show v=_
  rw [h.box ℓ (hl ℓ List.mem_cons_self)]
  exact hr
 | .bs ℓ n=>
  show v=_
  rw [h.box ℓ (hl ℓ List.mem_cons_self)]
  exact hr
 | .tl ℓ off n=>
  obtain ⟨A,c,hv,hA⟩:=hr
  exact ⟨A,c,hv,fun hn=>by rw [h.box ℓ (hl ℓ List.mem_cons_self)];exact hA hn⟩
 | .qp r C o=>
  cases o with
  | none=>exact hr
  | some x=>
   obtain ⟨b,cs,hv,hF,hb,hA,hcell⟩:=hr
   refine ⟨b,cs,hv,by rw [h.col b hb];exact hF,Nat.lt_of_lt_of_le hb h.size,h.all hc hA,fun i hi=>?_⟩
   rw [←hcell i hi]
   exact World.cell?_of_block (h.block b hb (hc _ hF))
 | .mp rk rv C m=>
  obtain ⟨b,es,cl,hv,hF,hb,hh,hE⟩:=hr
  exact ⟨b,es,cl,hv,by rw [h.col b hb];exact hF,Nat.lt_of_lt_of_le hb h.size,⟨(h.block b hb (hc _ hF)).trans hh.1,hh.2⟩,h.es hc hE⟩
 | .em rk rv C m=>
  obtain ⟨a,b,es,cl,hv,hFa,ha,hc1,hF,hb,hh,hE⟩:=hr
  exact ⟨a,b,es,cl,hv,by rw [h.col a ha];exact hFa,Nat.lt_of_lt_of_le ha h.size,(World.cell?_of_block (h.block a ha (hc _ hFa))).trans hc1,by rw [h.col b hb];exact hF,Nat.lt_of_lt_of_le hb h.size,⟨(h.block b hb (hc _ hF)).trans hh.1,hh.2⟩,h.es hc hE⟩
 | .om rk rv ℓ C m=>
  obtain ⟨b,es,cl,hv,⟨hF,hbx⟩,hb,hh,hE,hn⟩:=hr
  exact ⟨b,es,cl,hv,⟨by rw [h.col b hb];exact hF,by rw [h.box ℓ (hl ℓ List.mem_cons_self)];exact hbx⟩,Nat.lt_of_lt_of_le hb h.size,⟨(h.block b hb (by rw [hF];exact hc ℓ List.mem_cons_self)).trans hh.1,hh.2⟩,h.es (fun c hC=>hc c (List.mem_cons_of_mem _ hC)) hE,hn⟩
 | @AV.mo _ _ _ rk r e ℓ C m=>
  obtain ⟨b,n,hv,hm⟩:=hr
  exact ⟨b,n,hv,hm.keep h (hc ℓ List.mem_cons_self) (fun c hC=>hc c (List.mem_cons_of_mem _ hC)) (hl ℓ List.mem_cons_self)⟩
 | .tup l=>
  obtain ⟨vs,hv,hL⟩:=hr
  exact ⟨vs,hv,AV.keepL l h hc hl hL⟩
 | .ag l=>
  obtain ⟨vs,hv,hL,h1⟩:=hr
  exact ⟨vs,hv,AV.keepL l h hc hl hL,h1⟩
 | .fv g l=>
  obtain ⟨vs,hv,hL⟩:=hr
  exact ⟨vs,hv,AV.keepL l h hc hl hL⟩
 | .bp r t ℓ C x=>
  obtain ⟨b,cs,hv,⟨hF,hbx⟩,hb,hh,h1,hA⟩:=hr
  exact ⟨b,cs,hv,⟨by rw [h.col b hb];exact hF,by rw [h.box ℓ (hl ℓ List.mem_cons_self)];exact hbx⟩,Nat.lt_of_lt_of_le hb h.size,(h.block b hb (by rw [hF];exact hc ℓ List.mem_cons_self)).trans hh,h1,h.all (fun c hC=>hc c (List.mem_cons_of_mem _ hC)) hA⟩
 | .it rk rv ℓ C last left=>
  obtain ⟨r,b,hv,⟨g1,g2⟩,hr',hF,hb,⟨es,cl,seen,since,c0,ls,la,i1,i2,i3,i4,i5,i6,i7,i8,i9,i10⟩,hn⟩:=hr
  have hC:∀c∈C,c∉W:=fun c h1=>hc c (List.mem_cons_of_mem _ h1)
  exact ⟨r,b,hv,⟨by rw [h.col r hr'];exact g1,by rw [h.box ℓ (hl ℓ List.mem_cons_self)];exact g2⟩,Nat.lt_of_lt_of_le hr' h.size,by rw [h.col b hb];exact hF,Nat.lt_of_lt_of_le hb h.size,
   ⟨es,cl,seen,since,c0,ls,la,(h.block r hr' (by rw [g1];exact hc ℓ List.mem_cons_self)).trans i1,(h.block b hb (hC _ hF)).trans i2,i3,i4,i5,i6,i7,h.es hC i8,h.es hC i9,i10⟩,hn⟩
theorem AV.keepL (l:List AV) {vs:List Value} (h:Tr W V γ w γ' w') (hc:∀c∈AV.colsL l,c∉W) (hl:∀c∈AV.labsL l,c∉V) (hr:AV.relL γ w l vs):AV.relL γ' w' l vs:=by
 match l with
 | []=>exact hr
 | a::l=>
  obtain ⟨v,vs',rfl,h1,h2⟩:=hr
  exact ⟨v,vs',rfl,AV.keep a h (fun c hC=>hc c (List.mem_append_left _ hC)) (fun c hC=>hl c (List.mem_append_left _ hC)) h1,
   AV.keepL l h (fun c hC=>hc c (List.mem_append_right _ hC)) (fun c hC=>hl c (List.mem_append_right _ hC)) h2⟩
end
theorem Tr.trans {W' V':List Nat} {γ'':Gh} {w'':World} (h:Tr W V γ w γ' w') (k:Tr W' V' γ' w' γ'' w''):Tr (W++W') (V++V') γ w γ'' w'':=by
 refine ⟨k.os.trans h.os,k.tape.trans h.tape,k.output.trans h.output,Nat.le_trans h.size k.size,fun b hb hn=>?_,fun b hb=>?_,fun ℓ hn=>?_,fun b h1 h2 h0=>?_⟩
 ·simp only [List.mem_append,not_or] at hn
  rw [k.block b (Nat.lt_of_lt_of_le hb h.size) (by rw [h.col b hb];exact hn.2),h.block b hb hn.1]
 ·rw [k.col b (Nat.lt_of_lt_of_le hb h.size),h.col b hb]
 ·simp only [List.mem_append,not_or] at hn
  rw [k.box ℓ hn.2,h.box ℓ hn.1]
 ·simp only [List.mem_append]
  by_cases hb:b<w'.heap.size
  ·rcases h.fresh b h1 hb (by rw [←k.col b hb];exact h0) with e| e
   ·exact .inl (.inl e)
   ·exact .inr (.inl e)
  ·rcases k.fresh b (Nat.le_of_not_lt hb) h2 h0 with e| e
   ·exact .inl (.inr e)
   ·exact .inr (.inr e)
end
end Go.Proofs.YtcbkcblkecmjnaaGreat
namespace Go.Proofs.YtcbkcblkecmjnaaGreat
open Go Go.RowKit
structure Bx where
 lab:Nat
 typ:TypeId
 avs:List AV
def Bx.rel (γ:Gh) (w:World) (b:Bx):Prop:=
 γ.col (γ.box b.lab)=b.lab∧∃cs:List Value,w.heap[γ.box b.lab]? =some (.cells cs.toArray b.typ (0,0))∧AV.relL γ w b.avs cs∧∀u∈cs,u.oneCell'=true
structure Env where
 sl:List (Nat×AV)
 bx:List Bx
def memN (c:Nat):List Nat→Bool
 | []=>false
 | x::l=>Nat.beq c x|| memN c l
theorem zaW {c:Nat} {l:List Nat}:memN c l=true↔c∈l:=by
 induction l with
 | nil=>simp [memN]
 | cons x l ih=>simp [memN,ih]
def AV.free (W V:List Nat) (a:AV):Bool:=a.cols.all (fun c=> !memN c W)&&a.labs.all (fun c=> !memN c V)
theorem AV.free_spec {W V:List Nat} {a:AV} (h:a.free W V=true):(∀c∈a.cols,c∉W)∧∀c∈a.labs,c∉V:=by
 unfold AV.free at h
 simp only [Bool.and_eq_true,List.all_eq_true,Bool.not_eq_true'] at h
 refine ⟨fun c hc hw=>?_,fun c hc hw=>?_⟩
 ·have:=h.1 c hc;rw [zaW.2 hw] at this;cases this
 ·have:=h.2 c hc;rw [zaW.2 hw] at this;cases this
def lookup:List (Nat×AV)→Nat→Option AV
 | [],_=>none
 | p::l,k=>match Nat.beq p.1 k with
  | true=>some p.2
  | false=>lookup l k
theorem zdd {l:List (Nat×AV)} {k:Nat} {a:AV} (h:lookup l k=some a):(k,a)∈l:=by
 induction l with
 | nil=>cases h
 | cons p l ih=>
  rw [lookup] at h
  split at h
  ·rename_i hb
   have:=Nat.eq_of_beq_eq_true hb
   obtain ⟨p1,p2⟩:=p
   cases h
   simp only at this
   subst this
   exact List.mem_cons_self
  ·exact List.mem_cons_of_mem _ (ih h)
def zns:Value→Option AV
 | .int k n=>some (.lf (.int k n))
 | .bool b=>some (.lf (.bool b))
 | .string s=>some (.lf (.str s.data.toList))
 | .slice none n c=>some (.lf (.val (.slice none n c)))
 | .nilFunc=>some (.lf (.val .nilFunc))
 | .pointer none=>some (.lf (.val (.pointer none)))
 | .map none=>some (.lf (.val (.map none)))
 | .nilIface=>some (.lf (.val .nilIface))
 | _=>none
theorem zkc {v:Value} {a:AV} (h:zns v=some a) (γ:Gh) (w:World):a.rel γ w v:=by
 unfold zns at h
 split at h
 all_goals cases h
 ·exact ⟨rfl,.int _ _⟩
 ·exact ⟨rfl,.bool _⟩
 ·rename_i s
  refine ⟨rfl,?_⟩
  have:=zbg.str (F:=fun _=>False) (w:=w) s.data.toList
  simpa using this
 all_goals exact ⟨rfl,.val _ rfl⟩
def Env.opd (E:Env):Operand→Option AV
 | .tmp t=>lookup E.sl t
 | .const v=>zns v
 | .func f=>some (.lf (.val (.func (.func f) #[] #[])))
 | .global _=>none
def spB (c:Nat):Bool:=Nat.ble 800000 c&&Nat.ble c 899999
structure zrV (γ γ':Gh):Prop where
 zero:∀b,γ.col b=0→γ'.col b=0
 one:∀b,γ.col b=1→γ'.col b=1
 back:∀b,γ'.col b=0→γ.col b=0
 old:∀b,spB (γ.col b)=true→γ'.col b=γ.col b
structure Ext where
 X:Gh→World→Prop
 tr:∀{γ γ':Gh} {w w':World} {W V:List Nat},X γ w→Tr W V γ w γ' w'→(∀c∈W,2≤c)→(∀c∈V,2≤c)→X γ' w'
 ren:∀{γ γ':Gh} {w:World},X γ w→zrV γ γ'→X γ' w
 base:Nat
 le:∀{γ:Gh} {w:World},X γ w→base≤w.heap.size
def fnX (w0:World) (F:Fp):Ext where
 X γ w:=Below w0.heap.size w0 w∧(∀b,b<w0.heap.size→(γ.col b=0∧F b)∨γ.col b=1)∧∀b,w0.heap.size≤b→b<w.heap.size→γ.col b≠0
 tr:=fun {γ γ' w w' W V} h t hW hV=>by
  have hlt:∀b,b<w0.heap.size→b<w.heap.size:=fun b hb=>Nat.lt_of_lt_of_le hb h.1.size
  have hn:∀b,b<w0.heap.size→γ.col b∉W:=fun b hb hc=>by
   have:=hW _ hc
   rcases h.2.1 b hb with ⟨h0,_⟩| h0<;>omega
  refine ⟨⟨t.os.trans h.1.os,t.tape.trans h.1.tape,t.output.trans h.1.output,Nat.le_trans h.1.size t.size,fun b hb=>?_⟩,fun b hb=>?_,fun b h1 h2 h0=>?_⟩
  ·rw [t.block b (hlt b hb) (hn b hb)];exact h.1.block b hb
  ·rw [t.col b (hlt b hb)];exact h.2.1 b hb
  ·by_cases hb:b<w.heap.size
   ·exact h.2.2 b h1 hb (by rw [←t.col b hb];exact h0)
   ·rcases t.fresh b (Nat.le_of_not_lt hb) h2 h0 with e| e
    ·have:=hW _ e;omega
    ·have:=hV _ e;omega
 ren:=fun {γ γ' w} h k=>⟨h.1,fun b hb=>(h.2.1 b hb).imp (fun ⟨h0,hF⟩=>⟨k.zero b h0,hF⟩) (k.one b),fun b h1 h2 h0=>h.2.2 b h1 h2 (k.back b h0)⟩
 base:=w0.heap.size
 le:=fun h=>h.1.size
def zoP (n0:Nat) (γ:Gh) (w:World) (ds:List Deferred):Prop:=
 ∃Ds:List Nat,ds=Ds.map (fun D=>{target:= .collected D,args:=#[]})∧Ds.Nodup∧∀D∈Ds,n0≤D∧w.heap[D]? =some (.deferred (some []))∧γ.col D=1
theorem zoP.tr {n0:Nat} {γ γ':Gh} {w w':World} {W V:List Nat} {ds:List Deferred} (h:zoP n0 γ w ds) (t:Tr W V γ w γ' w') (hW:∀c∈W,2≤c):zoP n0 γ' w' ds:=by
 obtain ⟨Ds,e,hn,h⟩:=h
 refine ⟨Ds,e,hn,fun D hD=>?_⟩
 obtain ⟨h0,h1,h2⟩:=h D hD
 have hlt:=(Array.getElem?_eq_some_iff.1 h1).1
 refine ⟨h0,?_,(t.col D hlt).trans h2⟩
 rw [t.block D hlt (fun hc=>by have:=hW _ hc;omega)];exact h1
theorem zoP.ren {n0:Nat} {γ γ':Gh} {w:World} {ds:List Deferred} (h:zoP n0 γ w ds) (k:zrV γ γ'):zoP n0 γ' w ds:=by
 obtain ⟨Ds,e,hn,h⟩:=h
 exact ⟨Ds,e,hn,fun D hD=>⟨(h D hD).1,(h D hD).2.1,k.one D (h D hD).2.2⟩⟩
structure Lim where
 n:Nat
 keep:List Nat
structure Cx where
 n:Lim
 X:Ext
 marked:Bool
 old:Array Value
structure Base (cx:Cx) (γ:Gh) (a:Act) (w:World):Prop where
 defers:zoP cx.X.base γ w a.defers
 clean:cx.marked=false→a.defers=[]
 size:a.tmps.size=cx.n.n
 kept:∀k∈cx.n.keep,a.tmps.getD k undef=cx.old.getD k undef
 ext:cx.X.X γ w
def Sl (γ:Gh) (w:World) (a:Act) (l:List (Nat×AV)):Prop:=∀p∈l,p.2.rel γ w (a.tmps.getD p.1 undef)
def Bxs (γ:Gh) (w:World) (l:List Bx):Prop:=∀b∈l,b.rel γ w
def Sx (cx:Cx) (E:Env) (a:Act) (w:World):Prop:=∃γ,Base cx γ a w∧Sl γ w a E.sl∧Bxs γ w E.bx
theorem Env.opd_rel {E:Env} {x:Operand} {av:AV} (h:E.opd x=some av) {γ:Gh} {w:World} {a:Act} (hs:Sl γ w a E.sl):av.rel γ w (a.eval x):=by
 cases x with
 | tmp t=>exact hs _ (zdd h)
 | const v=>exact zkc h γ w
 | global g=>cases h
 | func f=>cases h;exact ⟨rfl,.val _ rfl⟩
def zgO (d:Option Nat) (av:AV) (l:List (Nat×AV)):List (Nat×AV):=
 match d with
 | none=>l
 | some d=>(d,av)::l.filter fun p=> !Nat.beq p.1 d
def zyz (d:Option Nat) (l:List (Nat×AV)):List (Nat×AV):=
 match d with
 | none=>l
 | some d=>l.filter fun p=> !Nat.beq p.1 d
theorem zkW {a:Act} {d k:Nat} {v:Value} (h:k≠d):(a.put (some d) v).tmps.getD k undef=a.tmps.getD k undef:=by
 simp only [Act.put,Array.getD_eq_getD_getElem?]
 rw [Array.getElem?_setIfInBounds_ne (Ne.symm h)]
theorem zff {a:Act} {d:Nat} {v:Value} (h:d<a.tmps.size):(a.put (some d) v).tmps.getD d undef=v:=by
 simp only [Act.put,Array.getD_eq_getD_getElem?]
 rw [Array.getElem?_setIfInBounds_self_of_lt h]
 rfl
theorem zhQ (a:Act) (d:Option Nat) (v:Value):(a.put d v).defers=a.defers:=by cases d<;>rfl
theorem zpo (a:Act) (d:Option Nat) (v:Value):(a.put d v).tmps.size=a.tmps.size:=by cases d<;>simp [Act.put]
theorem Base.put {cx:Cx} {γ:Gh} {a:Act} {w:World} (h:Base cx γ a w) (d:Option Nat) (v:Value) (hk:∀k,d=some k→k∉cx.n.keep):Base cx γ (a.put d v) w:=
 ⟨by rw [zhQ];exact h.defers,fun e=>by rw [zhQ];exact h.clean e,(zpo a d v).trans h.size,fun k hm=>by
  cases d with
  | none=>exact h.kept k hm
  | some d=>
   have hne:k≠d:=fun e=>hk d rfl (by rw [←e];exact hm)
   rw [zkW hne];exact h.kept k hm,h.ext⟩
theorem Sl.drop {γ:Gh} {w:World} {a:Act} {l:List (Nat×AV)} (h:Sl γ w a l) (d:Option Nat) (v:Value):Sl γ w (a.put d v) (zyz d l):=by
 cases d with
 | none=>exact h
 | some d=>
  intro p hp
  simp only [zyz,List.mem_filter,Bool.not_eq_true'] at hp
  rw [zkW (fun e=>by rw [e] at hp;simp at hp)]
  exact h p hp.1
theorem Sl.put {γ:Gh} {w:World} {a:Act} {l:List (Nat×AV)} (h:Sl γ w a l) {d:Option Nat} {v:Value} {av:AV} (hd:∀k,d=some k→k<a.tmps.size) (hv:av.rel γ w v):Sl γ w (a.put d v) (zgO d av l):=by
 cases d with
 | none=>exact h
 | some d=>
  intro p hp
  simp only [zgO,List.mem_cons] at hp
  rcases hp with rfl| hp
  ·simp only;rw [zff (hd d rfl)];exact hv
  ·exact h.drop (some d) v p hp
def zpd (j k:IntKind):Bool:=match j,k with
 | .i8,.i8| .i16,.i16| .i32,.i32| .i64,.i64| .u8,.u8| .u16,.u16| .u32,.u32| .u64,.u64=>true
 | _,_=>false
theorem zpe {j k:IntKind} (h:zpd j k=true):j=k:=by cases j<;>cases k<;>first| rfl| cases h
def andI (k:IntKind) (x y:Int):Int:=k.wrap (BitVec.ofInt k.bits x&&&BitVec.ofInt k.bits y).toNat
def orI (k:IntKind) (x y:Int):Int:=k.wrap (BitVec.ofInt k.bits x||| BitVec.ofInt k.bits y).toNat
def xorI (k:IntKind) (x y:Int):Int:=k.wrap (BitVec.ofInt k.bits x^^^BitVec.ofInt k.bits y).toNat
def zDU (k:IntKind) (x y:Int):Int:=k.wrap (BitVec.ofInt k.bits x&&&~~~BitVec.ofInt k.bits y).toNat
def shlI (k:IntKind) (x y:Int):Int:=k.wrap (x*2^(min y.toNat k.bits))
def shrI (k:IntKind) (x y:Int):Int:=x.fdiv (2^(min y.toNat k.bits))
def zvj (op:BinOp) (k:IntKind) (x y:Int):Option LV:=
 match op with
 | .add=>some (.int k (k.wrap (x+y)))
 | .sub=>some (.int k (k.wrap (x - y)))
 | .mul=>some (.int k (k.wrap (x*y)))
 | .and=>some (.int k (andI k x y))
 | .or=>some (.int k (orI k x y))
 | .xor=>some (.int k (xorI k x y))
 | .andNot=>some (.int k (zDU k x y))
 | .eql=>some (.bool (x==y))
 | .neq=>some (.bool (x !=y))
 | .lss=>some (.bool (decide (x<y)))
 | .leq=>some (.bool (decide (x≤y)))
 | .gtr=>some (.bool (decide (x>y)))
 | .geq=>some (.bool (decide (x≥y)))
 | .quo=>match y with
  | .ofNat (n+1)=>some (.int k (k.wrap (x.tdiv (.ofNat (n+1)))))
  | _=>none
 | .rem=>match y with
  | .ofNat (n+1)=>some (.int k (x.tmod (.ofNat (n+1))))
  | _=>none
 | .shl| .shr=>none
theorem zyq {op:BinOp} {k:IntKind} {x y:Int} {l:LV} (h:zvj op k x y=some l) (P:Program) (w:World) (t:TypeId):
  ∃v,(binOp op t (.int k x) (.int k y)).run P w= .ok v w∧l.plain=true∧zbg (fun _=>False) w l v:=by
 have hk:¬(k≠k):=fun h=>h rfl
 unfold zvj at h
 split at h
 case h_14=>
  split at h
  ·rename_i n
   cases h
   have hn:¬(Int.ofNat (n+1)=0):=by simp;omega
   exact ⟨_,by simp only [binOp,Op.intDiv];rw [if_neg hk,if_neg hn];rfl,rfl,.int _ _⟩
  ·cases h
 case h_15=>
  split at h
  ·rename_i n
   cases h
   have hn:¬(Int.ofNat (n+1)=0):=by simp;omega
   exact ⟨_,by simp only [binOp,Op.intDiv];rw [if_neg hk,if_neg hn];rfl,rfl,.int _ _⟩
  ·cases h
 all_goals first
  | (cases h;done)
  | (cases h;exact ⟨_,by simp only [binOp];rw [if_neg hk];rfl,rfl,.int _ _⟩)
  | (cases h;exact ⟨_,by simp only [binOp];rw [if_neg hk];rfl,rfl,.bool _⟩)
  | (cases h;exact ⟨_,by simp only [binOp,Op.intBits];rw [if_neg hk];rfl,rfl,.int _ _⟩)
def zfC:List Bx→Nat→Option Bx
 | [],_=>none
 | b::l,k=>match Nat.beq b.lab k with
  | true=>some b
  | false=>zfC l k
theorem zdj {l:List Bx} {k:Nat} {b:Bx} (h:zfC l k=some b):b∈l∧b.lab=k:=by
 induction l with
 | nil=>cases h
 | cons c l ih=>
  rw [zfC] at h
  split at h
  ·rename_i hb;cases h;exact ⟨List.mem_cons_self,Nat.eq_of_beq_eq_true hb⟩
  ·obtain ⟨h1,h2⟩:=ih h;exact ⟨List.mem_cons_of_mem _ h1,h2⟩
def zvk (op:BinOp) (x y:List UInt8):Option LV:=
 match op with
 | .eql=>some (.bool (x==y))
 | .neq=>some (.bool (!(x==y)))
 | .lss=>some (.bool (Op.bytesLess x y))
 | .leq=>some (.bool (Op.bytesLess x y|| x==y))
 | .gtr=>some (.bool (!(Op.bytesLess x y|| x==y)))
 | .geq=>some (.bool (!(Op.bytesLess x y)))
 | _=>none
def zrx (op:BinOp) (d:Option TypeDesc) (x y:Bool):Option LV:=
 match op,d with
 | .eql,some .bool=>some (.bool (x==y))
 | .neq,some .bool=>some (.bool (!(x==y)))
 | _,_=>none
def zoX (P:Program) (s:TypeId) (f:Nat):Option Nat:=
 match P.underlying s with
 | some (.struct fs)=>match fs[f]? with
  | some fd=>match P.info? fd.type with
   | some i=>match Nat.beq i.size 0 with
    | true=>none
    | false=>some fd.offset
   | none=>none
  | none=>none
 | _=>none
def zeh (P:Program) (t:TypeId):Bool:=
 match P.underlying t with
 | some (.struct _)| some (.array _ _)| none=>false
 | some _=>true
def zCI (d:Option TypeDesc) (x:AV):Option AV:=
 match d,x with
 | some (.slice _),.sl _ _ xs=>some (.lf (.int .i64 xs.length))
 | some (.slice _),.own _ _ _ _ xs=>some (.lf (.int .i64 xs.length))
 | some (.slice _),.lf (.val (.slice _ n _))=>some (.lf (.int .i64 n))
 | some .string,.lf (.str l)=>some (.lf (.int .i64 l.length))
 | _,_=>none
def zyv (P:Program) (ρ:Operand→Option AV) (c:Callee) (args:List Operand) (ts:List TypeId):Option AV:=
 match c,args,ts with
 | .builtin .len,[x],[t]=>match ρ x with
  | some av=>zCI (P.underlying t) av
  | none=>none
 | .builtin .min,[x,y],_=>match ρ x,ρ y with
  | some (.lf (.int k m)),some (.lf (.int j n))=>match zpd k j with
   | true=>some (.lf (.int k (if n<m then n else m)))
   | false=>none
  | _,_=>none
 | .builtin .max,[x,y],_=>match ρ x,ρ y with
  | some (.lf (.int k m)),some (.lf (.int j n))=>match zpd k j with
   | true=>some (.lf (.int k (if m<n then n else m)))
   | false=>none
  | _,_=>none
 | _,_,_=>none
def zsj (P:Program) (ρ:Operand→Option AV) (bx:List Bx):Op→Option AV
 | .move x| .assign x=>ρ x
 | .pick c a b=>match ρ c with
  | some (.lf (.bool true))=>ρ a
  | some (.lf (.bool false))=>ρ b
  | _=>none
 | .binOp op t x y _=>match ρ x,ρ y with
  | some (.lf (.int k m)),some (.lf (.int j n))=>match zpd k j with
   | true=>(zvj op k m n).map .lf
   | false=>none
  | some (.lf (.str l)),some (.lf (.str m))=>(zvk op l m).map .lf
  | some (.lf (.bool a)),some (.lf (.bool b))=>(zrx op (P.underlying t) a b).map .lf
  | _,_=>none
 | .unOp op _ x=>match op,ρ x with
  | .not,some (.lf (.bool b))=>some (.lf (.bool (!b)))
  | .neg,some (.lf (.int k n))=>some (.lf (.int k (k.wrap (0 - n))))
  | _,_=>none
 | .convert s d x=>match P.underlying s,P.underlying d,ρ x with
  | some _,some (.int k),some (.lf (.int _ n))=>some (.lf (.int k (k.wrap n)))
  | some .string,some .string,some (.lf (.str l))=>some (.lf (.str l))
  | _,_,_=>none
 | .extract x i=>match ρ x with
  | some (.tup l)=>l[i]?
  | _=>none
 | .call c=>zyv P ρ c.callee c.args.toList c.argTypes.toList
 | .fieldAddr s x f=>match zoX P s f,ρ x with
  | some o,some (.ptr ℓ off)=>some (.ptr ℓ (off+o))
  | some o,some (.ep r C y off)=>some (.ep r C y (off+o))
  | _,_=>none
 | .load t x=>match zeh P t,ρ x with
  | true,some (.ptr ℓ off)=>match zfC bx ℓ with
   | some b=>b.avs[off]?
   | none=>none
  | true,some (.ep r _ y off)=>match (r.lv y)[off]? with
   | some l=>match l.plain with
    | true=>some (.lf l)
    | false=>none
   | none=>none
  | _,_=>none
 | .nilCheck x=>match ρ x with
  | some (.ptr ℓ off)=>some (.ptr ℓ off)
  | some (.ep r C y off)=>some (.ep r C y off)
  | _=>none
 | _=>none
theorem ztb {γ:Gh} {w:World} {l:List AV} {vs:List Value} (h:AV.relL γ w l vs) {i:Nat} {a:AV} (hi:l[i]? =some a):∃v,vs[i]? =some v∧a.rel γ w v:=by
 induction l generalizing vs i with
 | nil=>cases hi
 | cons b l ih=>
  obtain ⟨v,vs',rfl,h1,h2⟩:=h
  cases i with
  | zero=>cases hi;exact ⟨v,rfl,h1⟩
  | succ i=>exact ih h2 hi
theorem zbP {γ:Gh} {w:World} {l:List AV} {vs:List Value} (h:AV.relL γ w l vs):vs.length=l.length:=by
 induction l generalizing vs with
 | nil=>cases h;rfl
 | cons b l ih=>obtain ⟨v,vs',rfl,h1,h2⟩:=h;simp [ih h2]
theorem zdR {γ:Gh} {w:World} {k:IntKind} {n:Int} {v:Value} (h:AV.rel γ w (.lf (.int k n)) v):v= .int k n:=by cases h.2;rfl
theorem ziT {γ:Gh} {w:World} {b:Bool} {v:Value} (h:AV.rel γ w (.lf (.bool b)) v):v= .bool b:=by cases h.2;rfl
theorem zsC {γ:Gh} {w:World} {l:List UInt8} {v:Value} (h:AV.rel γ w (.lf (.str l)) v):v= .string ⟨l.toArray⟩:=by cases h.2;rfl
theorem zqh {γ:Gh} {w:World} {u v:Value} (h:AV.rel γ w (.lf (.val u)) v):v=u:=by cases h.2;rfl
theorem zhP (γ:Gh) (w:World) (k:IntKind) (n:Int):AV.rel γ w (.lf (.int k n)) (.int k n):=⟨rfl,.int _ _⟩
theorem zAd (γ:Gh) (w:World) (b:Bool):AV.rel γ w (.lf (.bool b)) (.bool b):=⟨rfl,.bool _⟩
theorem zCQ (γ:Gh) (w:World) (l:List UInt8):AV.rel γ w (.lf (.str l)) (.string ⟨l.toArray⟩):=⟨rfl,.str _⟩
theorem zEG {γ:Gh} {w:World} {α:Type} {r:Rp α} {C:List Nat} {xs:List α} {v:Value} (h:AV.rel γ w (.sl r C xs) v):∃A c,v= .slice A xs.length c∧xs.length≤c∧c≤maxLen:=by
 have h':zbg (γ.F C) w (.sl xs.length r.size (xs.flatMap r.lv)) v:=h
 cases h' with
 | sl _ _ _ A c cs _ _ hc hm=>exact ⟨A,c,rfl,hc,hm⟩
theorem zuM {γ:Gh} {w:World} {α:Type} {r:Rp α} {e:TypeId} {ℓ:Nat} {C:List Nat} {xs:List α} {v:Value} (h:AV.rel γ w (.own r e ℓ C xs) v):∃A c,v= .slice A xs.length c∧xs.length≤c∧c≤maxLen:=by
 obtain ⟨cs,ho,_⟩:=h
 rcases ho.2 with ⟨rfl,h0⟩| ⟨g,cap,cur,rfl,_,_,hc,hm,_⟩
 ·rw [h0];exact ⟨none,0,rfl,Nat.le_refl _,Nat.zero_le _⟩
 ·exact ⟨_,_,rfl,hc,hm⟩
theorem zyr {op:BinOp} {x y:List UInt8} {l:LV} (h:zvk op x y=some l) (P:Program) (w:World) (t:TypeId):
  ∃v,(binOp op t (.string ⟨x.toArray⟩) (.string ⟨y.toArray⟩)).run P w= .ok v w∧l.plain=true∧zbg (fun _=>False) w l v:=by
 unfold zvk at h
 split at h
 all_goals first
  | (cases h;done)
  | (cases h;exact ⟨_,by simp only [binOp,Op.stringOp,ByteArray.toList_mk];rfl,rfl,.bool _⟩)
theorem zwG {P:Program} {op:BinOp} {t:TypeId} {x y:Bool} {l:LV} (h:zrx op (P.underlying t) x y=some l) (w:World):
    ∃v,(binOp op t (.bool x) (.bool y)).run P w= .ok v w∧l.plain=true∧zbg (fun _=>False) w l v:=by
  unfold zrx at h
  split at h
  all_goals first
    | (cases h;done)
    | (rename_i hu;cases h
       have hd:∀d:Nat,(Op.equalIn (d+1) t (.bool x) (.bool y)).run P w= .ok (x==y) w:=fun d=>by simp [Op.equalIn,run_underlying hu]
       exact ⟨_,by simp only [binOp];simp [Op.equal,Op.maxDepth,hd 9999],rfl,.bool _⟩)
theorem zAR {P:Program} {t:TypeId} {x av:AV} (h:zCI (P.underlying t) x=some av) {γ:Gh} {w:World} {v:Value} (hx:x.rel γ w v) (ty:TypeId):
  ∃u,(Builtin.len_ #[t] ty #[v]).run P w= .ok u w∧av.rel γ w u:=by
 unfold zCI at h
 split at h
 ·rename_i hu;cases h
  obtain ⟨A,c,rfl,_⟩:=zEG hx
  exact ⟨_,by simp [Builtin.len_,run_underlying hu,goInt],zhP _ _ _ _⟩
 ·rename_i hu;cases h
  obtain ⟨A,c,rfl,_⟩:=zuM hx
  exact ⟨_,by simp [Builtin.len_,run_underlying hu,goInt],zhP _ _ _ _⟩
 ·rename_i hu;cases h
  rw [zqh hx]
  exact ⟨_,by simp [Builtin.len_,run_underlying hu,goInt],zhP _ _ _ _⟩
 ·rename_i hu;cases h
  rw [zsC hx]
  exact ⟨_,by simp [Builtin.len_,run_underlying hu,goInt,ByteArray.size_mk'],zhP _ _ _ _⟩
 ·cases h
def Opds (ρ:Operand→Option AV) (γ:Gh) (w:World) (ev:Operand→Value) (l:List Operand):Prop:=∀x∈l,∀av,ρ x=some av→av.rel γ w (ev x)
theorem zrB (P:Program) (op:BinOp) (t:TypeId) (x y:Operand) (k:IntKind) (n:Int) (b:Value) (w:World):(eqGuard op t x y (.int k n) b).run P w= .ok () w:=by
 unfold eqGuard
 split<;>rfl
theorem zEb (P:Program) (op:BinOp) (t:TypeId) (x y:Operand) (s:ByteArray) (b:Value) (w:World):(eqGuard op t x y (.string s) b).run P w= .ok () w:=by
 unfold eqGuard
 split<;>rfl
theorem zCc (P:Program) (op:BinOp) (t:TypeId) (x y:Operand) (s:Bool) (b:Value) (w:World):(eqGuard op t x y (.bool s) b).run P w= .ok () w:=by
 unfold eqGuard
 split<;>rfl
theorem ztN {P:Program} {s:TypeId} {f o:Nat} (h:zoX P s f=some o):∃fs fd i,P.underlying s=some (.struct fs)∧fs[f]? =some fd∧P.info? fd.type=some i∧i.size≠0∧fd.offset=o:=by
 unfold zoX at h
 split at h
 ·rename_i fs hs
  split at h
  ·rename_i fd hf
   split at h
   ·rename_i i hi
    split at h
    ·cases h
    ·rename_i hb;cases h;exact ⟨fs,fd,i,hs,hf,hi,fun e=>by rw [e] at hb;simp at hb,rfl⟩
   ·cases h
  ·cases h
 ·cases h
theorem zib (b o n:Nat):(⟨b,o,none⟩:Addr).add n=⟨b,o+n,none⟩:=by unfold Addr.add;split<;>simp_all
theorem zrg {P:Program} {s:TypeId} {f o:Nat} (h:zoX P s f=some o) (b off:Nat) (w:World):(Instr.fieldAt s (.pointer (some ⟨b,off,none⟩)) f).run P w= .ok (.pointer (some ⟨b,off+o,none⟩)) w:=by
 obtain ⟨fs,fd,i,hs,hf,hi,hn,rfl⟩:=ztN h
 simp [Instr.fieldAt,run_underlying hs,hf,Instr.sureAddr,fieldPlace,sizeOf,typeInfo,hi,hn,zib]
theorem zjz {P:Program} {t:TypeId} (h:zeh P t=true) {b off:Nat} {w:World} {v:Value} (hc:w.cell? ⟨b,off,none⟩=some v):(Instr.loadAt t (.pointer (some ⟨b,off,none⟩))).run P w= .ok v w:=by
 unfold zeh at h
 split at h
 ·cases h
 ·cases h
 ·cases h
 ·rename_i d h1 h2 hu
  have hi:(isAgg t).run P w= .ok false w:=by
   cases d<;>simp [isAgg,run_underlying hu]<;>first| (exact h1 _ rfl)| (exact h2 _ _ rfl)| rfl
  simp [Instr.loadAt,Instr.sureAddr,loadVar,hi,load,Sem.run,hc]
theorem zrn {P:Program} {t:TypeId} (h:zeh P t=true) {b off:Nat} {w:World} {v:Value} (hc:w.cell? ⟨b,off,none⟩=some v):(loadVar t ⟨b,off,none⟩).run P w= .ok v w:=by
 unfold zeh at h
 split at h
 ·cases h
 ·cases h
 ·cases h
 ·rename_i d h1 h2 hu
  have hi:(isAgg t).run P w= .ok false w:=by
   cases d<;>simp [isAgg,run_underlying hu]<;>first| (exact h1 _ rfl)| (exact h2 _ _ rfl)| rfl
  simp [loadVar,hi,load,Sem.run,hc]
theorem Bx.cell {γ:Gh} {w:World} {b:Bx} (h:b.rel γ w) {off:Nat} {a:AV} (ha:b.avs[off]? =some a):∃v,w.cell? ⟨γ.box b.lab,off,none⟩=some v∧a.rel γ w v:=by
 obtain ⟨_,cs,hh,hr,_⟩:=h
 obtain ⟨v,hv,ha⟩:=ztb hr ha
 exact ⟨v,by rw [cell_of_row w _ off _ _ _ hh];simpa using hv,ha⟩
theorem zDg (P:Program) (w:World) (k j:IntKind) (m n:Int) (ts:Array TypeId) (ty:TypeId):(Builtin.min_ ts ty #[.int k m,.int j n]).run P w= .ok (.int k (if n<m then n else m)) w:=by
 simp [Builtin.min_,Builtin.min2]
theorem zDf (P:Program) (w:World) (k j:IntKind) (m n:Int) (ts:Array TypeId) (ty:TypeId):(Builtin.max_ ts ty #[.int k m,.int j n]).run P w= .ok (.int k (if m<n then n else m)) w:=by
 simp [Builtin.max_,Builtin.max2]
theorem zcL {P:Program} {ev:Operand→Value} {o:Oper} {b:Builtin} {args:List Operand} {ts:List TypeId} {c:Call} (ho:o.op= .call c) (hc:c.callee= .builtin b) (ha:c.args.toList=args) (ht:c.argTypes.toList=ts) {w w':World} {v:Value}
  (h:∀consts,(Go.builtin b ts.toArray o.type consts (args.map ev).toArray).run P w= .ok (.value v) w'):(execOp ev o).run P w= .ok (.value v) w':=by
 obtain ⟨callee,args',ts'⟩:=c
 simp only at hc ha ht
 subst hc
 have e1:args'=args.toArray:=by rw [←ha]
 have e2:ts'=ts.toArray:=by rw [←ht]
 subst e1 e2
 simp only [execOp,ho,resolve,Sem.run_bind,Sem.run_pure,Result.andThen_ok,invoke,List.map_toArray]
 exact h _
theorem zyw {P:Program} {ρ:Operand→Option AV} {o:Oper} {c:Call} {av:AV} (ho:o.op= .call c) (h:zyv P ρ c.callee c.args.toList c.argTypes.toList=some av)
  {γ:Gh} {w:World} {ev:Operand→Value} (hρ:Opds ρ γ w ev c.args.toList):∃v,(execOp ev o).run P w= .ok (.value v) w∧av.rel γ w v:=by
 generalize ha:c.args.toList=args at h hρ
 generalize ht:c.argTypes.toList=ts at h
 generalize hc:c.callee=cal at h
 unfold zyv at h
 split at h
 ·rename_i x t
  split at h
  ·rename_i a hx
   obtain ⟨v,hv,hr⟩:=zAR h (hρ x List.mem_cons_self a hx) o.type
   exact ⟨v,zcL ho hc ha ht fun consts=>by simp [builtin,hv],hr⟩
  ·cases h
 ·rename_i x y
  split at h
  ·rename_i k m j n hx hy
   split at h
   ·rename_i hk
    cases h
    have h1:=zdR (hρ x List.mem_cons_self _ hx)
    have h2:=zdR (hρ y (List.mem_cons_of_mem _ List.mem_cons_self) _ hy)
    exact ⟨_,zcL ho hc ha ht fun consts=>by simp [builtin,h1,h2,zDg],zhP _ _ _ _⟩
   ·cases h
  ·cases h
 ·rename_i x y
  split at h
  ·rename_i k m j n hx hy
   split at h
   ·rename_i hk
    cases h
    have h1:=zdR (hρ x List.mem_cons_self _ hx)
    have h2:=zdR (hρ y (List.mem_cons_of_mem _ List.mem_cons_self) _ hy)
    exact ⟨_,zcL ho hc ha ht fun consts=>by simp [builtin,h1,h2,zDf],zhP _ _ _ _⟩
   ·cases h
  ·cases h
 ·cases h
theorem zou {P:Program} {ρ:Operand→Option AV} {bx:List Bx} {o:Oper} {av:AV} (h:zsj P ρ bx o.op=some av) {γ:Gh} {w:World} {ev:Operand→Value}
  (hρ:Opds ρ γ w ev o.op.operands.toList) (hb:Bxs γ w bx):∃v,(execOp ev o).run P w= .ok (.value v) w∧av.rel γ w v:=by
 generalize hop:o.op=op at h hρ
 unfold zsj at h
 split at h
 case h_1 x=>exact ⟨_,by simp [execOp,hop],hρ x (by simp [Op.operands]) _ h⟩
 case h_2 x=>exact ⟨_,by simp [execOp,hop],hρ x (by simp [Op.operands]) _ h⟩
 case h_3 c a b=>
  split at h
  ·rename_i hc
   have:=ziT (hρ c (by simp [Op.operands]) _ hc)
   exact ⟨_,by simp [execOp,hop,this,asBool],hρ a (by simp [Op.operands]) _ h⟩
  ·rename_i hc
   have:=ziT (hρ c (by simp [Op.operands]) _ hc)
   exact ⟨_,by simp [execOp,hop,this,asBool],hρ b (by simp [Op.operands]) _ h⟩
  ·cases h
 case h_4 bop t x y yt=>
  split at h
  ·rename_i k m j n hx hy
   have h1:=zdR (hρ x (by simp [Op.operands]) _ hx)
   have h2:=zdR (hρ y (by simp [Op.operands]) _ hy)
   split at h
   ·rename_i hk
    have:=zpe hk
    subst this
    cases hl:zvj bop k m n with
    | none=>rw [hl] at h;cases h
    | some l=>
     rw [hl] at h;cases h
     obtain ⟨v,hv,hp,hr⟩:=zyq hl P w t
     exact ⟨v,by simp [execOp,hop,h1,h2,zrB,hv],hp,hr⟩
   ·cases h
  ·rename_i l m hx hy
   have h1:=zsC (hρ x (by simp [Op.operands]) _ hx)
   have h2:=zsC (hρ y (by simp [Op.operands]) _ hy)
   cases hl:zvk bop l m with
   | none=>rw [hl] at h;cases h
   | some l'=>
    rw [hl] at h;cases h
    obtain ⟨v,hv,hp,hr⟩:=zyr hl P w t
    exact ⟨v,by simp [execOp,hop,h1,h2,zEb,hv],hp,hr⟩
  ·rename_i a b hx hy
   have h1:=ziT (hρ x (by simp [Op.operands]) _ hx)
   have h2:=ziT (hρ y (by simp [Op.operands]) _ hy)
   cases hl:zrx bop (P.underlying t) a b with
   | none=>rw [hl] at h;cases h
   | some l'=>
    rw [hl] at h;cases h
    obtain ⟨v,hv,hp,hr⟩:=zwG hl w
    exact ⟨v,by simp [execOp,hop,h1,h2,zCc,hv],hp,hr⟩
  ·cases h
 case h_5 uop t x=>
  split at h
  ·rename_i b hx
   cases h
   have h1:=ziT (hρ x (by simp [Op.operands]) _ hx)
   exact ⟨_,by simp [execOp,hop,h1,Op.unary],zAd _ _ _⟩
  ·rename_i k n hx
   cases h
   have h1:=zdR (hρ x (by simp [Op.operands]) _ hx)
   exact ⟨_,by simp [execOp,hop,h1,Op.unary,Op.intArith],zhP _ _ _ _⟩
  ·cases h
 case h_6 s d x=>
  split at h
  ·rename_i k _ n hs hd hx
   cases h
   have h1:=zdR (hρ x (by simp [Op.operands]) _ hx)
   exact ⟨_,by simp [execOp,hop,h1,convert,run_underlying hs,run_underlying hd,Conv.intToInt],zhP _ _ _ _⟩
  ·rename_i l hs hd hx
   cases h
   have h1:=zsC (hρ x (by simp [Op.operands]) _ hx)
   exact ⟨_,by simp [execOp,hop,h1,convert,run_underlying hs,run_underlying hd],zCQ _ _ _⟩
  ·cases h
 case h_7 x i=>
  split at h
  ·rename_i l hx
   obtain ⟨vs,hv,hL⟩:=hρ x (by simp [Op.operands]) _ hx
   obtain ⟨v,hv',hr⟩:=ztb hL h
   exact ⟨v,by simp [execOp,hop,hv,Instr.extract,hv'],hr⟩
  ·cases h
 case h_8 c=>exact zyw hop h (fun x hx=>hρ x (by simp only [Op.operands,Call.operands];simp;exact .inr (by simpa using hx)))
 case h_9 s x f=>
  split at h
  ·rename_i n ℓ off hf hx
   cases h
   have h1:ev x=_:=hρ x (by simp [Op.operands]) _ hx
   exact ⟨_,by simp [execOp,hop,h1,zrg hf],rfl⟩
  ·rename_i n α r C y off hf hx
   cases h
   obtain ⟨b,o',cs,hv,hF,hlt,hA,hc⟩:=hρ x (by simp [Op.operands]) _ hx
   exact ⟨_,by simp [execOp,hop,hv,zrg hf];rfl,b,o',cs,by rw [Nat.add_assoc],hF,hlt,hA,hc⟩
  ·cases h
 case h_10 t x=>
  split at h
  ·rename_i ℓ off ht hx
   have h1:ev x=_:=hρ x (by simp [Op.operands]) _ hx
   split at h
   ·rename_i b hfb
    obtain ⟨hm,rfl⟩:=zdj hfb
    obtain ⟨v,hv,hr⟩:=Bx.cell (hb b hm) h
    exact ⟨v,by simp [execOp,hop,h1,zjz ht hv],hr⟩
   ·cases h
  ·rename_i α r C y off ht hx
   obtain ⟨b,o',cs,hv,hF,hlt,hA,hc⟩:=hρ x (by simp [Op.operands]) _ hx
   split at h
   ·rename_i l hl
    split at h
    ·rename_i hp
     cases h
     have hlen:off<cs.length:=by rw [←hA.1];exact (List.getElem?_eq_some_iff.1 hl).1
     have hr:=hA.2 off l _ hl (List.getElem?_eq_getElem hlen)
     have hcell:=hc off hlen
     rw [List.getElem?_eq_getElem hlen] at hcell
     exact ⟨_,by simp [execOp,hop,hv,zjz ht hcell],hp,hr.plain hp⟩
    ·cases h
   ·cases h
  ·cases h
 case h_11 x=>
  split at h
  ·rename_i ℓ off hx
   cases h
   have h1:ev x= .pointer (some ⟨γ.box ℓ,off,none⟩):=hρ x (by simp [Op.operands]) _ hx
   exact ⟨_,by simp [execOp,hop,h1],rfl⟩
  ·rename_i α r C y off hx
   cases h
   have h1:=hρ x (by simp [Op.operands]) _ hx
   obtain ⟨b,o',cs,hv,hrest⟩:=h1
   exact ⟨_,by simp [execOp,hop,hv],b,o',cs,rfl,hrest⟩
  ·cases h
 case h_12=>cases h
end Go.Proofs.YtcbkcblkecmjnaaGreat
namespace Go.Proofs.YtcbkcblkecmjnaaGreat
open Go Go.RowKit
def okW:List Nat→Bool
 | []=>true
 | c::l=>Nat.ble 2 c&&okW l
theorem zpk {W:List Nat} (h:okW W=true):∀c∈W,2≤c:=by
 induction W with
 | nil=>intro c hc;cases hc
 | cons d W ih=>
  simp only [okW,Bool.and_eq_true] at h
  intro c hc
  cases hc with
  | head=>exact Nat.le_of_ble_eq_true h.1
  | tail _ hc=>exact ih h.2 c hc
def zhB (N:Lim):Option Nat→Bool
 | none=>true
 | some d=>Nat.blt d N.n&& !memN d N.keep
theorem zgo {N:Lim} {d:Option Nat} (h:zhB N d=true):∀k,d=some k→k<N.n:=by
 rintro k rfl
 simp only [zhB,Bool.and_eq_true] at h
 exact Nat.lt_of_succ_le (Nat.le_of_ble_eq_true h.1)
theorem zet {N:Lim} {d:Option Nat} (h:zhB N d=true):∀k,d=some k→k∉N.keep:=by
 rintro k rfl hk
 simp only [zhB,Bool.and_eq_true] at h
 rw [zaW.2 hk] at h
 cases h.2
def zmO (W V:List Nat) (l:List (Nat×AV)):List (Nat×AV):=l.filter fun p=>p.2.free W V
def AV.clear (W V:List Nat) (a:AV):AV:=match a.free W V with
 | true=>a
 | false=> .any
def Bx.clear (W V:List Nat) (b:Bx):Bx:=⟨b.lab,b.typ,b.avs.map (AV.clear W V)⟩
def zfE (W V:List Nat) (l:List Bx):List Bx:=(l.filter fun b=> !memN b.lab W&& !memN b.lab V).map (Bx.clear W V)
def Env.step (W V:List Nat) (d:Option Nat) (av:AV) (bs:List Bx) (E:Env):Env:=⟨zgO d av (zmO W V E.sl),bs++zfE W V E.bx⟩
section
variable {W V:List Nat} {γ γ':Gh} {w w':World} {cx:Cx} {a:Act}
theorem Base.tr (h:Base cx γ a w) (t:Tr W V γ w γ' w') (hW:okW W=true) (hV:okW V=true):Base cx γ' a w':=
 ⟨h.defers.tr t (zpk hW),h.clean,h.size,h.kept,cx.X.tr h.ext t (zpk hW) (zpk hV)⟩
theorem Sl.tr {l:List (Nat×AV)} (h:Sl γ w a l) (t:Tr W V γ w γ' w'):Sl γ' w' a (zmO W V l):=by
 intro p hp
 simp only [zmO,List.mem_filter] at hp
 obtain ⟨h1,h2⟩:=AV.free_spec hp.2
 exact p.2.keep t h1 h2 (h p hp.1)
theorem zjx {l:List AV} {vs:List Value} (h:AV.relL γ w l vs) (t:Tr W V γ w γ' w'):AV.relL γ' w' (l.map (AV.clear W V)) vs:=by
 induction l generalizing vs with
 | nil=>exact h
 | cons b l ih=>
  obtain ⟨v,vs',rfl,h1,h2⟩:=h
  refine ⟨v,vs',rfl,?_,ih h2⟩
  unfold AV.clear
  cases hf:b.free W V with
  | true=>obtain ⟨f1,f2⟩:=AV.free_spec hf;exact b.keep t f1 f2 h1
  | false=>trivial
theorem zcg {c:Nat} {l:List Nat} (h:(!memN c l)=true):c∉l:=fun hc=>by rw [zaW.2 hc] at h;cases h
theorem Bxs.tr {l:List Bx} (h:Bxs γ w l) (t:Tr W V γ w γ' w'):Bxs γ' w' (zfE W V l):=by
 intro b hb
 simp only [zfE,List.mem_map,List.mem_filter,Bool.and_eq_true] at hb
 obtain ⟨b,⟨hm,h1,h2⟩,rfl⟩:=hb
 obtain ⟨hc,cs,hh,hr,h1c⟩:=h b hm
 have hlt:γ.box b.lab<w.heap.size:=(Array.getElem?_eq_some_iff.1 hh).1
 refine ⟨?_,cs,?_,zjx hr t,h1c⟩
 ·show γ'.col (γ'.box b.lab)=b.lab
  rw [t.box _ (zcg h2),t.col _ hlt];exact hc
 ·show w'.heap[γ'.box b.lab]? =_
  rw [t.box _ (zcg h2),t.block _ hlt (by rw [hc];exact zcg h1)];exact hh
end
def zH (P:Program) (o:Oper) (ins:List (Operand×AV)) (bxs:List Bx) (W V:List Nat) (av:AV) (bs:List Bx):Prop:=
 ∀(γ:Gh) (a:Act) (w:World),(∀p∈ins,p.2.rel γ w (a.eval p.1))→Bxs γ w bxs→
  ∀(next:Act→World→Prop) (Q:Exit→Act→World→Prop),(∀γ' w' v,Tr W V γ w γ' w'→av.rel γ' w' v→Bxs γ' w' bs→next (a.put o.dst v) w')→o.wp P a w next Q
theorem zU {P:Program} {o:Oper} {ins:List (Operand×AV)} {bxs bs:List Bx} {W V:List Nat} {av:AV}
  (h:∀(γ:Gh) (ev:Operand→Value) (w:World),(∀p∈ins,p.2.rel γ w (ev p.1))→Bxs γ w bxs→
   ∃v w' γ',(execOp ev o).run P w= .ok (.value v) w'∧Tr W V γ w γ' w'∧av.rel γ' w' v∧Bxs γ' w' bs):zH P o ins bxs W V av bs:=by
 intro γ a w hi hb next Q hk
 obtain ⟨v,w',γ',hr,ht,hv,hb'⟩:=h γ a.eval w hi hb
 unfold Oper.wp
 rw [hr]
 exact hk γ' w' v ht hv hb'
def zmx (E:Env):List (Operand×AV)→Prop
 | []=>True
 | p::l=>E.opd p.1=some p.2∧zmx E l
theorem zmx.rel {E:Env} {l:List (Operand×AV)} (h:zmx E l) {γ:Gh} {w:World} {a:Act} (hs:Sl γ w a E.sl):∀p∈l,p.2.rel γ w (a.eval p.1):=by
 induction l with
 | nil=>intro p hp;cases hp
 | cons q l ih=>
  intro p hp
  cases hp with
  | head=>exact Env.opd_rel h.1 hs
  | tail _ hp=>exact ih h.2 p hp
def zuj (E:Env):List Bx→Prop
 | []=>True
 | b::l=>zfC E.bx b.lab=some b∧zuj E l
theorem zuj.rel {E:Env} {l:List Bx} (h:zuj E l) {γ:Gh} {w:World} (hs:Bxs γ w E.bx):Bxs γ w l:=by
 induction l with
 | nil=>intro p hp;cases hp
 | cons q l ih=>
  intro p hp
  cases hp with
  | head=>exact hs _ (zdj h.1).1
  | tail _ hp=>exact ih h.2 p hp
def zfk (ops:Array Oper) (E:Env) (o:Oper):Option Bool:=
 match o.guard with
 | none=>some true
 | some (j,want)=>match ops.toList[j]? with
  | some g=>match g.dst with
   | some t=>match lookup E.sl t,want with
    | some (.lf (.bool true)),true=>some true
    | some (.lf (.bool false)),false=>some true
    | some (.lf (.bool true)),false=>some false
    | some (.lf (.bool false)),true=>some false
    | some (.tup []),_=>some false
    | _,_=>none
   | none=>none
  | none=>none
theorem zfD {ops:Array Oper} {E:Env} {o:Oper} {b:Bool} (h:zfk ops E o=some b) {γ:Gh} {w:World} {a:Act} (hs:Sl γ w a E.sl):Region.wanted o (yielded ops a.tmps)=b:=by
 unfold zfk at h
 unfold Region.wanted
 split at h
 ·rename_i hg;rw [hg];cases h;rfl
 ·rename_i j want hg
  rw [hg]
  split at h
  ·rename_i g hj
   split at h
   ·rename_i t ht
    have key:∀c,lookup E.sl t=some (.lf (.bool c))→yielded ops a.tmps j=some c:=fun c hc=>by
     have hv:=ziT (hs _ (zdd hc))
     simp only at hv
     have hj':ops[j]? =some g:=by rw [←Array.getElem?_toList];exact hj
     have htm:a.tmps[t]? =some (.bool c):=by
      rw [Array.getD_eq_getD_getElem?] at hv
      cases he:a.tmps[t]? with
      | none=>rw [he] at hv;cases hv
      | some u=>rw [he] at hv;simp at hv;rw [hv]
     simp [yielded,hj',ht,htm]
    split at h
    ·rename_i hl;cases h;simp only [key _ hl];rfl
    ·rename_i hl;cases h;simp only [key _ hl];rfl
    ·rename_i hl;cases h;simp only [key _ hl];rfl
    ·rename_i hl;cases h;simp only [key _ hl];rfl
    ·rename_i hl
     cases h
     obtain ⟨vs,hv,hL⟩:=hs _ (zdd hl)
     have hL':vs=[]:=hL
     subst hL'
     have hj':ops[j]? =some g:=by rw [←Array.getElem?_toList];exact hj
     have:yielded ops a.tmps j=none:=by
      rw [Array.getD_eq_getD_getElem?] at hv
      cases he:a.tmps[t]? with
      | none=>simp [yielded,hj',ht,he]
      | some u=>rw [he] at hv;simp at hv;simp [yielded,hj',ht,he,hv]
     simp only [this]
     rfl
    ·cases h
   ·cases h
  ·cases h
theorem Sl.put_undef {γ:Gh} {w:World} {a:Act} {l:List (Nat×AV)} (h:Sl γ w a l) (d:Option Nat):Sl γ w (a.put d undef) (zgO d (.tup []) l):=by
 cases d with
 | none=>exact h
 | some d=>
  intro p hp
  simp only [zgO,List.mem_cons] at hp
  rcases hp with rfl| hp
  ·refine ⟨[],?_,rfl⟩
   by_cases hd:d<a.tmps.size
   ·exact zff hd
   ·simp only [Act.put,Array.getD_eq_getD_getElem?]
    rw [Array.getElem?_eq_none (by simp;omega)]
    rfl
  ·have hp':=List.mem_filter.1 hp
   rw [zkW (fun e=>by have:=hp'.2;rw [e] at this;simp at this)]
   exact h p hp'.1
def RF (ro:Option Nat):Fence:={fn:=fun _=>True,depth:=none,alive:=false,round:=ro}
theorem zoq {ro:Option Nat} {n:Nat} {P:Program} {f:FuncId} {args:Array Value} {w:World} {R:Ending→World→Prop}:CallsIn (RF ro) n P f args w R↔Calls P f args w R:=callsIn_wide (n:=n)
theorem zBl {ro:Option Nat} {n:Nat} {P:Program} {row:String} {args:Array Value} {w:World} {R:Value→World→Prop}:RowsIn (RF ro) n P row args w R↔Rows P row args w R:=
 ⟨fun h c cs=>let ⟨v,w',r,s⟩:=h c cs (room_wide _);⟨v,w',r,stepsIn_wide.1 s⟩,fun h c cs _=>let ⟨v,w',r,s⟩:=h c cs;⟨v,w',r,stepsIn_wide.2 s⟩⟩
def opq (P:Program) (o:Oper) (a:Act) (w:World) (next:Act→World→Prop) (Q:Exit→Act→World→Prop):Prop:=∀ro,o.wpIn (RF ro) 0 P a w next Q
def zog (P:Program) (ops:Array Oper) (Q:Exit→Act→World→Prop) (l:List Oper) (a:Act) (w:World):Prop:=∀ro,wpListIn (RF ro) 0 P ops Q l a w
def wq (m:Bool) (P:Program) (c:Code) (Q:Exit→Act→World→Prop) (a:Act) (w:World):Prop:=∀ro,(m=true→ro=none)→c.wpIn (RF ro) 0 P Q a w
section
variable {m:Bool} {P:Program} {o:Oper} {a:Act} {w w':World} {next next':Act→World→Prop} {Q Q':Exit→Act→World→Prop} {ops:Array Oper} {l:List Oper} {x y c:Code}
theorem zrM {P:Program} {o:Oper} {a:Act} {w:World} (h:∀(next:Act→World→Prop) (Q:Exit→Act→World→Prop),(∀v w',next (a.put o.dst v) w')→o.wp P a w next Q):∀c,o.op≠ .defer c:=by
 intro c hc
 have h1:=h (fun a' _=>a'.defers=a.defers) (fun _ _ _=>False) (fun v _=>zhQ a o.dst v)
 unfold Oper.wp at h1
 have e:(execOp a.eval o).run P w=((resolve a.eval c o.type).run P w).andThen fun d w=> .ok (.defer d) w:=by
  simp [execOp,hc]
 rw [e] at h1
 cases hr:(resolve a.eval c o.type).run P w with
 | ok d w1=>
  rw [hr] at h1
  have h2:((({a with defers:=d::a.defers}:Act).put o.dst undef).defers)=a.defers:=h1
  rw [zhQ] at h2
  have:=congrArg List.length h2
  simp at this
 | halt x w1=>
  rw [hr] at h1
  cases x<;>exact h1
theorem zoD (hd:∀c,o.op≠ .defer c) (h:o.wp P a w next Q):opq P o a w next Q:=by
 intro ro
 refine ⟨fun _ _=>trivial,?_⟩
 rw [Oper.semAt_eq _ _ _ hd]
 unfold Oper.wp at h
 generalize (execOp a.eval o).run P w=r at h
 cases r with
 | ok x w1=>
  cases x with
  | value v=>exact h
  | skip=>exact h
  | defer d=>exact h
  | enter f args=>exact ⟨nofun,zoq.2 (Calls.mono h (fun e w2 hq=>by cases e<;>exact hq))⟩
  | row row args=>exact ⟨nofun,zBl.2 h⟩
  | _=>exact h.elim
 | halt x w1=>cases x<;>exact h
theorem zlc {v:Value} (hr:(execOp a.eval o).run P w= .ok (.value v) w') (h:next (a.put o.dst v) w'):opq P o a w next Q:=by
 refine zoD (zrM (P:=P) (a:=a) (w:=w) (fun nx Qx hn=>?_)) ?_
 ·unfold Oper.wp;rw [hr];exact hn v w'
 ·unfold Oper.wp;rw [hr];exact h
theorem zmV (hr:(execOp a.eval o).run P w= .ok .skip w') (h:next (a.put o.dst undef) w'):opq P o a w next Q:=by
 refine zoD (zrM (P:=P) (a:=a) (w:=w) (fun nx Qx hn=>?_)) ?_
 ·unfold Oper.wp;rw [hr];exact hn undef w'
 ·unfold Oper.wp;rw [hr];exact h
theorem zis (hw:Region.wanted o (yielded ops a.tmps)=true) (h:opq P o a w (zog P ops Q l) Q):zog P ops Q (o::l) a w:=fun ro=>by
 unfold wpListIn
 rw [if_pos hw]
 exact Oper.wpIn_mono (fun a w h=>h ro) (h ro)
theorem zyO (hw:Region.wanted o (yielded ops a.tmps)=false) (h:zog P ops Q l (a.put o.dst undef) w):zog P ops Q (o::l) a w:=fun ro=>by
 unfold wpListIn
 rw [if_neg (by rw [hw];exact Bool.false_ne_true)]
 exact ⟨fun _ _=>trivial,h ro⟩
theorem zkm (h:wq m P c Q a w) (k:∀e a w,Q e a w→Q' e a w):wq m P c Q' a w:=fun ro hm=>wpIn_mono (h ro hm) k
theorem zEY (h:Q .normal a w):wq m P .skip Q a w:=fun _ _=>wpIn_skip h
theorem zGa (h:Q .ret a w):wq m P .ret Q a w:=fun _ _=>wpIn_ret h
theorem zAy {id:Nat} (h:Q (.exit id) a w):wq m P (.exit id) Q a w:=fun _ _=>wpIn_exit h
theorem zGb (h:wq m P x (Exit.then (wq m P y Q) Q) a w):wq m P (.seq x y) Q a w:=fun ro hm=>wpIn_seq (wpIn_mono (h ro hm) fun e a w hq=>by cases e<;>first| exact hq ro hm| exact hq)
theorem zDO {id:Nat} (h:wq m P c (Exit.inBlock id Q) a w):wq m P (.block id c) Q a w:=fun ro hm=>wpIn_block (h ro hm)
theorem zwy {v:Operand} (hc:a.eval v= .bool true) (h:wq m P x Q a w):wq m P (.cond v x y) Q a w:=fun ro hm=>wpIn_cond_true hc (h ro hm)
theorem zug {v:Operand} (hc:a.eval v= .bool false) (h:wq m P y Q a w):wq m P (.cond v x y) Q a w:=fun ro hm=>wpIn_cond_false hc (h ro hm)
theorem zoo {id:Nat} (h:zog P l.toArray Q l a w):wq m P (.region id l.toArray false) Q a w:=fun ro _=>wpIn_region_lit (h ro)
def anyq (P:Program) (ops:Array Oper) (Q:Exit→Act→World→Prop) (fuel:Nat) (listed:Array Bool) (a:Act) (w:World):Prop:=∀ro,wpAnyIn (RF ro) 0 P .any ops Q fuel listed a w
theorem zuh {id:Nat} (hm:P.follows .mixedOrders=true) (h:anyq P ops Q ops.size (Array.replicate ops.size false) a {w with drawn:=w.drawn+1}):wq m P (.region id ops true) Q a w:=fun ro _=>wpIn_region_any hm (h ro)
def zpw (m:Bool) (P:Program) (c:Code) (Q:Exit→Act→World→Prop):Nat→Act→World→Prop
 | 0,_,_=>False
 | n+1,a,w=>wq m P c (Exit.then (zpw m P c Q n) Q) a w
theorem ztd {ro:Option Nat} (hm:m=true→ro=none):∀(n:Nat) (a:Act) (w:World),zpw m P c Q n a w→Code.roundsIn (RF ro) 0 P c Q n a w
 | 0,_,_,h=>h
 | n+1,a,w,h=>by
  rw [roundsIn_succ]
  exact wpIn_mono (h ro hm) fun e a w hq=>by cases e<;>first| exact ztd hm n a w hq| exact hq
theorem ztI (n:Nat) (h:zpw m P c Q n a w):wq m P (.loop c) Q a w:=fun _ hm=>wpIn_loop_rounds n (ztd hm n a w h)
theorem zDP (h:wq m P c Q a w):c.wp P Q a w:=wpIn_wide.1 (h none fun _=>rfl:c.wpIn Fence.wide 0 P Q a w)
end
def zbD (P:Program) (N:Lim) (ops:Array Oper) (rest:List Oper) (E E':Env):Prop:=
 ∀(cx:Cx) (a:Act) (w:World) (Q:Exit→Act→World→Prop),cx.n=N→Sx cx E a w→(∀a' w',Sx cx E' a' w'→Q .normal a' w')→zog P ops Q rest a w
section
variable {P:Program} {N:Lim} {ops:Array Oper} {rest:List Oper} {E E1 E':Env} {o:Oper}
theorem zFL:zbD P N ops [] E E:=fun _ _ _ _ _ hs hQ _=>hQ _ _ hs
theorem zrS {ins:List (Operand×AV)} {bxs bs:List Bx} {W V:List Nat} {av:AV} (hg:zfk ops E o=some true) (hl:zH P o ins bxs W V av bs) (hi:zmx E ins) (hb:zuj E bxs)
  (hW:okW W=true) (hV:okW V=true) (hd:zhB N o.dst=true) (k:zbD P N ops rest (E.step W V o.dst av bs) E'):zbD P N ops (o::rest) E E':=by
 intro cx a w Q hn hs hQ
 obtain ⟨γ,hB,hS,hX⟩:=hs
 refine zis (zfD hg hS) (zoD (zrM (P:=P) (a:=a) (w:=w) fun nx Qx hn=>hl γ a w (hi.rel hS) (hb.rel hX) nx Qx fun _ w' v _ _ _=>hn v w') (hl γ a w (hi.rel hS) (hb.rel hX) _ Q fun γ' w' v ht hv hbs=>?_))
 refine k cx _ _ Q hn ⟨γ',(hB.tr ht hW hV).put _ _ (by rw [hn];exact zet hd),?_,?_⟩ hQ
 ·exact (hS.tr ht).put (fun k hk=>by rw [hB.size,hn];exact zgo hd k hk) hv
 ·intro b hb'
  simp only [Env.step,List.mem_append] at hb'
  rcases hb' with h| h
  ·exact hbs b h
  ·exact hX.tr ht b h
theorem zEE (hg:zfk ops E o=some false) (hd:zhB N o.dst=true) (k:zbD P N ops rest ⟨zgO o.dst (.tup []) E.sl,E.bx⟩ E'):zbD P N ops (o::rest) E E':=by
 intro cx a w Q hn hs hQ
 obtain ⟨γ,hB,hS,hX⟩:=hs
 refine zyO (zfD hg hS) ?_
 exact k cx _ _ Q hn ⟨γ,hB.put _ _ (by rw [hn];exact zet hd),hS.put_undef _,hX⟩ hQ
theorem zDe (t:Nat) (b:Bool) (hl:lookup E.sl t=some (.lf (.bool b))) (h1:b=true→zbD P N ops rest ⟨zgO (some t) (.lf (.bool true)) E.sl,E.bx⟩ E')
  (h0:b=false→zbD P N ops rest ⟨zgO (some t) (.lf (.bool false)) E.sl,E.bx⟩ E'):zbD P N ops rest E E':=by
 intro cx a w Q hn hs hQ
 obtain ⟨γ,hB,hS,hX⟩:=hs
 have hv:=hS _ (zdd hl)
 have hput:∀c,b=c→Sl γ w a (zgO (some t) (.lf (.bool c)) E.sl):=by
  rintro c rfl p hp
  simp only [zgO,List.mem_cons] at hp
  rcases hp with rfl| hp
  ·exact hv
  ·exact hS p (List.mem_filter.1 hp).1
 cases hb:b with
 | true=>exact h1 hb cx a w Q hn ⟨γ,hB,hput _ hb,hX⟩ hQ
 | false=>exact h0 hb cx a w Q hn ⟨γ,hB,hput _ hb,hX⟩ hQ
def AV.le (a b:AV):Prop:=∀γ w v,a.rel γ w v→b.rel γ w v
def zvV (l:List (Nat×AV)):List Nat→Option (List (Nat×AV))
 | []=>some []
 | k::r=>match lookup l k,zvV l r with
  | some a,some r'=>some ((k,a)::r')
  | _,_=>none
theorem zjt {l:List (Nat×AV)}:∀(ks:List Nat) (r:List (Nat×AV)),zvV l ks=some r→∀p∈r,p∈l
 | [],r,h,p,hp=>by cases h;cases hp
 | k::ks,r,h,p,hp=>by
  rw [zvV] at h
  split at h
  ·rename_i a r' hl hr
   cases h
   cases hp with
   | head=>exact zdd hl
   | tail _ hp=>exact zjt ks _ hr p hp
  ·cases h
def zmZ (l:List Bx):List Nat→Option (List Bx)
 | []=>some []
 | k::r=>match zfC l k,zmZ l r with
  | some a,some r'=>some (a::r')
  | _,_=>none
theorem zlN {l:List Bx}:∀(ks:List Nat) (r:List Bx),zmZ l ks=some r→∀p∈r,p∈l
 | [],r,h,p,hp=>by cases h;cases hp
 | k::ks,r,h,p,hp=>by
  rw [zmZ] at h
  split at h
  ·rename_i a r' hl hr
   cases h
   cases hp with
   | head=>exact (zdj hl).1
   | tail _ hp=>exact zlN ks _ hr p hp
  ·cases h
def Env.pick (E:Env) (ks bs:List Nat):Option Env:=
 match zvV E.sl ks,zmZ E.bx bs with
 | some s,some b=>some ⟨s,b⟩
 | _,_=>none
theorem Sx.pick {cx:Cx} {a:Act} {w:World} {ks bs:List Nat} (h:E.pick ks bs=some E') (hs:Sx cx E a w):Sx cx E' a w:=by
 unfold Env.pick at h
 split at h
 ·rename_i s b h1 h2
  cases h
  obtain ⟨γ,hB,hS,hX⟩:=hs
  exact ⟨γ,hB,fun p hp=>hS p (zjt _ _ h1 p hp),fun p hp=>hX p (zlN _ _ h2 p hp)⟩
 ·cases h
theorem zFK (ks bs:List Nat) (h:E.pick ks bs=some E'):zbD P N ops [] E E':=fun _ _ _ _ _ hs hQ _=>hQ _ _ (hs.pick h)
end
def J (m:Bool) (P:Program) (c:Code) (S:Act→World→Prop) (Q:Exit→Act→World→Prop):Prop:=∀a w,S a w→wq m P c Q a w
section
variable {m:Bool} {P:Program} {S S' M:Act→World→Prop} {Q Q':Exit→Act→World→Prop} {x y c:Code}
theorem J.mono (h:J m P c S Q) (hS:∀a w,S' a w→S a w) (hQ:∀e a w,Q e a w→Q' e a w):J m P c S' Q':=fun a w hs=>zkm (h a w (hS a w hs)) hQ
theorem J.post (h:J m P c S Q) (hQ:∀e a w,Q e a w→Q' e a w):J m P c S Q':=h.mono (fun _ _ h=>h) hQ
theorem zFt {σ ρ:Type} (body:σ→Option (σ⊕ρ)) (Es:σ→Act→World→Prop) (R:ρ→Exit→Act→World→Prop)
  (hb:∀s o,body s=some o→J m P c (Es s) (match o with
   | .inl s'=>fun e a w=>e= .normal∧Es s' a w
   | .inr r=>fun e a w=>e≠ .normal∧R r e a w))
  {s:σ} {r:ρ} (h:zak body s=some r) (hS:∀a w,S a w→Es s a w) (hQ:∀e a w,R r e a w→Q e a w):J m P (.loop c) S Q:=by
 obtain ⟨n,hn⟩:=zsy h
 have key:∀n s,zhA body n s=some r→∀a w,Es s a w→zpw m P c (R r) n a w:=by
  intro n
  induction n with
  | zero=>intro s hn;cases hn
  | succ n ih=>
   intro s hn a w hs
   rw [zpw]
   rw [zhA] at hn
   split at hn
   ·cases hn
   ·rename_i s' hbs
    refine zkm (hb s _ hbs a w hs) fun e a' w' hq=>?_
    obtain ⟨rfl,hE⟩:=hq
    exact ih s' hn a' w' hE
   ·rename_i r' hbs
    cases hn
    refine zkm (hb s _ hbs a w hs) fun e a' w' hq=>?_
    cases e<;>first| exact absurd rfl hq.1| exact hq.2
 exact fun a w hs=>zkm (ztI n (key n s hn a w (hS a w hs))) hQ
end
end Go.Proofs.YtcbkcblkecmjnaaGreat
namespace Go.Proofs.YtcbkcblkecmjnaaGreat
open Go Go.RowKit
open Classical in
noncomputable def gh0 (F:Fp):Gh:=⟨fun b=>if F b then 0 else 1,fun _=>0⟩
def zkJ:List Value→Value
 | [u]=>u
 | us=> .tuple us.toArray
def FnOk (P:Program) (f:FuncId) (ins outs:List AV):Prop:=
 ∀(w:World) (F:Fp) (vs:List Value),AV.relL (gh0 F) w ins vs→Calls P f vs.toArray w fun e w'=>∃γ us,e= .returned (zkJ us)∧Below w.heap.size w w'∧
  ((∀b,b<w.heap.size→(γ.col b=0∧F b)∨γ.col b=1)∧∀b,w.heap.size≤b→b<w'.heap.size→γ.col b≠0)∧AV.relL γ w' outs us
def AV.toLV:AV→Option LV
 | .lf l=>some l
 | .sl r _ xs=>some (.sl xs.length r.size (xs.flatMap r.lv))
 | .own r _ _ _ xs=>some (.sl xs.length r.size (xs.flatMap r.lv))
 | _=>none
def subN (a b:List Nat):Bool:=a.all fun c=>memN c b
theorem zaD {a b:List Nat} (h:subN a b=true):∀c∈a,c∈b:=by
 intro c hc
 simp only [subN,List.all_eq_true] at h
 exact zaW.1 (h c hc)
theorem zqr {γ:Gh} {w:World} {α:Type} {r:Rp α} {e:TypeId} {ℓ:Nat} {C:List Nat} {xs:List α} {v:Value} (h:AV.rel γ w (.own r e ℓ C xs) v):zbg (γ.F (ℓ::C)) w (.sl xs.length r.size (xs.flatMap r.lv)) v:=by
 obtain ⟨cs,ho,hg,hA,hn⟩:=h
 have hA':zab (γ.F (ℓ::C)) w (xs.flatMap r.lv) cs:=hA.mono fun b _ hb=>List.mem_cons_of_mem _ hb
 have hl:=r.flat xs
 obtain ⟨A,c,hv,hc,hm⟩:=zuM (γ:=γ) (w:=w) (r:=r) (e:=e) (ℓ:=ℓ) (C:=C) ⟨cs,ho,hg,hA,hn⟩
 rw [hv]
 refine .sl _ _ _ A c cs hl (by rw [←hA.1];exact hl) hc hm (fun h0=>?_) hA'.2
 have hcells:=fun g hg=>ho.cells (g:=g) hg
 have hlt:=ho.lt
 rcases ho.2 with ⟨rfl,h00⟩| ⟨g,cap,cur,hv',_⟩
 ·omega
 ·rw [hv'] at hv
  injection hv with e1 e2 e3
  subst e1
  have hob:v.ownBlock=some g:=by rw [hv'];rfl
  refine ⟨g,0,rfl,?_,(hlt g hob).2,fun i hi=>?_⟩
  ·show γ.col g∈ℓ::C
   rw [(hg g hob).1];exact List.mem_cons_self
  ·have hlen:i<cs.length:=by rw [←hA.1,hl];exact hi
   rw [List.getElem?_eq_getElem hlen]
   have:=hcells g hob i _ (List.getElem?_eq_getElem hlen)
   rw [zib] at this
   exact this
theorem zya {a:AV} {l:LV} (h:a.toLV=some l) {γ:Gh} {w:World} {v:Value} (hr:a.rel γ w v) {C:List Nat} (hC:∀c∈a.cols,c∈C):zbg (γ.F C) w l v:=by
 cases a with
 | lf l'=>cases h;exact hr.2.plain hr.1
 | sl r C' xs=>cases h;exact zbg.mono hr fun b _ hb=>hC _ hb
 | own r e ℓ C' xs=>cases h;exact (zqr hr).mono fun b _ hb=>hC _ hb
 | any=>cases h
 | rc=>cases h
 | ep=>cases h
 | ptr=>cases h
 | bs=>cases h
 | tl=>cases h
 | qp=>cases h
 | em=>cases h
 | mo=>cases h
 | mp=>cases h
 | om=>cases h
 | tup=>cases h
 | ag=>cases h
 | fv=>cases h
 | bp=>cases h
 | it=>cases h
def zgj:List AV→Option (List LV)
 | []=>some []
 | a::l=>match a.toLV,zgj l with
  | some x,some r=>some (x::r)
  | _,_=>none
theorem zhV {l:List AV} {ls:List LV} (h:zgj l=some ls) {γ:Gh} {w:World} {vs:List Value} (hr:AV.relL γ w l vs) {C:List Nat} (hC:∀c∈AV.colsL l,c∈C):zab (γ.F C) w ls vs:=by
 induction l generalizing ls vs with
 | nil=>cases h;cases hr;exact .nil
 | cons a l ih=>
  obtain ⟨v,vs',rfl,h1,h2⟩:=hr
  rw [zgj] at h
  split at h
  ·rename_i x r hx hr'
   cases h
   exact .cons (zya hx h1 fun c hc=>hC c (List.mem_append_left _ hc)) (ih hr' h2 fun c hc=>hC c (List.mem_append_right _ hc))
  ·cases h
def zpg (C:List Nat):AV→Bool
 | .lf x=>x.plain
 | .sl _ C' _=>subN C C'
 | _=>false
theorem zia {l:List AV} {ls:List LV} (h:zgj l=some ls) {γ:Gh} {w:World} {vs:List Value} {C:List Nat} (hr:zab (γ.F C) w ls vs) (hC:l.all (zpg C)=true):AV.relL γ w l vs:=by
 induction l generalizing ls vs with
 | nil=>
  cases h
  have:=hr.1
  simp at this
  exact List.eq_nil_of_length_eq_zero this.symm
 | cons a l ih=>
  rw [zgj] at h
  simp only [List.all_cons,Bool.and_eq_true] at hC
  split at h
  ·rename_i x r hx hr'
   cases h
   obtain ⟨v,vs',rfl,h1,h2⟩:=hr.head
   refine ⟨v,vs',rfl,?_,ih hr' h2 hC.2⟩
   cases a with
   | lf y=>cases hx;exact ⟨hC.1,h1.plain hC.1⟩
   | sl r' C' xs=>cases hx;exact zbg.mono h1 fun b _ hb=>zaD hC.1 _ hb
   | any=>cases hx
   | own=>exact absurd hC.1 (by simp [zpg])
   | rc=>cases hx
   | ep=>cases hx
   | ptr=>cases hx
   | bs=>cases hx
   | tl=>cases hx
   | qp=>cases hx
   | em=>cases hx
   | mo=>cases hx
   | mp=>cases hx
   | om=>cases hx
   | tup=>cases hx
   | ag=>cases hx
   | fv=>cases hx
   | bp=>cases hx
   | it=>cases hx
  ·cases h
def zos:Nat→List AV→List (Nat×AV)
 | _,[]=>[]
 | n,a::l=>(n,a)::zos (n+1) l
theorem zot {γ:Gh} {w:World} {l:List AV} {vs:List Value} (h:AV.relL γ w l vs) (pre post:List Value):
  ∀p∈zos pre.length l,p.2.rel γ w ((pre++vs++post).toArray.getD p.1 undef):=by
 induction l generalizing vs pre with
 | nil=>intro p hp;cases hp
 | cons a l ih=>
  obtain ⟨v,vs',rfl,h1,h2⟩:=h
  intro p hp
  cases hp with
  | head=>simpa using h1
  | tail _ hp=>
   have hp':p∈zos (pre.length+1) l:=hp
   have:=ih h2 (pre++[v]) p (by simpa using hp')
   simpa using this
structure AggT (P:Program) (t:TypeId) (n:Nat):Prop where
 agg:∀w,(isAgg t).run P w= .ok true w
 size:∀w,(sizeOf t).run P w= .ok n w
theorem zfK {P:Program} {t:TypeId} {n:Nat} (h:AggT P t n) {w:World} {b o:Nat} {cs:List Value} (hn:cs.length=n) (hc:∀i,i<cs.length→w.cell? ⟨b,o+i,none⟩=cs[i]?):
  (loadVar t ⟨b,o,none⟩).run P w= .ok (.agg cs.toArray) w:=by
 have hl:(loadCells ⟨b,o,none⟩ cs.length).run P w= .ok cs.toArray w:=run_loadCells_list (P:=P) w ⟨b,o,none⟩ cs fun j v hv=>by
  rw [zib,hc j (List.getElem?_eq_some_iff.1 hv).1];exact hv
 rw [hn] at hl
 simp [loadVar,h.agg,h.size,hl]
def zlS (P:Program) (E:Env):List ResultVar→List AV→Prop
 | [],[]=>True
 | .tmp t::rs,a::l=>lookup E.sl t=some a∧zlS P E rs l
 | .cell x t::rs,.rc r C y::l=>(∃ℓ b,lookup E.sl x=some (.ptr ℓ 0)∧zfC E.bx ℓ=some b∧zgj b.avs=some (r.lv y)∧subN (AV.colsL b.avs) C=true∧AggT P t r.size)∧zlS P E rs l
 | .cell x t::rs,.ag m::l=>(∃ℓ b,lookup E.sl x=some (.ptr ℓ 0)∧zfC E.bx ℓ=some b∧b.avs=m∧AggT P t m.length)∧zlS P E rs l
 | .cell x t::rs,.lf y::l=>(∃ℓ b,lookup E.sl x=some (.ptr ℓ 0)∧zfC E.bx ℓ=some b∧b.avs=[.lf y]∧zeh P t=true)∧zlS P E rs l
 | .cell x t::rs,.sl r C y::l=>(∃ℓ b,lookup E.sl x=some (.ptr ℓ 0)∧zfC E.bx ℓ=some b∧b.avs=[.sl r C y]∧zeh P t=true)∧zlS P E rs l
 | .cell x t::rs,.own r e q C y::l=>(∃ℓ b,lookup E.sl x=some (.ptr ℓ 0)∧zfC E.bx ℓ=some b∧b.avs=[.own r e q C y]∧zeh P t=true)∧zlS P E rs l
 | _,_=>False
def resF (tmps:Array Value):ResultVar→Sem Value
 | .tmp t=>pure (tmps.getD t undef)
 | .cell x t=>do loadVar t (←asAddr (tmps.getD x undef))
theorem zqy {P:Program} {E:Env} {γ:Gh} {w:World} {a:Act} {x:Tmp} {t:TypeId} {av:AV} (hs:Sl γ w a E.sl) (hx:Bxs γ w E.bx) (h:∃ℓ b,lookup E.sl x=some (.ptr ℓ 0)∧zfC E.bx ℓ=some b∧b.avs=[av]∧zeh P t=true):
  ∃u,(resF a.tmps (.cell x t)).run P w= .ok u w∧av.rel γ w u:=by
 obtain ⟨ℓ,b,h1,h2,h3,h5⟩:=h
 obtain ⟨hm,rfl⟩:=zdj h2
 have hp:a.tmps.getD x undef= .pointer (some ⟨γ.box b.lab,0,none⟩):=hs _ (zdd h1)
 obtain ⟨u,hc,hr⟩:=Bx.cell (hx b hm) (off:=0) (a:=av) (by rw [h3];rfl)
 have hld:=zrn (P:=P) h5 hc
 have ha:(asAddr (.pointer (some ⟨γ.box b.lab,0,none⟩))).run P w= .ok ⟨γ.box b.lab,0,none⟩ w:=rfl
 exact ⟨u,by simp only [resF,Sem.run_bind,hp,ha,hld,Result.andThen_ok],hr⟩
theorem zhS {P:Program} {E:Env} {γ:Gh} {w:World} {a:Act} (hs:Sl γ w a E.sl) (hx:Bxs γ w E.bx):∀(rs:List ResultVar) (l:List AV),zlS P E rs l→
  ∃us,(rs.mapM (resF a.tmps)).run P w= .ok us w∧AV.relL γ w l us
 | [],[],_=>⟨[],rfl,rfl⟩
 | .tmp t::rs,x::l,h=>by
  obtain ⟨us,hu,hr⟩:=zhS hs hx rs l h.2
  refine ⟨a.tmps.getD t undef::us,?_,_,us,rfl,hs _ (zdd h.1),hr⟩
  simp only [List.mapM_cons,resF,Sem.run_bind,Sem.run_pure,Result.andThen_ok]
  rw [hu]
  rfl
 | .cell x t::rs,.rc r C y::l,h=>by
  obtain ⟨us,hu,hr⟩:=zhS hs hx rs l h.2
  obtain ⟨ℓ,b,h1,h2,h3,h4,h5⟩:=h.1
  obtain ⟨hm,rfl⟩:=zdj h2
  have hp:a.tmps.getD x undef= .pointer (some ⟨γ.box b.lab,0,none⟩):=hs _ (zdd h1)
  obtain ⟨hcol,cs,hh,hL,_⟩:=hx b hm
  have hA:=zhV h3 hL (zaD h4)
  have hld:=zfK h5 (w:=w) (b:=γ.box b.lab) (o:=0) (cs:=cs) (by rw [←hA.1];exact r.len y) fun i hi=>by rw [cell_of_row w _ _ _ _ _ hh];simp
  refine ⟨.agg cs.toArray::us,?_,_,us,rfl,⟨cs,rfl,hA⟩,hr⟩
  have ha:(asAddr (.pointer (some ⟨γ.box b.lab,0,none⟩))).run P w= .ok ⟨γ.box b.lab,0,none⟩ w:=rfl
  simp only [List.mapM_cons,resF,Sem.run_bind,hp,ha,hld,Sem.run_pure,Result.andThen_ok]
  rw [hu]
  rfl
 | .cell x t::rs,.ag m::l,h=>by
  obtain ⟨us,hu,hr⟩:=zhS hs hx rs l h.2
  obtain ⟨ℓ,b,h1,h2,h3,h5⟩:=h.1
  obtain ⟨hm,rfl⟩:=zdj h2
  subst h3
  have hp:a.tmps.getD x undef= .pointer (some ⟨γ.box b.lab,0,none⟩):=hs _ (zdd h1)
  obtain ⟨hcol,cs,hh,hL,hone⟩:=hx b hm
  have hld:=zfK h5 (w:=w) (b:=γ.box b.lab) (o:=0) (cs:=cs) (zbP hL) fun i hi=>by rw [cell_of_row w _ _ _ _ _ hh];simp
  refine ⟨.agg cs.toArray::us,?_,_,us,rfl,⟨cs,rfl,hL,hone⟩,hr⟩
  have ha:(asAddr (.pointer (some ⟨γ.box b.lab,0,none⟩))).run P w= .ok ⟨γ.box b.lab,0,none⟩ w:=rfl
  simp only [List.mapM_cons,resF,Sem.run_bind,hp,ha,hld,Sem.run_pure,Result.andThen_ok]
  rw [hu]
  rfl
 | .cell x t::rs,.lf y::l,h=>by
  obtain ⟨us,hu,hr⟩:=zhS hs hx rs l h.2
  obtain ⟨u,h1,h2⟩:=zqy hs hx h.1
  exact ⟨u::us,by simp only [List.mapM_cons,Sem.run_bind,h1,Result.andThen_ok,hu,Sem.run_pure],u,us,rfl,h2,hr⟩
 | .cell x t::rs,.sl r C y::l,h=>by
  obtain ⟨us,hu,hr⟩:=zhS hs hx rs l h.2
  obtain ⟨u,h1,h2⟩:=zqy hs hx h.1
  exact ⟨u::us,by simp only [List.mapM_cons,Sem.run_bind,h1,Result.andThen_ok,hu,Sem.run_pure],u,us,rfl,h2,hr⟩
 | .cell x t::rs,.own r e q C y::l,h=>by
  obtain ⟨us,hu,hr⟩:=zhS hs hx rs l h.2
  obtain ⟨u,h1,h2⟩:=zqy hs hx h.1
  exact ⟨u::us,by simp only [List.mapM_cons,Sem.run_bind,h1,Result.andThen_ok,hu,Sem.run_pure],u,us,rfl,h2,hr⟩
 | [],_::_,h=>h.elim
 | .cell _ _::_,[],h=>h.elim
 | .cell _ _::_,.any::_,h=>h.elim
 | .cell _ _::_,.ep ..::_,h=>h.elim
 | .cell _ _::_,.ptr ..::_,h=>h.elim
 | .cell _ _::_,.bs ..::_,h=>h.elim
 | .cell _ _::_,.tl ..::_,h=>h.elim
 | .cell _ _::_,.qp ..::_,h=>h.elim
 | .cell _ _::_,.em ..::_,h=>h.elim
 | .cell _ _::_,@AV.mo _ _ _ _ _ _ _ _ _::_,h=>h.elim
 | .cell _ _::_,.mp ..::_,h=>h.elim
 | .cell _ _::_,.om ..::_,h=>h.elim
 | .cell _ _::_,.tup ..::_,h=>h.elim
 | .cell _ _::_,.fv ..::_,h=>h.elim
 | .cell _ _::_,.bp ..::_,h=>h.elim
 | .cell _ _::_,.it ..::_,h=>h.elim
 | .tmp _::_,[],h=>h.elim
theorem zkg {P:Program} {E:Env} {γ:Gh} {w:World} {a:Act} {fn:Func} {l:List AV} (hs:Sl γ w a E.sl) (hx:Bxs γ w E.bx) (h:zlS P E fn.results.toList l):
  ∃us,(results fn a.tmps).run P w= .ok (zkJ us) w∧AV.relL γ w l us:=by
 obtain ⟨us,hu,hr⟩:=zhS (P:=P) hs hx _ _ h
 refine ⟨us,?_,hr⟩
 have e:results fn a.tmps=(fn.results.mapM (resF a.tmps))>>=fun vs=>pure (if h:vs.size=1 then vs[0] else .tuple vs):=by
  unfold results
  congr 2
 rw [e,←Array.toArray_toList (xs:=fn.results),List.mapM_toArray,Sem.run_bind,Sem.run_map,hu]
 simp only [Result.andThen_ok,Sem.run_pure]
 congr 1
 match us with
 | []=>rfl
 | [u]=>rfl
 | u::v::r=>
  rw [dif_neg (by simp)]
  rfl
theorem zCh {P:Program} {f:FuncId} {fn:Func} {c:Code} {ins outs:List AV} {E:Env} (hf:P.funcs[f]? =some fn) (hb:fn.body=some c) (hlen:ins.length≤fn.ntmps) (hres:zlS P E fn.results.toList outs)
  (hj:∀X:Ext,J true P c (Sx ⟨⟨fn.ntmps,[]⟩,X,false,#[]⟩ ⟨zos 0 ins,[]⟩) fun e a w=>e= .ret∧Sx ⟨⟨fn.ntmps,[]⟩,X,false,#[]⟩ E a w):FnOk P f ins outs:=by
 intro w F vs hr
 have hl:=zbP hr
 refine calls_of_wp hf hb (wp_mono (zDP (hj (fnX w F) _ w ⟨gh0 F,⟨⟨[],rfl,List.nodup_nil,fun D hD=>by cases hD⟩,fun _=>rfl,?_,(fun k hk=>by cases hk),Below.refl _ _,fun b _=>?_,fun b h1 h2=>by omega⟩,?_,fun b hb=>by cases hb⟩)) ?_)
 ·simp [hl];omega
 ·by_cases hF:F b<;>simp [gh0,hF]
 ·intro p hp
  have:=zot hr [] (List.replicate (fn.ntmps - vs.length) undef) p hp
  simp only [List.nil_append] at this
  have e:(vs++List.replicate (fn.ntmps - vs.length) undef).toArray=vs.toArray++Array.replicate (fn.ntmps - vs.toArray.size) undef:=by simp
  rw [e] at this
  exact this
 ·rintro e a w' ⟨rfl,γ,hB,hS,hX⟩
  obtain ⟨us,hu,hu'⟩:=zkg (P:=P) (fn:=fn) hS hX hres
  exact ⟨hB.clean rfl,zkJ us,hu,γ,us,rfl,hB.ext.1,hB.ext.2,hu'⟩
def zuA:AV→AV
 | .lf l=> .lf l
 | .sl r _ xs=> .sl r [0] xs
 | .own r _ _ _ xs=> .sl r [0] xs
 | .rc r _ x=> .rc r [0] x
 | .ep r _ x off=> .ep r [0] x off
 | .qp r _ o=> .qp r [0] o
 | .mp rk rv _ m=> .mp rk rv [0] m
 | .em rk rv _ m=> .em rk rv [0] m
 | .om rk rv _ _ m=> .mp rk rv [0] m
 | _=> .any
def inAV:AV→AV
 | .ag l=> .ag (l.map zuA)
 | .fv g l=> .fv g (l.map zuA)
 | a=>zuA a
def znw:AV→List Nat
 | .sl _ C _| .rc _ C _| .ep _ C _ _| .qp _ C _=>C
 | .own _ _ ℓ C _=>ℓ::C
 | .mp _ _ C _| .em _ _ C _=>C
 | .om _ _ ℓ C _=>ℓ::C
 | _=>[]
def zvG:AV→List Nat
 | .ag l=>l.flatMap znw
 | .fv _ l=>l.flatMap znw
 | a=>znw a
theorem zzK (F:Fp) (b:Nat) (h:F b):(gh0 F).col b=0:=by simp [gh0,h]
theorem zfQ {γ:Gh} {w:World} {a:AV} {v:Value} {D:List Nat} (h:a.rel γ w v) (hD:∀c∈znw a,c∈D):(zuA a).rel (gh0 (γ.F D)) w v:=by
 have key:∀(C:List Nat),(∀c∈C,c∈D)→∀b,b<w.heap.size→γ.F C b→(gh0 (γ.F D)).F [0] b:=fun C hC b _ hb=>by
  show (gh0 (γ.F D)).col b∈[0]
  have hF:γ.F D b:=hC _ hb
  rw [zzK (γ.F D) b hF];exact List.mem_cons_self
 cases a with
 | any=>trivial
 | lf l=>exact h
 | sl r C xs=>exact zbg.mono h (key C hD)
 | own r e ℓ C xs=>exact (zqr h).mono (key _ hD)
 | rc r C x=>obtain ⟨cs,hv,hA⟩:=h;exact ⟨cs,hv,hA.mono (key C hD)⟩
 | mp rk rv C m=>
  obtain ⟨b,es,cl,hv,hF,hb,hh,hE⟩:=h
  exact ⟨b,es,cl,hv,key C hD b hb hF,hb,hh,hE.mono (key C hD)⟩
 | em rk rv C m=>
  obtain ⟨a,b,es,cl,hv,hFa,ha,hc1,hF,hb,hh,hE⟩:=h
  exact ⟨a,b,es,cl,hv,key C hD a ha hFa,ha,hc1,key C hD b hb hF,hb,hh,hE.mono (key C hD)⟩
 | mo=>trivial
 | om rk rv ℓ C m=>
  obtain ⟨b,es,cl,hv,⟨hF,hbx⟩,hb,hh,hE,hn⟩:=h
  exact ⟨b,es,cl,hv,key (ℓ::C) hD b hb (by show γ.col b∈ℓ::C;rw [hF];exact List.mem_cons_self),hb,hh,(hE.mono (fun b _ hb=>List.mem_cons_of_mem _ hb)).mono (key (ℓ::C) hD)⟩
 | ep r C x off=>
  obtain ⟨b,o,cs,hv,hF,hb,hA,hc⟩:=h
  exact ⟨b,o,cs,hv,key C hD b hb hF,hb,hA.mono (key C hD),hc⟩
 | qp r C o=>
  cases o with
  | none=>exact h
  | some x=>
   obtain ⟨b,cs,hv,hF,hb,hA,hc⟩:=h
   exact ⟨b,cs,hv,key C hD b hb hF,hb,hA.mono (key C hD),hc⟩
 | bs=>trivial
 | tl=>trivial
 | ptr=>trivial
 | tup=>trivial
 | ag=>trivial
 | fv=>trivial
 | bp=>trivial
 | it=>trivial
theorem zow {γ:Gh} {w:World} {D:List Nat}:∀{l:List AV} {vs:List Value},AV.relL γ w l vs→(∀c∈l.flatMap znw,c∈D)→AV.relL (gh0 (γ.F D)) w (l.map zuA) vs
 | [],_,h,_=>h
 | a::l,_,h,hD=>by
  obtain ⟨v,vs',rfl,h1,h2⟩:=h
  exact ⟨v,vs',rfl,zfQ h1 (fun c hc=>hD c (by rw [List.flatMap_cons];exact List.mem_append_left _ hc)),zow h2 (fun c hc=>hD c (by rw [List.flatMap_cons];exact List.mem_append_right _ hc))⟩
theorem zxe {γ:Gh} {w:World} {a:AV} {v:Value} {D:List Nat} (h:a.rel γ w v) (hD:∀c∈zvG a,c∈D):(inAV a).rel (gh0 (γ.F D)) w v:=by
 cases a with
 | ag l=>obtain ⟨vs,hv,hL,h1⟩:=h;exact ⟨vs,hv,zow hL hD,h1⟩
 | fv g l=>obtain ⟨vs,hv,hL⟩:=h;exact ⟨vs,hv,zow hL hD⟩
 | any=>trivial
 | lf l=>exact zfQ h hD
 | sl r C xs=>exact zfQ h hD
 | own r e ℓ C xs=>exact zfQ h hD
 | rc r C x=>exact zfQ h hD
 | mp rk rv C m=>exact zfQ h hD
 | om rk rv ℓ C m=>exact zfQ h hD
 | ep r C x off=>exact zfQ h hD
 | qp r C o=>exact zfQ h hD
 | em rk rv C m=>exact zfQ h hD
 | mo=>trivial
 | bs=>trivial
 | tl=>trivial
 | ptr=>trivial
 | tup=>trivial
 | bp=>trivial
 | it=>trivial
def outC (D:List Nat) (s:Nat):List Nat→List Nat
 | []=>[]
 | c::C=>(match c with
  | 0=>D
  | c+1=>[c+1+s])++outC D s C
def zqp (D:List Nat) (s:Nat):AV→AV
 | .lf l=> .lf l
 | .sl r C xs=> .sl r (outC D s C) xs
 | .own r e ℓ C xs=> .own r e (ℓ+s) (outC D s C) xs
 | .rc r C x=> .rc r (outC D s C) x
 | .qp r C o=> .qp r (outC D s C) o
 | .mp rk rv C m=> .mp rk rv (outC D s C) m
 | .om rk rv ℓ C m=> .om rk rv (ℓ+s) (outC D s C) m
 | .bp r t ℓ C x=> .bp r t (ℓ+s) (outC D s C) x
 | _=> .any
def zhz (K C:List Nat):Bool:=K.all fun k=> !memN k C
theorem zjk {K C:List Nat} (h:zhz K C=true):∀k∈K,k∉C:=fun k hk hc=>by
 simp only [zhz,List.all_eq_true] at h
 have:=h k hk
 rw [zaW.2 hc] at this;cases this
def zlK (K D:List Nat) (s:Nat):AV→Bool
 | .sl _ C _| .rc _ C _| .qp _ C _=>zhz K C
 | .own _ _ ℓ C _=>zhz K C&&Nat.ble 2 ℓ&& !memN ℓ K&& !memN (ℓ+s) (outC D s C)
 | .mp _ _ C _=>zhz K C
 | .om _ _ ℓ C _=>zhz K C&&Nat.ble 2 ℓ&& !memN ℓ K&& !memN (ℓ+s) (outC D s C)
 | .bp _ _ ℓ C _=>zhz K C&&Nat.ble 2 ℓ&& !memN ℓ K
 | _=>true
def ziV (s:Nat):AV→List Nat
 | .own _ _ ℓ _ _=>[ℓ+s]
 | .om _ _ ℓ _ _=>[ℓ+s]
 | .bp _ _ ℓ _ _=>[ℓ+s]
 | _=>[]
def zqZ (D:List Nat) (s:Nat):AV→AV
 | .ag l=> .ag (l.map (zqp D s))
 | .fv g l=> .fv g (l.map (zqp D s))
 | a=>zqp D s a
def zsQ (K D:List Nat) (s:Nat):AV→Bool
 | .ag l=>l.all (zlK K D s)
 | .fv _ l=>l.all (zlK K D s)
 | a=>zlK K D s a
def zgU (s:Nat):AV→List Nat
 | .ag l=>l.flatMap (ziV s)
 | .fv _ l=>l.flatMap (ziV s)
 | a=>ziV s a
theorem zsP {D:List Nat} {s:Nat} {C:List Nat} {c:Nat} (h:c∈C):(c=0→∀d∈D,d∈outC D s C)∧(c≠0→c+s∈outC D s C):=by
 induction C with
 | nil=>cases h
 | cons x C ih=>
  cases h with
  | head=>
   refine ⟨?_,?_⟩
   ·rintro rfl d hd;simp [outC,hd]
   ·intro hc
    cases c with
    | zero=>exact absurd rfl hc
    | succ c=>simp [outC]
  | tail _ h=>
   obtain ⟨h1,h2⟩:=ih h
   exact ⟨fun h0 d hd=>by simp only [outC,List.mem_append];exact .inr (h1 h0 d hd),fun h0=>by simp only [outC,List.mem_append];exact .inr (h2 h0)⟩
open Classical in
noncomputable def zfj (γ γc:Gh) (n:Nat) (D:List Nat) (s:Nat) (V:List Nat):Gh:=
 ⟨fun b=>if b<n then γ.col b else if γc.col b=0 then D.headD 1 else if γc.col b=1 then 1 else γc.col b+s,fun ℓ=>if ℓ∈V then γc.box (ℓ - s) else γ.box ℓ⟩
def zrW (γ γc:Gh) (n:Nat) (K D:List Nat):Prop:=∀b,b<n→(γc.col b=0∧γ.F D b)∨γc.col b∈K
theorem outF {γ γc:Gh} {n:Nat} {K D:List Nat} {s:Nat} {V C:List Nat} (hold:zrW γ γc n K D) (h1:∀k∈K,k∉C) (hk1:1∈K) {b:Nat} (hb:γc.F C b) (hD:0∈C→D=[]→False∨b<n):
  (zfj γ γc n D s V).F (outC D s C) b:=by
 show (zfj γ γc n D s V).col b∈outC D s C
 have hb':γc.col b∈C:=hb
 unfold zfj
 simp only
 by_cases hn:b<n
 ·rw [if_pos hn]
  rcases hold b hn with ⟨h0,hF⟩| h0
  ·rw [h0] at hb';exact (zsP hb').1 rfl _ hF
  ·exact absurd hb' (h1 _ h0)
 ·rw [if_neg hn]
  by_cases h0:γc.col b=0
  ·rw [if_pos h0]
   rw [h0] at hb'
   cases D with
   | nil=>rcases hD hb' rfl with h| h;exact h.elim;exact absurd h hn
   | cons d D=>exact (zsP hb').1 rfl d List.mem_cons_self
  ·rw [if_neg h0]
   by_cases h2:γc.col b=1
   ·rw [h2] at hb';exact absurd hb' (h1 1 hk1)
   ·rw [if_neg h2];exact (zsP hb').2 h0
theorem zsO {γ γc:Gh} {n:Nat} {K D:List Nat} {s:Nat} {V:List Nat} {w':World} {a:AV} {v:Value} (hold:zrW γ γc n K D) (hk1:1∈K) (hD:D≠[])
  (hok:zlK K D s a=true) (hV:∀c∈ziV s a,c∈V) (h:a.rel γc w' v):(zqp D s a).rel (zfj γ γc n D s V) w' v:=by
 have hF:∀C,zhz K C=true→∀b,b<w'.heap.size→γc.F C b→(zfj γ γc n D s V).F (outC D s C) b:=fun C h1 b _ hb=>outF hold (zjk h1) hk1 hb (fun _ e=>absurd e hD)
 have hnew:∀(ℓ g:Nat),2≤ℓ→memN ℓ K=false→γc.col g=ℓ→¬g<n:=fun ℓ g hℓ hm g1 hlt=>by
  rcases hold g hlt with ⟨h0,_⟩| h0
  ·omega
  ·rw [g1] at h0;rw [zaW.2 h0] at hm;cases hm
 cases a with
 | any=>trivial
 | lf l=>exact h
 | sl r C xs=>exact zbg.mono h (hF C hok)
 | rc r C x=>
  obtain ⟨cs,hv,hA⟩:=h
  exact ⟨cs,hv,hA.mono (hF C hok)⟩
 | own r e ℓ C xs=>
  obtain ⟨cs,ho,hg,hA,hnot⟩:=h
  simp only [zlK,Bool.and_eq_true,Bool.not_eq_true'] at hok
  obtain ⟨⟨⟨k1,k2⟩,k4⟩,k3⟩:=hok
  have hℓ:2≤ℓ:=Nat.le_of_ble_eq_true k2
  refine ⟨cs,ho,fun g hgb=>?_,hA.mono (hF C k1),fun hc=>by rw [zaW.2 hc] at k3;cases k3⟩
  obtain ⟨g1,g2⟩:=hg g hgb
  refine ⟨?_,?_⟩
  ·unfold zfj
   simp only
   rw [if_neg (hnew ℓ g hℓ k4 g1),if_neg (by omega),if_neg (by omega),g1]
  ·unfold zfj
   simp only
   rw [if_pos (hV _ (by simp [ziV])),Nat.add_sub_cancel]
   exact g2
 | mp rk rv C m=>
  obtain ⟨b,es,cl,hv,hF',hb,hh,hE⟩:=h
  exact ⟨b,es,cl,hv,hF C hok b hb hF',hb,hh,hE.mono (hF C hok)⟩
 | om rk rv ℓ C m=>
  obtain ⟨b,es,cl,hv,⟨g1,g2⟩,hb,hh,hE,hnot⟩:=h
  simp only [zlK,Bool.and_eq_true,Bool.not_eq_true'] at hok
  obtain ⟨⟨⟨k1,k2⟩,k4⟩,k3⟩:=hok
  have hℓ:2≤ℓ:=Nat.le_of_ble_eq_true k2
  refine ⟨b,es,cl,hv,⟨?_,?_⟩,hb,hh,hE.mono (hF C k1),fun hc=>by rw [zaW.2 hc] at k3;cases k3⟩
  ·unfold zfj
   simp only
   rw [if_neg (hnew ℓ b hℓ k4 g1),if_neg (by omega),if_neg (by omega),g1]
  ·unfold zfj
   simp only
   rw [if_pos (hV _ (by simp [ziV])),Nat.add_sub_cancel]
   exact g2
 | ep=>trivial
 | ptr=>trivial
 | bs=>trivial
 | tl=>trivial
 | qp r C o=>
  cases o with
  | none=>exact h
  | some x=>
   obtain ⟨b,cs,hv,hF',hb,hA,hc⟩:=h
   exact ⟨b,cs,hv,hF C hok b hb hF',hb,hA.mono (hF C hok),hc⟩
 | em=>trivial
 | mo=>trivial
 | tup=>trivial
 | ag=>trivial
 | fv=>trivial
 | it=>trivial
 | bp r t ℓ C x=>
  obtain ⟨b,cs,hv,⟨g1,g2⟩,hb,hh,h1c,hA⟩:=h
  simp only [zlK,Bool.and_eq_true,Bool.not_eq_true'] at hok
  obtain ⟨⟨k1,k2⟩,k4⟩:=hok
  have hℓ:2≤ℓ:=Nat.le_of_ble_eq_true k2
  refine ⟨b,cs,hv,⟨?_,?_⟩,hb,hh,h1c,hA.mono (hF C k1)⟩
  ·unfold zfj
   simp only
   rw [if_neg (hnew ℓ b hℓ k4 g1),if_neg (by omega),if_neg (by omega),g1]
  ·unfold zfj
   simp only
   rw [if_pos (hV _ (by simp [ziV])),Nat.add_sub_cancel]
   exact g2
theorem zoE {γ γc:Gh} {n:Nat} {K D:List Nat} {s:Nat} {V:List Nat} {w':World} (hold:zrW γ γc n K D) (hk1:1∈K) (hD:D≠[]):∀(l:List AV) (vs:List Value),
  l.all (zlK K D s)=true→(∀c∈l.flatMap (ziV s),c∈V)→AV.relL γc w' l vs→AV.relL (zfj γ γc n D s V) w' (l.map (zqp D s)) vs
 | [],vs,_,_,h=>h
 | a::l,vs,hok,hV,h=>by
  obtain ⟨v,vs',rfl,h1,h2⟩:=h
  simp only [List.all_cons,Bool.and_eq_true] at hok
  exact ⟨v,vs',rfl,zsO hold hk1 hD hok.1 (fun c hc=>hV c (by simp only [List.flatMap_cons,List.mem_append];exact .inl hc)) h1,
   zoE hold hk1 hD l vs' hok.2 (fun c hc=>hV c (by simp only [List.flatMap_cons,List.mem_append];exact .inr hc)) h2⟩
theorem zqq {γ γc:Gh} {n:Nat} {K D:List Nat} {s:Nat} {V:List Nat} {w':World} {a:AV} {v:Value} (hold:zrW γ γc n K D) (hk1:1∈K) (hD:D≠[])
  (hok:zsQ K D s a=true) (hV:∀c∈zgU s a,c∈V) (h:a.rel γc w' v):(zqZ D s a).rel (zfj γ γc n D s V) w' v:=by
 have key:zqZ D s a=zqp D s a→zsQ K D s a=zlK K D s a→zgU s a=ziV s a→(zqZ D s a).rel (zfj γ γc n D s V) w' v:=fun e1 e2 e3=>by
  rw [e1];exact zsO hold hk1 hD (e2▸hok) (e3▸hV) h
 cases a with
 | ag l=>obtain ⟨vs,hv,hL,h1⟩:=h;exact ⟨vs,hv,zoE hold hk1 hD l vs hok hV hL,h1⟩
 | fv g l=>obtain ⟨vs,hv,hL⟩:=h;exact ⟨vs,hv,zoE hold hk1 hD l vs hok hV hL⟩
 | bp r t ℓ C x=>exact key rfl rfl rfl
 | it=>exact key rfl rfl rfl
 | bs=>exact key rfl rfl rfl
 | tl=>exact key rfl rfl rfl
 | qp=>exact key rfl rfl rfl
 | em=>exact key rfl rfl rfl
 | mo=>exact key rfl rfl rfl
 | any=>exact key rfl rfl rfl
 | lf l=>exact key rfl rfl rfl
 | sl r C xs=>exact key rfl rfl rfl
 | own r e ℓ C xs=>exact key rfl rfl rfl
 | rc r C x=>exact key rfl rfl rfl
 | ep r C x off=>exact key rfl rfl rfl
 | ptr ℓ off=>exact key rfl rfl rfl
 | mp rk rv C m=>exact key rfl rfl rfl
 | om rk rv ℓ C m=>exact key rfl rfl rfl
 | tup l=>exact key rfl rfl rfl
def zuR:List AV→AV
 | [a]=>a
 | l=> .tup l
theorem zpt {γ γ':Gh} {w w':World} {f:AV→AV} {l:List AV} {vs:List Value} (h:AV.relL γ w l vs) (hf:∀a∈l,∀v,a.rel γ w v→(f a).rel γ' w' v):AV.relL γ' w' (l.map f) vs:=by
 induction l generalizing vs with
 | nil=>exact h
 | cons a l ih=>
  obtain ⟨v,vs',rfl,h1,h2⟩:=h
  exact ⟨v,vs',rfl,hf a List.mem_cons_self v h1,ih h2 fun b hb=>hf b (List.mem_cons_of_mem _ hb)⟩
theorem zqz {γ:Gh} {w:World} {l:List AV} {us:List Value} (h:AV.relL γ w l us):(zuR l).rel γ w (zkJ us):=by
 match l,us,h with
 | [],us,h=>cases h;exact ⟨[],rfl,rfl⟩
 | [a],us,h=>obtain ⟨v,vs',rfl,h1,h2⟩:=h;cases h2;exact h1
 | a::b::l,us,h=>
  have h':=h
  obtain ⟨v,vs',rfl,h1,v2,vs2,rfl,h2,h3⟩:=h
  exact ⟨_,rfl,h'⟩
theorem zce {P:Program} {o:Oper} {f:FuncId} {args:List Operand} {ts:Array TypeId} {ins outs:List AV} (xs:List AV) (D:List Nat) (s:Nat)
  (ho:o.op= .call ⟨.value (.func f),args.toArray,ts⟩) (hc:∀as w,(callFunc f as).run P w= .ok (.enter f as) w) (ok:FnOk P f ins outs)
  (hin:xs.map inAV=ins) (hlen:xs.length=args.length) (hD:(xs.all fun a=>subN (zvG a) D)=true) (hD0:D.isEmpty=false) (hout:(outs.all (zsQ [1] D s))=true):
  zH P o (args.zip xs) [] [] (outs.flatMap (zgU s)) (zuR (outs.map (zqZ D s))) []:=by
 intro γ a w hi hb next Q hk
 have hvs:AV.relL (gh0 (γ.F D)) w ins (args.map a.eval):=by
  subst hin
  clear hb hk hout ok ho
  simp only [List.all_eq_true] at hD
  induction xs generalizing args with
  | nil=>cases args<;>first| rfl| (simp at hlen)
  | cons x xs ih=>
   cases args with
   | nil=>simp at hlen
   | cons y args=>
    exact ⟨_,_,rfl,zxe (hi (y,x) (by simp)) (zaD (hD x List.mem_cons_self)),
     ih (by simpa using hlen) (fun p hp=>hi p (List.mem_cons_of_mem _ hp)) (fun b hb=>hD b (List.mem_cons_of_mem _ hb))⟩
 have hcall:=ok w (γ.F D) _ hvs
 have hrun:(execOp a.eval o).run P w= .ok (.enter f (args.map a.eval).toArray) w:=by
  simp [execOp,ho,resolve,Act.eval,Deferred.ofValue,invoke,hc]
 unfold Oper.wp
 rw [hrun,Oper.upon_enter]
 refine hcall.mono fun e w' ⟨γc,us,he,hB,⟨hold,hfr⟩,hr⟩=>?_
 subst he
 have hDne:D≠[]:=fun e=>by rw [e] at hD0;cases hD0
 simp only [List.all_eq_true] at hout
 refine hk (zfj γ γc w.heap.size D s (outs.flatMap (zgU s))) w' _ ⟨hB.os,hB.tape,hB.output,hB.size,fun b hb _=>hB.block b hb,fun b hb=>?_,fun ℓ hℓ=>?_,fun b h1 h2 h0=>?_⟩ (zqz (zpt hr fun x hx v hv=>?_)) (fun b hb=>by cases hb)
 ·show (if b<w.heap.size then γ.col b else _)=_
  rw [if_pos hb]
 ·show (if ℓ∈outs.flatMap (zgU s) then _ else γ.box ℓ)=_
  rw [if_neg hℓ]
 ·exfalso
  have hne:=hfr b h1 h2
  have h0':(if b<w.heap.size then γ.col b else if γc.col b=0 then D.headD 1 else if γc.col b=1 then 1 else γc.col b+s)=0:=h0
  rw [if_neg (Nat.not_lt.2 h1),if_neg hne] at h0'
  split at h0'<;>omega
 ·exact zqq (K:=[1]) (fun b hb=>(hold b hb).imp id fun h=>by simp [h]) (by simp) hDne (hout x hx) (fun c hc=>List.mem_flatMap.2 ⟨x,hx,hc⟩) hv
end Go.Proofs.YtcbkcblkecmjnaaGreat
namespace Go.Proofs.YtcbkcblkecmjnaaGreat
open Go Go.RowKit
structure ElT (P:Program) (t e:TypeId) (size bytes:Nat):Prop where
 u:P.underlying t=some (.slice e)
 ex:∃i z,P.info? e=some i∧i.zero=some z∧i.size=size∧i.bytes=bytes∧z.cells.size=size
theorem ElT.size {P:Program} {t e:TypeId} {size bytes:Nat} (h:ElT P t e size bytes) (w:World):(sizeOf e).run P w= .ok size w:=by
 obtain ⟨i,z,h1,h2,h3,h4,h5⟩:=h.ex
 simp [sizeOf,typeInfo,h1,h3]
section
variable {γ:Gh} {w:World} {α:Type} {r:Rp α} {C:List Nat} {xs:List α} {v:Value} {D:List Nat}
theorem znL (h:zbg (γ.F D) w (.sl xs.length r.size (xs.flatMap r.lv)) v):∃A c cs,v= .slice A xs.length c∧xs.length≤c∧c≤maxLen∧zab (γ.F D) w (xs.flatMap r.lv) cs∧cs.length=xs.length*r.size∧
  (0<xs.length→∃b off,A=some ⟨b,off,none⟩∧γ.F D b∧b<w.heap.size∧∀i,i<xs.length*r.size→w.cell? ⟨b,off+i,none⟩=cs[i]?):=by
 cases h with
 | sl _ _ _ A c cs hl hcs hc hm hA hr=>exact ⟨A,c,cs,rfl,hc,hm,⟨by rw [hl,hcs],hr⟩,hcs,hA⟩
theorem zpa {α:Type} {xs:List α} {i:Int} {x:α} (h:idx xs i=some x):0≤i∧i<xs.length∧xs[i.toNat]? =some x:=by
 unfold idx at h
 split at h
 ·rename_i h0
  have:=(List.getElem?_eq_some_iff.1 h).1
  exact ⟨h0,by omega,h⟩
 ·cases h
theorem zDW (h:zbg (γ.F D) w (.sl xs.length r.size (xs.flatMap r.lv)) v) {i:Int} {x:α} (hx:idx xs i=some x):∃b off cs c,v= .slice (some ⟨b,off,none⟩) xs.length c∧γ.F D b∧b<w.heap.size∧
  zab (γ.F D) w (r.lv x) cs∧∀j,j<cs.length→w.cell? ⟨b,off+i.toNat*r.size+j,none⟩=cs[j]? :=by
 obtain ⟨h0,h1,h2⟩:=zpa hx
 obtain ⟨A,c,cs,rfl,hc,hm,hA,hcs,hcell⟩:=znL h
 obtain ⟨b,off,rfl,hF,hb,hcell⟩:=hcell (by omega)
 have hA':=(hA.drop (i.toNat*r.size)).take r.size
 rw [r.flat_at xs _ x h2] at hA'
 refine ⟨b,off,_,c,rfl,hF,hb,hA',fun j hj=>?_⟩
 have hj':j<r.size:=by rw [←hA'.1,r.len] at hj;exact hj
 have hle:(i.toNat+1)*r.size≤xs.length*r.size:=Nat.mul_le_mul_right _ (by omega)
 rw [Nat.succ_mul] at hle
 rw [List.getElem?_take,if_pos hj',List.getElem?_drop,Nat.add_assoc]
 exact hcell _ (by omega)
end
def isSl {α:Type} (r:Rp α) (xs:List α) (D:List Nat) (a:AV):Prop:=∀γ w v,a.rel γ w v→zbg (γ.F D) w (.sl xs.length r.size (xs.flatMap r.lv)) v
theorem zI {α:Type} (r:Rp α) (xs:List α) (C:List Nat):isSl r xs C (.sl r C xs):=fun _ _ _ h=>h
theorem zay {α:Type} (r:Rp α) (xs:List α) (e:TypeId) (ℓ:Nat) (C:List Nat):isSl r xs (ℓ::C) (.own r e ℓ C xs):=fun _ _ _ h=>zqr h
theorem zxj {α:Type} (r:Rp α) (C:List Nat):isSl r [] C (.lf (.val (.slice none 0 0))):=fun γ w v h=>by
 rw [zqh h]
 exact .sl 0 _ [] none 0 [] (by simp) (by simp) (Nat.le_refl _) (Nat.zero_le _) (fun h=>absurd h (by omega)) (fun i l u h=>by simp at h)
theorem znb {P:Program} {t e:TypeId} {size bytes:Nat} (hT:ElT P t e size bytes) (w:World) (b off n c:Nat) (k:IntKind) (i:Int) (h0:0≤i) (h1:i<n):
  (Instr.indexAt t (.slice (some ⟨b,off,none⟩) n c) (.int k i)).run P w= .ok (.pointer (some ⟨b,off+i.toNat*size,none⟩)) w:=by
 simp [Instr.indexAt,asIntOf,run_underlying hT.u,hT.size,h0,h1,zib]
theorem zao {P:Program} {o:Oper} {α:Type} {r:Rp α} {xs:List α} {D:List Nat} {a:AV} {k:IntKind} {i:Int} {x:α} {t e:TypeId} {y z:Operand} {bytes:Nat}
  (ho:o.op= .indexAddr t y z) (hT:ElT P t e r.size bytes) (hs:isSl r xs D a) (hx:idx xs i=some x):zH P o [(y,a),(z,.lf (.int k i))] [] [] [] (.ep r D x 0) []:=by
 refine zU fun γ ev w hi _=>?_
 have h1:=hs γ w _ (hi (y,a) (by simp))
 have h2:=zdR (hi (z,.lf (.int k i)) (by simp))
 simp only at h1 h2
 obtain ⟨b,off,cs,c,hv,hF,hb,hA,hc⟩:=zDW h1 hx
 obtain ⟨i0,i1,_⟩:=zpa hx
 exact ⟨_,w,γ,by simp [execOp,ho,hv,h2,znb hT w b off _ c k i i0 i1],Tr.refl _ _ _ _,⟨b,off+i.toNat*r.size,cs,rfl,hF,hb,hA,hc⟩,fun b hb=>by cases hb⟩
theorem zdm {P:Program} {o:Oper} {α:Type} {r:Rp α} {D:List Nat} {x:α} {t:TypeId} {y:Operand}
  (ho:o.op= .load t y) (hT:AggT P t r.size):zH P o [(y,.ep r D x 0)] [] [] [] (.rc r D x) []:=by
 refine zU fun γ ev w hi _=>?_
 obtain ⟨b,off,cs,hv,hF,hb,hA,hc⟩:=hi (y,.ep r D x 0) (by simp)
 simp only at hv
 have hl:=zfK hT (w:=w) (b:=b) (o:=off) (cs:=cs) (by rw [←hA.1];exact r.len x) hc
 exact ⟨_,w,γ,by simp [execOp,ho,hv,Instr.loadAt,Instr.sureAddr,hl],Tr.refl _ _ _ _,⟨cs,rfl,hA⟩,fun b hb=>by cases hb⟩
theorem zga {P:Program} {o:Oper} {α β:Type} {r:Rp α} {D:List Nat} {x:α} {t:TypeId} {y:Operand} {off:Nat} (r':Rp β) (xs:List β)
  (ho:o.op= .load t y) (hT:zeh P t=true) (hs:(r.lv x)[off]? =some (.sl xs.length r'.size (xs.flatMap r'.lv))):zH P o [(y,.ep r D x off)] [] [] [] (.sl r' D xs) []:=by
 refine zU fun γ ev w hi _=>?_
 obtain ⟨b,o',cs,hv,hF,hb,hA,hc⟩:=hi (y,.ep r D x off) (by simp)
 simp only at hv
 have hlen:off<cs.length:=by rw [←hA.1];exact (List.getElem?_eq_some_iff.1 hs).1
 have hr:=hA.2 off _ _ hs (List.getElem?_eq_getElem hlen)
 have hcell:=hc off hlen
 rw [List.getElem?_eq_getElem hlen] at hcell
 exact ⟨_,w,γ,by simp [execOp,ho,hv,zjz hT hcell],Tr.refl _ _ _ _,hr,fun b hb=>by cases hb⟩
theorem zoT {α:Type} {xs ys:List α} {i j:Int} (h:cut xs i j=some ys):0≤i∧i≤j∧j≤xs.length∧ys=(xs.drop i.toNat).take (j.toNat - i.toNat):=by
 unfold cut at h
 split at h
 ·rename_i hh;cases h;exact ⟨hh.1,hh.2.1,hh.2.2,rfl⟩
 ·cases h
theorem zzF {α:Type} {xs ys:List α} {i j:Int} (h:cut xs i j=some ys):ys.length=j.toNat - i.toNat:=by
 obtain ⟨h0,h1,h2,rfl⟩:=zoT h
 simp;omega
theorem zgQ {P:Program} (w:World) (k:IntKind) (i:Int) (y:Nat) (code:BoundsCode) (h0:0≤i) (h1:i≤y):(Instr.sliceBound (.int k i) y code).run P w= .ok i.toNat w:=by
 simp [Instr.sliceBound,asIntOf,h0,h1]
def loOf:Option AV→Option Int
 | none=>some 0
 | some (.lf (.int _ i))=>some i
 | _=>none
def hiOf (n:Int):Option AV→Option Int
 | none=>some n
 | some (.lf (.int _ i))=>some i
 | _=>none
def zAj:Option Operand→Option AV→List (Operand×AV)
 | some x,some a=>[(x,a)]
 | _,_=>[]
theorem zwe {P:Program} {t e:TypeId} {size bytes:Nat} (hT:ElT P t e size bytes) (w:World) (A:Option Addr) (n c:Nat) (hc:n≤c) (lo hi:Option Value) (i j:Int)
  (hlo:(lo=none∧i=0)∨∃k,lo=some (.int k i)) (hhi:(hi=none∧j=n)∨∃k,hi=some (.int k j)) (h0:0≤i) (h1:i≤j) (h2:j≤n):
  (Instr.sliceAt t (.slice A n c) lo hi none).run P w= .ok (.slice (if c=i.toNat then A else A.map (·.add (i.toNat*size))) (j.toNat - i.toNat) (c - i.toNat)) w:=by
 have key:(Instr.sliceBounds true n c lo hi none).run P w= .ok (i.toNat,j.toNat,c) w:=by
  rcases hlo with ⟨rfl,rfl⟩| ⟨k,rfl⟩<;>rcases hhi with ⟨rfl,rfl⟩| ⟨k',rfl⟩
  ·simp [Instr.sliceBounds]
  ·simp [Instr.sliceBounds,zgQ w k' j c _ (by omega) (by omega)]
  ·simp [Instr.sliceBounds,zgQ w k i n _ h0 h1]
  ·have:=zgQ (P:=P) w k i j.toNat .sliceB h0 (by omega)
   simp [Instr.sliceBounds,zgQ w k' j c _ (by omega) (by omega),this]
 simp [Instr.sliceAt,Instr.slice,run_underlying hT.u,key,hT.size]
theorem zDY {γ:Gh} {w:World} {α:Type} {r:Rp α} {xs ys:List α} {D:List Nat} {A:Option Addr} {c:Nat} (h:zbg (γ.F D) w (.sl xs.length r.size (xs.flatMap r.lv)) (.slice A xs.length c)) {i j:Int} (hy:cut xs i j=some ys):
  zbg (γ.F D) w (.sl ys.length r.size (ys.flatMap r.lv)) (.slice (if c=i.toNat then A else A.map (·.add (i.toNat*r.size))) (j.toNat - i.toNat) (c - i.toNat)):=by
 obtain ⟨A',c',cs,hv,hc,hm,hA,hcs,hcell⟩:=znL h
 injection hv with e1 _ e3
 subst e1 e3
 obtain ⟨h0,h1,h2,e⟩:=zoT hy
 have hl:=zzF hy
 rw [hl]
 have hf:ys.flatMap r.lv=((xs.flatMap r.lv).drop (i.toNat*r.size)).take ((j.toNat - i.toNat)*r.size):=by rw [e,r.flat_take,r.flat_drop]
 have hA':=(hA.drop (i.toNat*r.size)).take ((j.toNat - i.toNat)*r.size)
 rw [←hf] at hA'
 have hlen:(ys.flatMap r.lv).length=(j.toNat - i.toNat)*r.size:=by rw [r.flat,hl]
 refine .sl _ _ _ _ _ _ hlen (by rw [←hA'.1,hlen]) (by omega) (by omega) (fun hn=>?_) hA'.2
 have hpos:0<xs.length:=by omega
 have hne:¬c=i.toNat:=by omega
 obtain ⟨b,off,rfl,hF,hb,hcell⟩:=hcell hpos
 rw [if_neg hne]
 refine ⟨b,off+i.toNat*r.size,by simp [zib],hF,hb,fun k hk=>?_⟩
 have hle:j.toNat*r.size≤xs.length*r.size:=Nat.mul_le_mul_right _ (by omega)
 have hji:(j.toNat - i.toNat)*r.size=j.toNat*r.size - i.toNat*r.size:=Nat.sub_mul ..
 have hij:i.toNat*r.size≤j.toNat*r.size:=Nat.mul_le_mul_right _ (by omega)
 rw [List.getElem?_take,if_pos hk,List.getElem?_drop,Nat.add_assoc]
 exact hcell _ (by omega)
theorem zeD {P:Program} {o:Oper} {α:Type} {r:Rp α} {xs ys:List α} {D:List Nat} {a:AV} {i j:Int} {t e:TypeId} {x:Operand} {lo hi:Option Operand} (lov hiv:Option AV) {bytes:Nat}
  (ho:o.op= .slice t x lo hi none) (hT:ElT P t e r.size bytes) (hs:isSl r xs D a) (hlo:lo.isSome=lov.isSome∧loOf lov=some i) (hhi:hi.isSome=hiv.isSome∧hiOf xs.length hiv=some j) (hy:cut xs i j=some ys):
  zH P o ((x,a)::(zAj lo lov++zAj hi hiv)) [] [] [] (.sl r D ys) []:=by
 refine zU fun γ ev w hin _=>?_
 have h1:=hs γ w _ (hin (x,a) (by simp))
 simp only at h1
 obtain ⟨A,c,cs,hv,hc,hm,_⟩:=znL h1
 obtain ⟨c0,c1,c2,_⟩:=zoT hy
 have hlo':(lo.map ev=none∧i=0)∨∃k,lo.map ev=some (.int k i):=by
  cases lo with
  | none=>
   cases lov with
   | none=>left;exact ⟨rfl,by simpa [loOf] using hlo.2.symm⟩
   | some a=>simp at hlo
  | some y=>
   cases lov with
   | none=>simp at hlo
   | some b=>
    have hb:=hin (y,b) (by simp [zAj])
    have h2:=hlo.2
    unfold loOf at h2
    split at h2
    ·rename_i heq;cases heq
    ·rename_i k i' heq
     cases heq;cases h2
     right;exact ⟨k,by simp [zdR hb]⟩
    ·cases h2
 have hhi':(hi.map ev=none∧j=(xs.length:Int))∨∃k,hi.map ev=some (.int k j):=by
  cases hi with
  | none=>
   cases hiv with
   | none=>left;exact ⟨rfl,by simpa [hiOf] using hhi.2.symm⟩
   | some a=>simp at hhi
  | some y=>
   cases hiv with
   | none=>simp at hhi
   | some b=>
    have hb:=hin (y,b) (by simp [zAj])
    have h2:=hhi.2
    unfold hiOf at h2
    split at h2
    ·rename_i heq;cases heq
    ·rename_i k i' heq
     cases heq;cases h2
     right;exact ⟨k,by simp [zdR hb]⟩
    ·cases h2
 rw [hv] at h1
 exact ⟨_,w,γ,by simp [execOp,ho,hv,zwe hT w A _ c hc _ _ i j hlo' hhi' c0 c1 c2],Tr.refl _ _ _ _,zDY h1 hy,fun b hb=>by cases hb⟩
end Go.Proofs.YtcbkcblkecmjnaaGreat
namespace Go.Proofs.YtcbkcblkecmjnaaGreat
open Go Go.RowKit
def Rp.Plain {α:Type} (r:Rp α):Prop:=∀x l,l∈r.lv x→l.plain=true
theorem zab.plain {F G:Fp} {w w':World} {ls:List LV} {cs:List Value} (h:zab F w ls cs) (hp:∀l∈ls,l.plain=true):zab G w' ls cs:=
 ⟨h.1,fun i l u h1 h2=>(h.2 i l u h1 h2).plain (hp l (List.mem_of_getElem? h1))⟩
theorem Rp.Plain.flat {α:Type} {r:Rp α} (h:r.Plain) (xs:List α):∀l∈xs.flatMap r.lv,l.plain=true:=by
 intro l hl
 obtain ⟨x,_,hx⟩:=List.mem_flatMap.1 hl
 exact h x l hx
def zCo {α:Type} (r:Rp α) (e:TypeId) (ℓ:Nat) (C:List Nat) (xs:List α) (a:AV):Prop:=∀γ w v,a.rel γ w v→AV.rel γ w (.own r e ℓ C xs) v
theorem zbJ {α:Type} (r:Rp α) (e:TypeId) (ℓ:Nat) (C:List Nat) (xs:List α):zCo r e ℓ C xs (.own r e ℓ C xs):=fun _ _ _ h=>h
theorem zuD {α:Type} (r:Rp α) (e:TypeId) (ℓ:Nat) (C:List Nat) (h:memN ℓ C=false):zCo r e ℓ C [] (.lf (.val (.slice none 0 0))):=fun γ w v hv=>by
 rw [zqh hv]
 refine ⟨[],World.ownsRow_nil w 0 e r.size,?_,zab.nil,fun hc=>by rw [zaW.2 hc] at h;cases h⟩
 intro g hg
 cases hg
theorem zaj {α:Type} (r:Rp α) (e:TypeId) (ℓ:Nat) (C:List Nat) (h:memN ℓ C=false):AV.le (.lf (.val (.slice none 0 0))) (.own r e ℓ C []):=zuD r e ℓ C h
theorem zqg {α:Type} (r:Rp α) (C:List Nat):AV.le (.lf (.val (.slice none 0 0))) (.sl r C []):=zxj r C
def LIM:Nat:=140737488355328
def app {α:Type} (bytes:Nat) (xs ys:List α):Option (List α):=if (xs.length+ys.length)*bytes≤LIM then some (xs++ys) else none
theorem zwF {α:Type} {bytes:Nat} {xs ys zs:List α} (h:app bytes xs ys=some zs):(xs.length+ys.length)*bytes≤140737488355328∧zs=xs++ys:=by
 unfold app at h
 split at h
 ·rename_i hl;cases h;exact ⟨hl,rfl⟩
 ·cases h
def zdc (γ:Gh) (n ℓ g:Nat):Gh:=⟨fun b=>if b<n then γ.col b else ℓ,fun k=>if k=ℓ then g else γ.box k⟩
theorem zoG {P:Program} {t e:TypeId} {size bytes:Nat} (hT:ElT P t e size bytes) (ty:TypeId) (w:World) (base:Nat) (v:Value) (n:Nat) (xs:List Value) (hown:w.ownsRow base e size v n xs) (c:Nat):
  (Builtin.append_ #[t,t] ty #[v,.slice none 0 c]).run P w= .ok v w:=by
 obtain ⟨i,z,hi,hz,hs,hb,hzs⟩:=hT.ex
 rcases hown.2 with ⟨rfl,rfl⟩| ⟨g,cap,cur,rfl,_,_,hnc,_⟩
 ·simp [Builtin.append_,run_underlying hT.u,sizeOf,typeInfo,hi,Builtin.lenOf,Builtin.firstCells]
 ·simp [Builtin.append_,run_underlying hT.u,sizeOf,typeInfo,hi,Builtin.lenOf,Builtin.firstCells,hnc,storeCells]
theorem zAp {P:Program} {t e:TypeId} {size bytes:Nat} (hT:ElT P t e size bytes) (hpos:0<size) (hbp:0<bytes) (ty:TypeId) (w:World) (v:Value) (n:Nat) (xs:List Value) (hown:w.ownsRow 0 e size v n xs)
  (A:Option Addr) (m c:Nat) (news:List Value) (hl:news.length=m*size) (hA:0<m→∃b off,A=some ⟨b,off,none⟩∧∀i,i<m*size→w.cell? ⟨b,off+i,none⟩=news[i]?) (h1:∀u∈news,u.oneCell'=true)
  (hlim:(n+m)*bytes≤140737488355328):
  ∃v' w',(Builtin.append_ #[t,t] ty #[v,.slice A m c]).run P w= .ok v' w'∧w'.ownsRow 0 e size v' (n+m) (xs++news)∧w.grownBy w' v.ownBlock∧(v'.ownBlock=v.ownBlock∨v'.ownBlock=some w.heap.size):=by
 obtain ⟨i,z,hi,hz,hs,hb,hzs⟩:=hT.ex
 have hnm:n+m≤maxLen:=by
  have:(n+m)*1≤(n+m)*bytes:=Nat.mul_le_mul_left _ hbp
  unfold maxLen;omega
 rcases A with _| ad
 ·have hm:m=0:=by
   rcases Nat.eq_zero_or_pos m with h0| h0
   ·exact h0
   ·obtain ⟨b,off,h,_⟩:=hA h0;cases h
  subst hm
  have hn:news=[]:=List.eq_nil_of_length_eq_zero (by simpa using hl)
  subst hn
  exact ⟨v,w,zoG hT ty w 0 v n xs hown c,by simpa using hown,⟨rfl,rfl,rfl,Nat.le_refl _,fun _ _ _=>rfl⟩,.inl rfl⟩
 ·have hnews:∀j u,news[j]? =some u→w.cell? (ad.add j)=some u:=by
   intro j u hu
   have hj:j<m*size:=by rw [←hl];exact (List.getElem?_eq_some_iff.1 hu).1
   have hm:0<m:=by
    rcases Nat.eq_zero_or_pos m with h0| h0
    ·subst h0;omega
    ·exact h0
   obtain ⟨b,off,h,hc⟩:=hA hm
   cases h
   rw [zib,hc j hj];exact hu
  obtain ⟨v',w',hr,ho,hg,_,hbk⟩:=run_append_own_at (P:=P) w 0 t ty e i z size bytes hT.u hi hz hs hb hzs hpos v n xs hown ad m c news hl hnews h1 hnm hlim (Nat.zero_le _)
  exact ⟨v',w',hr,ho,hg,hbk⟩
theorem zFY {γ:Gh} {w w':World} {e:TypeId} {size n:Nat} {ℓ:Nat} {v v':Value} {cs:List Value} (ho:w.ownsRow 0 e size v n cs) (hg:∀g,v.ownBlock=some g→γ.col g=ℓ∧γ.box ℓ=g) (hgr:w.grownBy w' v.ownBlock)
  (hbk:v'.ownBlock=v.ownBlock∨v'.ownBlock=some w.heap.size):
  ∃γ',Tr [ℓ] [ℓ] γ w γ' w'∧(∀g,v'.ownBlock=some g→γ'.col g=ℓ∧γ'.box ℓ=g):=by
 refine ⟨zdc γ w.heap.size ℓ (v'.ownBlock.getD (γ.box ℓ)),⟨hgr.os,hgr.tape,hgr.output,hgr.size,fun b hb hn=>hgr.block b hb fun e=>?_,fun b hb=>?_,fun k hk=>?_,fun b hb _ h=> .inr (by simp [zdc,Nat.not_lt.2 hb] at h;simp [h])⟩,fun g hgb=>⟨?_,?_⟩⟩
 ·exact hn (by rw [(hg b e.symm).1];exact List.mem_cons_self)
 ·simp [zdc,hb]
 ·simp only [List.mem_cons,List.not_mem_nil,or_false] at hk
  simp [zdc,hk]
 ·rcases hbk with h| h
  ·rw [h] at hgb
   have:=(ho.lt g hgb).2
   simp [zdc,this,(hg g hgb).1]
  ·rw [h] at hgb;cases hgb
   simp [zdc]
 ·simp [zdc,hgb]
theorem zeA {P:Program} {o:Oper} {α:Type} {r:Rp α} {xs ys zs:List α} {C D:List Nat} {a b:AV} {t e:TypeId} {x y:Operand} {bytes:Nat} (ℓ:Nat) (C2:List Nat)
  (ho:o.op= .call ⟨.builtin .append,#[x,y],#[t,t]⟩) (hT:ElT P t e r.size bytes) (hb:Nat.blt 0 bytes=true) (hx:zCo r e ℓ C xs a) (hy:isSl r ys D b) (hz:app bytes xs ys=some zs)
  (hC:r.Plain∨(subN C C2&&subN D C2)=true) (hℓ:memN ℓ C2=false):zH P o [(x,a),(y,b)] [] [ℓ] [ℓ] (.own r e ℓ C2 zs) []:=by
 refine zU fun γ ev w hi _=>?_
 obtain ⟨cs,hown,hg,hA,hnot⟩:=hx γ w _ (hi (x,a) (by simp))
 have h2:=hy γ w _ (hi (y,b) (by simp))
 simp only at hown hg h2
 obtain ⟨A,c,cs',hv,hc,hm,hA',hcs',hcell⟩:=znL h2
 obtain ⟨hlim,rfl⟩:=zwF hz
 obtain ⟨v',w',hr,ho',hgr,hbk⟩:=zAp hT r.pos (Nat.lt_of_succ_le (Nat.le_of_ble_eq_true hb)) o.type w _ _ _ hown A ys.length c cs' hcs'
  (fun hm=>by obtain ⟨b,off,e,_,_,hc⟩:=hcell hm;exact ⟨b,off,e,hc⟩) hA'.one hlim
 obtain ⟨γ',ht,hg'⟩:=zFY hown hg hgr hbk
 refine ⟨v',w',γ',?_,ht,⟨cs++cs',by rw [List.length_append];exact ho',hg',?_,fun hc=>by rw [zaW.2 hc] at hℓ;cases hℓ⟩,fun b hb=>by cases hb⟩
 ·refine zcL (args:=[x,y]) (ts:=[t,t]) ho rfl rfl rfl fun consts=>?_
  simp [builtin,hv,hr]
 ·rw [List.flatMap_append]
  rcases hC with hp| hC
  ·exact (hA.plain (hp.flat xs)).append (hA'.plain (hp.flat ys))
  ·simp only [Bool.and_eq_true] at hC
   have hn2:∀c∈C2,c∉[ℓ]:=fun c hc h=>by
    simp only [List.mem_cons,List.not_mem_nil,or_false] at h
    subst h
    rw [zaW.2 hc] at hℓ;cases hℓ
   have k1:=ht.all (C:=C2) hn2 (hA.mono fun b _ hb=>zaD hC.1 _ hb)
   have k2:=ht.all (C:=C2) hn2 (hA'.mono fun b _ hb=>zaD hC.2 _ hb)
   exact k1.append k2
def zok:LV→Value→Bool
 | .int k n,.int k' n'=>zpd k k'&&decide (n=n')
 | .bool b,.bool b'=>(b&&b')|| (!b&& !b')
 | .str l,.string s=>l.isEmpty&&Nat.beq s.data.toList.length 0
 | .sl n _ ls,.slice none 0 0=>Nat.beq n 0&&ls.isEmpty
 | .val (.slice none 0 0),.slice none 0 0=>true
 | .val (.pointer none),.pointer none=>true
 | .val (.map none),.map none=>true
 | .val .nilFunc,.nilFunc=>true
 | .val .nilIface,.nilIface=>true
 | _,_=>false
theorem zAA {l:LV} {v:Value} (h:zok l v=true) (F:Fp) (w:World):zbg F w l v:=by
 unfold zok at h
 split at h
 ·simp only [Bool.and_eq_true,decide_eq_true_eq] at h
  have:=zpe h.1
  rw [this,h.2];exact .int _ _
 ·rename_i b b'
  cases b<;>cases b'<;>first| exact .bool _| cases h
 ·rename_i l s
  simp only [Bool.and_eq_true,List.isEmpty_iff] at h
  obtain ⟨rfl,h2⟩:=h
  have h3:s.data.toList=[]:=List.eq_nil_of_length_eq_zero (Nat.eq_of_beq_eq_true h2)
  have:s=⟨([]:List UInt8).toArray⟩:=by
   obtain ⟨d⟩:=s
   congr 1
   exact Array.toList_inj.1 (by simpa using h3)
  rw [this]
  exact .str []
 ·simp only [Bool.and_eq_true,List.isEmpty_iff] at h
  obtain ⟨h1,rfl⟩:=h
  have:=Nat.eq_of_beq_eq_true h1
  subst this
  exact .sl 0 _ [] none 0 [] (by simp) (by simp) (Nat.le_refl _) (Nat.zero_le _) (fun h=>absurd h (by omega)) (fun i l u h=>by simp at h)
 ·exact .val _ rfl
 ·exact .val _ rfl
 ·exact .val _ rfl
 ·exact .val _ rfl
 ·exact .val _ rfl
 ·cases h
def zokL:List LV→List Value→Bool
 | [],[]=>true
 | l::ls,v::vs=>zok l v&&zokL ls vs
 | _,_=>false
theorem ztL {ls:List LV} {vs:List Value} (h:zokL ls vs=true) (F:Fp) (w:World):zab F w ls vs:=by
 induction ls generalizing vs with
 | nil=>cases vs<;>first| exact .nil| cases h
 | cons l ls ih=>
  cases vs with
  | nil=>cases h
  | cons v vs=>
   simp only [zokL,Bool.and_eq_true] at h
   exact .cons (zAA h.1 F w) (ih h.2)
structure ZeT (P:Program) {α:Type} (t e:TypeId) (r:Rp α) (bytes:Nat) (x0:α):Prop where
 u:P.underlying t=some (.slice e)
 ex:∃i z,P.info? e=some i∧i.zero=some z∧i.size=r.size∧i.bytes=bytes∧z.cells.size=r.size∧zokL (r.lv x0) z.cells.toList=true
theorem ZeT.el {P:Program} {α:Type} {t e:TypeId} {r:Rp α} {bytes:Nat} {x0:α} (h:ZeT P t e r bytes x0):ElT P t e r.size bytes:=by
 obtain ⟨i,z,h1,h2,h3,h4,h5,_⟩:=h.ex
 exact ⟨h.u,i,z,h1,h2,h3,h4,h5⟩
def zeB (P:Program) {α:Type} (e:TypeId) (r:Rp α) (bytes:Nat) (x0:α):Bool:=match P.info? e with
 | some i=>match i.zero with
  | some z=>Nat.beq i.size r.size&&Nat.beq i.bytes bytes&&Nat.beq z.cells.size r.size&&zokL (r.lv x0) z.cells.toList
  | none=>false
 | none=>false
theorem ZeT.ofB {P:Program} {α:Type} {t e:TypeId} {r:Rp α} {bytes:Nat} {x0:α} (hu:P.underlying t=some (.slice e)) (h:zeB P e r bytes x0=true):ZeT P t e r bytes x0:=by
 unfold zeB at h
 split at h
 ·rename_i i hi
  split at h
  ·rename_i z hz
   simp only [Bool.and_eq_true] at h
   exact ⟨hu,i,z,hi,hz,Nat.eq_of_beq_eq_true h.1.1.1,Nat.eq_of_beq_eq_true h.1.1.2,Nat.eq_of_beq_eq_true h.1.2,h.2⟩
  ·cases h
 ·cases h
theorem zED {β:Type} (l:List β) (n i:Nat) (h:i<n*l.length):((List.replicate n l).flatten)[i]? =l[i%l.length]? :=by
 induction n generalizing i with
 | zero=>omega
 | succ n ih=>
  rw [List.replicate_succ,List.flatten_cons,List.getElem?_append]
  split
  ·rename_i hi;rw [Nat.mod_eq_of_lt hi]
  ·rename_i hi
   rw [Nat.succ_mul] at h
   rw [ih _ (by omega)]
   congr 1
   rw [←Nat.mod_eq_sub_mod (by omega)]
theorem zsG {α:Type} {r:Rp α} {x0:α} {z:Value} (hs:z.cells.size=r.size) (hz:zokL (r.lv x0) z.cells.toList=true) (F:Fp) (w:World) (n m:Nat) (hnm:n≤m):
  zab F w ((List.replicate n x0).flatMap r.lv) ((madeCells z.cells (m*r.size)).toList.take (n*r.size)):=by
 have hr:=ztL hz F w
 have hl:(madeCells z.cells (m*r.size)).toList.length=m*r.size:=by rw [Array.length_toList,size_madeCells]
 have hle:n*r.size≤m*r.size:=Nat.mul_le_mul_right _ hnm
 refine ⟨by rw [r.flat,List.length_replicate,List.length_take,hl];omega,fun i l u h1 h2=>?_⟩
 have hi:i<n*r.size:=by have:=(List.getElem?_eq_some_iff.1 h1).1;rw [r.flat,List.length_replicate] at this;exact this
 have e1:(List.replicate n x0).flatMap r.lv=(List.replicate n (r.lv x0)).flatten:=by rw [List.flatMap_def,List.map_replicate]
 rw [e1,zED _ _ _ (by rw [r.len];exact hi),r.len] at h1
 rw [List.getElem?_take,if_pos hi] at h2
 have hmod:i%r.size<z.cells.size:=by rw [hs];exact Nat.mod_lt _ r.pos
 have e2:(madeCells z.cells (m*r.size)).toList[i]? =z.cells.toList[i%r.size]? :=by
  have him:i<m*r.size:=by omega
  simp only [madeCells,Array.toList_map,Array.toList_range,List.getElem?_map,List.getElem?_range him,Option.map_some,hs]
  rw [Array.getElem?_toList,Array.getElem?_eq_getElem hmod,getElem!_pos z.cells _ hmod]
 rw [e2] at h2
 exact hr.2 _ l u h1 h2
def mkO {α:Type} (bytes:Nat) (x0:α) (n m:Int):Option (List α):=if 0≤n∧n≤m∧m*bytes≤LIM then some (List.replicate n.toNat x0) else none
theorem zvO {P:Program} {o:Oper} {α:Type} {r:Rp α} {t e:TypeId} {x y:Operand} {bytes:Nat} {x0:α} {k k':IntKind} {n m:Int} {xs:List α} (ℓ:Nat)
  (ho:o.op= .makeSlice t x y) (hT:ZeT P t e r bytes x0) (hb:Nat.blt 0 bytes=true) (hm:mkO bytes x0 n m=some xs):zH P o [(x,.lf (.int k n)),(y,.lf (.int k' m))] [] [] [ℓ] (.own r e ℓ [] xs) []:=by
 refine zU fun γ ev w hi _=>?_
 have h1:=zdR (hi (x,.lf (.int k n)) (by simp))
 have h2:=zdR (hi (y,.lf (.int k' m)) (by simp))
 simp only at h1 h2
 unfold mkO at hm
 split at hm
 case isFalse=>cases hm
 rename_i hh
 obtain ⟨h0,hnm,hlim⟩:=hh
 cases hm
 obtain ⟨i,z,hi',hz,hs,hby,hzs,hzo⟩:=hT.ex
 have hbp:0<bytes:=Nat.lt_of_succ_le (Nat.le_of_ble_eq_true hb)
 have hmb:m≤m*bytes:=by
  have:m*1≤m*(bytes:Int):=Int.mul_le_mul_of_nonneg_left (by omega) (by omega)
  omega
 have hL:(LIM:Int)=140737488355328:=rfl
 have hr:=run_make (P:=P) w t e i z hT.u hi' hz k k' n m h0 hnm (by rw [hby,Int.mul_comm];omega) (by omega)
 rw [hs] at hr
 have hnew:=heap_alloc_new w (.cells (madeCells z.cells (m.toNat*r.size)) e)
 refine ⟨.slice (some ⟨w.heap.size,0,none⟩) n.toNat m.toNat,w.alloc (.cells (madeCells z.cells (m.toNat*r.size)) e),zdc γ w.heap.size ℓ w.heap.size,by simp [execOp,ho,h1,h2,hr],⟨rfl,rfl,rfl,by simp,fun b hb _=>Below.heap_alloc w _ b hb,fun b hb=>by simp [zdc,hb],fun k hk=>?_,fun b hb _ h=> .inr (by simp [zdc,Nat.not_lt.2 hb] at h;simp [h])⟩,
  ⟨(madeCells z.cells (m.toNat*r.size)).toList.take (n.toNat*r.size),?_,fun g hg=>?_,?_,by simp⟩,fun b hb=>by cases hb⟩
 ·simp only [List.mem_cons,List.not_mem_nil,or_false] at hk
  simp [zdc,hk]
 ·rw [List.length_replicate]
  have hle:n.toNat*r.size≤m.toNat*r.size:=Nat.mul_le_mul_right _ (by omega)
  have hml:m.toNat≤maxLen:=by unfold maxLen;omega
  refine ⟨by rw [List.length_take,Array.length_toList,size_madeCells];omega,.inr ⟨w.heap.size,m.toNat,_,rfl,Nat.zero_le _,hnew,by omega,hml,by rw [size_madeCells],rfl⟩⟩
 ·cases hg
  simp [zdc]
 ·exact zsG hzs hzo _ _ _ _ (by omega)
end Go.Proofs.YtcbkcblkecmjnaaGreat
namespace Go.Proofs.YtcbkcblkecmjnaaGreat
open Go Go.RowKit
def zti {β:Type} (cs:List β) (off:Nat) (vs:List β):List β:=cs.take off++vs++cs.drop (off+vs.length)
theorem zst (off:Nat):∀(vs:List Value) (k:Nat) (cs:Array Value),off+k+vs.length≤cs.size→
  ((vs.zipIdx k).foldl (fun (cs:Array Value) (p:Value×Nat)=>cs.setIfInBounds (off+p.2) p.1) cs).toList=cs.toList.take (off+k)++vs++cs.toList.drop (off+k+vs.length)
 | [],k,cs,_=>by simp
 | v::vs,k,cs,h=>by
  simp only [List.length_cons] at h
  rw [List.zipIdx_cons,List.foldl_cons,zst off vs (k+1) _ (by simp;omega)]
  have:=list_seg_step cs.toList (off+k) v vs (by simp;omega)
  simp only [Array.toList_setIfInBounds,List.length_cons]
  rw [←this,Nat.add_assoc off k 1]
def zhn:AV→Option (List LV)
 | .rc r _ x=>some (r.lv x)
 | .ag l=>zgj l
 | a=>match a.toLV with
  | some l=>some [l]
  | none=>none
theorem zlL {a:AV} {ls:List LV} (h:zhn a=some ls) {γ:Gh} {w:World} {v:Value} (hr:a.rel γ w v) {C:List Nat} (hC:subN a.cols C=true):zab (γ.F C) w ls v.cells.toList:=by
 have leaf:∀l,a.toLV=some l→zab (γ.F C) w [l] v.cells.toList:=fun l hl=>by
  have h1:=zya hl hr (zaD hC)
  have:v.cells=#[v]:=by
   have h1c:=h1.one
   cases v<;>first| rfl| cases h1c
  rw [this]
  exact .cons h1 .nil
 cases a with
 | rc r C' x=>
  cases h
  obtain ⟨cs,rfl,hA⟩:=hr
  exact hA.mono fun b _ hb=>zaD hC _ hb
 | ag l=>
  obtain ⟨vs,rfl,hL,_⟩:=hr
  exact zhV h hL (zaD hC)
 | any=>cases h
 | lf l=>cases h;exact leaf _ rfl
 | sl=>cases h;exact leaf _ rfl
 | own=>cases h;exact leaf _ rfl
 | ep=>cases h
 | ptr=>cases h
 | bs=>cases h
 | tl=>cases h
 | qp=>cases h
 | em=>cases h
 | mo=>cases h
 | mp=>cases h
 | om=>cases h
 | tup=>cases h
 | fv=>cases h
 | bp=>cases h
 | it=>cases h
def zwW (place:Nat→Option (Nat×Nat)) (cs:List LV):List (Nat×List LV)→Option (List LV)
 | []=>some cs
 | (i,vs)::rest=>match place i with
  | none=>none
  | some (off,size)=>match Nat.beq vs.length size&&Nat.ble (off+vs.length) cs.length with
   | true=>zwW place (zti cs off vs) rest
   | false=>none
theorem zqa {F:Fp} {w:World} {place:Nat→Option (Nat×Nat)}:∀(ps:List (Nat×List LV)) (vs:List (Nat×Value)) (cs:List LV) (cells:Array Value) (out:List LV),zwW place cs ps=some out→
  zab F w cs cells.toList→ps.length=vs.length→(∀(k:Nat) (p:Nat×List LV) (v:Nat×Value),ps[k]? =some p→vs[k]? =some v→p.1=v.1∧zab F w p.2 v.2.cells.toList)→
  ∃cells',Instr.fill place cells vs=some cells'∧zab F w out cells'.toList
 | [],vs,cs,cells,out,h,hA,hl,_=>by
  cases h
  cases vs with
  | nil=>exact ⟨cells,rfl,hA⟩
  | cons=>simp at hl
 | (i,ls)::ps,vs,cs,cells,out,h,hA,hl,hp=>by
  cases vs with
  | nil=>simp at hl
  | cons v vs=>
   obtain ⟨j,v⟩:=v
   obtain ⟨hij,hv⟩:=hp 0 (i,ls) (j,v) rfl rfl
   simp only at hij hv
   subst hij
   rw [zwW] at h
   split at h
   ·cases h
   ·rename_i off size hpl
    split at h
    ·rename_i hb
     simp only [Bool.and_eq_true] at hb
     have e1:=Nat.eq_of_beq_eq_true hb.1
     have e2:=Nat.le_of_ble_eq_true hb.2
     have hsz:v.cells.size=ls.length:=by rw [hv.1];simp
     have hcl:cells.size=cs.length:=by rw [hA.1];simp
     have hset:=zst off v.cells.toList 0 cells (by simp;omega)
     simp only [Nat.add_zero] at hset
     have hA2:zab F w (zti cs off ls) (v.cells.toList.zipIdx.foldl (fun (cs:Array Value) (p:Value×Nat)=>cs.setIfInBounds (off+p.2) p.1) cells).toList:=by
      rw [hset]
      unfold zti
      rw [hv.1]
      exact ((hA.take off).append hv).append (hA.drop _)
     obtain ⟨cells',hf,hr⟩:=zqa ps vs _ _ out h hA2 (by simpa using hl) (fun k p u h1 h2=>hp (k+1) p u h1 h2)
     refine ⟨cells',?_,hr⟩
     rw [Instr.fill,hpl]
     simp only
     rw [if_neg (by simp;omega)]
     rw [←hf]
     congr 1
     rw [←Array.foldl_toList]
     simp
    ·cases h
def zho:List (Nat×Operand)→List AV→Option (List (Nat×List LV))
 | [],[]=>some []
 | (i,_)::l,a::as=>match zhn a,zho l as with
  | some ls,some r=>some ((i,ls)::r)
  | _,_=>none
 | _,_=>none
theorem zmY {γ:Gh} {w:World} {ev:Operand→Value} {C:List Nat}:∀(l:List (Nat×Operand)) (as:List AV) (ps:List (Nat×List LV)),zho l as=some ps→(∀p∈(l.map (·.2)).zip as,p.2.rel γ w (ev p.1))→
  subN (AV.colsL as) C=true→ps.length=(l.map fun p=>(p.1,ev p.2)).length∧∀(k:Nat) (p:Nat×List LV) (v:Nat×Value),ps[k]? =some p→(l.map fun p=>(p.1,ev p.2))[k]? =some v→p.1=v.1∧zab (γ.F C) w p.2 v.2.cells.toList
 | [],[],ps,h,_,_=>by cases h;exact ⟨rfl,fun k p v h=>by simp at h⟩
 | (i,x)::l,a::as,ps,h,hr,hC=>by
  rw [zho] at h
  split at h
  ·rename_i ls r h1 h2
   cases h
   have hC1:subN a.cols C=true:=by
    simp only [subN,List.all_eq_true,AV.colsL] at hC⊢
    exact fun c hc=>hC c (List.mem_append_left _ hc)
   have hC2:subN (AV.colsL as) C=true:=by
    simp only [subN,List.all_eq_true,AV.colsL] at hC⊢
    exact fun c hc=>hC c (List.mem_append_right _ hc)
   obtain ⟨g1,g2⟩:=zmY l as r h2 (fun p hp=>hr p (by simp [hp])) hC2
   refine ⟨by simp [g1],fun k p v hp hv=>?_⟩
   cases k with
   | zero=>
    simp at hp hv
    subst hp hv
    exact ⟨rfl,zlL h1 (hr (x,a) (by simp)) hC1⟩
   | succ k=>exact g2 k p v (by simpa using hp) (by simpa using hv)
  ·cases h
 | [],_::_,ps,h,_,_=>by cases h
 | _::_,[],ps,h,_,_=>by cases h
def zod (place:Nat→Option (Nat×Nat)) (zl:List LV) (parts:List (Nat×Operand)) (as:List AV):Option (List LV):=match zho parts as with
 | some ps=>zwW place zl ps
 | none=>none
theorem zsm {place:Nat→Option (Nat×Nat)} {zl out:List LV} {parts:List (Nat×Operand)} {as:List AV} (h:zod place zl parts as=some out):∃ps,zho parts as=some ps∧zwW place zl ps=some out:=by
 unfold zod at h
 split at h
 ·rename_i ps hp;exact ⟨ps,hp,h⟩
 ·cases h
structure StT (P:Program) (t:TypeId) (places:List (Nat×Nat)) (zl:List LV):Prop where
 ex:∃fs z,P.underlying t=some (.struct fs)∧(∀w,(zeroValue t).run P w= .ok z w)∧(∀w,(fs.mapM (m:=Sem) fun (f:Field)=>do pure (f.offset,←sizeOf f.type)).run P w= .ok places.toArray w)∧zokL zl z.cells.toList=true
theorem zX {P:Program} {o:Oper} {α:Type} {r:Rp α} {t:TypeId} {parts:List (Nat×Operand)} {places:List (Nat×Nat)} {zl:List LV} (as:List AV) (C:List Nat) (x:α)
  (ho:o.op= .build t parts.toArray) (hT:StT P t places zl) (hC:subN (AV.colsL as) C=true) (hf:zod (fun i=>places[i]?) zl parts as=some (r.lv x)):
  zH P o ((parts.map (·.2)).zip as) [] [] [] (.rc r C x) []:=by
 refine zU fun γ ev w hi _=>?_
 obtain ⟨ps,hp,hf⟩:=zsm hf
 obtain ⟨fs,z,hu,hz,hpl,hzo⟩:=hT.ex
 obtain ⟨g1,g2⟩:=zmY parts as ps hp hi hC
 obtain ⟨cells',hfill,hA⟩:=zqa ps _ zl z.cells _ hf (ztL hzo _ w) g1 g2
 have hfill':Instr.fill (fun i=>places.toArray[i]?) z.cells (parts.map fun p=>(p.1,ev p.2))=some cells':=by
  rw [←hfill];congr 1;funext i;simp
 refine ⟨.agg cells',w,γ,?_,Tr.refl _ _ _ _,⟨cells'.toList,by simp,hA⟩,fun b hb=>by cases hb⟩
 simp only [execOp,ho,Instr.build,Sem.run_bind,hz,run_underlying hu,Result.andThen_ok,hpl,List.map_toArray]
 have e:(List.map (fun (x:Nat×Operand)=>(x.1,ev x.2)) parts)=parts.map fun p=>(p.1,ev p.2):=rfl
 simp only [hfill',Sem.run_pure,Result.andThen_ok]
theorem zxL {α:Type} {r:Rp α} {x0:α} {z:Value} (hs:z.cells.size=r.size) (hz:zokL (r.lv x0) z.cells.toList=true) (F:Fp) (w:World) (n:Nat):
  zab F w ((List.replicate n x0).flatMap r.lv) (madeCells z.cells (n*r.size)).toList:=by
 have:=zsG hs hz F w n n (Nat.le_refl _)
 rwa [List.take_of_length_le (by rw [Array.length_toList,size_madeCells];exact Nat.le_refl _)] at this
theorem zcP {P:Program} {o:Oper} {α:Type} {r:Rp α} {t e:TypeId} {n:Nat} {parts:List (Nat×Operand)} {bytes:Nat} {x0:α} (as:List AV) (ℓ:Nat) (C:List Nat) (xs:List α)
  (ho:o.op= .buildSlice t n parts.toArray) (hT:ZeT P t e r bytes x0) (hn:(Nat.beq n xs.length&&Nat.ble (n*r.size) 16777216)=true) (hC:subN (AV.colsL as) C=true) (hℓ:memN ℓ C=false)
  (hf:zod (fun i=>some (i*r.size,r.size)) ((List.replicate n x0).flatMap r.lv) parts as=some (xs.flatMap r.lv)):zH P o ((parts.map (·.2)).zip as) [] [] [ℓ] (.own r e ℓ C xs) []:=by
 refine zU fun γ ev w hi _=>?_
 obtain ⟨ps,hp,hf⟩:=zsm hf
 obtain ⟨i,z,hi',hz,hs,hby,hzs,hzo⟩:=hT.ex
 simp only [Bool.and_eq_true] at hn
 have e1:=Nat.eq_of_beq_eq_true hn.1
 have e2:=Nat.le_of_ble_eq_true hn.2
 obtain ⟨g1,g2⟩:=zmY parts as ps hp hi hC
 obtain ⟨cells',hfill,hA⟩:=zqa ps _ _ (madeCells z.cells (n*r.size)) _ hf (zxL hzs hzo _ w n) g1 g2
 have hsz:(sizeOf e).run P w= .ok r.size w:=hT.el.size w
 have hcs:cells'.size=n*r.size:=by rw [←Array.length_toList,←hA.1,r.flat,e1]
 have hzero:(zeroValue e).run P w= .ok z w:=by simp [zeroValue,typeInfo,hi',hz]
 have ht:Tr [] [ℓ] γ w (zdc γ w.heap.size ℓ w.heap.size) (w.alloc (.cells cells' e)):=⟨rfl,rfl,rfl,by simp,fun b hb _=>Below.heap_alloc w _ b hb,fun b hb=>by simp [zdc,hb],fun k hk=>by
  simp only [List.mem_cons,List.not_mem_nil,or_false] at hk
  simp [zdc,hk],fun b hb _ h=> .inr (by simp [zdc,Nat.not_lt.2 hb] at h;simp [h])⟩
 refine ⟨.slice (some ⟨w.heap.size,0,none⟩) n n,w.alloc (.cells cells' e),_,?_,ht,
  ⟨cells'.toList,?_,fun g hg=>?_,?_,fun hc=>by rw [zaW.2 hc] at hℓ;cases hℓ⟩,fun b hb=>by cases hb⟩
 ·have hgt:¬(n*r.size>2^24):=by omega
  simp only [execOp,ho,Instr.buildSlice,Sem.run_bind,run_underlying hT.u,Result.andThen_ok,hsz,if_neg hgt,Sem.run_pure,List.map_toArray]
  by_cases h0:n*r.size=0
  ·have:n=0:=by rcases Nat.mul_eq_zero.1 h0 with h| h;exact h;exact absurd h (by have:=r.pos;omega)
   have hm0:madeCells z.cells (n*r.size)=#[]:=by rw [h0];simp [madeCells]
   rw [hm0] at hfill
   rw [if_pos h0]
   have hr0:Array.range 0=#[]:=rfl
   simp only [h0,hr0,Array.map_empty,hfill]
   simp [newRow]
  ·have hm0:madeCells z.cells (n*r.size)=(Array.range (n*r.size)).map (fun x=>z.cells[x%z.cells.size]!):=rfl
   rw [hm0] at hfill
   simp only [if_neg h0,Sem.run_bind,hzero,Sem.run_pure,Result.andThen_ok,hfill]
   simp [newRow]
 ·rw [←e1]
  refine World.ownsRow_lit w cells' n (Nat.zero_le _) ?_ hcs
  have:n*1≤n*r.size:=Nat.mul_le_mul_left _ r.pos
  unfold maxLen;omega
 ·cases hg;simp [zdc]
 ·exact ht.all (fun c _ h=>by cases h) hA
def zokA:AV→Value→Bool
 | .lf l,v=>l.plain&&zok l v
 | .sl _ _ xs,.slice none 0 0=>xs.isEmpty
 | .own _ _ ℓ C xs,.slice none 0 0=>xs.isEmpty&& !memN ℓ C
 | _,_=>false
theorem zDQ {a:AV} {v:Value} (h:zokA a v=true) (γ:Gh) (w:World):a.rel γ w v∧v.oneCell'=true:=by
 unfold zokA at h
 split at h
 ·simp only [Bool.and_eq_true] at h
  have:=zAA h.2 (fun _=>False) w
  exact ⟨⟨h.1,this⟩,this.one⟩
 ·rename_i α r C xs
  have hx:xs=[]:=List.isEmpty_iff.1 h
  subst hx
  exact ⟨zxj r C γ w _ ⟨rfl,.val _ rfl⟩,rfl⟩
 ·rename_i α r e ℓ C xs
  simp only [Bool.and_eq_true,Bool.not_eq_true'] at h
  have hx:xs=[]:=List.isEmpty_iff.1 h.1
  subst hx
  exact ⟨zuD r e ℓ C h.2 γ w _ ⟨rfl,.val _ rfl⟩,rfl⟩
 ·cases h
def zvf:List AV→List Value→Bool
 | [],[]=>true
 | a::l,v::vs=>zokA a v&&zvf l vs
 | _,_=>false
theorem zvg {l:List AV} {vs:List Value} (h:zvf l vs=true) (γ:Gh) (w:World):AV.relL γ w l vs∧∀u∈vs,u.oneCell'=true:=by
 induction l generalizing vs with
 | nil=>cases vs<;>first| exact ⟨rfl,fun u hu=>by cases hu⟩| cases h
 | cons a l ih=>
  cases vs with
  | nil=>cases h
  | cons v vs=>
   simp only [zvf,Bool.and_eq_true] at h
   obtain ⟨h1,h2⟩:=zDQ h.1 γ w
   obtain ⟨h3,h4⟩:=ih h.2
   refine ⟨⟨v,vs,rfl,h1,h3⟩,fun u hu=>?_⟩
   cases hu with
   | head=>exact h2
   | tail _ hu=>exact h4 u hu
theorem zkM (γ:Gh) (w:World) (ℓ:Nat) (o:Obj):Tr [] [ℓ] γ w (zdc γ w.heap.size ℓ w.heap.size) (w.alloc o):=
 ⟨rfl,rfl,rfl,by simp,fun b hb _=>Below.heap_alloc w _ b hb,fun b hb=>by simp [zdc,hb],fun k hk=>by
  simp only [List.mem_cons,List.not_mem_nil,or_false] at hk
  simp [zdc,hk],fun b hb _ h=> .inr (by simp [zdc,Nat.not_lt.2 hb] at h;simp [h])⟩
theorem zcJ (γ:Gh) (n ℓ g:Nat):(zdc γ n ℓ g).box ℓ=g:=by simp [zdc]
theorem zhL (γ:Gh) (n ℓ g:Nat):(zdc γ n ℓ g).col n=ℓ:=by simp [zdc]
theorem zkY {P:Program} {o:Oper} {t:TypeId} (ℓ:Nat) (as:List AV) {z:Value} (ho:o.op= .alloc t) (hz:∀w,(zeroValue t).run P w= .ok z w) (hs:zvf as z.cells.toList=true):
  zH P o [] [] [] [ℓ] (.ptr ℓ 0) [⟨ℓ,t,as⟩]:=by
 refine zU fun γ ev w hi _=>?_
 refine ⟨.pointer (some ⟨w.heap.size,0,none⟩),w.alloc (.cells z.cells t),_,?_,zkM γ w ℓ _,?_,fun b hb=>?_⟩
 ·simp [execOp,ho,Instr.alloc,Sem.run_bind,hz,newVar,newRow]
 ·show _=_
  rw [zcJ]
 ·simp only [List.mem_cons,List.not_mem_nil,or_false] at hb
  subst hb
  have h:=zvg hs (zdc γ w.heap.size ℓ w.heap.size) (w.alloc (.cells z.cells t))
  refine ⟨by rw [zcJ,zhL],z.cells.toList,?_,h.1,h.2⟩
  rw [zcJ,Array.toArray_toList]
  exact heap_alloc_new w _
theorem zeC {P:Program} {o:Oper} {t:TypeId} {x:Operand} {a:AV} {ls:List LV} (ℓ:Nat) (as:List AV) (C:List Nat) (ho:o.op= .box t x) (hp:zhn a=some ls) (hC:subN a.cols C=true) (ha:zgj as=some ls) (hl:as.all (zpg C)=true):
  zH P o [(x,a)] [] [] [ℓ] (.ptr ℓ 0) [⟨ℓ,t,as⟩]:=by
 refine zU fun γ ev w hi _=>?_
 have hA:=zlL hp (hi (x,a) (by simp)) hC
 refine ⟨.pointer (some ⟨w.heap.size,0,none⟩),w.alloc (.cells (ev x).cells t),_,?_,zkM γ w ℓ _,?_,fun b hb=>?_⟩
 ·simp [execOp,ho,Instr.box,newVar,newRow]
 ·show _=_
  rw [zcJ]
 ·simp only [List.mem_cons,List.not_mem_nil,or_false] at hb
  subst hb
  have hA':=(zkM γ w ℓ (.cells (ev x).cells t)).all (fun c _ h=>by cases h) hA
  refine ⟨by rw [zcJ,zhL],(ev x).cells.toList,?_,zia ha hA' hl,hA.one⟩
  rw [zcJ,Array.toArray_toList]
  exact heap_alloc_new w _
theorem zyP {P:Program} {o:Oper} {α:Type} {r:Rp α} {t:TypeId} {y:Operand} {b:Bx} {off:Nat} (x:α) (C:List Nat) (ho:o.op= .load t y) (hT:AggT P t r.size) (hs:zgj ((b.avs.drop off).take r.size)=some (r.lv x))
  (hC:subN (AV.colsL ((b.avs.drop off).take r.size)) C=true):zH P o [(y,.ptr b.lab off)] [b] [] [] (.rc r C x) []:=by
 refine zU fun γ ev w hi hb=>?_
 have h1:ev y=_:=hi (y,.ptr b.lab off) (by simp)
 obtain ⟨hcol,cs,hh,hL,hone⟩:=hb b (by simp)
 have sub:∀(l:List AV) (vs:List Value) (k:Nat),AV.relL γ w l vs→AV.relL γ w (l.drop k) (vs.drop k):=by
  intro l
  induction l with
  | nil=>intro vs k h;cases h;cases k<;>rfl
  | cons a l ih=>
   intro vs k h
   cases k with
   | zero=>exact h
   | succ k=>obtain ⟨v,vs',rfl,h1,h2⟩:=h;exact ih vs' k h2
 have tak:∀(l:List AV) (vs:List Value) (k:Nat),AV.relL γ w l vs→AV.relL γ w (l.take k) (vs.take k):=by
  intro l
  induction l with
  | nil=>intro vs k h;cases h;cases k<;>rfl
  | cons a l ih=>
   intro vs k h
   obtain ⟨v,vs',rfl,h1,h2⟩:=h
   cases k with
   | zero=>rfl
   | succ k=>exact ⟨v,_,rfl,h1,ih vs' k h2⟩
 have hL':=tak _ _ r.size (sub _ _ off hL)
 have hA:=zhV hs hL' (zaD hC)
 have hlen:((cs.drop off).take r.size).length=r.size:=by rw [←hA.1];exact r.len x
 have hl:=zfK hT (w:=w) (b:=γ.box b.lab) (o:=off) (cs:=(cs.drop off).take r.size) hlen fun i hi=>by
  rw [hlen] at hi
  rw [cell_of_row w _ _ _ _ _ hh,List.getElem?_take,if_pos hi,List.getElem?_drop]
  simp
 exact ⟨_,w,γ,by simp [execOp,ho,h1,Instr.loadAt,Instr.sureAddr,hl],Tr.refl _ _ _ _,⟨_,rfl,hA⟩,fun b hb=>by cases hb⟩
theorem zxM {γ:Gh} {w:World} {l:List AV} {vs:List Value} (h:AV.relL γ w l vs) (k:Nat) {a:AV} {v:Value} (ha:a.rel γ w v):AV.relL γ w (l.set k a) (vs.set k v):=by
 induction l generalizing vs k with
 | nil=>cases h;exact rfl
 | cons b l ih=>
  obtain ⟨u,vs',rfl,h1,h2⟩:=h
  cases k with
  | zero=>exact ⟨v,vs',rfl,ha,h2⟩
  | succ k=>exact ⟨u,_,rfl,h1,ih h2 k⟩
theorem ztu {γ:Gh} {w:World} {ℓ:Nat} (hcol:γ.col (γ.box ℓ)=ℓ) (cs:Array Value):Tr [ℓ] [] γ w γ (w.setRow (γ.box ℓ) cs):=
 ⟨rfl,rfl,rfl,by simp,fun b hb hn=>setRow_other w _ b cs (fun e=>hn (by rw [e,hcol];exact List.mem_cons_self)),fun _ _=>rfl,fun _ _=>rfl,fun b h1 h2=>absurd h2 (by simp;omega)⟩
def zlI:AV→Bool
 | .lf _| .sl ..| .own ..| .ptr ..| .bs ..| .qp ..| .ep ..| .em ..| .mp ..| .om ..| .fv ..=>true
 | _=>false
theorem zph {a:AV} (h:zlI a=true) {γ:Gh} {w:World} {v:Value} (hr:a.rel γ w v):v.oneCell'=true∧v.cells=#[v]:=by
 have key:v.oneCell'=true:=by
  cases a with
  | lf l=>exact hr.2.one
  | sl r C xs=>exact zbg.one hr
  | own r e ℓ C xs=>exact (zqr hr).one
  | ptr ℓ off=>have:v=_:=hr;rw [this];rfl
  | bs ℓ n=>have:v=_:=hr;rw [this];rfl
  | tl=>cases h
  | qp r C o=>
   cases o with
   | none=>have:v=_:=hr;rw [this];rfl
   | some x=>obtain ⟨b,cs,hv,_⟩:=hr;rw [hv];rfl
  | ep r C x off=>obtain ⟨b,o,cs,hv,_⟩:=hr;rw [hv];rfl
  | em rk rv C m=>obtain ⟨a,b,es,cl,hv,_⟩:=hr;rw [hv];rfl
  | mo=>cases h
  | any=>cases h
  | rc=>cases h
  | mp rk rv C m=>obtain ⟨b,es,cl,hv,_⟩:=hr;rw [hv];rfl
  | om rk rv ℓ C m=>obtain ⟨b,es,cl,hv,_⟩:=hr;rw [hv];rfl
  | tup=>cases h
  | ag=>cases h
  | fv g l=>obtain ⟨vs,hv,_⟩:=hr;rw [hv];rfl
  | bp=>cases h
  | it=>cases h
 refine ⟨key,?_⟩
 cases v<;>first| rfl| cases key
theorem zqj {P:Program} {o:Oper} {t:TypeId} {y z:Operand} {b:Bx} {off:Nat} {a:AV} (ho:o.op= .store t y z) (hsz:∀w,(sizeOf t).run P w= .ok 1 w) (hoff:Nat.blt off b.avs.length=true) (ha:zlI a=true)
  (hf:a.free [b.lab] []=true):zH P o [(y,.ptr b.lab off),(z,a)] [b] [b.lab] [] .any [⟨b.lab,b.typ,(b.avs.map (AV.clear [b.lab] [])).set off a⟩]:=by
 intro γ av w hi hb next Q hk
 have h1:av.eval y=_:=hi (y,.ptr b.lab off) (by simp)
 have h2:=hi (z,a) (by simp)
 simp only at h2
 obtain ⟨hone',hcells⟩:=zph ha h2
 obtain ⟨hcol,cs,hh,hL,hone⟩:=hb b (by simp)
 have hoff':off<cs.length:=by rw [zbP hL];exact Nat.lt_of_succ_le (Nat.le_of_ble_eq_true hoff)
 have hst:=run_storeCells_at P (γ.box b.lab) off b.typ [av.eval z] 0 cs.toArray w hh (by simp;omega) (by simpa using hone')
 simp only [Nat.add_zero,List.length_singleton] at hst
 have hrun:(execOp av.eval o).run P w= .ok .skip (w.setRow (γ.box b.lab) (cs.set off (av.eval z)).toArray):=by
  have e:cs.take off++[av.eval z]++cs.drop (off+1)=cs.set off (av.eval z):=by
   rw [List.set_eq_take_append_cons_drop,if_pos hoff',List.append_assoc];rfl
  rw [e] at hst
  simp [execOp,ho,h1,Instr.storeAt,Instr.sureAddr,storeVar,hsz,hcells,hst]
 unfold Oper.wp
 rw [hrun,Oper.upon_skip]
 have ht:=ztu (w:=w) hcol (cs.set off (av.eval z)).toArray
 obtain ⟨f1,f2⟩:=AV.free_spec hf
 refine hk γ _ undef ht trivial fun b' hb'=>?_
 simp only [List.mem_cons,List.not_mem_nil,or_false] at hb'
 subst hb'
 refine ⟨hcol,cs.set off (av.eval z),setRow_heap w _ _ _ _ _ hh,zxM (zjx hL ht) off (a.keep ht f1 f2 h2),fun u hu=>?_⟩
 rcases List.mem_or_eq_of_mem_set hu with h| h
 ·exact hone u h
 ·rw [h];exact hone'
theorem zhb {γ:Gh} {w:World} {l m:List AV} {vs us:List Value} (h:AV.relL γ w l vs) (k:AV.relL γ w m us):AV.relL γ w (l++m) (vs++us):=by
 induction l generalizing vs with
 | nil=>cases h;exact k
 | cons a l ih=>obtain ⟨v,vs',rfl,h1,h2⟩:=h;exact ⟨v,_,rfl,h1,ih h2⟩
theorem zld {γ:Gh} {w:World}:∀(l:List AV) (vs:List Value) (k:Nat),AV.relL γ w l vs→AV.relL γ w (l.drop k) (vs.drop k)
 | [],vs,k,h=>by cases h;cases k<;>rfl
 | a::l,vs,0,h=>h
 | a::l,vs,k+1,h=>by obtain ⟨v,vs',rfl,h1,h2⟩:=h;exact zld l vs' k h2
theorem zle {γ:Gh} {w:World}:∀(l:List AV) (vs:List Value) (k:Nat),AV.relL γ w l vs→AV.relL γ w (l.take k) (vs.take k)
 | [],vs,k,h=>by cases h;cases k<;>rfl
 | a::l,vs,0,h=>rfl
 | a::l,vs,k+1,h=>by obtain ⟨v,vs',rfl,h1,h2⟩:=h;exact ⟨v,_,rfl,h1,zle l vs' k h2⟩
theorem zkG {P:Program} {o:Oper} {α:Type} {r:Rp α} {t:TypeId} {y z:Operand} {b:Bx} {off:Nat} {x:α} {C:List Nat} (as:List AV) (ho:o.op= .store t y z) (hsz:∀w,(sizeOf t).run P w= .ok r.size w)
  (hoff:Nat.ble (off+r.size) b.avs.length=true) (hC:memN b.lab C=false) (ha:zgj as=some (r.lv x)) (hl:as.all (zpg C)=true):
  zH P o [(y,.ptr b.lab off),(z,.rc r C x)] [b] [b.lab] [] .any [⟨b.lab,b.typ,(b.avs.map (AV.clear [b.lab] [])).take off++as++(b.avs.map (AV.clear [b.lab] [])).drop (off+r.size)⟩]:=by
 intro γ av w hi hb next Q hk
 have h1:av.eval y=_:=hi (y,.ptr b.lab off) (by simp)
 obtain ⟨us,hv,hA⟩:=hi (z,.rc r C x) (by simp)
 simp only at hv
 obtain ⟨hcol,cs,hh,hL,hone⟩:=hb b (by simp)
 have hus:us.length=r.size:=by rw [←hA.1];exact r.len x
 have hoff':off+r.size≤cs.length:=by rw [zbP hL];exact Nat.le_of_ble_eq_true hoff
 have hst:=run_storeCells_at P (γ.box b.lab) off b.typ us 0 cs.toArray w hh (by simp;omega) hA.one
 simp only [Nat.add_zero,hus] at hst
 have hrun:(execOp av.eval o).run P w= .ok .skip (w.setRow (γ.box b.lab) (cs.take off++us++cs.drop (off+r.size)).toArray):=by
  simp [execOp,ho,h1,hv,Instr.storeAt,Instr.sureAddr,storeVar,hsz,Value.cells,hus,hst]
 unfold Oper.wp
 rw [hrun,Oper.upon_skip]
 have ht:=ztu (w:=w) hcol (cs.take off++us++cs.drop (off+r.size)).toArray
 have hA':=ht.all (C:=C) (fun c hc h=>by
  simp only [List.mem_cons,List.not_mem_nil,or_false] at h
  subst h
  rw [zaW.2 hc] at hC;cases hC) hA
 have hL':=zjx hL ht
 refine hk γ _ undef ht trivial fun b' hb'=>?_
 simp only [List.mem_cons,List.not_mem_nil,or_false] at hb'
 subst hb'
 refine ⟨hcol,cs.take off++us++cs.drop (off+r.size),setRow_heap w _ _ _ _ _ hh,zhb (zhb (zle _ _ _ hL') (zia ha hA' hl)) (zld _ _ _ hL'),fun u hu=>?_⟩
 simp only [List.mem_append] at hu
 rcases hu with (h| h)| h
 ·exact hone u (List.mem_of_mem_take h)
 ·exact hA.one u h
 ·exact hone u (List.mem_of_mem_drop h)
end Go.Proofs.YtcbkcblkecmjnaaGreat
namespace Go.Proofs.YtcbkcblkecmjnaaGreat
open Go Go.RowKit
theorem zAE (l:List UInt8):l.flatMap Rp.byte.lv=l.map fun c=>LV.int .u8 c.toNat:=by
 induction l with
 | nil=>rfl
 | cons c l ih=>rw [List.flatMap_cons,ih];rfl
theorem zqi {P:Program} {o:Oper} {src dst e:TypeId} {x:Operand} {a:AV} {l:List UInt8} {D:List Nat} (ho:o.op= .convert src dst x) (hs:P.underlying src=some (.slice e)) (he:P.underlying e=some (.int .u8)) (hd:P.underlying dst=some .string)
  (hx:isSl Rp.byte l D a):zH P o [(x,a)] [] [] [] (.lf (.str l)) []:=by
 refine zU fun γ ev w hi _=>?_
 have h:=hx γ w _ (hi (x,a) (by simp))
 simp only at h
 obtain ⟨A,c,cs,hv,hc,hm,hA,hcs,hcell⟩:=znL h
 rw [zAE] at hA
 have hget:∀j (hj:j<l.length),cs[j]? =some (.int .u8 (l[j].toNat:Int)):=fun j hj=>by
  have hj':j<cs.length:=by rw [hcs];simpa [Rp.byte] using hj
  have:=hA.2 j (.int .u8 (l[j].toNat:Int)) cs[j] (by simp [hj]) (List.getElem?_eq_getElem hj')
  rw [List.getElem?_eq_getElem hj']
  generalize cs[j]=u at this
  cases this
  rfl
 have hrun:(convert src dst (.slice A l.length c)).run P w= .ok (.string ⟨l.toArray⟩) w:=by
  rcases Nat.eq_zero_or_pos l.length with h0| h0
  ·have:l=[]:=List.eq_nil_of_length_eq_zero h0
   subst this
   rcases A with _| ad
   ·exact run_convert_bytes_nil w src e hs he 0 c dst hd
   ·exact run_convert_bytes_back w src dst e ad c [] hs he hd (fun j hj=>absurd hj (by simp))
  ·obtain ⟨b,off,rfl,_,_,hc'⟩:=hcell h0
   refine run_convert_bytes_back w src dst e _ c l hs he hd fun j hj=>?_
   rw [zib,hc' j (by simpa [Rp.byte] using hj)]
   exact hget j hj
 exact ⟨_,w,γ,by simp [execOp,ho,hv,hrun],Tr.refl _ _ _ _,zCQ _ _ _,fun b hb=>by cases hb⟩
theorem zvN {P:Program} {o:Oper} {t:TypeId} {x y:Operand} {l:List UInt8} {k:IntKind} {i:Int} {c:UInt8} (ho:o.op= .index t x y) (ht:P.underlying t=some .string) (hx:idx l i=some c):
  zH P o [(x,.lf (.str l)),(y,.lf (.int k i))] [] [] [] (.lf (.int .u8 c.toNat)) []:=by
 refine zU fun γ ev w hi _=>?_
 have h1:=zsC (hi (x,.lf (.str l)) (by simp))
 have h2:=zdR (hi (y,.lf (.int k i)) (by simp))
 simp only at h1 h2
 obtain ⟨i0,i1,i2⟩:=zpa hx
 have hb:(⟨l.toArray⟩:ByteArray)[i.toNat]? =some c:=by
  have hlt:i.toNat<(⟨l.toArray⟩:ByteArray).size:=by simp [ByteArray.size_mk'];omega
  rw [ByteArray.getElem?_lt' _ _ hlt]
  congr 1
  have:=(List.getElem?_eq_some_iff.1 i2).2
  rw [←this];rfl
 exact ⟨_,w,γ,by simp [execOp,ho,h1,h2,Instr.index,asIntOf,run_underlying ht,i0,hb],Tr.refl _ _ _ _,zhP _ _ _ _,fun b hb=>by cases hb⟩
def remI (x y:Int):Option Int:=if y=0 then none else some (x.tmod y)
def shlO (k:IntKind) (x y:Int):Option Int:=if y<0 then none else some (shlI k x y)
def shrO (k:IntKind) (x y:Int):Option Int:=if y<0 then none else some (shrI k x y)
theorem zFB {P:Program} {o:Oper} {t t':TypeId} {x y:Operand} {k:IntKind} {m n z:Int} (ho:o.op= .binOp .rem t x y t') (hz:remI m n=some z):zH P o [(x,.lf (.int k m)),(y,.lf (.int k n))] [] [] [] (.lf (.int k z)) []:=by
 refine zU fun γ ev w hi _=>?_
 have h1:=zdR (hi (x,.lf (.int k m)) (by simp))
 have h2:=zdR (hi (y,.lf (.int k n)) (by simp))
 simp only at h1 h2
 unfold remI at hz
 split at hz
 ·cases hz
 ·rename_i hn
  cases hz
  have hk:¬(k≠k):=fun h=>h rfl
  exact ⟨_,w,γ,by simp only [execOp,ho,h1,h2,Sem.run_bind,zrB,Result.andThen_ok,binOp,if_neg hk,Op.intDiv,if_neg hn,Sem.run_pure],Tr.refl _ _ _ _,zhP _ _ _ _,fun b hb=>by cases hb⟩
theorem zyQ {P:Program} {o:Oper} {t t':TypeId} {x y:Operand} {k j:IntKind} {m n z:Int} (ho:o.op= .binOp .shl t x y t') (hz:shlO k m n=some z):zH P o [(x,.lf (.int k m)),(y,.lf (.int j n))] [] [] [] (.lf (.int k z)) []:=by
 refine zU fun γ ev w hi _=>?_
 have h1:=zdR (hi (x,.lf (.int k m)) (by simp))
 have h2:=zdR (hi (y,.lf (.int j n)) (by simp))
 simp only at h1 h2
 unfold shlO at hz
 split at hz
 ·cases hz
 ·rename_i hn
  cases hz
  exact ⟨_,w,γ,by simp only [execOp,ho,h1,h2,Sem.run_bind,zrB,Result.andThen_ok,binOp,Op.shift,if_neg hn,Sem.run_pure];rfl,Tr.refl _ _ _ _,zhP _ _ _ _,fun b hb=>by cases hb⟩
theorem ziG {P:Program} {o:Oper} {t t':TypeId} {x y:Operand} {k j:IntKind} {m n z:Int} (ho:o.op= .binOp .shr t x y t') (hz:shrO k m n=some z):zH P o [(x,.lf (.int k m)),(y,.lf (.int j n))] [] [] [] (.lf (.int k z)) []:=by
 refine zU fun γ ev w hi _=>?_
 have h1:=zdR (hi (x,.lf (.int k m)) (by simp))
 have h2:=zdR (hi (y,.lf (.int j n)) (by simp))
 simp only at h1 h2
 unfold shrO at hz
 split at hz
 ·cases hz
 ·rename_i hn
  cases hz
  exact ⟨_,w,γ,by simp only [execOp,ho,h1,h2,Sem.run_bind,zrB,Result.andThen_ok,binOp,Op.shift,if_neg hn,Sem.run_pure];rfl,Tr.refl _ _ _ _,zhP _ _ _ _,fun b hb=>by cases hb⟩
end Go.Proofs.YtcbkcblkecmjnaaGreat
namespace Go.Proofs.YtcbkcblkecmjnaaGreat
open Go Go.RowKit
inductive It where
 | c (x:Code)
 | e (id:Nat)
def zlT:Code→List It→List It
 | .seq a b,l=>zlT a (zlT b l)
 | .skip,l=>l
 | x,l=> .c x::l
def zoc (id:Nat):List It→Option (List It)
 | []=>none
 | .c _::l=>zoc id l
 | .e k::l=>match Nat.beq k id with
  | true=>some l
  | false=>zoc id l
structure Sem2 where
 n:Act→World→Prop
 x:Nat→Act→World→Prop
def semI (m:Bool) (P:Program) (Q:Exit→Act→World→Prop):List It→Sem2
 | []=>⟨Q .normal,fun id=>Q (.exit id)⟩
 | .c x::l=>⟨wq m P x fun e a w=>match e with
  | .normal=>(semI m P Q l).n a w
  | .exit id=>(semI m P Q l).x id a w
  | e=>Q e a w,(semI m P Q l).x⟩
 | .e k::l=>⟨(semI m P Q l).n,fun id a w=>if k=id then (semI m P Q l).n a w else (semI m P Q l).x id a w⟩
def wpI (m:Bool) (P:Program) (Q:Exit→Act→World→Prop) (l:List It) (a:Act) (w:World):Prop:=(semI m P Q l).n a w
def wpX (m:Bool) (P:Program) (Q:Exit→Act→World→Prop) (id:Nat) (l:List It) (a:Act) (w:World):Prop:=(semI m P Q l).x id a w
def zhk (m:Bool) (P:Program) (Q:Exit→Act→World→Prop) (l:List It):Exit→Act→World→Prop:=fun e a w=>match e with
 | .normal=>wpI m P Q l a w
 | .exit id=>wpX m P Q id l a w
 | e=>Q e a w
def JI (m:Bool) (P:Program) (l:List It) (S:Act→World→Prop) (Q:Exit→Act→World→Prop):Prop:=∀a w,S a w→wpI m P Q l a w
section
variable {m:Bool} {P:Program} {Q Q':Exit→Act→World→Prop} {S:Act→World→Prop} {l:List It} {x y c:Code}
theorem zno {a:Act} {w:World}:wpI m P Q (.c x::l) a w=wq m P x (zhk m P Q l) a w:=rfl
theorem zDN {a:Act} {w:World} {id k:Nat}:wpX m P Q id (.e k::l) a w=if k=id then wpI m P Q l a w else wpX m P Q id l a w:=rfl
theorem zpN {id:Nat} {a:Act} {w:World}:∀{l l':List It},zoc id l=some l'→wpI m P Q l' a w→wpX m P Q id l a w
 | [],_,h,_=>by cases h
 | .c _::l,_,h,k=>zpN (l:=l) h k
 | .e _::l,_,h,k=>by
  rw [zDN]
  rw [zoc] at h
  split at h
  ·rename_i hb
   cases h
   rw [if_pos (Nat.eq_of_beq_eq_true hb)];exact k
  ·rename_i hb
   rw [if_neg (fun e=>by rw [e] at hb;simp at hb)];exact zpN h k
theorem zCg:∀(x:Code) (l:List It) (id:Nat) (a:Act) (w:World),wpX m P Q id (zlT x l) a w→wpX m P Q id l a w
 | .seq p q,l,id,a,w,h=>zCg q l id a w (zCg p (zlT q l) id a w h)
 | .skip,_,_,_,_,h=>h
 | .region _ _ _,_,_,_,_,h=>h
 | .cond _ _ _,_,_,_,_,h=>h
 | .block _ _,_,_,_,_,h=>h
 | .loop _,_,_,_,_,h=>h
 | .rangeFunc _ _ _ _,_,_,_,_,h=>h
 | .exit _,_,_,_,_,h=>h
 | .scope _,_,_,_,_,h=>h
 | .label _,_,_,_,_,h=>h
 | .goto _,_,_,_,_,h=>h
 | .ret,_,_,_,_,h=>h
 | .refuse _,_,_,_,_,h=>h
theorem zhK:∀(x:Code) (l:List It) (a:Act) (w:World),wpI m P Q (zlT x l) a w→wq m P x (zhk m P Q l) a w
 | .seq p q,l,a,w,h=>by
  have h1:=zhK p (zlT q l) a w h
  refine zGb (zkm h1 fun e a' w' hq=>?_)
  cases e with
  | normal=>exact zhK q l a' w' hq
  | exit id=>exact zCg q l id a' w' hq
  | goto l=>exact hq
  | ret=>exact hq
  | panic ch=>exact hq
  | outgrown=>exact hq
 | .skip,_,_,_,h=>zEY h
 | .region _ _ _,_,_,_,h=>h
 | .cond _ _ _,_,_,_,h=>h
 | .block _ _,_,_,_,h=>h
 | .loop _,_,_,_,h=>h
 | .rangeFunc _ _ _ _,_,_,_,h=>h
 | .exit _,_,_,_,h=>h
 | .scope _,_,_,_,h=>h
 | .label _,_,_,_,h=>h
 | .goto _,_,_,_,h=>h
 | .ret,_,_,_,h=>h
 | .refuse _,_,_,_,h=>h
theorem zr (h:JI m P (zlT c []) S Q):J m P c S Q:=fun a w hs=>zkm (zhK c [] a w (h a w hs)) fun e a w hq=>by
 cases e with
 | normal=>exact hq
 | exit id=>exact hq
 | goto l=>exact hq
 | ret=>exact hq
 | panic ch=>exact hq
 | outgrown=>exact hq
theorem zCv (h:∀a w,S a w→Q .normal a w):JI m P [] S Q:=fun a w hs=>h a w hs
theorem zT {id:Nat} (h:JI m P l S Q):JI m P (.e id::l) S Q:=fun a w hs=>h a w hs
theorem zS {cx:Cx} {E:Env} {id:Nat} {ops:List Oper} (E':Env) (h:zbD P cx.n ops.toArray ops E E') (k:JI m P l (Sx cx E') Q):JI m P (.c (.region id ops.toArray false)::l) (Sx cx E) Q:=
 fun a w hs=>by rw [zno];exact zoo (h cx a w _ rfl hs fun a' w' hs'=>k a' w' hs')
theorem zCt {cx:Cx} {E:Env} {o:Operand} {b:Bool} (hl:E.opd o=some (.lf (.bool b))) (hb:b=true) (k:JI m P (zlT x l) (Sx cx E) Q):JI m P (.c (.cond o x y)::l) (Sx cx E) Q:=fun a w hs=>by
 rw [zno]
 obtain ⟨γ,hB,hS,hX⟩:=hs
 subst hb
 exact zwy (ziT (Env.opd_rel hl hS)) (zhK x l a w (k a w ⟨γ,hB,hS,hX⟩))
theorem zCs {cx:Cx} {E:Env} {o:Operand} {b:Bool} (hl:E.opd o=some (.lf (.bool b))) (hb:b=false) (k:JI m P (zlT y l) (Sx cx E) Q):JI m P (.c (.cond o x y)::l) (Sx cx E) Q:=fun a w hs=>by
 rw [zno]
 obtain ⟨γ,hB,hS,hX⟩:=hs
 subst hb
 exact zug (ziT (Env.opd_rel hl hS)) (zhK y l a w (k a w ⟨γ,hB,hS,hX⟩))
theorem zsz (h:∀a w,S a w→Q .ret a w):JI m P (.c .ret::l) S Q:=fun a w hs=>by rw [zno];exact zGa (h a w hs)
theorem zzS {id:Nat} (l':List It) (he:zoc id l=some l') (k:JI m P l' S Q):JI m P (.c (.exit id)::l) S Q:=fun a w hs=>by
 rw [zno];exact zAy (zpN he (k a w hs))
theorem ziE {id:Nat} {a:Act} {w:World}:∀{l:List It},zoc id l=none→Q (.exit id) a w→wpX m P Q id l a w
 | [],_,k=>k
 | .c _::l,h,k=>ziE (l:=l) h k
 | .e _::l,h,k=>by
  rw [zoc] at h
  split at h
  ·cases h
  ·rename_i hb
   rw [zDN,if_neg (fun e=>by rw [e] at hb;simp at hb)];exact ziE h k
theorem zCu {id:Nat} (he:zoc id l=none) (h:∀a w,S a w→Q (.exit id) a w):JI m P (.c (.exit id)::l) S Q:=fun a w hs=>by
 rw [zno];exact zAy (ziE he (h a w hs))
theorem zy {id:Nat} (k:JI m P (zlT c (.e id::l)) S Q):JI m P (.c (.block id c)::l) S Q:=fun a w hs=>by
 rw [zno]
 refine zDO (zkm (zhK c (.e id::l) a w (k a w hs)) fun e a' w' hq=>?_)
 cases e with
 | normal=>exact hq
 | exit j=>
  have hq':wpX m P Q j (.e id::l) a' w':=hq
  rw [zDN] at hq'
  by_cases hj:j=id
  ·rw [if_pos hj.symm] at hq'
   simp only [Exit.inBlock,if_pos hj];exact hq'
  ·rw [if_neg (fun e=>hj e.symm)] at hq'
   simp only [Exit.inBlock,if_neg hj];exact hq'
 | goto l=>exact hq
 | ret=>exact hq
 | panic ch=>exact hq
 | outgrown=>exact hq
end
def zdh (E E':Env):Prop:=∀cx a w,Sx cx E a w→Sx cx E' a w
theorem zrI {E E':Env} (ks bs:List Nat) (h:E.pick ks bs=some E'):zdh E E':=fun _ _ _ hs=>hs.pick h
theorem zdh.go {E E':Env} {cx:Cx} {a:Act} {w:World} (h:zdh E E') (hs:Sx cx E a w):Sx cx E' a w:=h cx a w hs
theorem zdh.trans {E E1 E':Env} (h:zdh E E1) (k:zdh E1 E'):zdh E E':=fun cx a w hs=>k cx a w (h cx a w hs)
theorem zGk {E:Env} (t:Nat) {av:AV} (av':AV) (hl:lookup E.sl t=some av) (hle:av.le av'):zdh E ⟨zgO (some t) av' E.sl,E.bx⟩:=fun cx a w hs=>by
 obtain ⟨γ,hB,hS,hX⟩:=hs
 refine ⟨γ,hB,fun p hp=>?_,hX⟩
 simp only [zgO,List.mem_cons] at hp
 rcases hp with rfl| hp
 ·exact hle γ w _ (hS _ (zdd hl))
 ·exact hS p (List.mem_filter.1 hp).1
theorem zmN {m:Bool} {P:Program} {l:List It} {cx:Cx} {E E':Env} {Q:Exit→Act→World→Prop} (h:zdh E E') (k:JI m P l (Sx cx E') Q):JI m P l (Sx cx E) Q:=fun a w hs=>k a w (h cx a w hs)
section
variable {P:Program} {N:Lim} {ops:Array Oper} {rest:List Oper} {E E1 E':Env}
theorem zGs (h:zdh E E1) (k:zbD P N ops rest E1 E'):zbD P N ops rest E E':=fun cx a w Q hn hs hQ=>k cx a w Q hn (h cx a w hs) hQ
end
end Go.Proofs.YtcbkcblkecmjnaaGreat
namespace Go.Proofs.YtcbkcblkecmjnaaGreat
open Go Go.RowKit
inductive Fact where
 | sl (k:Nat) (a:AV)
 | bx (b:Bx)
 | rs (k ℓ n:Nat)
 | ms (k ℓ:Nat)
 | lk {κ α:Type} [DecidableEq κ] (k:Nat) (rk:Rp κ) (r:Rp α) (e:TypeId) (ℓ:Nat) (C:List Nat) (m:List (κ×List α)) (q:κ)
 | ap {κ α:Type} [DecidableEq κ] (k:Nat) (rk:Rp κ) (r:Rp α) (e:TypeId) (ℓ:Nat) (C:List Nat) (m:List (κ×List α)) (q:κ) (ys:List α)
def Fact.rel (γ:Gh) (a:Act) (w:World):Fact→Prop
 | .sl k v=>v.rel γ w (a.tmps.getD k undef)
 | .bx b=>b.rel γ w
 | .rs k ℓ n=>0<n→∃c,a.tmps.getD k undef= .slice (some ⟨γ.box ℓ,0,none⟩) n c
 | .ms k ℓ=>a.tmps.getD k undef= .map (some (γ.box ℓ))
 | @Fact.lk _ _ _ k rk r e ℓ C m q=>∃b n,MoIn γ w rk r e ℓ C (fun _=>True) m b n∧a.tmps.getD k undef=(mget n q).getD (.slice none 0 0)
 | @Fact.ap _ _ _ k rk r e ℓ C m q ys=>∃b n,MoIn γ w rk r e ℓ C (fun j=>j≠q) m b n∧zjZ γ w r e ℓ C ys (a.tmps.getD k undef)∧∀j u,j≠q→mget n j=some u→zyo u (a.tmps.getD k undef)
structure OpD where
 want:Bool
 req:List Fact
 W:List Nat
 V:List Nat
 dst:Option Nat
 prod:List Fact
def zpl (d:Option Nat) (k:Nat):Bool:=match d with
 | some x=>Nat.beq x k
 | none=>false
def OpD.kills (d:OpD):Fact→Bool
 | .sl k a=>zpl d.dst k|| !a.free d.W d.V
 | .bx b=>memN b.lab d.W|| memN b.lab d.V|| !(b.avs.all fun a=>a.free d.W d.V)
 | .rs k ℓ _=>zpl d.dst k|| memN ℓ d.V
 | .ms k ℓ=>zpl d.dst k|| memN ℓ d.V
 | @Fact.lk _ _ _ k _ _ _ ℓ C _ _=>zpl d.dst k|| !((ℓ::C).all fun c=> !memN c d.W)|| memN ℓ d.V
 | @Fact.ap _ _ _ k _ _ _ ℓ C _ _ _=>zpl d.dst k|| !((ℓ::C).all fun c=> !memN c d.W)|| memN ℓ d.V
def zsI (d:OpD) (L:List Fact):List Fact:=d.prod++L.filter fun f=> !d.kills f
theorem zuP {γ γ':Gh} {w w':World} {W V:List Nat} {l:List AV} {vs:List Value} (h:AV.relL γ w l vs) (t:Tr W V γ w γ' w') (hf:(l.all fun a=>a.free W V)=true):AV.relL γ' w' l vs:=by
 induction l generalizing vs with
 | nil=>exact h
 | cons a l ih=>
  obtain ⟨v,vs',rfl,h1,h2⟩:=h
  simp only [List.all_cons,Bool.and_eq_true] at hf
  obtain ⟨f1,f2⟩:=AV.free_spec hf.1
  exact ⟨v,vs',rfl,a.keep t f1 f2 h1,ih h2 hf.2⟩
theorem zrQ {d:Option Nat} {k:Nat} {a:Act} {v:Value} (h:zpl d k=false):(a.put d v).tmps.getD k undef=a.tmps.getD k undef:=by
 cases d with
 | none=>rfl
 | some x=>exact zkW (fun e=>by rw [e] at h;simp [zpl] at h)
theorem offW {l W:List Nat} (h:(l.all fun c=> !memN c W)=true):∀c∈l,c∉W:=fun c hc hw=>by
 simp only [List.all_eq_true,Bool.not_eq_true'] at h
 have:=h c hc
 rw [zaW.2 hw] at this;cases this
theorem Fact.keep {d:OpD} {f:Fact} {γ γ':Gh} {a:Act} {w w':World} (h:f.rel γ a w) (t:Tr d.W d.V γ w γ' w') (hk:d.kills f=false) (v:Value):f.rel γ' (a.put d.dst v) w':=by
 cases f with
 | sl k av=>
  simp only [OpD.kills,Bool.or_eq_false_iff,Bool.not_eq_false'] at hk
  obtain ⟨f1,f2⟩:=AV.free_spec hk.2
  have hr:=av.keep t f1 f2 h
  show av.rel γ' w' ((a.put d.dst v).tmps.getD k undef)
  cases hd:d.dst with
  | none=>exact hr
  | some x=>
   rw [hd] at hk
   rw [zkW (fun e=>by rw [e] at hk;simp [zpl] at hk)]
   exact hr
 | bx b=>
  simp only [OpD.kills,Bool.or_eq_false_iff,Bool.not_eq_false'] at hk
  obtain ⟨⟨h1,h2⟩,h3⟩:=hk
  obtain ⟨hc,cs,hh,hL,hone⟩:=h
  have hlt:γ.box b.lab<w.heap.size:=(Array.getElem?_eq_some_iff.1 hh).1
  have n1:b.lab∉d.W:=fun hm=>by rw [zaW.2 hm] at h1;cases h1
  have n2:b.lab∉d.V:=fun hm=>by rw [zaW.2 hm] at h2;cases h2
  refine ⟨by rw [t.box _ n2,t.col _ hlt];exact hc,cs,?_,zuP hL t h3,hone⟩
  rw [t.box _ n2,t.block _ hlt (by rw [hc];exact n1)];exact hh
 | rs k ℓ n=>
  simp only [OpD.kills,Bool.or_eq_false_iff] at hk
  intro hn
  obtain ⟨c,hc⟩:=h hn
  have n2:ℓ∉d.V:=fun hm=>by have:=hk.2;rw [zaW.2 hm] at this;cases this
  refine ⟨c,?_⟩
  rw [t.box _ n2,←hc]
  cases hd:d.dst with
  | none=>rfl
  | some x=>rw [zkW (fun e=>by have:=hk.1;rw [hd,e] at this;simp [zpl] at this)]
 | ms k ℓ=>
  simp only [OpD.kills,Bool.or_eq_false_iff] at hk
  have n2:ℓ∉d.V:=fun hm=>by have:=hk.2;rw [zaW.2 hm] at this;cases this
  show _=_
  rw [t.box _ n2,zrQ hk.1];exact h
 | lk k rk r e ℓ C m q=>
  simp only [OpD.kills,Bool.or_eq_false_iff,Bool.not_eq_false'] at hk
  obtain ⟨b,n,hm,hv⟩:=h
  have hW:=offW hk.1.2
  exact ⟨b,n,hm.keep t (hW ℓ List.mem_cons_self) (fun c hc=>hW c (List.mem_cons_of_mem _ hc)) (fun hc=>by have:=hk.2;rw [zaW.2 hc] at this;cases this),by rw [zrQ hk.1.1];exact hv⟩
 | ap k rk r e ℓ C m q ys=>
  simp only [OpD.kills,Bool.or_eq_false_iff,Bool.not_eq_false'] at hk
  obtain ⟨b,n,hm,hr,ha⟩:=h
  have hW:=offW hk.1.2
  have h1:=hW ℓ List.mem_cons_self
  have h2:=fun c (hc:c∈C)=>hW c (List.mem_cons_of_mem _ hc)
  refine ⟨b,n,hm.keep t h1 h2 (fun hc=>by have:=hk.2;rw [zaW.2 hc] at this;cases this),?_,?_⟩
  ·rw [zrQ hk.1.1];exact hr.keep t h1 h2
  ·rw [zrQ hk.1.1];exact ha
structure Does (P:Program) (ops:Array Oper) (cx:Cx) (i:Nat) (d:OpD):Prop where
 oper:∃o,ops[i]? =some o∧o.dst=d.dst∧∀(γ:Gh) (a:Act) (w:World),Base cx γ a w→(∀f∈d.req,f.rel γ a w)→Region.wanted o (yielded ops a.tmps)=d.want∧
  (d.want=true→∀(next:Act→World→Prop) (Q:Exit→Act→World→Prop),(∀γ' w' v,Tr d.W d.V γ w γ' w'→(∀f∈d.prod,f.rel γ' (a.put d.dst v) w')→next (a.put d.dst v) w')→opq P o a w next Q)∧
  (d.want=false→∀f∈d.prod,f.rel γ (a.put d.dst undef) w)
 okW:okW d.W=true
 okV:YtcbkcblkecmjnaaGreat.okW d.V=true
 kept:∀k,d.dst=some k→k∉cx.n.keep
 none_:d.want=false→d.W=[]∧d.V=[]
def zqk (acc:List Nat):List Edge→Nat
 | []=>0
 | e::l=>match Region.binds .any e with
  | true=>2^e.on||| acc.getD e.on 0||| zqk acc l
  | false=>zqk acc l
def zsH:List Oper→List Nat→List Nat
 | [],acc=>acc
 | o::l,acc=>zsH l (acc++[zqk acc o.after.toList])
def zmw (ops:Array Oper) (D:Nat→Prop):Prop:=∀(j:Nat) (o:Oper),ops[j]? =some o→D j→∀e∈o.after,Region.binds .any e=true→D e.on
theorem zmS {D:Nat→Prop} {acc:List Nat} (hacc:∀k m,acc[k]? =some m→D k→∀i,m.testBit i=true→D i):∀(l:List Edge),(∀e∈l,Region.binds .any e=true→D e.on)→∀i,(zqk acc l).testBit i=true→D i
 | [],_,i,h=>by simp [zqk] at h
 | e::l,hl,i,h=>by
  rw [zqk] at h
  split at h
  ·rename_i hb
   have he:=hl e List.mem_cons_self hb
   rw [Nat.testBit_or,Nat.testBit_or,Bool.or_eq_true,Bool.or_eq_true] at h
   rcases h with (h| h)| h
   ·rw [Nat.testBit_two_pow] at h
    simp at h
    rw [←h];exact he
   ·cases hk:acc[e.on]? with
    | none=>simp [List.getD,hk] at h
    | some m=>simp [List.getD,hk] at h;exact hacc _ _ hk he i h
   ·exact zmS hacc l (fun x hx=>hl x (List.mem_cons_of_mem _ hx)) i h
  ·exact zmS hacc l (fun x hx=>hl x (List.mem_cons_of_mem _ hx)) i h
theorem zoy {ops:Array Oper} {D:Nat→Prop} (hD:zmw ops D):∀(l:List Oper) (acc:List Nat),(∀j,l[j]? =ops[acc.length+j]?)→(∀k m,acc[k]? =some m→D k→∀i,m.testBit i=true→D i)→
  ∀k m,(zsH l acc)[k]? =some m→D k→∀i,m.testBit i=true→D i
 | [],acc,_,h=>h
 | o::l,acc,hl,h=>by
  have ho:ops[acc.length]? =some o:=by have:=hl 0;simpa using this.symm
  refine zoy hD l _ (fun j=>by have:=hl (j+1);simp at this;rw [this];congr 1;simp;omega) fun k m hk hDk=>?_
  rw [List.getElem?_append] at hk
  split at hk
  ·exact h k m hk hDk
  ·rename_i hkl
   have hk0:k - acc.length=0:=by
    have:=(List.getElem?_eq_some_iff.1 hk).1
    simp at this;omega
   rw [hk0] at hk
   simp at hk
   have hke:k=acc.length:=by omega
   subst hke hk
   exact zmS h _ fun e he hb=>hD _ o ho hDk e (by simpa using he) hb
def zgX (di dj:OpD):Bool:=(di.req++di.prod).any dj.kills|| (dj.req++dj.prod).any di.kills
def zmB:List OpD→List Fact→List (List Fact)
 | [],_=>[]
 | d::ds,L=>L::zmB ds (zsI d L)
def endF:List OpD→List Fact→List Fact
 | [],L=>L
 | d::ds,L=>endF ds (zsI d L)
def From (ds:List OpD) (L0:List Fact) (n:Nat) (f:Fact):Prop:=
 (f∈L0∧∀j d,j<n→ds[j]? =some d→d.kills f=false)∨∃p dp,p<n∧ds[p]? =some dp∧f∈dp.prod∧∀j d,p<j→j<n→ds[j]? =some d→d.kills f=false
theorem zAK {ds:List OpD} {L0:List Fact} {n:Nat} {d:OpD} (hd:ds[n]? =some d) {L:List Fact} (h:∀f∈L,From ds L0 n f):∀f∈zsI d L,From ds L0 (n+1) f:=by
 intro f hf
 simp only [zsI,List.mem_append,List.mem_filter,Bool.not_eq_true'] at hf
 rcases hf with hf| ⟨hf,hk⟩
 ·exact .inr ⟨n,d,by omega,hd,hf,fun j dj h1 h2=>by omega⟩
 ·rcases h f hf with ⟨h0,hn⟩| ⟨p,dp,hp,hdp,hfp,hn⟩
  ·refine .inl ⟨h0,fun j dj hj hdj=>?_⟩
   by_cases hjn:j=n
   ·subst hjn;rw [hd] at hdj;cases hdj;exact hk
   ·exact hn j dj (by omega) hdj
  ·refine .inr ⟨p,dp,by omega,hdp,hfp,fun j dj h1 h2 hdj=>?_⟩
   by_cases hjn:j=n
   ·subst hjn;rw [hd] at hdj;cases hdj;exact hk
   ·exact hn j dj h1 (by omega) hdj
theorem zsu {ds0:List OpD} {L0:List Fact}:∀(ds:List OpD) (n:Nat) (L:List Fact),(∀j,ds[j]? =ds0[n+j]?)→(∀f∈L,From ds0 L0 n f)→
  (∀j Lj,(zmB ds L)[j]? =some Lj→∀f∈Lj,From ds0 L0 (n+j) f)∧∀f∈endF ds L,From ds0 L0 (n+ds.length) f
 | [],n,L,_,h=>⟨fun j Lj hj=>by simp [zmB] at hj,fun f hf=>h f hf⟩
 | d::ds,n,L,hds,h=>by
  have hd:ds0[n]? =some d:=by have:=hds 0;simpa using this.symm
  obtain ⟨g1,g2⟩:=zsu ds (n+1) (zsI d L) (fun j=>by have:=hds (j+1);simp at this;rw [this];congr 1;omega) (zAK hd h)
  refine ⟨fun j Lj hj=>?_,fun f hf=>?_⟩
  ·cases j with
   | zero=>simp [zmB] at hj;subst hj;exact h
   | succ j=>
    have:=g1 j Lj (by simpa [zmB] using hj)
    rwa [show n+(j+1)=n+1+j by omega]
  ·have:=g2 f hf
   rwa [show n+(d::ds).length=n+1+ds.length by simp;omega]
def zrO (ms:List Nat):Nat→OpD→Nat→List OpD→Bool
 | _,_,_,[]=>true
 | i,di,j,dj::l=>(match zgX di dj with
  | true=>(ms.getD j 0).testBit i
  | false=>true)&&zrO ms i di (j+1) l
def zmW (ms:List Nat):Nat→List OpD→Bool
 | _,[]=>true
 | i,d::l=>zrO ms i d (i+1) l&&zmW ms (i+1) l
theorem zpm {ms:List Nat} {i:Nat} {di:OpD}:∀(l:List OpD) (j:Nat),zrO ms i di j l=true→∀k dk,l[k]? =some dk→zgX di dk=true→(ms.getD (j+k) 0).testBit i=true
 | [],j,_,k,dk,hk,_=>by simp at hk
 | d::l,j,h,k,dk,hk,hc=>by
  simp only [zrO,Bool.and_eq_true] at h
  cases k with
  | zero=>
   simp at hk;subst hk
   have:=h.1
   rw [hc] at this
   exact this
  | succ k=>
   have:=zpm l (j+1) h.2 k dk (by simpa using hk) hc
   rwa [show j+(k+1)=j+1+k by omega]
theorem zmX {ms:List Nat}:∀(l:List OpD) (n:Nat),zmW ms n l=true→∀i k di dk,i<k→l[i]? =some di→l[k]? =some dk→zgX di dk=true→(ms.getD (n+k) 0).testBit (n+i)=true
 | [],n,_,i,k,di,dk,_,hi,_,_=>by simp at hi
 | d::l,n,h,i,k,di,dk,hik,hi,hk,hc=>by
  simp only [zmW,Bool.and_eq_true] at h
  cases k with
  | zero=>omega
  | succ k=>
   cases i with
   | zero=>
    simp at hi;subst hi
    have:=zpm l (n+1) h.1 k dk (by simpa using hk) hc
    rwa [show n+(k+1)=n+1+k by omega]
   | succ i=>
    have:=zmX l (n+1) h.2 i k di dk (by omega) (by simpa using hi) (by simpa using hk) hc
    rwa [show n+(k+1)=n+1+k by omega,show n+(i+1)=n+1+i by omega]
def zuk (ds:List OpD) (L0:List Fact) (D:Nat→Prop) (γ:Gh) (a:Act) (w:World):Prop:=
 (∀f∈L0,(∀j d,D j→ds[j]? =some d→d.kills f=false)→f.rel γ a w)∧
 ∀i di,D i→ds[i]? =some di→∀f∈di.prod,(∀j d,D j→i<j→ds[j]? =some d→d.kills f=false)→f.rel γ a w
theorem zkF {di dj:OpD} {f:Fact} (hf:f∈di.req∨f∈di.prod) (hk:dj.kills f=true):zgX di dj=true∧zgX dj di=true:=by
 have:f∈di.req++di.prod:=by simpa using hf
 have h1:(di.req++di.prod).any dj.kills=true:=List.any_eq_true.2 ⟨f,this,hk⟩
 exact ⟨by rw [zgX,h1];rfl,by rw [zgX,h1,Bool.or_true]⟩
section
variable {P:Program} {ops:Array Oper} {ds:List OpD} {L0:List Fact} {D:Nat→Prop} {cx:Cx}
theorem zxx {ms:List Nat} (hms:ms=zsH ops.toList []) (ho:zmW ms 0 ds=true) (hD:zmw ops D) {i j:Nat} {di dj:OpD} (hij:i<j) (hi:ds[i]? =some di) (hj:ds[j]? =some dj) (hc:zgX di dj=true) (hDj:D j):D i:=by
 have hb:=zmX ds 0 ho i j di dj hij hi hj hc
 simp only [Nat.zero_add] at hb
 cases hm:ms[j]? with
 | none=>simp [List.getD,hm] at hb
 | some m=>
  simp [List.getD,hm] at hb
  subst hms
  exact zoy hD ops.toList [] (fun j=>by simp) (fun k m hk=>by simp at hk) j m hm hDj i hb
theorem zAL {ms:List Nat} (hms:ms=zsH ops.toList []) (ho:zmW ms 0 ds=true) (hD:zmw ops D) {i:Nat} {di:OpD} (hi:ds[i]? =some di) (hDi:¬D i) (hpre:∀j,j<i→(ms.getD i 0).testBit j=true→D j)
  (hfrom:∀f∈di.req,From ds L0 i f) (hprod:∀(j:Nat) (d:OpD) (f:Fact),ds[j]? =some d→f∈d.prod→d.kills f=true) {γ:Gh} {a:Act} {w:World} (h:zuk ds L0 D γ a w):∀f∈di.req,f.rel γ a w:=by
 intro f hf
 have later:∀j d,D j→ds[j]? =some d→d.kills f=true→j<i:=fun j d hDj hj hk=>by
  rcases Nat.lt_trichotomy j i with h| h| h
  ·exact h
  ·subst h;exact absurd hDj hDi
  ·exact absurd (zxx hms ho hD h hi hj (zkF (.inl hf) hk).1 hDj) hDi
 rcases hfrom f hf with ⟨h0,hn⟩| ⟨p,dp,hp,hdp,hfp,hn⟩
 ·refine h.1 f h0 fun j d hDj hj=>?_
  cases hk:d.kills f with
  | false=>rfl
  | true=>rw [hn j d (later j d hDj hj hk) hj] at hk;cases hk
 ·have hk:=hprod p dp f hdp hfp
  have hb:=zmX ds 0 ho p i dp di hp hdp hi (zkF (.inl hf) hk).2
  simp only [Nat.zero_add] at hb
  have hDp:D p:=hpre p hp hb
  refine h.2 p dp hDp hdp f hfp fun j d hDj hpj hj=>?_
  cases hk:d.kills f with
  | false=>rfl
  | true=>rw [hn j d hpj (later j d hDj hj hk) hj] at hk;cases hk
theorem zyC {ms:List Nat} (hms:ms=zsH ops.toList []) (ho:zmW ms 0 ds=true) (hD:zmw ops D) {i:Nat} {di:OpD} (hi:ds[i]? =some di) (hDi:¬D i) {γ γ':Gh} {a:Act} {w w':World} {v:Value} (h:zuk ds L0 D γ a w)
  (ht:Tr di.W di.V γ w γ' w') (hp:∀f∈di.prod,f.rel γ' (a.put di.dst v) w'):zuk ds L0 (fun j=>D j∨j=i) γ' (a.put di.dst v) w':=by
 refine ⟨fun f hf hk=>?_,fun p dp hDp hdp f hf hk=>?_⟩
 ·exact Fact.keep (h.1 f hf fun j d hDj hj=>hk j d (.inl hDj) hj) ht (hk i di (.inr rfl) hi) v
 ·by_cases hpi:p=i
  ·subst hpi
   rw [hi] at hdp;cases hdp
   exact hp f hf
  ·have hDp':D p:=hDp.resolve_right hpi
   refine Fact.keep (h.2 p dp hDp' hdp f hf fun j d hDj hpj hj=>hk j d (.inl hDj) hpj hj) ht ?_ v
   rcases Nat.lt_or_ge p i with hlt| hge
   ·exact hk i di (.inr rfl) hlt hi
   ·cases hkk:di.kills f with
    | false=>rfl
    | true=>exact absurd (zxx hms ho hD (by omega) hi hdp (zkF (.inr hf) hkk).2 hDp') hDi
def zgG (listed:Array Bool):Nat→Prop:=fun i=>listed.getD i false=true
theorem zoS {listed:Array Bool} (hD:zmw ops (zgG listed)) {i:Nat} (hr:i∈Region.ready .any ops listed):zmw ops fun j=>zgG listed j∨j=i:=by
 intro j o hj hDj e he hb
 rcases hDj with hDj| rfl
 ·exact .inl (hD j o hj hDj e he hb)
 ·obtain ⟨_,o',ho',hall⟩:=mem_ready.1 hr
  rw [hj] at ho';cases ho'
  exact .inl (hall e he hb)
theorem zyN {listed:Array Bool} {i:Nat} (hi:i<listed.size) (j:Nat):zgG (listed.setIfInBounds i true) j↔zgG listed j∨j=i:=by
 unfold zgG
 simp only [Array.getD_eq_getD_getElem?]
 by_cases hji:j=i
 ·subst hji
  rw [Array.getElem?_setIfInBounds_self_of_lt hi]
  simp
 ·rw [Array.getElem?_setIfInBounds_ne (Ne.symm hji)]
  simp [hji]
theorem zyn {listed:Array Bool} (hs:listed.size=ops.size) (hdown:∀(i:Nat) (o:Oper),ops[i]? =some o→∀e∈o.after,Region.binds .any e=true→e.on<i) (hr:Region.ready .any ops listed=[]):∀i,i<ops.size→zgG listed i:=by
 intro i
 induction i using Nat.strongRecOn with
 | _ i ih=>
  intro hi
  cases hl:listed.getD i false with
  | true=>exact hl
  | false=>
   exfalso
   have:i∈Region.ready .any ops listed:=by
    refine mem_ready.2 ⟨?_,ops[i],Array.getElem?_eq_getElem hi,fun e he hb=>?_⟩
    ·have hi':i<listed.size:=by omega
     simp only [Array.getD_eq_getD_getElem?,Array.getElem?_eq_getElem hi',Option.getD_some] at hl⊢
     exact hl
    ·have:=hdown i ops[i] (Array.getElem?_eq_getElem hi) e he hb
     exact ih e.on this (by omega)
   rw [hr] at this
   cases this
theorem zvi {ms:List Nat} (hms:ms=zsH ops.toList []) (ho:zmW ms 0 ds=true) (hlen:ds.length=ops.size) (hdoes:∀i di,ds[i]? =some di→Does P ops cx i di)
  (hfrom:∀i di,ds[i]? =some di→∀f∈di.req,From ds L0 i f) (hprod:∀(j:Nat) (d:OpD) (f:Fact),ds[j]? =some d→f∈d.prod→d.kills f=true)
  (hdown:∀(i:Nat) (o:Oper),ops[i]? =some o→∀e∈o.after,Region.binds .any e=true→e.on<i) {Q:Exit→Act→World→Prop}
  (hQ:∀γ a w,Base cx γ a w→zuk ds L0 (fun j=>j<ops.size) γ a w→Q .normal a w):
  ∀(fuel:Nat) (listed:Array Bool) (γ:Gh) (a:Act) (w:World),listed.size=ops.size→zmw ops (zgG listed)→(listed.toList.filter (·==false)).length≤fuel→
   Base cx γ a w→zuk ds L0 (zgG listed) γ a w→anyq P ops Q fuel listed a w:=by
 have fin:∀(listed:Array Bool) (γ:Gh) (a:Act) (w:World),listed.size=ops.size→Region.ready .any ops listed=[]→Base cx γ a w→zuk ds L0 (zgG listed) γ a w→Q .normal a w:=by
  intro listed γ a w hs hr hB hH
  have hall:=zyn hs hdown hr
  have hlt:∀j d,ds[j]? =some d→j<ops.size:=fun j d hj=>by rw [←hlen];exact (List.getElem?_eq_some_iff.1 hj).1
  exact hQ γ a w hB ⟨fun f hf hk=>hH.1 f hf fun j d _ hj=>hk j d (hlt j d hj) hj,fun i di _ hdi f hf hk=>hH.2 i di (hall i (hlt i di hdi)) hdi f hf fun j d _ hij hj=>hk j d (hlt j d hj) hij hj⟩
 intro fuel
 induction fuel with
 | zero=>
  intro listed γ a w hs hD hcnt hB hH
  have hr:Region.ready .any ops listed=[]:=by
   cases hre:Region.ready .any ops listed with
   | nil=>rfl
   | cons i l=>
    exfalso
    have hi:i∈Region.ready .any ops listed:=by rw [hre];exact List.mem_cons_self
    obtain ⟨hun,o,hoi,_⟩:=mem_ready.1 hi
    have hil:i<listed.size:=by rw [hs];exact (Array.getElem?_eq_some_iff.1 hoi).1
    have hm:false∈listed.toList:=by
     simp only [Array.getD_eq_getD_getElem?,Array.getElem?_eq_getElem hil,Option.getD_some] at hun
     rw [←hun];simp
    have:false∈listed.toList.filter (·==false):=List.mem_filter.2 ⟨hm,rfl⟩
    rw [List.eq_nil_of_length_eq_zero (Nat.le_zero.1 hcnt)] at this
    cases this
  exact fun _=>⟨hr,fin listed γ a w hs hr hB hH⟩
 | succ fuel ih=>
  intro listed γ a w hs hD hcnt hB hH
  refine fun ro=>⟨fun hr=>fin listed γ a w hs hr hB hH,fun i hi=>?_⟩
  obtain ⟨hun,o,hoi,hall⟩:=mem_ready.1 hi
  have hilt:i<ops.size:=(Array.getElem?_eq_some_iff.1 hoi).1
  have hil:i<listed.size:=by omega
  have hid:i<ds.length:=by omega
  have hdi:ds[i]? =some ds[i]:=List.getElem?_eq_getElem hid
  have hnot:¬zgG listed i:=by
   unfold zgG
   simp only [Array.getD_eq_getD_getElem?,Array.getElem?_eq_getElem hil,Option.getD_some] at hun⊢
   rw [hun];exact Bool.false_ne_true
  obtain ⟨o',ho',hdst,hdo⟩:=(hdoes i _ hdi).oper
  rw [hoi] at ho';cases ho'
  have hreq:=zAL hms ho hD hdi hnot (fun j hj hb=>by
   have hm:=zoy (zoS hD hi) ops.toList [] (fun j=>by simp) (fun k m hk=>by simp at hk)
   cases hk:ms[i]? with
   | none=>simp [List.getD,hk] at hb
   | some m=>
    simp [List.getD,hk] at hb
    subst hms
    rcases hm i m hk (.inr rfl) j hb with h| h
    ·exact h
    ·omega) (hfrom i _ hdi) hprod hH
  obtain ⟨hw,hT,hF⟩:=hdo γ a w hB hreq
  have next:∀(γ':Gh) (w':World) (v:Value),Tr (ds[i]).W (ds[i]).V γ w γ' w'→(∀f∈(ds[i]).prod,f.rel γ' (a.put (ds[i]).dst v) w')→anyq P ops Q fuel (listed.setIfInBounds i true) (a.put o.dst v) w':=by
   intro γ' w' v ht hp
   have hcnt':((listed.setIfInBounds i true).toList.filter (·==false)).length≤fuel:=by
    have hli:listed.toList[i]? =some false:=by
     rw [Array.getElem?_toList,Array.getElem?_eq_getElem hil]
     simp only [Array.getD_eq_getD_getElem?,Array.getElem?_eq_getElem hil,Option.getD_some] at hun
     rw [hun]
    have key:∀(l:List Bool) (i:Nat),l[i]? =some false→((l.set i true).filter (·==false)).length+1=(l.filter (·==false)).length:=by
     intro l
     induction l with
     | nil=>intro i h;simp at h
     | cons x l ihl=>
      intro i h
      cases i with
      | zero=>simp at h;subst h;simp
      | succ i=>
       have:=ihl i (by simpa using h)
       cases x<;>simp at this⊢<;>omega
    have:=key listed.toList i hli
    rw [Array.toList_setIfInBounds]
    omega
   rw [hdst]
   have hB':=(hB.tr ht (hdoes i _ hdi).okW (hdoes i _ hdi).okV).put (ds[i]).dst v (hdoes i _ hdi).kept
   have hH':=zyC hms ho hD hdi hnot hH ht hp
   have hset:∀j,zgG (listed.setIfInBounds i true) j↔zgG listed j∨j=i:=zyN hil
   have hD':zmw ops (zgG (listed.setIfInBounds i true)):=fun j o hj hDj e he hb=>(hset _).2 (zoS hD hi j o hj ((hset j).1 hDj) e he hb)
   exact ih _ γ' _ w' (by simp [hs]) hD' hcnt' hB' ⟨fun f hf hk=>hH'.1 f hf fun j d hDj hj=>hk j d ((hset j).2 hDj) hj,fun p dp hDp hdp f hf hk=>hH'.2 p dp ((hset p).1 hDp) hdp f hf fun j d hDj hpj hj=>hk j d ((hset j).2 hDj) hpj hj⟩
  unfold wpOpIn
  rw [hoi]
  simp only
  cases hwant:(ds[i]).want with
  | true=>
   rw [if_pos (by rw [hw,hwant])]
   refine Oper.wpIn_mono (fun a w h=>h ro) (hT hwant (anyq P ops Q fuel (listed.setIfInBounds i true)) Q (fun γ' w' v ht hp=>?_) ro)
   rw [←hdst]
   exact next γ' w' v ht hp
  | false=>
   rw [if_neg (by rw [hw,hwant];exact Bool.false_ne_true)]
   obtain ⟨e1,e2⟩:=(hdoes i _ hdi).none_ hwant
   exact ⟨fun _ _=>trivial,next γ w undef (by rw [e1,e2];exact Tr.refl _ _ _ _) (hF hwant) ro⟩
end
def rsOf:List (Nat×AV)→List Fact
 | []=>[]
 | (k,.own _ _ ℓ _ xs)::l=> .rs k ℓ xs.length::rsOf l
 | (k,@AV.mo _ _ _ _ _ _ ℓ _ _)::l=> .ms k ℓ::rsOf l
 | _::l=>rsOf l
def znu (E:Env):List Fact:=E.sl.map (fun p=>Fact.sl p.1 p.2)++E.bx.map Fact.bx++rsOf E.sl
theorem znJ:∀{l:List (Nat×AV)} {f:Fact},f∈rsOf l→(∃k ℓ n,f= .rs k ℓ n)∨∃k ℓ,f= .ms k ℓ
 | [],f,h=>by cases h
 | (k,x)::l,f,h=>by
  cases x with
  | own r e ℓ C xs=>
   simp only [rsOf,List.mem_cons] at h
   rcases h with rfl| h
   ·exact .inl ⟨_,_,_,rfl⟩
   ·exact znJ h
  | mo rk r e ℓ C m=>
   simp only [rsOf,List.mem_cons] at h
   rcases h with rfl| h
   ·exact .inr ⟨_,_,rfl⟩
   ·exact znJ h
  | _=>exact znJ (l:=l) h
theorem zxP {γ:Gh} {a:Act} {w:World}:∀{l:List (Nat×AV)},Sl γ w a l→∀f∈rsOf l,f.rel γ a w
 | [],_,f,hf=>by cases hf
 | (k,x)::l,h,f,hf=>by
  have hx:x.rel γ w (a.tmps.getD k undef):=h (k,x) List.mem_cons_self
  have ht:=fun f hf=>zxP (l:=l) (fun p hp=>h p (List.mem_cons_of_mem _ hp)) f hf
  cases x with
  | own r e ℓ C xs=>
   simp only [rsOf,List.mem_cons] at hf
   rcases hf with rfl| hf
   ·intro hn
    obtain ⟨cs,ho,hg,_⟩:=hx
    rcases ho.2 with ⟨_,h0⟩| ⟨g,cap,cur,hv,_⟩
    ·omega
    ·exact ⟨cap,by rw [hv,(hg g (by rw [hv];rfl)).2]⟩
   ·exact ht f hf
  | mo rk r e ℓ C m=>
   simp only [rsOf,List.mem_cons] at hf
   rcases hf with rfl| hf
   ·obtain ⟨b,n,hv,es,cl,⟨g1,g2⟩,_⟩:=hx
    show _=_
    rw [g2];exact hv
   ·exact ht f hf
  | _=>exact ht f hf
def zeV:List Fact→Env
 | []=>⟨[],[]⟩
 | .sl k a::l=>⟨(k,a)::(zeV l).sl,(zeV l).bx⟩
 | .bx b::l=>⟨(zeV l).sl,b::(zeV l).bx⟩
 | .rs _ _ _::l=>zeV l
 | .ms _ _::l=>zeV l
 | @Fact.lk _ _ _ _ _ _ _ _ _ _ _::l=>zeV l
 | @Fact.ap _ _ _ _ _ _ _ _ _ _ _ _::l=>zeV l
theorem ziZ {L:List Fact}:(∀p∈(zeV L).sl,Fact.sl p.1 p.2∈L)∧∀b∈(zeV L).bx,Fact.bx b∈L:=by
 induction L with
 | nil=>
  refine ⟨?_,?_⟩
  ·intro p hp;cases hp
  ·intro b hb;cases hb
 | cons f L ih=>
  cases f with
  | sl k a=>
   refine ⟨fun p hp=>?_,fun b hb=>List.mem_cons_of_mem _ (ih.2 b hb)⟩
   cases hp with
   | head=>exact List.mem_cons_self
   | tail _ hp=>exact List.mem_cons_of_mem _ (ih.1 p hp)
  | bx b=>
   refine ⟨fun p hp=>List.mem_cons_of_mem _ (ih.1 p hp),fun c hc=>?_⟩
   cases hc with
   | head=>exact List.mem_cons_self
   | tail _ hc=>exact List.mem_cons_of_mem _ (ih.2 c hc)
  | rs k ℓ n=>exact ⟨fun p hp=>List.mem_cons_of_mem _ (ih.1 p hp),fun b hb=>List.mem_cons_of_mem _ (ih.2 b hb)⟩
  | ms k ℓ=>exact ⟨fun p hp=>List.mem_cons_of_mem _ (ih.1 p hp),fun b hb=>List.mem_cons_of_mem _ (ih.2 b hb)⟩
  | lk=>exact ⟨fun p hp=>List.mem_cons_of_mem _ (ih.1 p hp),fun b hb=>List.mem_cons_of_mem _ (ih.2 b hb)⟩
  | ap=>exact ⟨fun p hp=>List.mem_cons_of_mem _ (ih.1 p hp),fun b hb=>List.mem_cons_of_mem _ (ih.2 b hb)⟩
inductive zjf where
 | ev
 | ex (bl:List Nat) (W V:List Nat) (av:AV) (bs:List Bx)
 | raw (ix W V:List Nat) (prod:List Fact)
structure DIn where
 ins:List (Operand×AV)
 bxs:List Bx
 rq:List Fact
def nthF:List Fact→Nat→Option Fact
 | [],_=>none
 | f::_,0=>some f
 | _::l,n+1=>nthF l n
theorem zxv:∀{l:List Fact} {n:Nat} {f:Fact},nthF l n=some f→f∈l
 | [],_,_,h=>by cases h
 | _::_,0,_,h=>by cases h;exact List.mem_cons_self
 | _::l,n+1,f,h=>List.mem_cons_of_mem _ (zxv (l:=l) (n:=n) h)
def zAh (L:List Fact):List Nat→Option (List Fact)
 | []=>some []
 | n::l=>match nthF L n,zAh L l with
  | some f,some r=>some (f::r)
  | _,_=>none
theorem zuJ {L:List Fact}:∀{ix:List Nat} {r:List Fact},zAh L ix=some r→∀f∈r,f∈L
 | [],r,h,f,hf=>by cases h;cases hf
 | n::ix,r,h,f,hf=>by
  rw [zAh] at h
  split at h
  ·rename_i x r' hx hr
   cases h
   cases hf with
   | head=>exact zxv hx
   | tail _ hf=>exact zuJ hr f hf
  ·cases h
def zqO (P:Program) (o:Oper) (rq:List Fact) (W V:List Nat) (prod:List Fact):Prop:=
 ∀(γ:Gh) (a:Act) (w:World),(∀k,o.dst=some k→k<a.tmps.size)→(∀f∈rq,f.rel γ a w)→∀(next:Act→World→Prop) (Q:Exit→Act→World→Prop),
  (∀γ' w' v,Tr W V γ w γ' w'→(∀f∈prod,f.rel γ' (a.put o.dst v) w')→next (a.put o.dst v) w')→opq P o a w next Q
def ziL:List (Operand×AV)→List Fact
 | []=>[]
 | (.tmp k,a)::l=> .sl k a::ziL l
 | _::l=>ziL l
def slOf (d:Option Nat) (a:AV):List Fact:=match d with
 | some k=>[.sl k a]
 | none=>[]
def ziq (ops:Array Oper) (E:Env) (o:Oper):List Fact:=match o.guard with
 | none=>[]
 | some (j,_)=>match ops.toList[j]? with
  | some g=>match g.dst with
   | some t=>match lookup E.sl t with
    | some a=>[.sl t a]
    | none=>[]
   | none=>[]
  | none=>[]
def zkf (E:Env):List Operand→List (Operand×AV)
 | []=>[]
 | x::l=>match E.opd x with
  | some a=>(x,a)::zkf E l
  | none=>zkf E l
def zum (E:Env):Op→List Bx
 | .load _ x=>match E.opd x with
  | some (.ptr ℓ _)=>match zfC E.bx ℓ with
   | some b=>[b]
   | none=>[]
  | _=>[]
 | _=>[]
def zuK (P:Program) (ops:Array Oper) (L:List Fact) (o:Oper) (s:zjf):Option (OpD×List DIn):=match zfk ops (zeV L) o with
 | some true=>match s with
  | .ev=>match zsj P (zeV L).opd (zum (zeV L) o.op) o.op with
   | some av=>some (⟨true,ziq ops (zeV L) o++(ziL (zkf (zeV L) o.op.operands.toList)++(zum (zeV L) o.op).map .bx),[],[],o.dst,slOf o.dst av⟩,[])
   | none=>none
  | .ex bl W V av bs=>match zmZ (zeV L).bx bl with
   | some bxs=>some (⟨true,ziq ops (zeV L) o++(ziL (zkf (zeV L) o.op.operands.toList)++bxs.map .bx),W,V,o.dst,slOf o.dst av++bs.map .bx⟩,[⟨zkf (zeV L) o.op.operands.toList,bxs,[]⟩])
   | none=>none
  | .raw ix W V prod=>match zAh L ix with
   | some rq=>some (⟨true,ziq ops (zeV L) o++rq,W,V,o.dst,prod⟩,[⟨[],[],rq⟩])
   | none=>none
 | some false=>match s with
  | .ev=>some (⟨false,ziq ops (zeV L) o,[],[],o.dst,slOf o.dst (.tup [])⟩,[])
  | .ex ..=>none
  | .raw ..=>none
 | none=>none
def zrA (P:Program) (N:Lim) (ops:Array Oper):List Oper→List zjf→List Fact→Option (List OpD×List Fact×List DIn)
 | [],_,L=>some ([],L,[])
 | o::l,ss,L=>match zuK P ops L o (ss.headD .ev) with
  | some (d,i)=>match zhB N o.dst&&(okW d.W&&okW d.V)&&d.prod.all d.kills with
   | true=>match zrA P N ops l ss.tail (zsI d L) with
    | some (ds,L',is)=>some (d::ds,L',i++is)
    | none=>none
   | false=>none
  | none=>none
def zzG:Nat→List Oper→Bool
 | _,[]=>true
 | i,o::l=>(o.after.toList.all fun e=> !Region.binds .any e|| Nat.blt e.on i)&&zzG (i+1) l
def zrz (P:Program) (N:Lim) (ops:List Oper) (ss:List zjf) (E:Env) (ks bs:List Nat):Option (Env×List DIn):=
 match zrA P N ops.toArray ops ss (znu E) with
 | some (ds,L,is)=>match zmW (zsH ops []) 0 ds&&zzG 0 ops with
  | true=>match (zeV L).pick ks bs with
   | some E'=>some (E',is)
   | none=>none
  | false=>none
 | none=>none
def zdl (P:Program):List Oper→List zjf→List DIn→Prop
 | _::l,.ev::ss,is=>zdl P l ss is
 | o::l,.ex _ W V av bs::ss,i::is=>(zH P o i.ins i.bxs W V av bs∧zdl P l ss is)
 | o::l,.raw _ W V prod::ss,i::is=>(zqO P o i.rq W V prod∧zdl P l ss is)
 | _,[],_=>True
 | _,_,[]=>True
 | [],_,_=>True
theorem znG {γ:Gh} {a:Act} {w:World} {E:Env}:∀(l:List Operand),(∀f∈ziL (zkf E l),f.rel γ a w)→(∀p∈zkf E l,p.2.rel γ w (a.eval p.1))∧Opds E.opd γ w a.eval l
 | [],_=>⟨fun p hp=>by simp [zkf] at hp,fun x hx=>by cases hx⟩
 | x::l,h=>by
  rw [zkf] at h⊢
  cases hx:E.opd x with
  | none=>
   rw [hx] at h
   obtain ⟨h1,h2⟩:=znG l h
   refine ⟨h1,fun y hy av hav=>?_⟩
   cases hy with
   | head=>rw [hx] at hav;cases hav
   | tail _ hy=>exact h2 y hy av hav
  | some av=>
   rw [hx] at h
   simp only at h
   have hhd:av.rel γ w (a.eval x):=by
    cases x with
    | tmp k=>exact h (.sl k av) (by simp [ziL])
    | const v=>exact zkc hx γ w
    | global g=>cases hx
    | func f=>cases hx;exact ⟨rfl,.val _ rfl⟩
   obtain ⟨h1,h2⟩:=znG (γ:=γ) (a:=a) (w:=w) (E:=E) l (fun f hf=>h f (by cases x<;>simp [ziL,hf]))
   refine ⟨fun p hp=>?_,fun y hy av' hav=>?_⟩
   ·cases hp with
    | head=>exact hhd
    | tail _ hp=>exact h1 p hp
   ·cases hy with
    | head=>rw [hx] at hav;cases hav;exact hhd
    | tail _ hy=>exact h2 y hy av' hav
theorem zhY {ops:Array Oper} {E:Env} {o:Oper} {b:Bool} (h:zfk ops E o=some b) {γ:Gh} {w:World} {a:Act} (hs:∀f∈ziq ops E o,f.rel γ a w):Region.wanted o (yielded ops a.tmps)=b:=by
 have h0:=h
 unfold zfk at h
 unfold ziq at hs
 split at h
 ·rename_i hg
  cases h
  unfold Region.wanted;rw [hg]
 ·rename_i j want hg
  rw [hg] at hs
  simp only at hs
  split at h
  ·rename_i g hj
   rw [hj] at hs
   simp only at hs
   split at h
   ·rename_i t ht
    rw [ht] at hs
    simp only at hs
    cases hl:lookup E.sl t with
    | none=>rw [hl] at h;cases want<;>cases h
    | some av=>
     rw [hl] at hs
     have hav:av.rel γ w (a.tmps.getD t undef):=hs (.sl t av) List.mem_cons_self
     have h1:zfk ops ⟨[(t,av)],[]⟩ o=some b:=by
      unfold zfk
      rw [hg]
      simp only
      rw [hj]
      simp only
      rw [ht]
      simp only
      have:lookup [(t,av)] t=some av:=by simp [lookup]
      rw [this]
      rw [hl] at h
      exact h
     exact zfD (γ:=γ) (w:=w) h1 (fun p hp=>by simp at hp;subst hp;exact hav)
   ·cases h
  ·cases h
theorem ztl {cx:Cx} {γ:Gh} {a:Act} {w w':World} {γ':Gh} {d:Option Nat} {av:AV} {v:Value} (hB:Base cx γ a w) (hd:zhB cx.n d=true) (hv:av.rel γ' w' v):∀f∈slOf d av,f.rel γ' (a.put d v) w':=by
 intro f hf
 cases d with
 | none=>cases hf
 | some k=>
  simp only [slOf,List.mem_cons,List.not_mem_nil,or_false] at hf
  subst hf
  show av.rel γ' w' ((a.put (some k) v).tmps.getD k undef)
  rw [zff (by rw [hB.size];exact zgo hd k rfl)]
  exact hv
theorem zhM {L:List Fact} {f:Fact}:∀(l:List Operand),f∈ziL (zkf (zeV L) l)→f∈L
 | [],h=>by cases h
 | x::l,h=>by
  rw [zkf] at h
  cases hx:(zeV L).opd x with
  | none=>rw [hx] at h;exact zhM l h
  | some av=>
   rw [hx] at h
   cases x with
   | tmp k=>
    simp only [ziL,List.mem_cons] at h
    rcases h with rfl| h
    ·exact ziZ.1 (k,av) (zdd hx)
    ·exact zhM l h
   | const v=>exact zhM l h
   | global g=>exact zhM l h
   | func g=>exact zhM l h
theorem ziS {ops:Array Oper} {L:List Fact} {o:Oper} {f:Fact} (h:f∈ziq ops (zeV L) o):f∈L:=by
 unfold ziq at h
 split at h
 ·cases h
 ·split at h
  ·split at h
   ·split at h
    ·rename_i hl
     simp only [List.mem_cons,List.not_mem_nil,or_false] at h
     subst h
     exact ziZ.1 (_,_) (zdd hl)
    ·cases h
   ·cases h
  ·cases h
theorem zAD {L:List Fact} {op:Op} {b:Bx} (h:b∈zum (zeV L) op):Fact.bx b∈L:=by
 unfold zum at h
 split at h
 ·split at h
  ·split at h
   ·rename_i b' hb
    simp only [List.mem_cons,List.not_mem_nil,or_false] at h
    subst h
    exact ziZ.2 _ (zdj hb).1
   ·cases h
  ·cases h
 ·cases h
theorem zyW {P:Program} {ops:Array Oper} {cx:Cx} {L:List Fact} {o:Oper} {s:zjf} {d:OpD} {i:List DIn} {n:Nat} (h:zuK P ops L o s=some (d,i)) (hn:ops[n]? =some o) (hd:zhB cx.n o.dst=true)
  (hl:∀bl W V av bs,s= .ex bl W V av bs→∀x,i=[x]→zH P o x.ins x.bxs W V av bs) (hl2:∀ix W V prod,s= .raw ix W V prod→∀x,i=[x]→zqO P o x.rq W V prod) (hW:okW d.W=true) (hV:okW d.V=true):Does P ops cx n d∧∀f∈d.req,f∈L:=by
 unfold zuK at h
 split at h
 ·rename_i hg
  split at h
  ·split at h
   ·rename_i av he
    cases h
    refine ⟨⟨⟨o,hn,rfl,fun γ a w hB hreq=>⟨zhY hg fun f hf=>hreq f (List.mem_append_left _ hf),fun _ next Q hk=>?_,fun h=>by cases h⟩⟩,hW,hV,zet hd,fun h=>by cases h⟩,fun f hf=>?_⟩
    ·obtain ⟨h1,h2⟩:=znG (γ:=γ) (a:=a) (w:=w) (E:=zeV L) o.op.operands.toList fun f hf=>hreq f (List.mem_append_right _ (List.mem_append_left _ hf))
     obtain ⟨v,hr,hv⟩:=zou he h2 (fun b hb=>hreq (.bx b) (List.mem_append_right _ (List.mem_append_right _ (List.mem_map_of_mem hb))))
     refine zlc hr ?_
     exact hk γ w v (Tr.refl _ _ _ _) (ztl hB hd hv)
    ·simp only [List.mem_append] at hf
     rcases hf with hf| hf| hf
     ·exact ziS hf
     ·exact zhM _ hf
     ·obtain ⟨b,hb,rfl⟩:=List.mem_map.1 hf
      exact zAD hb
   ·cases h
  ·rename_i bl W V av bs
   split at h
   ·rename_i bxs hbx
    cases h
    have hlaw:=hl bl W V av bs rfl _ rfl
    refine ⟨⟨⟨o,hn,rfl,fun γ a w hB hreq=>⟨zhY hg fun f hf=>hreq f (List.mem_append_left _ hf),fun _ next Q hk=>?_,fun h=>by cases h⟩⟩,hW,hV,zet hd,fun h=>by cases h⟩,fun f hf=>?_⟩
    ·obtain ⟨h1,h2⟩:=znG (γ:=γ) (a:=a) (w:=w) (E:=zeV L) o.op.operands.toList fun f hf=>hreq f (List.mem_append_right _ (List.mem_append_left _ hf))
     have hbb:Bxs γ w bxs:=fun b hb=>hreq (.bx b) (List.mem_append_right _ (List.mem_append_right _ (List.mem_map_of_mem hb)))
     refine zoD (zrM (P:=P) (a:=a) (w:=w) fun nx Qx hn=>hlaw γ a w h1 hbb nx Qx fun _ w' v _ _ _=>hn v w') (hlaw γ a w h1 hbb next Q fun γ' w' v ht hv hbs=>hk γ' w' v ht fun f hf=>?_)
     simp only [List.mem_append] at hf
     rcases hf with hf| hf
     ·exact ztl hB hd hv f hf
     ·obtain ⟨b,hb,rfl⟩:=List.mem_map.1 hf
      exact hbs b hb
    ·simp only [List.mem_append] at hf
     rcases hf with hf| hf| hf
     ·exact ziS hf
     ·exact zhM _ hf
     ·obtain ⟨b,hb,rfl⟩:=List.mem_map.1 hf
      exact ziZ.2 _ (zlN _ _ hbx b hb)
   ·cases h
  ·rename_i ix W V prod
   split at h
   ·rename_i rq hrq
    cases h
    have hlaw:=hl2 ix W V prod rfl _ rfl
    refine ⟨⟨⟨o,hn,rfl,fun γ a w hB hreq=>⟨zhY hg fun f hf=>hreq f (List.mem_append_left _ hf),fun _ next Q hk=>?_,fun h=>by cases h⟩⟩,hW,hV,zet hd,fun h=>by cases h⟩,fun f hf=>?_⟩
    ·exact hlaw γ a w (fun k hk=>by rw [hB.size];exact zgo hd k hk) (fun f hf=>hreq f (List.mem_append_right _ hf)) next Q hk
    ·rcases List.mem_append.1 hf with hf| hf
     ·exact ziS hf
     ·exact zuJ hrq f hf
   ·cases h
 ·rename_i hg
  split at h
  ·cases h
   refine ⟨⟨⟨o,hn,rfl,fun γ a w hB hreq=>⟨zhY hg hreq,fun h=>(by cases h),fun _=>ztl hB hd ⟨[],rfl,rfl⟩⟩⟩,hW,hV,zet hd,fun _=>⟨rfl,rfl⟩⟩,fun f hf=>ziS hf⟩
  ·cases h
  ·cases h
 ·cases h
theorem zoV {P:Program} {ops:Array Oper} {cx:Cx}:∀(l:List Oper) (ss:List zjf) (L:List Fact) (n:Nat) (ds:List OpD) (L':List Fact) (is:List DIn),zrA P cx.n ops l ss L=some (ds,L',is)→
  (∀j,l[j]? =ops[n+j]?)→zdl P l ss is→
  ds.length=l.length∧L'=endF ds L∧∀k d,ds[k]? =some d→Does P ops cx (n+k) d∧(∀f∈d.prod,d.kills f=true)∧∃Lk,(zmB ds L)[k]? =some Lk∧∀f∈d.req,f∈Lk
 | [],ss,L,n,ds,L',is,h,_,_=>by
  cases h
  exact ⟨rfl,rfl,fun k d hk=>by simp at hk⟩
 | o::l,ss,L,n,ds,L',is,h,hl,hlaw=>by
  have hn:ops[n]? =some o:=by have:=hl 0;simpa using this.symm
  rw [zrA] at h
  split at h
  ·rename_i d i hd
   split at h
   ·rename_i hc
    simp only [Bool.and_eq_true] at hc
    obtain ⟨⟨hc1,hc2⟩,hc3⟩:=hc
    split at h
    ·rename_i ds' L2 is' hr
     cases h
     have hsplit:(∀bl W V av bs,ss.headD .ev= .ex bl W V av bs→∀x,i=[x]→zH P o x.ins x.bxs W V av bs)∧(∀ix W V prod,ss.headD .ev= .raw ix W V prod→∀x,i=[x]→zqO P o x.rq W V prod)∧zdl P l ss.tail is':=by
      cases ss with
      | nil=>
       refine ⟨fun bl W V av bs he=>by simp at he,fun ix W V prod he=>by simp at he,?_⟩
       cases l<;>cases is'<;>trivial
      | cons s ss=>
       cases s with
       | ev=>
        have hi:i=[]:=by
         simp only [List.headD_cons,zuK] at hd
         split at hd
         ·split at hd
          ·cases hd;rfl
          ·cases hd
         ·cases hd;rfl
         ·cases hd
        subst hi
        refine ⟨fun bl W V av bs he=>by simp at he,fun ix W V prod he=>by simp at he,?_⟩
        simpa [zdl] using hlaw
       | ex bl W V av bs=>
        simp only [List.headD_cons,zuK] at hd
        split at hd
        ·split at hd
         ·cases hd
          simp only [List.cons_append,List.nil_append,zdl] at hlaw
          refine ⟨fun bl' W' V' av' bs' he x hi=>?_,fun ix W V prod he=>by simp at he,hlaw.2⟩
          simp at he
          obtain ⟨rfl,rfl,rfl,rfl,rfl⟩:=he
          simp at hi
          subst hi
          exact hlaw.1
         ·cases hd
        ·cases hd
        ·cases hd
       | raw ix W V prod=>
        simp only [List.headD_cons,zuK] at hd
        split at hd
        ·split at hd
         ·cases hd
          simp only [List.cons_append,List.nil_append,zdl] at hlaw
          refine ⟨fun bl' W' V' av' bs' he=>by simp at he,fun ix' W' V' prod' he x hi=>?_,hlaw.2⟩
          simp at he
          obtain ⟨rfl,rfl,rfl,rfl⟩:=he
          simp at hi
          subst hi
          exact hlaw.1
         ·cases hd
        ·cases hd
        ·cases hd
     obtain ⟨g1,g2,g3⟩:=zoV l ss.tail (zsI d L) (n+1) ds' L' is' hr (fun j=>by have:=hl (j+1);simp at this;rw [this];congr 1;omega) hsplit.2.2
     obtain ⟨e1,e2⟩:=zyW hd hn hc1 hsplit.1 hsplit.2.1 hc2.1 hc2.2
     refine ⟨by simp [g1],g2,fun k d' hk=>?_⟩
     cases k with
     | zero=>
      simp at hk;subst hk
      exact ⟨e1,fun f hf=>by simp only [List.all_eq_true] at hc3;exact hc3 f hf,L,by simp [zmB],e2⟩
     | succ k=>
      have:=g3 k d' (by simpa using hk)
      rw [show n+(k+1)=n+1+k by omega]
      exact ⟨this.1,this.2.1,by simpa [zmB] using this.2.2⟩
    ·cases h
   ·cases h
  ·cases h
theorem zsh:∀(l:List Oper) (n:Nat),zzG n l=true→∀k o,l[k]? =some o→∀e∈o.after,Region.binds .any e=true→e.on<n+k
 | [],n,_,k,o,hk=>by simp at hk
 | x::l,n,h,k,o,hk=>by
  simp only [zzG,Bool.and_eq_true,List.all_eq_true] at h
  cases k with
  | zero=>
   simp at hk;subst hk
   intro e he hb
   have:=h.1 e (by simpa using he)
   rw [hb] at this
   exact Nat.lt_of_succ_le (Nat.le_of_ble_eq_true this)
  | succ k=>
   have:=zsh l (n+1) h.2 k o (by simpa using hk)
   rwa [show n+(k+1)=n+1+k by omega]
theorem zzR {m:Bool} {P:Program} {cx:Cx} {E:Env} {id:Nat} {ops:List Oper} {l:List It} {Q:Exit→Act→World→Prop} (E':Env) (ss:List zjf) (is:List DIn) (ks bs:List Nat)
  (hm:P.follows .mixedOrders=true) (h:zrz P cx.n ops ss E ks bs=some (E',is)) (hl:zdl P ops ss is) (k:JI m P l (Sx cx E') Q):JI m P (.c (.region id ops.toArray true)::l) (Sx cx E) Q:=by
 intro a w hs
 rw [zno]
 obtain ⟨γ,hB,hS,hX⟩:=hs
 unfold zrz at h
 split at h
 ·rename_i ds L is' hrun
  split at h
  ·rename_i hc
   split at h
   ·rename_i E2 hp
    cases h
    simp only [Bool.and_eq_true] at hc
    obtain ⟨g1,g2,g3⟩:=zoV ops ss (znu E) 0 ds L is hrun (fun j=>by simp) hl
    have hfc:=zsu (ds0:=ds) (L0:=znu E) ds 0 (znu E) (fun j=>by simp) (fun f hf=> .inl ⟨hf,fun j d hj=>by omega⟩)
    refine zuh hm (zvi (cx:=cx) (L0:=znu E) rfl (by simpa using hc.1) (by simpa using g1) (fun i di hi=>by have:=(g3 i di hi).1;rwa [Nat.zero_add] at this) (fun i di hi f hf=>?_) (fun j d f hj hf=>(g3 j d hj).2.1 f hf)
     (fun i o ho e he hb=>by have:=zsh ops 0 hc.2 i o (by simpa using ho) e he hb;omega) (fun γ' a' w' hB' hH=>?_) _ _ γ a {w with drawn:=w.drawn+1} (by simp) (fun j o hj hD=>?_) ?_ ?_ ?_)
    ·obtain ⟨_,_,Lk,hLk,hin⟩:=g3 i di hi
     have:=hfc.1 i Lk hLk f (hin f hf)
     rwa [Nat.zero_add] at this
    ·-- what the walk's end knows
     have hend:∀f∈L,f.rel γ' a' w':=fun f hf=>by
      rw [g2] at hf
      rcases hfc.2 f hf with ⟨h0,hn⟩| ⟨p,dp,hp',hdp,hfp,hn⟩
      ·exact hH.1 f h0 fun j d hj hjd=>hn j d (by simp only [List.size_toArray] at hj;omega) hjd
      ·exact hH.2 p dp (by simp only [List.size_toArray];omega) hdp f hfp fun j d hj hpj hjd=>hn j d hpj (by simp only [List.size_toArray] at hj;omega) hjd
     refine k a' w' (Sx.pick hp ⟨γ',hB',fun p hp'=>?_,fun b hb=>?_⟩)
     ·exact hend _ (ziZ.1 p hp')
     ·exact hend _ (ziZ.2 b hb)
    ·unfold zgG at hD
     simp only [Array.getD_eq_getD_getElem?] at hD
     by_cases hj':j<ops.length<;>simp [hj'] at hD
    ·simp only [Array.toList_replicate]
     exact Nat.le_trans (List.length_filter_le _ _) (by simp)
    ·exact ⟨hB.defers,hB.clean,hB.size,hB.kept,cx.X.tr hB.ext (⟨rfl,rfl,rfl,Nat.le_refl _,fun _ _ _=>rfl,fun _ _=>rfl,fun _ _=>rfl,fun b h1 h2=>absurd h2 (Nat.not_lt.2 h1)⟩:Tr [] [] γ w γ w.drew) (fun c hc=>by cases hc) (fun c hc=>by cases hc)⟩
    ·refine ⟨fun f hf _=>?_,fun i di hD=>?_⟩
     ·simp only [znu,List.mem_append,List.mem_map] at hf
      rcases hf with (⟨p,hp',rfl⟩| ⟨b,hb,rfl⟩)| hf
      ·have ht:Tr [] [] γ w γ w.drew:=⟨rfl,rfl,rfl,Nat.le_refl _,fun _ _ _=>rfl,fun _ _=>rfl,fun _ _=>rfl,fun b h1 h2=>absurd h2 (Nat.not_lt.2 h1)⟩
       exact p.2.keep ht (fun c _ h=>by cases h) (fun c _ h=>by cases h) (hS p hp')
      ·have ht:Tr [] [] γ w γ w.drew:=⟨rfl,rfl,rfl,Nat.le_refl _,fun _ _ _=>rfl,fun _ _=>rfl,fun _ _=>rfl,fun b h1 h2=>absurd h2 (Nat.not_lt.2 h1)⟩
       obtain ⟨hcol,cs,hh,hL,hone⟩:=hX b hb
       refine ⟨hcol,cs,hh,zuP hL ht ?_,hone⟩
       simp only [List.all_eq_true]
       intro x _
       simp [AV.free,memN]
      ·have hf0:=zxP hS f hf
       rcases znJ hf with ⟨k,ℓ,n,rfl⟩| ⟨k,ℓ,rfl⟩<;>exact hf0
     ·exfalso
      unfold zgG at hD
      simp only [Array.getD_eq_getD_getElem?] at hD
      by_cases hj':i<ops.length<;>simp [hj'] at hD
   ·cases h
  ·cases h
 ·cases h
end Go.Proofs.YtcbkcblkecmjnaaGreat
namespace Go.Proofs.YtcbkcblkecmjnaaGreat
open Go Go.RowKit
theorem zH.cons {P:Program} {o:Oper} {ins:List (Operand×AV)} {bxs bs:List Bx} {W V:List Nat} {av:AV} (p:Operand×AV) (h:zH P o ins bxs W V av bs):zH P o (p::ins) bxs W V av bs:=
 fun γ a w hi hb=>h γ a w (fun q hq=>hi q (List.mem_cons_of_mem _ hq)) hb
def renN (x o c:Nat):Nat:=match Nat.beq c x with
 | true=>o
 | false=>c
theorem zfS (x o:Nat):renN x o x=o:=by simp [renN]
theorem zgg {x o c:Nat} (h:c≠x):renN x o c=c:=by
 unfold renN
 cases hb:Nat.beq c x with
 | true=>exact absurd (Nat.eq_of_beq_eq_true hb) h
 | false=>rfl
def ziK (γ:Gh) (x o:Nat):Gh:=⟨fun b=>renN x o (γ.col b),fun k=>match Nat.beq k o with
 | true=>γ.box x
 | false=>γ.box k⟩
theorem zeW (γ:Gh) (x o:Nat):(ziK γ x o).box o=γ.box x:=by simp [ziK]
theorem zdC (γ:Gh) {x o k:Nat} (h:k≠o):(ziK γ x o).box k=γ.box k:=by
 show (match Nat.beq k o with
 | true=>γ.box x
 | false=>γ.box k)=_
 cases hb:Nat.beq k o with
 | true=>exact absurd (Nat.eq_of_beq_eq_true hb) h
 | false=>rfl
mutual
def AV.ren (x o:Nat):AV→AV
 | .any=> .any
 | .lf l=> .lf l
 | .sl r C xs=> .sl r (C.map (renN x o)) xs
 | .own r e ℓ C xs=>match Nat.beq ℓ x,Nat.beq ℓ o with
  | true,_=>match memN o (C.map (renN x o)) with
   | true=> .any
   | false=> .own r e o (C.map (renN x o)) xs
  | false,true=> .any
  | false,false=> .own r e ℓ (C.map (renN x o)) xs
 | .rc r C y=> .rc r (C.map (renN x o)) y
 | .ep r C y off=> .ep r (C.map (renN x o)) y off
 | .ptr ℓ off=>match Nat.beq ℓ x,Nat.beq ℓ o with
  | true,_=> .ptr o off
  | false,true=> .any
  | false,false=> .ptr ℓ off
 | .bs ℓ n=>match Nat.beq ℓ x,Nat.beq ℓ o with
  | true,_=> .bs o n
  | false,true=> .any
  | false,false=> .bs ℓ n
 | .tl ℓ off n=>match Nat.beq ℓ x,Nat.beq ℓ o with
  | true,_=> .tl o off n
  | false,true=> .any
  | false,false=> .tl ℓ off n
 | .qp r C y=> .qp r (C.map (renN x o)) y
 | .em rk rv C m=> .em rk rv (C.map (renN x o)) m
 | .mp rk rv C m=> .mp rk rv (C.map (renN x o)) m
 | .om rk rv ℓ C m=>match Nat.beq ℓ x,Nat.beq ℓ o with
  | true,_=>match memN o (C.map (renN x o)) with
   | true=> .any
   | false=> .om rk rv o (C.map (renN x o)) m
  | false,true=> .any
  | false,false=> .om rk rv ℓ (C.map (renN x o)) m
 | @AV.mo _ _ _ rk r e ℓ C m=>match Nat.beq ℓ x,Nat.beq ℓ o with
  | true,_=>match memN o (C.map (renN x o)) with
   | true=> .any
   | false=> .mo rk r e o (C.map (renN x o)) m
  | false,true=> .any
  | false,false=> .mo rk r e ℓ (C.map (renN x o)) m
 | .tup l=> .tup (AV.renL x o l)
 | .ag l=> .ag (AV.renL x o l)
 | .fv g l=> .fv g (AV.renL x o l)
 | .bp r t ℓ C y=>match Nat.beq ℓ x,Nat.beq ℓ o with
  | true,_=> .bp r t o (C.map (renN x o)) y
  | false,true=> .any
  | false,false=> .bp r t ℓ (C.map (renN x o)) y
 | .it rk rv ℓ C last left=>match Nat.beq ℓ x,Nat.beq ℓ o with
  | true,_=> .any
  | false,true=> .any
  | false,false=> .it rk rv ℓ (C.map (renN x o)) last left
def AV.renL (x o:Nat):List AV→List AV
 | []=>[]
 | a::l=>a.ren x o::AV.renL x o l
end
theorem zec {γ:Gh} {x o:Nat} {C:List Nat} {b:Nat} (h:γ.F C b):(ziK γ x o).F (C.map (renN x o)) b:=List.mem_map_of_mem (f:=renN x o) h
mutual
theorem AV.ren_rel {γ:Gh} {w:World} {x o:Nat} (a:AV) {v:Value} (h:a.rel γ w v):(a.ren x o).rel (ziK γ x o) w v:=by
 match a with
 | .any=>trivial
 | .lf l=>exact h
 | .sl r C xs=>exact zbg.mono h fun b _ hb=>zec hb
 | .rc r C y=>obtain ⟨cs,hv,hA⟩:=h;exact ⟨cs,hv,hA.mono fun b _ hb=>zec hb⟩
 | .ep r C y off=>obtain ⟨b,o',cs,hv,hF,hb,hA,hc⟩:=h;exact ⟨b,o',cs,hv,zec hF,hb,hA.mono fun b _ hb=>zec hb,hc⟩
 | .qp r C none=>exact h
 | .em rk rv C m=>obtain ⟨a,b,es,cl,hv,hFa,ha,hc1,hF,hb,hh,hE⟩:=h;exact ⟨a,b,es,cl,hv,zec hFa,ha,hc1,zec hF,hb,hh,hE.mono fun b _ hb=>zec hb⟩
 | .qp r C (some y)=>obtain ⟨b,cs,hv,hF,hb,hA,hc⟩:=h;exact ⟨b,cs,hv,zec hF,hb,hA.mono fun b _ hb=>zec hb,hc⟩
 | @AV.mo _ _ _ rk r e ℓ C m=>
  obtain ⟨b,n,hv,hm⟩:=h
  rw [AV.ren]
  cases h1:Nat.beq ℓ x with
  | true=>
   have:=Nat.eq_of_beq_eq_true h1;subst this
   cases hmm:memN o (C.map (renN ℓ o)) with
   | true=>trivial
   | false=>exact ⟨b,n,hv,hm.regh (fun b _ hc=>by show renN ℓ o (γ.col b)=o;rw [hc,zfS]) (fun b _ hb=>zec hb) (zeW γ _ _) fun hc=>by rw [zaW.2 hc] at hmm;cases hmm⟩
  | false=>
   have hx:ℓ≠x:=fun e=>by rw [e] at h1;simp at h1
   cases h2:Nat.beq ℓ o with
   | true=>trivial
   | false=>
    have hlo:ℓ≠o:=fun e=>by rw [e] at h2;simp at h2
    refine ⟨b,n,hv,hm.regh (fun b _ hc=>by show renN x o (γ.col b)=ℓ;rw [hc,zgg hx]) (fun b _ hb=>zec hb) (zdC γ hlo) fun hc=>?_⟩
    obtain ⟨c,hc,he⟩:=List.mem_map.1 hc
    by_cases hcx:c=x
    ·rw [hcx,zfS] at he;exact hlo he.symm
    ·rw [zgg hcx] at he;rw [he] at hc;exact hm.off hc
 | .tup l=>obtain ⟨vs,hv,hL⟩:=h;exact ⟨vs,hv,AV.renL_rel l hL⟩
 | .ag l=>obtain ⟨vs,hv,hL,h1⟩:=h;exact ⟨vs,hv,AV.renL_rel l hL,h1⟩
 | .fv g l=>obtain ⟨vs,hv,hL⟩:=h;exact ⟨vs,hv,AV.renL_rel l hL⟩
 | .bp r t ℓ C y=>
  obtain ⟨b,cs,hv,⟨g1,g2⟩,hb,hh,h1c,hA⟩:=h
  have hA':zab ((ziK γ x o).F (C.map (renN x o))) w (r.lv y) cs.toList:=hA.mono fun b _ hb=>zec hb
  rw [AV.ren]
  cases h1:Nat.beq ℓ x with
  | true=>
   have:=Nat.eq_of_beq_eq_true h1;subst this
   refine ⟨b,cs,hv,⟨?_,?_⟩,hb,hh,h1c,hA'⟩
   ·show renN ℓ o (γ.col b)=o
    rw [g1,zfS]
   ·rw [zeW];exact g2
  | false=>
   have hx:ℓ≠x:=fun e=>by rw [e] at h1;simp at h1
   cases h2:Nat.beq ℓ o with
   | true=>trivial
   | false=>
    have hlo:ℓ≠o:=fun e=>by rw [e] at h2;simp at h2
    refine ⟨b,cs,hv,⟨?_,?_⟩,hb,hh,h1c,hA'⟩
    ·show renN x o (γ.col b)=ℓ
     rw [g1,zgg hx]
    ·rw [zdC γ hlo];exact g2
 | .it rk rv ℓ C last left=>
  obtain ⟨r,b,hv,⟨g1,g2⟩,hr',hF,hlt,⟨es,cl,seen,since,c0,ls,la,i1,i2,i3,i4,i5,i6,i7,i8,i9,i10⟩,hn⟩:=h
  rw [AV.ren]
  cases h1:Nat.beq ℓ x with
  | true=>trivial
  | false=>
   have hx:ℓ≠x:=fun e=>by rw [e] at h1;simp at h1
   cases h2:Nat.beq ℓ o with
   | true=>trivial
   | false=>
    have hlo:ℓ≠o:=fun e=>by rw [e] at h2;simp at h2
    refine ⟨r,b,hv,⟨?_,?_⟩,hr',zec hF,hlt,⟨es,cl,seen,since,c0,ls,la,i1,i2,i3,i4,i5,i6,i7,i8.mono fun b _ hb=>zec hb,i9.mono fun b _ hb=>zec hb,i10⟩,fun hc=>?_⟩
    ·show renN x o (γ.col r)=ℓ
     rw [g1,zgg hx]
    ·rw [zdC γ hlo];exact g2
    ·obtain ⟨c,hc,he⟩:=List.mem_map.1 hc
     by_cases hcx:c=x
     ·rw [hcx,zfS] at he;exact hlo he.symm
     ·rw [zgg hcx] at he;rw [he] at hc;exact hn hc
 | .mp rk rv C m=>obtain ⟨b,es,cl,hv,hF,hb,hh,hE⟩:=h;exact ⟨b,es,cl,hv,zec hF,hb,hh,hE.mono fun b _ hb=>zec hb⟩
 | .om rk rv ℓ C m=>
  obtain ⟨b,es,cl,hv,⟨g1,g2⟩,hb,hh,hE,hn⟩:=h
  have hE':zcx ((ziK γ x o).F (C.map (renN x o))) w rk rv m es.toList:=hE.mono fun b _ hb=>zec hb
  rw [AV.ren]
  cases h1:Nat.beq ℓ x with
  | true=>
   have:=Nat.eq_of_beq_eq_true h1;subst this
   cases hm:memN o (C.map (renN ℓ o)) with
   | true=>trivial
   | false=>
    refine ⟨b,es,cl,hv,⟨?_,?_⟩,hb,hh,hE',fun hc=>by rw [zaW.2 hc] at hm;cases hm⟩
    ·show renN ℓ o (γ.col b)=o
     rw [g1,zfS]
    ·rw [zeW];exact g2
  | false=>
   have hx:ℓ≠x:=fun e=>by rw [e] at h1;simp at h1
   cases h2:Nat.beq ℓ o with
   | true=>trivial
   | false=>
    have hlo:ℓ≠o:=fun e=>by rw [e] at h2;simp at h2
    refine ⟨b,es,cl,hv,⟨?_,?_⟩,hb,hh,hE',fun hc=>?_⟩
    ·show renN x o (γ.col b)=ℓ
     rw [g1,zgg hx]
    ·rw [zdC γ hlo];exact g2
    ·obtain ⟨c,hc,he⟩:=List.mem_map.1 hc
     by_cases hcx:c=x
     ·rw [hcx,zfS] at he;exact hlo he.symm
     ·rw [zgg hcx] at he;rw [he] at hc;exact hn hc
 | .ptr ℓ off=>
  have hv:v= .pointer (some ⟨γ.box ℓ,off,none⟩):=h
  rw [AV.ren]
  cases h1:Nat.beq ℓ x with
  | true=>
   have:=Nat.eq_of_beq_eq_true h1;subst this
   show v=_
   rw [zeW];exact hv
  | false=>
   cases h2:Nat.beq ℓ o with
   | true=>trivial
   | false=>
    show v=_
    rw [zdC γ (fun e=>by rw [e] at h2;simp at h2)];exact hv
 | .tl ℓ off n=>
  obtain ⟨A,c,hv,hA⟩:=h
  rw [AV.ren]
  cases h1:Nat.beq ℓ x with
  | true=>
   have:=Nat.eq_of_beq_eq_true h1;subst this
   exact ⟨A,c,hv,fun hn=>by rw [zeW];exact hA hn⟩
  | false=>
   cases h2:Nat.beq ℓ o with
   | true=>trivial
   | false=>exact ⟨A,c,hv,fun hn=>by rw [zdC γ (fun e=>by rw [e] at h2;simp at h2)];exact hA hn⟩
 | .bs ℓ n=>
  have hv:v= .slice (some ⟨γ.box ℓ,0,none⟩) n n:=h
  rw [AV.ren]
  cases h1:Nat.beq ℓ x with
  | true=>
   have:=Nat.eq_of_beq_eq_true h1;subst this
   show v=_
   rw [zeW];exact hv
  | false=>
   cases h2:Nat.beq ℓ o with
   | true=>trivial
   | false=>
    show v=_
    rw [zdC γ (fun e=>by rw [e] at h2;simp at h2)];exact hv
 | .own r e ℓ C xs=>
  obtain ⟨cs,ho,hg,hA,hn⟩:=h
  have hA':zab ((ziK γ x o).F (C.map (renN x o))) w (xs.flatMap r.lv) cs:=hA.mono fun b _ hb=>zec hb
  rw [AV.ren]
  cases h1:Nat.beq ℓ x with
  | true=>
   have:=Nat.eq_of_beq_eq_true h1;subst this
   cases hm:memN o (C.map (renN ℓ o)) with
   | true=>trivial
   | false=>
    refine ⟨cs,ho,fun g hgb=>⟨?_,?_⟩,hA',fun hc=>by rw [zaW.2 hc] at hm;cases hm⟩
    ·show renN ℓ o (γ.col g)=o
     rw [(hg g hgb).1,zfS]
    ·rw [zeW];exact (hg g hgb).2
  | false=>
   have hx:ℓ≠x:=fun e=>by rw [e] at h1;simp at h1
   cases h2:Nat.beq ℓ o with
   | true=>trivial
   | false=>
    have hlo:ℓ≠o:=fun e=>by rw [e] at h2;simp at h2
    refine ⟨cs,ho,fun g hgb=>⟨?_,?_⟩,hA',fun hc=>?_⟩
    ·show renN x o (γ.col g)=ℓ
     rw [(hg g hgb).1,zgg hx]
    ·rw [zdC γ hlo];exact (hg g hgb).2
    ·obtain ⟨c,hc,he⟩:=List.mem_map.1 hc
     by_cases hcx:c=x
     ·rw [hcx,zfS] at he;exact hlo he.symm
     ·rw [zgg hcx] at he;rw [he] at hc;exact hn hc
theorem AV.renL_rel {γ:Gh} {w:World} {x o:Nat} (l:List AV) {vs:List Value} (h:AV.relL γ w l vs):AV.relL (ziK γ x o) w (AV.renL x o l) vs:=by
 match l with
 | []=>exact h
 | a::l=>
  obtain ⟨v,vs',rfl,h1,h2⟩:=h
  exact ⟨v,vs',rfl,AV.ren_rel a h1,AV.renL_rel l h2⟩
end
def zuQ (x o:Nat):List Bx→List Bx
 | []=>[]
 | b::l=>match Nat.beq b.lab x,Nat.beq b.lab o with
  | true,_=>⟨o,b.typ,AV.renL x o b.avs⟩::zuQ x o l
  | false,true=>zuQ x o l
  | false,false=>⟨b.lab,b.typ,AV.renL x o b.avs⟩::zuQ x o l
def Env.ren (x o:Nat) (E:Env):Env:=⟨E.sl.map fun p=>(p.1,p.2.ren x o),zuQ x o E.bx⟩
theorem zFz {E:Env} (x o:Nat) (h:(Nat.ble 2 x&&Nat.ble 2 o&& !spB x)=true):zdh E (E.ren x o):=fun cx a w hs=>by
 obtain ⟨γ,hB,hS,hX⟩:=hs
 simp only [Bool.and_eq_true] at h
 have hx:=Nat.le_of_ble_eq_true h.1.1
 have ho:=Nat.le_of_ble_eq_true h.1.2
 have hal:zrV γ (ziK γ x o):=by
  refine ⟨fun b hb=>?_,fun b hb=>?_,fun b (hb:renN x o (γ.col b)=0)=>?_,fun b hb=>?_⟩
  ·show renN x o (γ.col b)=0
   rw [zgg (by omega)];exact hb
  ·show renN x o (γ.col b)=1
   rw [zgg (by omega)];exact hb
  ·by_cases e:γ.col b=x
   ·rw [e,zfS] at hb;omega
   ·rw [zgg e] at hb;exact hb
  ·show renN x o (γ.col b)=_
   refine zgg fun e=>?_
   rw [e] at hb
   rw [hb] at h
   simp at h
 refine ⟨ziK γ x o,⟨hB.defers.ren hal,hB.clean,hB.size,hB.kept,cx.X.ren hB.ext hal⟩,fun p hp=>?_,?_⟩
 ·obtain ⟨q,hq,rfl⟩:=List.mem_map.1 hp
  exact AV.ren_rel q.2 (hS q hq)
 ·have key:∀l,Bxs γ w l→Bxs (ziK γ x o) w (zuQ x o l):=by
   intro l
   induction l with
   | nil=>intro _ b hb;cases hb
   | cons c l ih=>
    intro hl b hb
    have ih':=ih fun d hd=>hl d (List.mem_cons_of_mem _ hd)
    obtain ⟨hc,cs,hh,hL,hone⟩:=hl c List.mem_cons_self
    rw [zuQ] at hb
    cases h1:Nat.beq c.lab x with
    | true=>
     rw [h1] at hb
     simp only [List.mem_cons] at hb
     rcases hb with rfl| hb
     ·have e1:=Nat.eq_of_beq_eq_true h1
      refine ⟨?_,cs,?_,AV.renL_rel _ hL,hone⟩
      ·show renN x o (γ.col ((ziK γ x o).box o))=o
       rw [zeW,←e1,hc,e1,zfS]
      ·show w.heap[(ziK γ x o).box o]? =_
       rw [zeW,←e1];exact hh
     ·exact ih' b hb
    | false=>
     rw [h1] at hb
     have hnx:c.lab≠x:=fun e=>by rw [e] at h1;simp at h1
     cases h2:Nat.beq c.lab o with
     | true=>rw [h2] at hb;exact ih' b hb
     | false=>
      rw [h2] at hb
      have hno:c.lab≠o:=fun e=>by rw [e] at h2;simp at h2
      simp only [List.mem_cons] at hb
      rcases hb with rfl| hb
      ·refine ⟨?_,cs,?_,AV.renL_rel _ hL,hone⟩
       ·show renN x o (γ.col ((ziK γ x o).box c.lab))=c.lab
        rw [zdC γ hno,hc,zgg hnx]
       ·show w.heap[(ziK γ x o).box c.lab]? =_
        rw [zdC γ hno];exact hh
      ·exact ih' b hb
  exact key E.bx hX
def zcY:LV→Value
 | .int k n=> .int k n
 | .bool b=> .bool b
 | .str l=> .string ⟨l.toArray⟩
 | .val v=>v
 | .sl ..=>undef
theorem zse {F:Fp} {w:World} {l:LV} {v:Value} (h:zbg F w l v) (hp:l.plain=true):v=zcY l:=by
 cases h<;>first| rfl| cases hp
theorem zwJ {F:Fp} {w:World} {ls:List LV} {vs:List Value} (h:zab F w ls vs) (hp:ls.all LV.plain=true):vs=ls.map zcY:=by
 induction ls generalizing vs with
 | nil=>exact List.eq_nil_of_length_eq_zero h.1.symm
 | cons l ls ih=>
  obtain ⟨v,vs',rfl,h1,h2⟩:=h.head
  simp only [List.all_cons,Bool.and_eq_true] at hp
  rw [zse h1 hp.1,ih h2 hp.2];rfl
def leI:List (Operand×AV)→List (Operand×AV)→Prop
 | [],[]=>True
 | p::l,q::m=>(p.1=q.1∧AV.le p.2 q.2)∧leI l m
 | _,_=>False
theorem zvJ {γ:Gh} {w:World} {a:Act}:∀(l m:List (Operand×AV)),leI l m→(∀p∈l,p.2.rel γ w (a.eval p.1))→∀p∈m,p.2.rel γ w (a.eval p.1)
 | [],[],_,_,p,hp=>by cases hp
 | q::l,x::m,h,hr,p,hp=>by
  obtain ⟨⟨h1,h2⟩,h3⟩:=h
  cases hp with
  | head=>rw [←h1];exact h2 γ w _ (hr q List.mem_cons_self)
  | tail _ hp=>exact zvJ l m h3 (fun y hy=>hr y (List.mem_cons_of_mem _ hy)) p hp
 | [],_::_,h,_,_,_=>h.elim
 | _::_,[],h,_,_,_=>h.elim
theorem zH.le {P:Program} {o:Oper} {ins ins':List (Operand×AV)} {bxs bs:List Bx} {W V:List Nat} {av:AV} (h:zH P o ins bxs W V av bs) (hl:leI ins' ins):zH P o ins' bxs W V av bs:=
 fun γ a w hi hb=>h γ a w (zvJ _ _ hl hi) hb
def ziJ (x:Int):Option UInt8:=if 0≤x∧x<256 then some (UInt8.ofNat x.toNat) else none
theorem zBN {x:Int} {c:UInt8} (h:ziJ x=some c):x=(c.toNat:Int):=by
 unfold ziJ at h
 split at h
 ·rename_i hx
  cases h
  simp
  omega
 ·cases h
theorem zhZ {x:Int} {c:UInt8} (h:ziJ x=some c):AV.le (.lf (.int .u8 x)) (.lf (.int .u8 (c.toNat:Int))):=by rw [zBN h];exact fun _ _ _ hv=>hv
theorem zsT:Rp.byte.Plain:=fun x l h=>by simp [Rp.byte] at h;subst h;rfl
theorem zgy (k:IntKind):(Rp.int k).Plain:=fun x l h=>by simp [Rp.int] at h;subst h;rfl
theorem znE:Rp.str.Plain:=fun x l h=>by simp [Rp.str] at h;subst h;rfl
theorem iteT {α:Type} {c:Bool} {x y:Option α} {r:α} (h:(if c then x else y)=some r) (hc:c=true):x=some r:=by rw [hc] at h;exact h
theorem iteF {α:Type} {c:Bool} {x y:Option α} {r:α} (h:(if c then x else y)=some r) (hc:c=false):y=some r:=by rw [hc] at h;exact h
theorem AV.le_refl (a:AV):a.le a:=fun _ _ _ h=>h
theorem ziF {α:Type} (r:Rp α) (e:TypeId) (ℓ:Nat) (C C':List Nat) (xs:List α) (h:subN C C'=true) (hn:memN ℓ C'=false):AV.le (.own r e ℓ C xs) (.own r e ℓ C' xs):=fun _ _ _ ⟨cs,ho,hg,hA,_⟩=>
 ⟨cs,ho,hg,hA.mono fun _ _ hb=>zaD h _ hb,fun hc=>by rw [zaW.2 hc] at hn;cases hn⟩
theorem zbr (a:AV):AV.le a .any:=fun _ _ _ _=>trivial
def leL:List AV→List AV→Prop
 | [],[]=>True
 | a::l,b::m=>a.le b∧leL l m
 | _,_=>False
theorem zrH {γ:Gh} {w:World} {l m:List AV} {vs:List Value} (h:leL l m) (hr:AV.relL γ w l vs):AV.relL γ w m vs:=by
 induction l generalizing m vs with
 | nil=>cases m<;>first| exact hr| exact h.elim
 | cons a l ih=>
  cases m with
  | nil=>exact h.elim
  | cons b m=>obtain ⟨v,vs',rfl,h1,h2⟩:=hr;exact ⟨v,vs',rfl,h.1 γ w v h1,ih h.2 h2⟩
theorem FnOk.le {P:Program} {f:FuncId} {ins ins' outs:List AV} (h:FnOk P f ins outs) (hl:leL ins' ins):FnOk P f ins' outs:=fun w F vs hr=>h w F vs (zrH hl hr)
theorem zFy {E:Env} (ℓ i:Nat) {b:Bx} {av:AV} (av':AV) (hb:zfC E.bx ℓ=some b) (hi:b.avs[i]? =some av) (hle:av.le av'):zdh E ⟨E.sl,⟨b.lab,b.typ,b.avs.set i av'⟩::E.bx.filter fun c=> !Nat.beq c.lab ℓ⟩:=fun cx a w hs=>by
 obtain ⟨γ,hB,hS,hX⟩:=hs
 refine ⟨γ,hB,hS,fun c hc=>?_⟩
 simp only [List.mem_cons] at hc
 rcases hc with rfl| hc
 ·obtain ⟨hcol,cs,hh,hL,hone⟩:=hX b (zdj hb).1
  obtain ⟨v,hv,hr⟩:=ztb hL hi
  refine ⟨hcol,cs,hh,?_,hone⟩
  have:=zxM hL i (hle γ w v hr)
  have e:cs.set i v=cs:=by
   apply List.ext_getElem?
   intro j
   rw [List.getElem?_set]
   split
   ·rename_i hij;subst hij
    split
    ·exact hv.symm
    ·rename_i hlt;rw [List.getElem?_eq_none (by omega)]
   ·rfl
  rwa [e] at this
 ·exact hX c (List.mem_filter.1 hc).1
theorem zgT {P:Program} {o:Oper} (E:Env) {c b:Bool} (h:zsj P E.opd (zum E o.op) o.op=some (.lf (.bool c))) (hc:c=b):zH P o (zkf E o.op.operands.toList) (zum E o.op) [] [] (.lf (.bool b)) []:=by
 subst hc
 refine zU fun γ ev w hi hb=>?_
 have key:∀(l:List Operand),(∀p∈zkf E l,p.2.rel γ w (ev p.1))→Opds E.opd γ w ev l:=by
  intro l
  induction l with
  | nil=>intro _ x hx;cases hx
  | cons x l ih=>
   intro h y hy av hav
   rw [zkf] at h
   cases hx:E.opd x with
   | none=>
    rw [hx] at h
    cases hy with
    | head=>rw [hx] at hav;cases hav
    | tail _ hy=>exact ih h y hy av hav
   | some a=>
    rw [hx] at h
    cases hy with
    | head=>rw [hx] at hav;cases hav;exact h (x,_) List.mem_cons_self
    | tail _ hy=>exact ih (fun p hp=>h p (List.mem_cons_of_mem _ hp)) y hy av hav
 obtain ⟨v,hr,hv⟩:=zou h (key _ hi) hb
 exact ⟨v,w,γ,hr,Tr.refl _ _ _ _,hv,fun b hb=>by cases hb⟩
section
variable {m:Bool} {P:Program} {Q:Exit→Act→World→Prop} {S M:Act→World→Prop} {l:List It} {c:Code}
theorem zbV {R:Exit→Act→World→Prop} (h:J m P c S R) (k:∀e a w,R e a w→zhk m P Q l e a w):JI m P (.c c::l) S Q:=fun a w hs=>by
 rw [zno];exact zkm (h a w hs) k
theorem zzT {σ ρ:Type} (body:σ→Option (σ⊕ρ)) (Es:σ→Act→World→Prop) (R:ρ→Exit→Act→World→Prop)
  (hb:∀s o,body s=some o→J m P c (Es s) (match o with
   | .inl s'=>fun e a w=>e= .normal∧Es s' a w
   | .inr r=>fun e a w=>e≠ .normal∧R r e a w))
  {s:σ} {r:ρ} (h:zak body s=some r) (hS:∀a w,S a w→Es s a w) (k:∀e a w,R r e a w→zhk m P Q l e a w):JI m P (.c (.loop c)::l) S Q:=
 zbV (zFt body Es R hb h hS (fun _ _ _ hr=>hr)) k
theorem zdw (k:JI m P l M Q):∀e a w,(e= .normal∧M a w)→zhk m P Q l e a w:=by
 rintro e a w ⟨rfl,h⟩;exact k a w h
theorem zaI {id:Nat} (l':List It) (he:zoc id l=some l') (k:JI m P l' M Q):∀e a w,(e= .exit id∧M a w)→zhk m P Q l e a w:=by
 rintro e a w ⟨rfl,h⟩;exact zpN he (k a w h)
theorem zzU (k:∀a w,M a w→Q .ret a w):∀e a w,(e= .ret∧M a w)→zhk m P Q l e a w:=by
 rintro e a w ⟨rfl,h⟩;exact k a w h
end
theorem zB {P:Program} {f:FuncId} {fn:Func} {c:Code} {ins outs:List AV} {E:Env} (N:Nat) (hf:P.funcs[f]? =some fn) (hb:fn.body=some c) (hN:fn.ntmps=N) (hlen:Nat.ble ins.length N=true) (hres:zlS P E fn.results.toList outs)
  (hj:∀X:Ext,J true P c (Sx ⟨⟨N,[]⟩,X,false,#[]⟩ ⟨zos 0 ins,[]⟩) fun e a w=>e= .ret∧Sx ⟨⟨N,[]⟩,X,false,#[]⟩ E a w):FnOk P f ins outs:=by
 subst hN
 exact zCh hf hb (Nat.le_of_ble_eq_true hlen) hres hj
end Go.Proofs.YtcbkcblkecmjnaaGreat
namespace Go.Proofs.YtcbkcblkecmjnaaGreat
open Go Go.ChangeShapes Go.WideShapes Go.RowKit
abbrev allF:Fp:=fun _=>True
def SzOk (P:Program) {H:Type} (t:TypeId) (d:DataW H):Prop:=∀m∈d.weights P t,m≤140737488351232
theorem zme {H:Type} {P:Program} {e:TypeId}:∀{ds:List (DataW H)} {i:Nat} {d:DataW H},ds[i]? =some d→∀m∈d.weights P e,m∈DataW.weightsAll P e ds
 | d0::ds,0,d,hd,m,hm=>by
  simp only [List.getElem?_cons_zero,Option.some.injEq] at hd
  subst hd
  simp only [DataW.weightsAll,List.mem_append]
  exact Or.inl hm
 | d0::ds,i+1,d,hd,m,hm=>by
  simp only [List.getElem?_cons_succ] at hd
  simp only [DataW.weightsAll,List.mem_append]
  exact Or.inr (zme hd m hm)
 | [],_,_,hd,_,_=>by simp at hd
theorem SzOk.of_each {H:Type} {P:Program} {ts:List TypeId} {ds:List (DataW H)} (h:(DataW.weightsEach P ts ds).all (·≤reachBytes)=true) (j:Nat) {t:TypeId} {d:DataW H} (ht:ts[j]? =some t) (hd:ds[j]? =some d):SzOk P t d:=fun m hm=>by
 have:=List.all_eq_true.1 h _ (DataW.weights_mem_each ht hd m hm)
 exact of_decide_eq_true this
def zoa (P:Program) {α:Type} (n:Nat) (t:TypeId) (r:Rp α) (W:α→Prop):Prop:=
 ∀{H:Type} (enc:TypeId×Value→H) (w:World) (spare:Nat→Bool) (held:Bool) (cs:List Value) (x:DataW H×List MemPlace),DataW.trod enc P w 0 spare held n t cs=some x→SzOk P t x.1→∃y:α,zab allF w (r.lv y) cs∧W y
section
variable {P:Program} {n:Nat} {t e:TypeId}
theorem zhF {F:Fp} {w:World} {l:LV} {v:Value} (h:zbg F w l v):zab F w [l] [v]:= .cons h .nil
theorem zqo {k:IntKind} (hu:P.underlying t=some (.int k)):zoa P n t (Rp.int k) fun m=>(Lit.int k m).wf=true:=fun _ _ _ _ _ _ h _=>by
 obtain ⟨m,rfl,_,hw⟩:=DataW.trod_int hu h
 exact ⟨m,zhF (.int k m),hw⟩
theorem zyX (hu:P.underlying t=some (.int .u8)):zoa P n t Rp.byte fun _=>True:=fun _ _ _ _ _ _ h _=>by
 obtain ⟨m,rfl,_,hw⟩:=DataW.trod_int hu h
 have hb:0≤m∧m≤255:=by simpa [Lit.wf,IntKind.min,IntKind.max,IntKind.bits,IntKind.signed] using hw
 have e1:((UInt8.ofNat m.toNat).toNat:Int)=m:=by simp;omega
 refine ⟨UInt8.ofNat m.toNat,zhF ?_,trivial⟩
 rw [e1];exact .int .u8 m
theorem zsM (hu:P.underlying t=some .bool):zoa P n t Rp.bool fun _=>True:=fun _ _ _ _ _ _ h _=>by
 obtain ⟨b,rfl,_⟩:=DataW.trod_bool hu h
 exact ⟨b,zhF (.bool b),trivial⟩
theorem zuL (hu:P.underlying t=some .string):zoa P n t Rp.str fun l=>l.length≤140737488351232:=fun _ _ _ _ _ _ h hz=>by
 obtain ⟨s,rfl,rfl,hw⟩:=DataW.trod_string hu h
 exact ⟨s.data.toList,zhF (by have:=zbg.str (F:=allF) (w:=‹World›) s.data.toList;simpa using this),hz _ (by simp [DataW.weights])⟩
theorem zsN {α:Type} {r:Rp α} {W:α→Prop}:zoa P 0 t r W:=fun _ _ _ _ _ _ h _=>by simp [DataW.trod] at h
theorem zyR {w:World} {a:Addr} {v:Value} (h:w.cell? a=some v):a.block<w.heap.size∧a.spot=none:=by
 unfold World.cell? at h
 split at h
 ·rename_i c e f hh
  refine ⟨(Array.getElem?_eq_some_iff.1 hh).1,?_⟩
  split at h
  ·cases h
  ·rename_i hs;cases hsp:a.spot with
   | none=>rfl
   | some x=>rw [hsp] at hs;exact absurd rfl hs
 ·cases h
theorem zvh (a:Addr) (m k:Nat):(a.add m).add k=a.add (m+k):=by
 unfold Addr.add
 by_cases h1:m=0
 ·subst h1;simp
 ·by_cases h2:k=0
  ·subst h2;simp
  ·have h3:¬(m+k=0):=by omega
   simp only [if_neg h1,if_neg h2,if_neg h3]
   congr 1
   omega
theorem ztM {a:Addr} (h:a.spot=none) (i:Nat):a.add i=⟨a.block,a.off+i,none⟩:=by
 obtain ⟨b,o,s⟩:=a
 simp only at h
 subst h
 unfold Addr.add
 split
 ·rename_i h0;subst h0;rfl
 ·rfl
theorem zyY {α:Type} {r:Rp α} {W:α→Prop} {B:Nat} (hu:P.underlying t=some (.slice e)) (hc:P.cellsOf e=r.size) (hB:P.bytesOf e=B) (h:zoa P n e r W):zoa P (n+1) t r.list fun xs=>xs.length*B≤140737488351232∧∀x∈xs,W x:=by
 intro H enc w spare held cs x hx hz
 rcases DataW.trod_slice hu hx with ⟨rfl,_⟩| ⟨a,len,cap,elems,rest,m,hm,rfl,rfl,_,hl,hcap,hlen,hel,_⟩
 ·exact ⟨[],zhF (.sl 0 _ _ _ 0 [] (by simp) (by simp) (Nat.le_refl _) (Nat.zero_le _) (fun h=>absurd h (by omega)) (fun i l u h1=>by simp at h1)),by simp,fun x hx=>by cases hx⟩
 ·cases hm
  rw [hc] at hel
  -- element by element
  have each:∀i,i<len→∃y cs',w.cells? 0 (a.add (i*r.size)) r.size=some cs'∧zab allF w (r.lv y) cs'∧W y:=by
   intro i hi
   have h1:=hel i hi
   rw [List.getElem?_eq_getElem (show i<elems.length by omega),Option.bind_eq_some_iff] at h1
   obtain ⟨cs',h2,h3⟩:=h1
   obtain ⟨y,h4,h5⟩:=h enc w spare held cs' _ h3 fun m hm=>hz m (by
    simp only [DataW.weights,hu,List.mem_cons,List.mem_append]
    refine .inr (.inl (zme (i:=i) (d:=(elems[i]'(by omega)).1) ?_ m hm))
    rw [List.getElem?_map,List.getElem?_eq_getElem (show i<elems.length by omega)];rfl)
   exact ⟨y,cs',h2,h4,h5⟩
  have rows:∀k,k≤len→∃(ys:List α) (ds:List Value),ys.length=k∧zab allF w (ys.flatMap r.lv) ds∧(∀y∈ys,W y)∧∀j,j<k*r.size→w.cell? (a.add j)=ds[j]? :=by
   intro k
   induction k with
   | zero=>exact fun _=>⟨[],[],rfl,.nil,(fun y hy=>by cases hy),fun j hj=>by omega⟩
   | succ k ih=>
    intro hk
    obtain ⟨ys,ds,h1,h2,h3,h4⟩:=ih (by omega)
    obtain ⟨y,cs',h5,h6,h7⟩:=each k (by omega)
    obtain ⟨_,h8,h9⟩:=World.cells?_some h5
    have hds:ds.length=k*r.size:=by rw [←h2.1,r.flat,h1]
    refine ⟨ys++[y],ds++cs',by simp [h1],?_,?_,fun j hj=>?_⟩
    ·rw [List.flatMap_append];simp only [List.flatMap_cons,List.flatMap_nil,List.append_nil];exact h2.append h6
    ·intro z hz
     rcases List.mem_append.1 hz with hz| hz
     ·exact h3 z hz
     ·simp at hz;subst hz;exact h7
    ·rw [List.getElem?_append]
     split
     ·rename_i hj';exact h4 j (by omega)
     ·rename_i hj'
      rw [Nat.succ_mul] at hj
      have:=h9 (j - ds.length) (by omega)
      rw [←this,hds,zvh]
      congr 2
      omega
  obtain ⟨ys,ds,h1,h2,h3,h4⟩:=rows len (Nat.le_refl _)
  have hds:ds.length=len*r.size:=by rw [←h2.1,r.flat,h1]
  have hsz:=hz ((elems.length+rest.length)*P.bytesOf e) (by simp [DataW.weights,hu])
  rw [hB] at hsz
  refine ⟨ys,zhF ?_,Nat.le_trans (Nat.mul_le_mul_right B (by omega)) hsz,h3⟩
  rw [h1]
  refine .sl len r.size _ (some a) cap ds (by rw [r.flat,h1]) hds hl hcap (fun h0=>?_) h2.2
  have h0':0<len*r.size:=Nat.mul_pos h0 r.pos
  have hc0:=h4 0 h0'
  rw [List.getElem?_eq_getElem (show 0<ds.length by omega)] at hc0
  obtain ⟨hb,hs⟩:=zyR hc0
  have hs':a.spot=none:=by unfold Addr.add at hs;split at hs<;>simp_all
  have hb':a.block<w.heap.size:=by unfold Addr.add at hb;split at hb<;>simp_all
  refine ⟨a.block,a.off,by cases a;simp at hs';subst hs';rfl,trivial,hb',fun i hi=>?_⟩
  have:=h4 i hi
  rw [←this]
  congr 1
  exact (ztM hs' i).symm
def FOk (P:Program) (n:Nat) (fs:List Field) (off:Nat) (S:List LV→Prop):Prop:=
 ∀(H:Type) (enc:TypeId×Value→H) (w:World) (spare:Nat→Bool) (held:Bool) (cs:List Value),cs.length=off+(fs.map fun f=>P.cellsOf f.type).sum→
  (∀(i:Nat) (f:Field),fs[i]? =some f→∃x,DataW.trod enc P w 0 spare held n f.type ((cs.drop f.offset).take (P.cellsOf f.type))=some x∧SzOk P f.type x.1)→∃ls,zab allF w ls (cs.drop off)∧S ls
theorem zzJ {off:Nat}:FOk P n [] off fun ls=>ls=[]:=fun _ _ _ _ _ cs hl _=>by
 have:cs.drop off=[]:=List.drop_eq_nil_of_le (by simp at hl;omega)
 exact ⟨[],by rw [this];exact .nil,rfl⟩
theorem zio {α:Type} {r:Rp α} {W:α→Prop} {f:Field} {fs:List Field} {off:Nat} {S:List LV→Prop} (h:zoa P n f.type r W) (ho:f.offset=off) (hc:P.cellsOf f.type=r.size) (k:FOk P n fs (off+r.size) S):
  FOk P n (f::fs) off fun ls=>∃y ls',ls=r.lv y++ls'∧W y∧S ls':=by
 intro H enc w spare held cs hl hx
 obtain ⟨x,hx0,hz0⟩:=hx 0 f rfl
 rw [ho,hc] at hx0
 obtain ⟨y,hy,hw⟩:=h enc w spare held _ _ hx0 hz0
 obtain ⟨ls,h1,h2⟩:=k H enc w spare held cs (by simp [hc] at hl;omega) fun i g hg=>hx (i+1) g (by simpa using hg)
 refine ⟨r.lv y++ls,?_,y,ls,rfl,hw,h2⟩
 have e:cs.drop off=(cs.drop off).take r.size++cs.drop (off+r.size):=by rw [←List.drop_drop,List.take_append_drop]
 rw [e];exact hy.append h1
theorem zvT {α:Type} {r:Rp α} {W:α→Prop} {fs:Array Field} {S:List LV→Prop} (hu:P.underlying t=some (.struct fs)) (hc:P.cellsOf t=(fs.toList.map fun f=>P.cellsOf f.type).sum) (hf:FOk P n fs.toList 0 S) (hy:∀ls,S ls→∃y,ls=r.lv y∧W y):zoa P (n+1) t r W:=by
 intro H enc w spare held cs x hx hz
 obtain ⟨xs,m,hm,rfl,hl,hxl,hget⟩:=DataW.trod_struct hu hx
 cases hm
 obtain ⟨ls,h1,h2⟩:=hf H enc w spare held cs (by rw [hl,hc];omega) fun i f hif=>by
  have hi:i<xs.length:=by rw [hxl];have:=(List.getElem?_eq_some_iff.1 hif).1;simpa using this
  refine ⟨xs[i],by rw [hget i f (by simpa using hif),List.getElem?_eq_getElem hi],fun m hm=>hz m ?_⟩
  simp only [DataW.weights,hu]
  refine DataW.weights_mem_each (j:=i) (t:=f.type) (d:=xs[i].1) (by rw [List.getElem?_map,hif];rfl) (by rw [List.getElem?_map,List.getElem?_eq_getElem hi];rfl) m hm
 obtain ⟨y,rfl,hw⟩:=hy ls h2
 exact ⟨y,by simpa using h1,hw⟩
def zlu (P:Program) {α:Type} (t:TypeId) (r:Rp α) (W:α→Prop):Prop:=∀n,zoa P n t r W
theorem zmU {α:Type} {r:Rp α} {W:α→Prop} {B:Nat} (hu:P.underlying t=some (.slice e)) (hc:P.cellsOf e=r.size) (hB:P.bytesOf e=B) (h:zlu P e r W):zlu P t r.list fun xs=>xs.length*B≤140737488351232∧∀x∈xs,W x
 | 0=>zsN
 | n+1=>zyY hu hc hB (h n)
theorem zoh {α:Type} {r:Rp α} {W:α→Prop} {fs:Array Field} {S:List LV→Prop} (hu:P.underlying t=some (.struct fs)) (hc:P.cellsOf t=(fs.toList.map fun f=>P.cellsOf f.type).sum) (hf:∀n,FOk P n fs.toList 0 S) (hy:∀ls,S ls→∃y,ls=r.lv y∧W y):zlu P t r W
 | 0=>zsN
 | n+1=>zvT hu hc (hf n) hy
end
section
variable {P:Program} {H:Type} {enc:TypeId×Value→H} {w:World} {t e:TypeId} {v:Value} {d:DataW H} {ps:List MemPlace}
theorem zDT {l:LV} (h:zbg allF w l v):zbg ((gh0 allF).F [0]) w l v:=zbg.mono h fun b _ _=>by
 show (gh0 allF).col b∈[0]
 rw [zzK allF b trivial];exact List.mem_cons_self
theorem zzB {k:IntKind} (hu:P.underlying t=some (.int k)) (hval:Value.okWide P w .any 0 t v) (h:DataW.Trod enc P w 0 (fun _=>true) true t v d ps) (_hz:SzOk P t d):∃m:Int,AV.rel (gh0 allF) w (.lf (.int k m)) v∧(Lit.int k m).wf=true:=by
 obtain ⟨m,rfl,_,_,hw⟩:=open_int hu hval h
 exact ⟨m,⟨rfl,.int k m⟩,hw⟩
theorem zBM {α:Type} {r:Rp α} {W:List α→Prop} (hu:P.underlying t=some (.slice e)) (ho:zlu P t r.list W) (hval:Value.okWide P w .any 0 t v) (h:DataW.Trod enc P w 0 (fun _=>true) true t v d ps) (hz:SzOk P t d):∃xs:List α,AV.rel (gh0 allF) w (.sl r [0] xs) v∧W xs:=by
 obtain ⟨a,len,cap,rfl⟩:=okWide_slice hu hval
 obtain ⟨fuel,hf⟩:=h
 obtain ⟨y,hy,hw⟩:=ho fuel enc w _ _ _ _ hf hz
 have hy':zab allF w [.sl y.length r.size (y.flatMap r.lv)] [.slice a len cap]:=hy
 obtain ⟨u,hu',hl⟩:=hy'.single
 cases hu'
 exact ⟨y,zDT hl,hw⟩
end
theorem zAP {P:Program} {f:FuncId} {ins:List AV} {b:Bool} (h:FnOk P f ins [.lf (.bool b)]) (hb:b=true) {w:World} {vs:List Value} (hr:AV.relL (gh0 allF) w ins vs):
  Calls P f vs.toArray w fun e w'=>e= .returned (.bool true)∧Below w.heap.size w w':=by
 subst hb
 refine (h w allF vs hr).mono ?_
 rintro e w' ⟨γ,us,rfl,hbel,_,v,us',rfl,hv,hu⟩
 have hu':us'=[]:=hu
 subst hu'
 exact ⟨by rw [ziT hv];rfl,hbel⟩
end Go.Proofs.YtcbkcblkecmjnaaGreat
namespace Go.Proofs.YtcbkcblkecmjnaaGreat
open Go Go.RowKit
theorem zFg {P:Program} {o:Oper} {ins ins':List (Operand×AV)} {bx:List Bx} {W V:List Nat} {av:AV} {bs:List Bx} (h:zH P o ins' bx W V av bs) (e:ins'=ins):zH P o ins bx W V av bs:=e▸h
theorem lw_0 {P:Program} {l:List Oper} {is:List DIn}:zdl P l [] is:=by cases l<;>simp [zdl]
theorem lw_e {P:Program} {o:Oper} {l:List Oper} {ss:List zjf} {is:List DIn} (h:zdl P l ss is):zdl P (o::l) (.ev::ss) is:=by simpa [zdl] using h
theorem lw_x {P:Program} {o:Oper} {l:List Oper} {bl W V:List Nat} {av:AV} {bs:List Bx} {ss:List zjf} {ins:List (Operand×AV)} {bxs:List Bx} {is:List DIn} (h:zH P o ins bxs W V av bs) (h2:zdl P l ss is):
  zdl P (o::l) (.ex bl W V av bs::ss) (⟨ins,bxs,[]⟩::is):=by simp only [zdl];exact ⟨h,h2⟩
theorem lw_r {P:Program} {o:Oper} {l:List Oper} {ix W V:List Nat} {prod rq:List Fact} {ss:List zjf} {is:List DIn} (h:zqO P o rq W V prod) (h2:zdl P l ss is):
  zdl P (o::l) (.raw ix W V prod::ss) (⟨[],[],rq⟩::is):=by simp only [zdl];exact ⟨h,h2⟩
def ztk (P:Program):List Field→List (Nat×Nat)→Bool
 | [],[]=>true
 | f::fs,(o,s)::ps=>Nat.beq f.offset o&&(match P.info? f.type with| some i=>Nat.beq i.size s| none=>false)&&ztk P fs ps
 | _,_=>false
theorem zoK {P:Program}:∀(fs:List Field) (ps:List (Nat×Nat)),ztk P fs ps=true→∀w,(fs.mapM (m:=Sem) fun (f:Field)=>do pure (f.offset,←sizeOf f.type)).run P w= .ok ps w
 | [],[],_,w=>rfl
 | f::fs,(o,s)::ps,h,w=>by
  simp only [ztk,Bool.and_eq_true] at h
  obtain ⟨⟨h1,h2⟩,h3⟩:=h
  have h1:=Nat.eq_of_beq_eq_true h1
  split at h2
  ·rename_i i hi
   have h2:=Nat.eq_of_beq_eq_true h2
   subst h1 h2
   have hs:(sizeOf f.type).run P w= .ok i.size w:=by simp [sizeOf,typeInfo,hi]
   simp only [List.mapM_cons,Sem.run_bind,hs,Result.andThen_ok,Sem.run_pure,zoK fs ps h3 w]
  ·cases h2
 | [],_::_,h,_=>by cases h
 | _::_,[],h,_=>by cases h
def stB (P:Program) (t:TypeId) (fs:Array Field) (places:List (Nat×Nat)) (zl:List LV):Bool:=ztk P fs.toList places&&match P.info? t with
 | some i=>match i.zero with
  | some z=>zokL zl z.cells.toList
  | none=>false
 | none=>false
theorem StT.ofB {P:Program} {t:TypeId} {fs:Array Field} {places:List (Nat×Nat)} {zl:List LV} (hu:P.underlying t=some (.struct fs)) (h:stB P t fs places zl=true):StT P t places zl:=by
 simp only [stB,Bool.and_eq_true] at h
 obtain ⟨h1,h2⟩:=h
 split at h2
 ·rename_i i hi
  split at h2
  ·rename_i z hz
   refine ⟨fs,z,hu,fun w=>by simp [zeroValue,typeInfo,hi,hz],fun w=>?_,h2⟩
   have:=zoK fs.toList places h1 w
   rw [←Array.toArray_toList (xs:=fs),List.mapM_toArray,Sem.run_map]
   rw [this];rfl
  ·cases h2
 ·cases h2
def zqf:Option TypeDesc→LV→Bool
 | some (.int k),.int k' _=>decide (k=k')
 | some .bool,.bool _=>true
 | some .string,.str _=>true
 | _,_=>false
def zlU (P:Program):Nat→List Field→List LV→Bool
 | _,[],[]=>true
 | off, f :: fs, l :: ls => (f.name != "_" && Nat.beq f.offset off && P.plainKey f.type && zqf (P.underlying f.type) l) && zlU P (off + 1) fs ls
 | _,_,_=>false
def leq:LV→LV→Bool
 | .int _ a,.int _ b=>a==b
 | .bool a,.bool b=>a==b
 | .str a,.str b=>a==b
 | _,_=>false
def eqL:List LV→List LV→Bool
 | [],[]=>true
 | l::ls,m::ms=>leq l m&&eqL ls ms
 | _,_=>false
theorem zEm {P:Program} {t:TypeId} {l m:LV} (h1:zqf (P.underlying t) l=true) (h2:zqf (P.underlying t) m=true) (d:Nat) (w:World):
  (Op.equalIn (d+1) t (zcY l) (zcY m)).run P w= .ok (leq l m) w:=by
 generalize hu:P.underlying t=u at h1 h2
 unfold zqf at h1
 split at h1
 ·rename_i k k' a
  have:=of_decide_eq_true h1
  subst this
  cases m<;>first| cases h2| skip
  rename_i k2 b
  have:=of_decide_eq_true h2
  subst this
  exact run_equalIn_int w d t k k a b hu
 ·cases m<;>first| cases h2| skip
  exact run_equalIn_bool' w d t _ _ hu
 ·cases m<;>first| cases h2| skip
  have:=run_equalIn_string w d t ⟨(‹List UInt8›:List UInt8).toArray⟩ ⟨(‹List UInt8›:List UInt8).toArray⟩ hu
  rename_i a b
  have:=run_equalIn_string w d t ⟨a.toArray⟩ ⟨b.toArray⟩ hu
  simp only [zcY,leq]
  rw [this]
  simp [ByteArray.toList_eq]
 ·cases h1
theorem zoW {P:Program} {xs ys:Array Value} (d:Nat) (w:World):∀(fs:List Field) (ls ms:List LV) (off:Nat),zlU P off fs ls=true→zlU P off fs ms=true→
  (∀i,i<ls.length→xs[off+i]? =(ls.map zcY)[i]?)→(∀i,i<ms.length→ys[off+i]? =(ms.map zcY)[i]?)→(Op.eqFields (d+1) xs ys fs).run P w= .ok (eqL ls ms) w
 | [],[],[],_,_,_,_,_=>rfl
 | f::fs,l::ls,m::ms,off,h1,h2,hx,hy=>by
  simp only [zlU,Bool.and_eq_true] at h1 h2
  obtain ⟨⟨⟨⟨a1,a2⟩,a3⟩,a4⟩,a5⟩:=h1
  obtain ⟨⟨_,b4⟩,b5⟩:=h2
  have hn : f.name ≠ "_" := by simpa using a1
  have ho:=Nat.eq_of_beq_eq_true a2
  have p1:=run_part_plain a3 (xs:=xs) (off:=f.offset) (v:=zcY l) (w:=w) (by rw [ho];simpa using hx 0 (by simp))
  have p2:=run_part_plain a3 (xs:=ys) (off:=f.offset) (v:=zcY m) (w:=w) (by rw [ho];simpa using hy 0 (by simp))
  have ih:=zoW d w fs ls ms (off+1) a5 b5 (fun i hi=>by have:=hx (i+1) (by simpa using hi);simpa [Nat.add_assoc,Nat.add_comm 1 i] using this) (fun i hi=>by have:=hy (i+1) (by simpa using hi);simpa [Nat.add_assoc,Nat.add_comm 1 i] using this)
  simp only [Op.eqFields,hn,ne_eq,not_false_eq_true,if_true,Sem.run_bind,p1,p2,Result.andThen_ok,zEm a4 b4 d w,eqL]
  cases leq l m
  ·rfl
  ·simpa using ih
 | [],[],_::_,_,_,h,_,_=>by cases h
 | [],_::_,_,_,h,_,_,_=>by cases h
 | _::_,[],_,_,h,_,_,_=>by cases h
 | _::_,_::_,[],_,_,h,_,_=>by cases h
theorem eqT {P:Program} {t:TypeId} {fs:Array Field} {ls ms:List LV} {b:Bool} (hu:P.underlying t=some (.struct fs)) (hp:P.stoodInHeld t=false) (h1:zlU P 0 fs.toList ls=true) (h2:zlU P 0 fs.toList ms=true) (he:eqL ls ms=b):
  ∀w,(Op.equalIn 10000 t (.agg (ls.map zcY).toArray) (.agg (ms.map zcY).toArray)).run P w= .ok b w:=fun w=>by
 have hf:P.fieldsOf t=fs:=by unfold Program.fieldsOf;rw [hu]
 rw [run_equalIn_struct w 9999 t _ _ (by rw [hf];exact hu) hp,hf,zoW 9998 w fs.toList ls ms 0 h1 h2 (fun i _=>by simp) (fun i _=>by simp),he]
end Go.Proofs.YtcbkcblkecmjnaaGreat

/-
  What every proof here stands on. No condition.
-/
import Derived.WalkKit
import Derived.Laws.OwnMore
import Derived.Maps.AppendAt
import Derived.LoopN
import Derived.Maps.RangeRun
import Derived.CallsIn
import Derived.LoopNIn
import Derived.TacticsIn
import Derived.OrdersIn
import Derived.Laws.IdiomStrings
import Derived.Laws.StructEq
import Derived.Orders
import Derived.ProofKit
import Derived.OpenShut
import Derived.ShutString
import Derived.ChangeOld
import Derived.Below
import Derived.SizedLaws
import Derived.ChangeKeysEq
set_option autoImplicit true
set_option relaxedAutoImplicit true
namespace Go.Proofs.YtnckiilakdkklaaGreat
open Go Go.RowKit
abbrev qQ:=@Array.foldl_toList
abbrev yc:=@Array.getD_eq_getD_getElem?
abbrev qU:=@Array.getElem?_eq_getElem
abbrev xD:=@Array.getElem?_eq_some_iff
abbrev yH:=@Array.length_toList
abbrev yG:=@Array.toArray_toList
abbrev qY:=@Array.toList_push
abbrev xh:=@Bool.and_eq_true
abbrev xX:=@Bool.eq_iff_iff
abbrev qG:=@Bool.false_eq_true
abbrev pg:=@Bool.false_or
abbrev qv:=@Bool.not_eq_false'
abbrev xJ:=@Bool.not_eq_true'
abbrev pf:=@Bool.or_assoc
abbrev yA:=@Bool.or_eq_false_iff
abbrev qw:=@Bool.or_eq_true
abbrev qk:=@Bool.or_false
abbrev qa:=@Bool.or_true
abbrev qd:=@Bool.true_and
abbrev qz:=@Int.emod_eq_of_lt
abbrev qC:=@Int.tdiv_eq_ediv_of_nonneg
abbrev ym:=@Int.tmod_eq_emod_of_nonneg
abbrev xw:=@Int.toNat_natCast
abbrev yo:=@List.all_cons
abbrev xn:=@List.all_eq_true
abbrev ql:=@List.any_append
abbrev yQ:=@List.any_cons
abbrev qx:=@List.any_eq_true
abbrev yZ:=@List.append_assoc
abbrev pl:=@List.append_cons
abbrev qc:=@List.append_nil
abbrev yf:=@List.cons.injEq
abbrev xO:=@List.cons_append
abbrev pr:=@List.drop_append_of_le_length
abbrev xP:=@List.drop_drop
abbrev yh:=@List.drop_eq_getElem_cons
abbrev yp:=@List.drop_eq_nil_of_le
abbrev qj:=@List.drop_take
abbrev yN:=@List.drop_zero
abbrev yU:=@List.eq_nil_of_length_eq_zero
abbrev qB:=@List.findIdx?_eq_none_iff
abbrev pd:=@List.findIdx?_eq_some_iff_getElem
abbrev pm:=@List.findSome?_cons
abbrev xI:=@List.flatMap_cons
abbrev qu:=@List.flatten_cons
abbrev qP:=@List.foldl_cons
abbrev qD:=@List.getD_eq_getElem?_getD
abbrev qn:=@List.getElem?_append
abbrev yy:=@List.getElem?_drop
abbrev xu:=@List.getElem?_eq_getElem
abbrev xY:=@List.getElem?_eq_some_iff
abbrev yz:=@List.getElem?_map
abbrev x9:=@List.getElem?_take
abbrev pk:=@List.getElem_cons_succ
abbrev pn:=@List.getElem_cons_zero
abbrev xM:=@List.getElem_mem
abbrev qo:=@List.getElem_of_mem
abbrev qV:=@List.headD_cons
abbrev yX:=@List.isEmpty_iff
abbrev xH:=@List.length_append
abbrev xz:=@List.length_cons
abbrev xx:=@List.length_drop
abbrev yR:=@List.length_nil
abbrev yg:=@List.length_pos_iff
abbrev qO:=@List.length_replicate
abbrev xK:=@List.length_take
abbrev yv:=@List.mapM_cons
abbrev qK:=@List.mapM_toArray
abbrev yK:=@List.map_append
abbrev q8:=@List.map_congr_left
abbrev xC:=@List.map_cons
abbrev qg:=@List.map_map
abbrev yL:=@List.map_nil
abbrev qq:=@List.map_toArray
abbrev xl:=@List.mem_append
abbrev xN:=@List.mem_append_left
abbrev xG:=@List.mem_append_right
abbrev xj:=@List.mem_cons
abbrev xg:=@List.mem_cons_of_mem
abbrev xf:=@List.mem_cons_self
abbrev yn:=@List.mem_filter
abbrev yx:=@List.mem_flatMap
abbrev xr:=@List.mem_map
abbrev qb:=@List.mem_map_of_mem
abbrev qt:=@List.mem_of_getElem?
abbrev xQ:=@List.mem_singleton
abbrev xU:=@List.nil_append
abbrev q7:=@List.nodup_cons
abbrev yw:=@List.nodup_nil
abbrev xA:=@List.not_mem_nil
abbrev xW:=@List.pairwise_cons
abbrev pp:=@List.set_eq_take_append_cons_drop
abbrev qF:=@List.singleton_append
abbrev qW:=@List.size_toArray
abbrev qI:=@List.take_append
abbrev xZ:=@List.take_append_drop
abbrev yY:=@List.take_of_length_le
abbrev ya:=@List.take_succ_cons
abbrev ph:=@List.take_succ_eq_append_getElem
abbrev qE:=@List.take_take
abbrev yl:=@List.take_zero
abbrev yE:=@Nat.add_assoc
abbrev qA:=@Nat.add_comm
abbrev qr:=@Nat.add_sub_cancel
abbrev q9:=@Nat.add_sub_cancel_left
abbrev yd:=@Nat.add_zero
abbrev pq:=@Nat.and_two_pow_sub_one_eq_mod
abbrev xk:=@Nat.eq_of_beq_eq_true
abbrev qT:=@Nat.eq_zero_or_pos
abbrev xy:=@Nat.le_of_ble_eq_true
abbrev yD:=@Nat.le_of_not_lt
abbrev xi:=@Nat.le_refl
abbrev yb:=@Nat.le_trans
abbrev xp:=@Nat.lt_of_lt_of_le
abbrev yW:=@Nat.lt_of_succ_le
abbrev yj:=@Nat.lt_or_ge
abbrev qf:=@Nat.min_eq_left
abbrev qM:=@Nat.mod_eq_of_lt
abbrev qh:=@Nat.mul_assoc
abbrev yO:=@Nat.mul_comm
abbrev qL:=@Nat.mul_le_mul_left
abbrev yi:=@Nat.mul_le_mul_right
abbrev qy:=@Nat.not_lt
abbrev yS:=@Nat.one_pos
abbrev pj:=@Nat.pow_le_pow_right
abbrev yP:=@Nat.pow_succ
abbrev yM:=@Nat.sub_zero
abbrev yC:=@Nat.succ_mul
abbrev xL:=@Nat.zero_add
abbrev xm:=@Nat.zero_le
abbrev yV:=@Oper.upon_enter
abbrev qS:=@Oper.upon_skip
abbrev qJ:=@Oper.wpIn_mono
abbrev qZ:=@Option.map_none
abbrev yI:=@Option.map_some
abbrev yk:=@Option.some.inj
abbrev xF:=@Option.some.injEq
abbrev xS:=@Prod.mk.injEq
abbrev xq:=@Result.andThen_ok
abbrev xo:=@Sem.run_bind
abbrev xE:=@Sem.run_pure
abbrev qm:=@World.cell?_of_block
abbrev qe:=@and_true
abbrev yT:=@callsIn_wide
abbrev yu:=@cell_of_row
abbrev yq:=@decide_eq_decide
abbrev xR:=@decide_eq_false
abbrev pi:=@decide_eq_false_iff_not
abbrev xT:=@decide_eq_true
abbrev xt:=@decide_eq_true_eq
abbrev qH:=@eq_false_of_ne_true
abbrev yJ:=@heap_alloc_new
abbrev xV:=@if_false
abbrev xd:=@if_neg
abbrev xe:=@if_pos
abbrev x8:=@if_true
abbrev yr:=@not_true_eq_false
abbrev po:=@of_decide_eq_false
abbrev yB:=@of_decide_eq_true
abbrev xB:=@or_false
abbrev qX:=@run_part_plain
abbrev qR:=@run_storeCells_at
abbrev ye:=@run_underlying
abbrev qN:=@size_madeCells
abbrev q6:=@size_zeroCells
abbrev qi:=@true_and
abbrev yF:=@wpIn_mono
def zfp {σ ρ:Type} (body:σ->Option (σ⊕ρ)):Nat->σ->Option ρ
 | 0,_=>none
 | n+1,s=>match body s with
  | none=>none
  | some (.inl s')=>zfp body n s'
  | some (.inr r)=>some r
open Classical in
noncomputable def zaa {σ ρ:Type} (body:σ->Option (σ⊕ρ)) (s:σ):Option ρ:=
 if h:∃n r,zfp body n s=some r then zfp body h.choose s else none
theorem zuu {σ ρ:Type} {body:σ->Option (σ⊕ρ)} {n:Nat} {s:σ} {r:ρ} (h:zfp body n s=some r):zfp body (n+1) s=some r:=by
 induction n generalizing s with
 | zero=>simp [zfp] at h
 | succ n ih=>
  rw [zfp] at h|-
  grind
theorem ztb {σ ρ:Type} {body:σ->Option (σ⊕ρ)} {n m:Nat} {s:σ} {r:ρ} (h:zfp body n s=some r) (hm:n<=m):zfp body m s=some r:=by
 obtain ⟨k,rfl⟩:=Nat.exists_eq_add_of_le hm;clear hm
 induction k with
 | zero=>exact h
 | succ k ih=>exact zuu ih
theorem zno {σ ρ:Type} {body:σ->Option (σ⊕ρ)} {n:Nat} {s:σ} {r:ρ} (h:zfp body n s=some r):zaa body s=some r:=by
 have hex:∃n r,zfp body n s=some r:=⟨n,r,h⟩;unfold zaa;rw [dif_pos hex];obtain ⟨r',h'⟩:=hex.choose_spec;rw [h'];have h1:=ztb h' (Nat.le_max_left hex.choose n);have h2:=ztb h (Nat.le_max_right hex.choose n)
 grind
theorem zoP {σ ρ:Type} {body:σ->Option (σ⊕ρ)} {s:σ} {r:ρ} (h:zaa body s=some r):∃n,zfp body n s=some r:=by
 unfold zaa at h;split at h
 ·exact ⟨_,h⟩
 ·cases h
theorem zH {σ ρ:Type} {body:σ->Option (σ⊕ρ)} {s s':σ} (h:body s=some (.inl s')):zaa body s=zaa body s':=by
 cases hw:zaa body s' with
 | some r=>
  obtain ⟨n,hn⟩:=zoP hw;exact zno (n:=n+1) (by rw [zfp,h];exact hn)
 | none=>
  cases hw':zaa body s with
  | none=>rfl
  | some r=>
   obtain ⟨n,hn⟩:=zoP hw';cases n with
   | zero=>simp [zfp] at hn
   | succ n=>rw [zfp,h] at hn;rw [zno hn] at hw;cases hw
theorem zI {σ ρ:Type} {body:σ->Option (σ⊕ρ)} {s:σ} {r:ρ} (h:body s=some (.inr r)):zaa body s=some r:=
 zno (n:=1) (by rw [zfp,h])
def ztf {ν:Type} (m:List (Int×ν)):Option (List Int):=
 if (m.all fun p=>(Lit.int .i64 p.1).wf)=true/\m.length*8<=140737488355328 then some ((m.map Prod.fst).mergeSort fun x y=>decide (x<=y)) else none
abbrev Rnd (σ χ:Type):=σ->χ->Option (Bool×σ)
def rnd {σ ρ χ:Type} (kb:σ->χ->Option (σ⊕ρ)):Rnd (σ⊕ρ) χ
 | .inl s,x=>match kb s x with
  | some (.inl s')=>some (true,.inl s')
  | some (.inr r)=>some (false,.inr r)
  | none=>none
 | .inr _,_=>none
theorem zuj {α β:Type} {x:Option α} {f:α->Option β} {r:β} (h:(x>>=f)=some r):∃a,x=some a/\f a=some r:=by
 cases x with
 | none=>cases h
 | some a=>exact ⟨a,rfl,h⟩
theorem zjK {α:Type} {c:Bool} {x y:Option α} {r:α} (h:(if c then x else y)=some r):(c=true/\x=some r)\/(c=false/\y=some r):=by
 grind
def idx {α:Type} (xs:List α) (i:Int):Option α:=if 0<=i then xs[i.toNat]? else none
def cut {α:Type} (xs:List α) (i j:Int):Option (List α):=if 0<=i/\i<=j/\j<=xs.length then some ((xs.drop i.toNat).take (j.toNat - i.toNat)) else none
inductive LV where
 | int (k:IntKind) (n:Int)
 | bool (b:Bool)
 | str (l:List UInt8)
 | sl (n size:Nat) (ls:List LV)
 | val (v:Value)
abbrev Fp:=Nat->Prop
inductive zaf (F:Fp) (w:World):LV->Value->Prop
 | int (k:IntKind) (n:Int):zaf F w (.int k n) (.int k n)
 | bool (b:Bool):zaf F w (.bool b) (.bool b)
 | str (l:List UInt8):zaf F w (.str l) (.string ⟨l.toArray⟩)
 | val (v:Value) (h:v.oneCell'=true):zaf F w (.val v) v
 | sl (n size:Nat) (ls:List LV) (A:Option Addr) (c:Nat) (cs:List Value) (hl:ls.length=n*size) (hcs:cs.length=n*size) (hc:n<=c) (hm:c<=maxLen)
   (hA:0<n->∃b off,A=some ⟨b,off,none⟩/\F b/\b<w.heap.size/\∀i,i<n*size->w.cell? ⟨b,off+i,none⟩=cs[i]?)
   (hr:∀(i:Nat) (l:LV) (u:Value),ls[i]? =some l->cs[i]? =some u->zaf F w l u):
   zaf F w (.sl n size ls) (.slice A n c)
def zJ (F:Fp) (w:World) (ls:List LV) (cs:List Value):Prop:=ls.length=cs.length/\∀(i:Nat) (l:LV) (u:Value),ls[i]? =some l->cs[i]? =some u->zaf F w l u
structure zqs (F:Fp) (w w':World):Prop where
 size:w.heap.size<=w'.heap.size
 block:∀b,b<w.heap.size->F b->w'.heap[b]? =w.heap[b]?
section
variable {F G:Fp} {w w':World}
theorem zqs.cell (h:zqs F w w') (hb:a.block<w.heap.size) (hF:F a.block):w'.cell? a=w.cell? a:=qm (h.block _ hb hF)
theorem zaf.keep (h:zaf F w l v) (hk:zqs F w w'):zaf F w' l v:=by
 induction h with
 | int k n=>exact .int k n
 | bool b=>exact .bool b
 | str l=>exact .str l
 | val v h=>exact .val v h
 | sl n size ls A c cs hl hcs hc hm hA hr ih=>
  refine .sl n size ls A c cs hl hcs hc hm (fun hn=>?_) ih;obtain ⟨b,off,e,hF,hb,hcell⟩:=hA hn;exact ⟨b,off,e,hF,xp hb hk.size,fun i hi=>(hk.cell (a:=⟨b,off+i,none⟩) hb hF).trans (hcell i hi)⟩
theorem zaf.mono (h:zaf F w l v) (hG:∀b,b<w.heap.size->F b->G b):zaf G w l v:=by
 induction h with
 | int k n=>exact .int k n
 | bool b=>exact .bool b
 | str l=>exact .str l
 | val v h=>exact .val v h
 | sl n size ls A c cs hl hcs hc hm hA hr ih=>
  refine .sl n size ls A c cs hl hcs hc hm (fun hn=>?_) ih
  grind
theorem zaf.one (h:zaf F w l v):v.oneCell'=true:=by
 cases h<;>first| rfl| assumption
theorem zJ.keep (h:zJ F w ls cs) (hk:zqs F w w'):zJ F w' ls cs:=⟨h.1,fun i l u h1 h2=>(h.2 i l u h1 h2).keep hk⟩
theorem zJ.mono (h:zJ F w ls cs) (hG:∀b,b<w.heap.size->F b->G b):zJ G w ls cs:=⟨h.1,fun i l u h1 h2=>(h.2 i l u h1 h2).mono hG⟩
theorem zJ.nil:zJ F w [] []:=⟨rfl,fun i l u h1=>by simp at h1⟩
theorem zJ.append (h:zJ F w ls cs) (k:zJ F w ms ds):zJ F w (ls++ms) (cs++ds):=by
 refine ⟨by rw [xH,xH,h.1,k.1],fun i l u h1 h2=>?_⟩;rw [qn] at h1 h2;rw [h.1] at h1;split at h1
 ·rename_i hi;rw [xe hi] at h2;exact h.2 i l u h1 h2
 ·rename_i hi;rw [xd hi] at h2;exact k.2 _ l u h1 h2
theorem zJ.drop (h:zJ F w ls cs) (k:Nat):zJ F w (ls.drop k) (cs.drop k):=
 ⟨by simp [h.1],fun i l u h1 h2=>h.2 (k+i) l u (by simpa using h1) (by simpa using h2)⟩
theorem zJ.take (h:zJ F w ls cs) (k:Nat):zJ F w (ls.take k) (cs.take k):=by
 refine ⟨by simp [h.1],fun i l u h1 h2=>?_⟩;rw [x9] at h1 h2;split at h1
 ·rename_i hi;rw [xe hi] at h2;exact h.2 i l u h1 h2
 ·cases h1
theorem zJ.cons (h:zaf F w l v) (k:zJ F w ls cs):zJ F w (l::ls) (v::cs):=
 zJ.append (ls:=[l]) (cs:=[v]) ⟨rfl,fun i l' u h1 h2=>by
  cases i with
  | zero=>simp at h1 h2;subst h1 h2;exact h
  | succ i=>simp at h1⟩ k
theorem zJ.one (h:zJ F w ls cs):∀u∈cs,u.oneCell'=true:=by
 intro u hu;obtain ⟨i,hi,rfl⟩:=qo hu;exact (h.2 i _ _ (xu (by rw [h.1];exact hi)) (xu hi)).one
theorem zJ.head (h:zJ F w (l::ls) cs):∃v cs',cs=v::cs'/\zaf F w l v/\zJ F w ls cs':=by
 cases cs with
 | nil=>have:=h.1;simp at this
 | cons v cs'=>exact ⟨v,cs',rfl,h.2 0 l v rfl rfl,h.drop 1⟩
theorem zJ.single (h:zJ F w [l] cs):∃v,cs=[v]/\zaf F w l v:=by
 obtain ⟨v,cs',rfl,h1,h2⟩:=h.head;have:=h2.1;cases cs' with
 | nil=>exact ⟨v,rfl,h1⟩
 | cons=>simp at this
end
structure Rp (α:Type) where
 size:Nat
 agg:Bool
 lv:α->List LV
 len:∀x,(lv x).length=size
 pos:0<size
theorem Rp.flat {α:Type} (r:Rp α) (xs:List α):(xs.flatMap r.lv).length=xs.length*r.size:=by
 induction xs with
 | nil=>simp
 | cons x xs ih=>simp only [xI,xH,ih,r.len,xz,yC];omega
theorem Rp.flat_drop {α:Type} (r:Rp α) (xs:List α) (k:Nat):(xs.drop k).flatMap r.lv=(xs.flatMap r.lv).drop (k*r.size):=by
 induction k generalizing xs with
 | zero=>simp
 | succ k ih=>
  cases xs with
  | nil=>simp
  | cons x xs=>
   have hx:=r.len x;rw [List.drop_succ_cons,ih,xI,List.drop_append,hx,yC];simp_all
theorem Rp.flat_take {α:Type} (r:Rp α) (xs:List α) (k:Nat):(xs.take k).flatMap r.lv=(xs.flatMap r.lv).take (k*r.size):=by
 induction k generalizing xs with
 | zero=>simp
 | succ k ih=>
  cases xs with
  | nil=>simp
  | cons x xs=>
   have hx:=r.len x;rw [ya,xI,ih,xI,qI,hx,yC]
   grind
theorem Rp.flat_at {α:Type} (r:Rp α) (xs:List α) (k:Nat) (x:α) (h:xs[k]? =some x):((xs.flatMap r.lv).drop (k*r.size)).take r.size=r.lv x:=by
 rw [<-r.flat_drop];have hk:k<xs.length:=(xY.1 h).1;have e:xs.drop k=x::xs.drop (k+1):=by
  rw [yh hk]
  grind
 have hx:=r.len x
 grind
def Rp.byte:Rp UInt8:=⟨1,false,fun c=>[.int .u8 c.toNat],fun _=>rfl,yS⟩
def Rp.int (k:IntKind):Rp Int:=⟨1,false,fun n=>[.int k n],fun _=>rfl,yS⟩
def Rp.bool:Rp Bool:=⟨1,false,fun n=>[.bool n],fun _=>rfl,yS⟩
def Rp.str:Rp (List UInt8):=⟨1,false,fun n=>[.str n],fun _=>rfl,yS⟩
def Rp.list {α:Type} (r:Rp α):Rp (List α):=⟨1,false,fun xs=>[.sl xs.length r.size (xs.flatMap r.lv)],fun _=>rfl,yS⟩
structure Gh where
 col:Nat->Nat
 box:Nat->Nat
def Gh.F (γ:Gh) (C:List Nat):Fp:=fun b=>γ.col b∈C
structure Cu where
 R:List Nat->List Nat->Nat->Gh->World->Value->Prop
 one:∀{C1 C2:List Nat} {ℓ:Nat} {γ:Gh} {w:World} {v:Value},R C1 C2 ℓ γ w v->v.oneCell'=true
 move:∀{C1 C2 C1' C2':List Nat} {ℓ ℓ':Nat} {γ γ':Gh} {w w':World} {v:Value},w.heap.size<=w'.heap.size->(∀b,b<w.heap.size->γ.col b∈ℓ::(C1++C2)->w'.heap[b]? =w.heap[b]?)->(∀b,b<w.heap.size->γ.col b=ℓ->γ'.col b=ℓ')->
  (∀b,b<w.heap.size->γ.F C1 b->γ'.F C1' b)->(∀b,b<w.heap.size->γ.F C2 b->γ'.F C2' b)->γ'.box ℓ'=γ.box ℓ->R C1 C2 ℓ γ w v->R C1' C2' ℓ' γ' w' v
inductive AV:Type 1 where
 | any
 | lf (l:LV)
 | sl {α:Type} (r:Rp α) (C:List Nat) (xs:List α)
 | own {α:Type} (r:Rp α) (e:TypeId) (ℓ:Nat) (C:List Nat) (xs:List α)
 | rc {α:Type} (r:Rp α) (C:List Nat) (x:α)
 | ep {α:Type} (r:Rp α) (C:List Nat) (x:α) (off:Nat)
 | ptr (ℓ off:Nat)
 | mp {κ ν:Type} (rk:Rp κ) (rv:Rp ν) (C:List Nat) (m:List (κ×ν))
 | om {κ ν:Type} (rk:Rp κ) (rv:Rp ν) (ℓ:Nat) (C:List Nat) (m:List (κ×ν))
 | tup (l:List AV)
 | ag (l:List AV)
 | fv (g:Nat) (l:List AV)
 | bp {α:Type} (r:Rp α) (t:TypeId) (ℓ:Nat) (C:List Nat) (x:α)
 | it {κ ν:Type} (rk:Rp κ) (rv:Rp ν) (ℓ:Nat) (C:List Nat) (last left:List (κ×ν))
 | bs (ℓ n:Nat)
 | tl (ℓ off n:Nat)
 | qp {α:Type} (r:Rp α) (C:List Nat) (o:Option α)
 | em {κ ν:Type} (rk:Rp κ) (rv:Rp ν) (C:List Nat) (m:List (κ×ν))
 | mo {κ α:Type} [DecidableEq κ] (rk:Rp κ) (r:Rp α) (e:TypeId) (ℓ:Nat) (C:List Nat) (m:List (κ×List α))
 | cu (c:Cu) (ℓ:Nat) (C1 C2:List Nat)
def LV.plain:LV->Bool
 | .sl ..=>false
 | _=>true
theorem zaf.plain (h:zaf F w l v) (hp:l.plain=true):zaf G w' l v:=by
 cases h with
 | int k n=>exact .int k n
 | bool b=>exact .bool b
 | str l=>exact .str l
 | val v h=>exact .val v h
 | sl=>cases hp
def VRel {α:Type} (F:Fp) (w:World) (r:Rp α) (x:α) (v:Value):Prop:=zJ F w (r.lv x) v.cells.toList/\(r.agg=true->∃cs:List Value,v= .agg cs.toArray)/\(r.agg=false->v.cells=#[v])
theorem VRel.mono {α:Type} {F G:Fp} {w:World} {r:Rp α} {x:α} {v:Value} (h:VRel F w r x v) (hG:∀b,b<w.heap.size->F b->G b):VRel G w r x v:=⟨h.1.mono hG,h.2⟩
theorem VRel.keep {α:Type} {F:Fp} {w w':World} {r:Rp α} {x:α} {v:Value} (h:VRel F w r x v) (hk:zqs F w w'):VRel F w' r x v:=⟨h.1.keep hk,h.2⟩
inductive zbq {κ ν:Type} (F:Fp) (w:World) (rk:Rp κ) (rv:Rp ν):List (κ×ν)->List MapEntry->Prop
 | nil:zbq F w rk rv [] []
 | cons {p:κ×ν} {m:List (κ×ν)} {e:MapEntry} {es:List MapEntry} (h1:VRel F w rk p.1 e.key) (h2:VRel F w rv p.2 e.val) (h:zbq F w rk rv m es):zbq F w rk rv (p::m) (e::es)
theorem zbq.mono {κ ν:Type} {F G:Fp} {w:World} {rk:Rp κ} {rv:Rp ν} {m:List (κ×ν)} {es:List MapEntry} (h:zbq F w rk rv m es) (hG:∀b,b<w.heap.size->F b->G b):zbq G w rk rv m es:=by
 induction h with
 | nil=>exact .nil
 | cons h1 h2 _ ih=>exact .cons (h1.mono hG) (h2.mono hG) ih
theorem zbq.keep {κ ν:Type} {F:Fp} {w w':World} {rk:Rp κ} {rv:Rp ν} {m:List (κ×ν)} {es:List MapEntry} (h:zbq F w rk rv m es) (hk:zqs F w w'):zbq F w' rk rv m es:=by
 induction h with
 | nil=>exact .nil
 | cons h1 h2 _ ih=>exact .cons (h1.keep hk) (h2.keep hk) ih
def StOk {κ ν:Type} (m:List (κ×ν)) (es:Array MapEntry) (cl:Nat):Prop:=(∀x∈es.toList,x.born<cl)/\(es.toList.map (·.born)).Nodup/\(m.map Prod.fst).Nodup
def mget {κ ν:Type} [DecidableEq κ]:List (κ×ν)->κ->Option ν
 | [],_=>none
 | p::m,k=>if k=p.1 then some p.2 else mget m k
def mput {κ ν:Type} [DecidableEq κ]:List (κ×ν)->κ->ν->List (κ×ν)
 | [],k,x=>[(k,x)]
 | p::m,k,x=>if k=p.1 then (k,x)::m else p::mput m k x
def Rp.valR:Rp Value:=⟨1,false,fun v=>[.val v],fun _=>rfl,by decide⟩
def zjt {α:Type} (γ:Gh) (w:World) (r:Rp α) (e:TypeId) (ℓ:Nat) (C:List Nat) (xs:List α) (v:Value):Prop:=
 ∃cs,w.ownsRow 0 e r.size v xs.length cs/\(∀g,v.ownBlock=some g->γ.col g=ℓ)/\zJ (γ.F C) w (xs.flatMap r.lv) cs
def zxi (u v:Value):Prop:=∀g,u.ownBlock=some g->v.ownBlock≠some g
structure zAE {κ α:Type} [DecidableEq κ] (γ:Gh) (w:World) (r:Rp α) (e:TypeId) (ℓ:Nat) (C:List Nat) (S:κ->Prop) (m:List (κ×List α)) (n:List (κ×Value)):Prop where
 keys:m.map Prod.fst=n.map Prod.fst
 row:∀k xs u,mget m k=some xs->mget n k=some u->S k->zjt γ w r e ℓ C xs u
 apart:∀j k u v,j≠k->mget n j=some u->mget n k=some v->S j->S k->zxi u v
def MoIn {κ α:Type} [DecidableEq κ] (γ:Gh) (w:World) (rk:Rp κ) (r:Rp α) (e:TypeId) (ℓ:Nat) (C:List Nat) (S:κ->Prop) (m:List (κ×List α)) (b:Nat) (n:List (κ×Value)):Prop:=
 ∃es cl,(γ.col b=ℓ/\γ.box ℓ=b)/\b<w.heap.size/\w.heap[b]? =some (.map es cl)/\StOk n es cl/\zbq (γ.F C) w rk Rp.valR n es.toList/\zAE γ w r e ℓ C S m n/\ℓ∉C
def zBD {κ ν:Type} (F:Fp) (w:World) (rk:Rp κ) (rv:Rp ν) (last left:List (κ×ν)) (b r:Nat):Prop:=
 ∃es cl seen since c0 ls la,w.heap[r]? =some (.mapIter (some b) since seen c0)/\w.heap[b]? =some (.map es cl)/\(∀x∈es.toList,x.born<since)/\(es.toList.map (·.born)).Nodup/\since<=c0/\since<=cl/\
  ls.Perm (leftOf es seen).toList/\zbq F w rk rv left ls/\zbq F w rk rv last la/\∀e∈la,e∈es.toList/\(∃se:Array Nat,seen=se.push e.born)/\c0=cl
mutual
def AV.rel (γ:Gh) (w:World):AV->Value->Prop
 | .any,_=>True
 | .lf l,v=>l.plain=true/\zaf (fun _=>False) w l v
 | .sl r C xs,v=>zaf (γ.F C) w (.sl xs.length r.size (xs.flatMap r.lv)) v
 | .own r e ℓ C xs,v=>∃cs,w.ownsRow 0 e r.size v xs.length cs/\(∀g,v.ownBlock=some g->γ.col g=ℓ/\γ.box ℓ=g)/\zJ (γ.F C) w (xs.flatMap r.lv) cs/\ℓ∉C
 | .rc r C x,v=>∃cs,v= .agg cs.toArray/\zJ (γ.F C) w (r.lv x) cs
 | .ep r C x off,v=>∃b o cs,v= .pointer (some ⟨b,o+off,none⟩)/\γ.col b∈C/\b<w.heap.size/\zJ (γ.F C) w (r.lv x) cs/\∀i,i<cs.length->w.cell? ⟨b,o+i,none⟩=cs[i]?
 | .ptr ℓ off,v=>v= .pointer (some ⟨γ.box ℓ,off,none⟩)
 | .bs ℓ n,v=>v= .slice (some ⟨γ.box ℓ,0,none⟩) n n
 | .tl ℓ off n,v=>∃A c,v= .slice A n c/\(0<n->A=some ⟨γ.box ℓ,off,none⟩)
 | .qp r C o,v=>match o with
  | none=>v= .pointer none
  | some x=>∃b cs,v= .pointer (some ⟨b,0,none⟩)/\γ.col b∈C/\b<w.heap.size/\zJ (γ.F C) w (r.lv x) cs/\∀i,i<cs.length->w.cell? ⟨b,0+i,none⟩=cs[i]?
 | .mp rk rv C m,v=>∃b es cl,v= .map (some b)/\γ.col b∈C/\b<w.heap.size/\(w.heap[b]? =some (.map es cl)/\StOk m es cl)/\zbq (γ.F C) w rk rv m es.toList
 | .em rk rv C m,v=>∃a b es cl,v= .pointer (some ⟨a,0,none⟩)/\γ.col a∈C/\a<w.heap.size/\w.cell? ⟨a,0,none⟩=some (.map (some b))/\γ.col b∈C/\b<w.heap.size/\(w.heap[b]? =some (.map es cl)/\StOk m es cl)/\zbq (γ.F C) w rk rv m es.toList
 | .om rk rv ℓ C m,v=>∃b es cl,v= .map (some b)/\(γ.col b=ℓ/\γ.box ℓ=b)/\b<w.heap.size/\(w.heap[b]? =some (.map es cl)/\StOk m es cl)/\zbq (γ.F C) w rk rv m es.toList/\ℓ∉C
 | @AV.mo _ _ _ rk r e ℓ C m,v=>∃b n,v= .map (some b)/\MoIn γ w rk r e ℓ C (fun _=>True) m b n
 | .cu c ℓ C1 C2,v=>c.R C1 C2 ℓ γ w v
 | .tup l,v=>∃vs:List Value,v= .tuple vs.toArray/\AV.relL γ w l vs
 | .ag l,v=>∃vs:List Value,v= .agg vs.toArray/\AV.relL γ w l vs/\∀u∈vs,u.oneCell'=true
 | .fv g l,v=>∃vs:List Value,v= .func (.func g) #[] vs.toArray/\AV.relL γ w l vs
 | .bp r t ℓ C x,v=>∃b cs,v= .pointer (some ⟨b,0,none⟩)/\(γ.col b=ℓ/\γ.box ℓ=b)/\b<w.heap.size/\w.heap[b]? =some (.cells cs t (0,0))/\(∀u∈cs.toList,u.oneCell'=true)/\zJ (γ.F C) w (r.lv x) cs.toList
 | .it rk rv ℓ C last left,v=>∃r b,v= .pointer (some ⟨r,0,none⟩)/\(γ.col r=ℓ/\γ.box ℓ=r)/\r<w.heap.size/\γ.col b∈C/\b<w.heap.size/\zBD (γ.F C) w rk rv last left b r/\ℓ∉C
def AV.relL (γ:Gh) (w:World):List AV->List Value->Prop
 | [],vs=>vs=[]
 | a::l,vs=>∃v vs',vs=v::vs'/\AV.rel γ w a v/\AV.relL γ w l vs'
end
mutual
/-- The colors that a reading looks at. -/
def AV.cols:AV->List Nat
 | .any| .lf _| .ptr _ _| .bs _ _| .tl _ _ _=>[]
 | .sl _ C _| .rc _ C _| .ep _ C _ _| .qp _ C _=>C
 | .own _ _ ℓ C _=>ℓ::C
 | .mp _ _ C _| .em _ _ C _=>C
 | .om _ _ ℓ C _=>ℓ::C
 | @AV.mo _ _ _ _ _ _ ℓ C _=>ℓ::C
 | .cu _ ℓ C1 C2=>ℓ::(C1++C2)
 | .tup l=>AV.colsL l
 | .ag l=>AV.colsL l
 | .fv _ l=>AV.colsL l
 | .bp _ _ ℓ C _=>ℓ::C
 | .it _ _ ℓ C _ _=>ℓ::C
def AV.colsL:List AV->List Nat
 | []=>[]
 | a::l=>AV.cols a++AV.colsL l
end
mutual
/-- The boxes that it points into. -/
def AV.labs:AV->List Nat
 | .ptr ℓ _=>[ℓ]
 | .bs ℓ _=>[ℓ]
 | .tl ℓ _ _=>[ℓ]
 | .own _ _ ℓ _ _=>[ℓ]
 | .om _ _ ℓ _ _=>[ℓ]
 | @AV.mo _ _ _ _ _ _ ℓ _ _=>[ℓ]
 | .cu _ ℓ _ _=>[ℓ]
 | .tup l=>AV.labsL l
 | .ag l=>AV.labsL l
 | .fv _ l=>AV.labsL l
 | .bp _ _ ℓ _ _=>[ℓ]
 | .it _ _ ℓ _ _ _=>[ℓ]
 | _=>[]
def AV.labsL:List AV->List Nat
 | []=>[]
 | a::l=>AV.labs a++AV.labsL l
end
structure Tr (W V:List Nat) (γ:Gh) (w:World) (γ':Gh) (w':World):Prop where
 os:w'.os=w.os
 tape:w'.tape=w.tape
 output:w'.output=w.output
 size:w.heap.size<=w'.heap.size
 block:∀b,b<w.heap.size->γ.col b∉W->w'.heap[b]? =w.heap[b]?
 col:∀b,b<w.heap.size->γ'.col b=γ.col b
 box:∀ℓ,ℓ∉V->γ'.box ℓ=γ.box ℓ
 fresh:∀b,w.heap.size<=b->b<w'.heap.size->γ'.col b=0->0∈W\/0∈V
section
variable {W V:List Nat} {γ γ':Gh} {w w':World}
theorem Tr.refl (W V:List Nat) (γ:Gh) (w:World):Tr W V γ w γ w:=⟨rfl,rfl,rfl,xi _,fun _ _ _=>rfl,fun _ _=>rfl,fun _ _=>rfl,fun b h1 h2=>by omega⟩
theorem Tr.lv (h:Tr W V γ w γ' w') (hC:∀c∈C,c∉W) (hl:zaf (γ.F C) w l v):zaf (γ'.F C) w' l v:=by
 have h1:zaf (fun b=>γ.F C b/\b<w.heap.size) w l v:=hl.mono fun b hb hF=>⟨hF,hb⟩
 refine (h1.keep (w':=w') ⟨h.size,fun b hb hF=>h.block b hb (hC _ hF.1)⟩).mono fun b hb hF=>?_
 show γ'.col b∈C;rw [h.col b hF.2];exact hF.1
theorem Tr.all (h:Tr W V γ w γ' w') (hC:∀c∈C,c∉W) (hl:zJ (γ.F C) w ls cs):zJ (γ'.F C) w' ls cs:=
 ⟨hl.1,fun i l u h1 h2=>h.lv hC (hl.2 i l u h1 h2)⟩
theorem Tr.es (h:Tr W V γ w γ' w') {C:List Nat} (hC:∀c∈C,c∉W) {κ ν:Type} {rk:Rp κ} {rv:Rp ν} {m:List (κ×ν)} {es:List MapEntry} (hl:zbq (γ.F C) w rk rv m es):zbq (γ'.F C) w' rk rv m es:=by
 induction hl with
 | nil=>exact .nil
 | cons h1 h2 _ ih=>exact .cons ⟨h.all hC h1.1,h1.2⟩ ⟨h.all hC h2.1,h2.2⟩ ih
theorem zmh (ho:w.ownsRow base e size v n cs) (hb:∀g,v.ownBlock=some g->w'.heap[g]? =w.heap[g]?):w'.ownsRow base e size v n cs:=by
 refine ⟨ho.1,?_⟩;rcases ho.2 with hn| ⟨g,cap,cur,rfl,hg,hh,uY⟩
 ·exact .inl hn
 ·exact .inr ⟨g,cap,cur,rfl,hg,(hb g rfl).trans hh,uY⟩
theorem MoIn.off {κ α:Type} [DecidableEq κ] {γ:Gh} {w:World} {rk:Rp κ} {r:Rp α} {e:TypeId} {ℓ:Nat} {C:List Nat} {S:κ->Prop} {m:List (κ×List α)} {b:Nat} {n:List (κ×Value)} (h:MoIn γ w rk r e ℓ C S m b n):ℓ∉C:=by
 obtain ⟨es,cl,_,_,_,_,_,_,hn⟩:=h;exact hn
theorem MoIn.regh {κ α:Type} [DecidableEq κ] {γ γ':Gh} {w:World} {rk:Rp κ} {r:Rp α} {e:TypeId} {ℓ ℓ':Nat} {C C':List Nat} {S:κ->Prop} {m:List (κ×List α)} {b:Nat} {n:List (κ×Value)} (h1:∀b,b<w.heap.size->γ.col b=ℓ->γ'.col b=ℓ')
  (h2:∀b,b<w.heap.size->γ.col b∈C->γ'.col b∈C') (h3:γ'.box ℓ'=γ.box ℓ) (h4:ℓ'∉C') (h:MoIn γ w rk r e ℓ C S m b n):MoIn γ' w rk r e ℓ' C' S m b n:=by
 obtain ⟨es,cl,⟨g1,g2⟩,hb,hh,hO,hE,hR,_⟩:=h;refine ⟨es,cl,⟨h1 b hb g1,h3.trans g2⟩,hb,hh,hO,hE.mono h2,⟨hR.keys,fun k xs u a1 a2 a3=>?_,hR.apart⟩,h4⟩;obtain ⟨cs,ho,hg,hA⟩:=hR.row k xs u a1 a2 a3;exact ⟨cs,ho,fun g hgb=>h1 g (ho.lt g hgb).2 (hg g hgb),hA.mono h2⟩
theorem zjt.keep (h:Tr W V γ w γ' w') {α:Type} {r:Rp α} {e:TypeId} {ℓ:Nat} {C:List Nat} {xs:List α} {v:Value} (h1:ℓ∉W) (h2:∀c∈C,c∉W) (hr:zjt γ w r e ℓ C xs v):zjt γ' w' r e ℓ C xs v:=by
 obtain ⟨cs,ho,hg,hA⟩:=hr;have hlt:=ho.lt;exact ⟨cs,zmh ho fun g hgb=>h.block g (hlt g hgb).2 (by rw [hg g hgb];exact h1),fun g hgb=>by rw [h.col g (hlt g hgb).2];exact hg g hgb,h.all h2 hA⟩
theorem MoIn.keep (h:Tr W V γ w γ' w') {κ α:Type} [DecidableEq κ] {rk:Rp κ} {r:Rp α} {e:TypeId} {ℓ:Nat} {C:List Nat} {S:κ->Prop} {m:List (κ×List α)} {b:Nat} {n:List (κ×Value)} (h1:ℓ∉W) (h2:∀c∈C,c∉W) (h3:ℓ∉V)
  (hr:MoIn γ w rk r e ℓ C S m b n):MoIn γ' w' rk r e ℓ C S m b n:=by
 obtain ⟨es,cl,⟨g1,g2⟩,hb,hh,hO,hE,hR,hn⟩:=hr;exact ⟨es,cl,⟨by rw [h.col b hb];exact g1,by rw [h.box ℓ h3];exact g2⟩,xp hb h.size,(h.block b hb (by rw [g1];exact h1)).trans hh,hO,h.es h2 hE,⟨hR.keys,fun k xs u a1 a2 a3=>(hR.row k xs u a1 a2 a3).keep h h1 h2,hR.apart⟩,hn⟩
mutual
theorem AV.keep (a:AV) {v:Value} (h:Tr W V γ w γ' w') (hc:∀c∈a.cols,c∉W) (hl:∀c∈a.labs,c∉V) (hr:a.rel γ w v):a.rel γ' w' v:=by
 match a with
 | .any=>trivial
 | .lf l=>exact ⟨hr.1,hr.2.plain hr.1⟩
 | .sl r C xs=>exact h.lv hc hr
 | .own r e ℓ C xs=>
  obtain ⟨cs,ho,hg,hA,hn⟩:=hr;have hlt:=ho.lt;refine ⟨cs,zmh ho fun g hgb=>h.block g (hlt g hgb).2 ?_,fun g hgb=>?_,h.all (fun c hC=>hc c (xg _ hC)) hA,hn⟩
  ·rw [(hg g hgb).1];exact hc ℓ xf
  ·rw [h.col g (hlt g hgb).2,h.box ℓ (hl ℓ xf)];exact hg g hgb
 | .rc r C x=>
  obtain ⟨cs,hv,hA⟩:=hr;exact ⟨cs,hv,h.all hc hA⟩
 | .ep r C x off=>
  obtain ⟨b,o,cs,hv,hF,hb,hA,hcell⟩:=hr;refine ⟨b,o,cs,hv,by rw [h.col b hb];exact hF,xp hb h.size,h.all hc hA,fun i hi=>?_⟩;rw [<-hcell i hi];exact qm (h.block b hb (hc _ hF))
 | .ptr ℓ off=>
  show v=_;rw [h.box ℓ (hl ℓ xf)];exact hr
 | .bs ℓ n=>
  show v=_;rw [h.box ℓ (hl ℓ xf)];exact hr
 | .tl ℓ off n=>
  obtain ⟨A,c,hv,hA⟩:=hr;exact ⟨A,c,hv,fun hn=>by rw [h.box ℓ (hl ℓ xf)];exact hA hn⟩
 | .qp r C o=>
  cases o with
  | none=>exact hr
  | some x=>
   obtain ⟨b,cs,hv,hF,hb,hA,hcell⟩:=hr;refine ⟨b,cs,hv,by rw [h.col b hb];exact hF,xp hb h.size,h.all hc hA,fun i hi=>?_⟩;rw [<-hcell i hi];exact qm (h.block b hb (hc _ hF))
 | .mp rk rv C m=>
  obtain ⟨b,es,cl,hv,hF,hb,hh,hE⟩:=hr;exact ⟨b,es,cl,hv,by rw [h.col b hb];exact hF,xp hb h.size,⟨(h.block b hb (hc _ hF)).trans hh.1,hh.2⟩,h.es hc hE⟩
 | .em rk rv C m=>
  obtain ⟨a,b,es,cl,hv,hFa,ha,hc1,hF,hb,hh,hE⟩:=hr;exact ⟨a,b,es,cl,hv,by rw [h.col a ha];exact hFa,xp ha h.size,(qm (h.block a ha (hc _ hFa))).trans hc1,by rw [h.col b hb];exact hF,xp hb h.size,⟨(h.block b hb (hc _ hF)).trans hh.1,hh.2⟩,h.es hc hE⟩
 | .om rk rv ℓ C m=>
  obtain ⟨b,es,cl,hv,⟨hF,hbx⟩,hb,hh,hE,hn⟩:=hr;exact ⟨b,es,cl,hv,⟨by rw [h.col b hb];exact hF,by rw [h.box ℓ (hl ℓ xf)];exact hbx⟩,xp hb h.size,⟨(h.block b hb (by rw [hF];exact hc ℓ xf)).trans hh.1,hh.2⟩,h.es (fun c hC=>hc c (xg _ hC)) hE,hn⟩
 | @AV.mo _ _ _ rk r e ℓ C m=>
  obtain ⟨b,n,hv,hm⟩:=hr;exact ⟨b,n,hv,hm.keep h (hc ℓ xf) (fun c hC=>hc c (xg _ hC)) (hl ℓ xf)⟩
 | .cu c ℓ C1 C2=>
  refine c.move h.size (fun b hb hc'=>h.block b hb (hc _ hc')) (fun b hb e=>by rw [h.col b hb];exact e) (fun b hb hF=>?_) (fun b hb hF=>?_) (h.box ℓ (hl ℓ xf)) hr
  ·show γ'.col b∈C1;rw [h.col b hb];exact hF
  ·show γ'.col b∈C2;rw [h.col b hb];exact hF
 | .tup l=>
  obtain ⟨vs,hv,hL⟩:=hr;exact ⟨vs,hv,AV.keepL l h hc hl hL⟩
 | .ag l=>
  obtain ⟨vs,hv,hL,h1⟩:=hr;exact ⟨vs,hv,AV.keepL l h hc hl hL,h1⟩
 | .fv g l=>
  obtain ⟨vs,hv,hL⟩:=hr;exact ⟨vs,hv,AV.keepL l h hc hl hL⟩
 | .bp r t ℓ C x=>
  obtain ⟨b,cs,hv,⟨hF,hbx⟩,hb,hh,h1,hA⟩:=hr;exact ⟨b,cs,hv,⟨by rw [h.col b hb];exact hF,by rw [h.box ℓ (hl ℓ xf)];exact hbx⟩,xp hb h.size,(h.block b hb (by rw [hF];exact hc ℓ xf)).trans hh,h1,h.all (fun c hC=>hc c (xg _ hC)) hA⟩
 | .it rk rv ℓ C last left=>
  obtain ⟨r,b,hv,⟨g1,g2⟩,hr',hF,hb,⟨es,cl,seen,since,c0,ls,la,i1,i2,i3,i4,i5,i6,i7,i8,i9,i10⟩,hn⟩:=hr;have hC:∀c∈C,c∉W:=fun c h1=>hc c (xg _ h1)
  exact ⟨r,b,hv,⟨by rw [h.col r hr'];exact g1,by rw [h.box ℓ (hl ℓ xf)];exact g2⟩,xp hr' h.size,by rw [h.col b hb];exact hF,xp hb h.size,
   ⟨es,cl,seen,since,c0,ls,la,(h.block r hr' (by rw [g1];exact hc ℓ xf)).trans i1,(h.block b hb (hC _ hF)).trans i2,i3,i4,i5,i6,i7,h.es hC i8,h.es hC i9,i10⟩,hn⟩
theorem AV.keepL (l:List AV) (h:Tr W V γ w γ' w') (hc:∀c∈AV.colsL l,c∉W) (hl:∀c∈AV.labsL l,c∉V) (hr:AV.relL γ w l vs):AV.relL γ' w' l vs:=by
 match l with
 | []=>exact hr
 | a::l=>
  obtain ⟨v,vs',rfl,h1,h2⟩:=hr
  exact ⟨v,vs',rfl,AV.keep a h (fun c hC=>hc c (xN _ hC)) (fun c hC=>hl c (xN _ hC)) h1,
   AV.keepL l h (fun c hC=>hc c (xG _ hC)) (fun c hC=>hl c (xG _ hC)) h2⟩
end
theorem Tr.trans (h:Tr W V γ w γ' w') (k:Tr W' V' γ' w' γ'' w''):Tr (W++W') (V++V') γ w γ'' w'':=by
 refine ⟨k.os.trans h.os,k.tape.trans h.tape,k.output.trans h.output,yb h.size k.size,fun b hb hn=>?_,fun b hb=>?_,fun ℓ hn=>?_,fun b h1 h2 h0=>?_⟩
 ·simp only [xl,not_or] at hn;rw [k.block b (xp hb h.size) (by rw [h.col b hb];exact hn.2),h.block b hb hn.1]
 ·rw [k.col b (xp hb h.size),h.col b hb]
 ·simp only [xl,not_or] at hn;rw [k.box ℓ hn.2,h.box ℓ hn.1]
 ·simp only [xl];by_cases hb:b<w'.heap.size
  ·rcases h.fresh b h1 hb (by rw [<-k.col b hb];exact h0) with e| e
   ·grind
   grind
  ·rcases k.fresh b (yD hb) h2 h0 with e| e
   ·grind
   grind
end
structure Bx where
 lab:Nat
 typ:TypeId
 avs:List AV
def Bx.rel (γ:Gh) (w:World) (b:Bx):Prop:=
 γ.col (γ.box b.lab)=b.lab/\∃cs:List Value,w.heap[γ.box b.lab]? =some (.cells cs.toArray b.typ (0,0))/\AV.relL γ w b.avs cs/\∀u∈cs,u.oneCell'=true
structure Env where
 sl:List (Nat×AV)
 bx:List Bx
def memN (c:Nat):List Nat->Bool
 | []=>false
 | x::l=>Nat.beq c x|| memN c l
theorem zae :memN c l=true↔c∈l:=by
 induction l with
 | nil=>simp [memN]
 | cons x l ih=>simp [memN,ih]
def AV.free (W V:List Nat) (a:AV):Bool:=a.cols.all (fun c=> !memN c W)&&a.labs.all (fun c=> !memN c V)
theorem AV.free_spec {W V:List Nat} {a:AV} (h:a.free W V=true):(∀c∈a.cols,c∉W)/\∀c∈a.labs,c∉V:=by
 unfold AV.free at h;simp only [xh,xn,xJ] at h;refine ⟨fun c hc hw=>?_,fun c hc hw=>?_⟩
 ·have:=h.1 c hc;rw [zae.2 hw] at this;cases this
 ·have:=h.2 c hc;rw [zae.2 hw] at this;cases this
def lookup:List (Nat×AV)->Nat->Option AV
 | [],_=>none
 | p::l,k=>match Nat.beq p.1 k with
  | true=>some p.2
  | false=>lookup l k
theorem zbC (h:lookup l k=some a):(k,a)∈l:=by
 induction l with
 | nil=>cases h
 | cons p l ih=>
  rw [lookup] at h;split at h
  ·rename_i hb;have:=xk hb
   grind
  grind
def zlH:Value->Option AV
 | .int k n=>some (.lf (.int k n))
 | .bool b=>some (.lf (.bool b))
 | .string s=>some (.lf (.str s.data.toList))
 | .slice none n c=>some (.lf (.val (.slice none n c)))
 | .nilFunc=>some (.lf (.val .nilFunc))
 | .pointer none=>some (.lf (.val (.pointer none)))
 | .map none=>some (.lf (.val (.map none)))
 | .nilIface=>some (.lf (.val .nilIface))
 | _=>none
theorem zjz (h:zlH v=some a) (γ:Gh) (w:World):a.rel γ w v:=by
 unfold zlH at h;split at h
 all_goals cases h
 ·exact ⟨rfl,.int _ _⟩
 ·exact ⟨rfl,.bool _⟩
 ·rename_i s;refine ⟨rfl,?_⟩;have:=zaf.str (F:=fun _=>False) (w:=w) s.data.toList;simpa using this
 all_goals exact ⟨rfl,.val _ rfl⟩
def Env.opd (E:Env):Operand->Option AV
 | .tmp t=>lookup E.sl t
 | .const v=>zlH v
 | .func f=>some (.lf (.val (.func (.func f) #[] #[])))
 | .global _=>none
def spB (c:Nat):Bool:=Nat.ble 800000 c&&Nat.ble c 899999
structure zon (γ γ':Gh):Prop where
 zero:∀b,γ.col b=0->γ'.col b=0
 one:∀b,γ.col b=1->γ'.col b=1
 back:∀b,γ'.col b=0->γ.col b=0
 old:∀b,spB (γ.col b)=true->γ'.col b=γ.col b
structure Ext where
 X:Gh->World->Prop
 tr:∀{γ γ':Gh} {w w':World} {W V:List Nat},X γ w->Tr W V γ w γ' w'->(∀c∈W,2<=c)->(∀c∈V,2<=c)->X γ' w'
 ren:∀{γ γ':Gh} {w:World},X γ w->zon γ γ'->X γ' w
 base:Nat
 le:∀{γ:Gh} {w:World},X γ w->base<=w.heap.size
def fnX (w0:World) (F:Fp):Ext where
 X γ w:=Below w0.heap.size w0 w/\(∀b,b<w0.heap.size->(γ.col b=0/\F b)\/γ.col b=1)/\∀b,w0.heap.size<=b->b<w.heap.size->γ.col b≠0
 tr:=fun {γ γ' w w' W V} h t hW hV=>by
  have hlt:∀b,b<w0.heap.size->b<w.heap.size:=fun b hb=>xp hb h.1.size
  have hn:∀b,b<w0.heap.size->γ.col b∉W:=fun b hb hc=>by
   have:=hW _ hc;rcases h.2.1 b hb with ⟨h0,_⟩| h0<;>omega
  refine ⟨⟨t.os.trans h.1.os,t.tape.trans h.1.tape,t.output.trans h.1.output,yb h.1.size t.size,fun b hb=>?_⟩,fun b hb=>?_,fun b h1 h2 h0=>?_⟩
  ·rw [t.block b (hlt b hb) (hn b hb)];exact h.1.block b hb
  ·rw [t.col b (hlt b hb)];exact h.2.1 b hb
  ·by_cases hb:b<w.heap.size
   ·exact h.2.2 b h1 hb (by rw [<-t.col b hb];exact h0)
   ·rcases t.fresh b (yD hb) h2 h0 with e| e
    ·have:=hW _ e;omega
    ·have:=hV _ e;omega
 ren:=fun {γ γ' w} h k=>⟨h.1,fun b hb=>(h.2.1 b hb).imp (fun ⟨h0,hF⟩=>⟨k.zero b h0,hF⟩) (k.one b),fun b h1 h2 h0=>h.2.2 b h1 h2 (k.back b h0)⟩
 base:=w0.heap.size
 le:=fun h=>h.1.size
def zlE (n0:Nat) (γ:Gh) (w:World) (ds:List Deferred):Prop:=
 ∃Ds:List Nat,ds=Ds.map (fun D=>{target:= .collected D,args:=#[]})/\Ds.Nodup/\∀D∈Ds,n0<=D/\w.heap[D]? =some (.deferred (some []))/\γ.col D=1
theorem zlE.tr (h:zlE n0 γ w ds) (t:Tr W V γ w γ' w') (hW:∀c∈W,2<=c):zlE n0 γ' w' ds:=by
 obtain ⟨Ds,e,hn,h⟩:=h;refine ⟨Ds,e,hn,fun D hD=>?_⟩;obtain ⟨h0,h1,h2⟩:=h D hD;have hlt:=(xD.1 h1).1;refine ⟨h0,?_,(t.col D hlt).trans h2⟩;rw [t.block D hlt (fun hc=>by have:=hW _ hc;omega)];exact h1
theorem zlE.ren (h:zlE n0 γ w ds) (k:zon γ γ'):zlE n0 γ' w ds:=by
 obtain ⟨Ds,e,hn,h⟩:=h;exact ⟨Ds,e,hn,fun D hD=>⟨(h D hD).1,(h D hD).2.1,k.one D (h D hD).2.2⟩⟩
structure Lim where
 n:Nat
 keep:List Nat
structure Cx where
 n:Lim
 X:Ext
 marked:Bool
 old:Array Value
structure Base (cx:Cx) (γ:Gh) (a:Act) (w:World):Prop where
 defers:zlE cx.X.base γ w a.defers
 clean:cx.marked=false->a.defers=[]
 size:a.tmps.size=cx.n.n
 kept:∀k∈cx.n.keep,a.tmps.getD k undef=cx.old.getD k undef
 ext:cx.X.X γ w
def Sl (γ:Gh) (w:World) (a:Act) (l:List (Nat×AV)):Prop:=∀p∈l,p.2.rel γ w (a.tmps.getD p.1 undef)
def Bxs (γ:Gh) (w:World) (l:List Bx):Prop:=∀b∈l,b.rel γ w
def Sx (cx:Cx) (E:Env) (a:Act) (w:World):Prop:=∃γ,Base cx γ a w/\Sl γ w a E.sl/\Bxs γ w E.bx
theorem Env.opd_rel {E:Env} {x:Operand} {av:AV} (h:E.opd x=some av) {γ:Gh} {w:World} {a:Act} (hs:Sl γ w a E.sl):av.rel γ w (a.eval x):=by
 cases x with
 | tmp t=>exact hs _ (zbC h)
 | const v=>exact zjz h γ w
 | global g=>cases h
 | func f=>cases h;exact ⟨rfl,.val _ rfl⟩
def zeL (d:Option Nat) (av:AV) (l:List (Nat×AV)):List (Nat×AV):=
 match d with
 | none=>l
 | some d=>(d,av)::l.filter fun p=> !Nat.beq p.1 d
def zuq (d:Option Nat) (l:List (Nat×AV)):List (Nat×AV):=
 match d with
 | none=>l
 | some d=>l.filter fun p=> !Nat.beq p.1 d
theorem zic {a:Act} {d k:Nat} {v:Value} (h:k≠d):(a.put (some d) v).tmps.getD k undef=a.tmps.getD k undef:=by
 simp only [Act.put,yc]
 grind
theorem zfM {a:Act} {d:Nat} {v:Value} (h:d<a.tmps.size):(a.put (some d) v).tmps.getD d undef=v:=by
 simp only [Act.put,yc]
 grind
theorem zfF (a:Act) (d:Option Nat) (v:Value):(a.put d v).defers=a.defers:=by cases d<;>rfl
theorem zmn (a:Act) (d:Option Nat) (v:Value):(a.put d v).tmps.size=a.tmps.size:=by cases d<;>simp [Act.put]
theorem Base.put {cx:Cx} {γ:Gh} {a:Act} {w:World} (h:Base cx γ a w) (d:Option Nat) (v:Value) (hk:∀k,d=some k->k∉cx.n.keep):Base cx γ (a.put d v) w:=
 ⟨by rw [zfF];exact h.defers,fun e=>by rw [zfF];exact h.clean e,(zmn a d v).trans h.size,fun k hm=>by
  cases d with
  | none=>exact h.kept k hm
  | some d=>
   have hne:k≠d:=fun e=>hk d rfl (by rw [<-e];exact hm)
   rw [zic hne];exact h.kept k hm,h.ext⟩
theorem Sl.drop {γ:Gh} {w:World} {a:Act} {l:List (Nat×AV)} (h:Sl γ w a l) (d:Option Nat) (v:Value):Sl γ w (a.put d v) (zuq d l):=by
 cases d with
 | none=>exact h
 | some d=>
  intro p hp;simp only [zuq,yn,xJ] at hp;rw [zic (fun e=>by rw [e] at hp;simp at hp)];exact h p hp.1
theorem Sl.put {γ:Gh} {w:World} {a:Act} {l:List (Nat×AV)} (h:Sl γ w a l) {d:Option Nat} {v:Value} {av:AV} (hd:∀k,d=some k->k<a.tmps.size) (hv:av.rel γ w v):Sl γ w (a.put d v) (zeL d av l):=by
 cases d with
 | none=>exact h
 | some d=>
  intro p hp;simp only [zeL,xj] at hp;rcases hp with rfl| hp
  ·simp only;rw [zfM (hd d rfl)];exact hv
  ·exact h.drop (some d) v p hp
def zlS (j k:IntKind):Bool:=match j,k with
 | .i8,.i8| .i16,.i16| .i32,.i32| .i64,.i64| .u8,.u8| .u16,.u16| .u32,.u32| .u64,.u64=>true
 | _,_=>false
theorem zlT (h:zlS j k=true):j=k:=by cases j<;>cases k<;>first| rfl| cases h
def andI (k:IntKind) (x y:Int):Int:=k.wrap (BitVec.ofInt k.bits x&&&BitVec.ofInt k.bits y).toNat
def orI (k:IntKind) (x y:Int):Int:=k.wrap (BitVec.ofInt k.bits x||| BitVec.ofInt k.bits y).toNat
def xorI (k:IntKind) (x y:Int):Int:=k.wrap (BitVec.ofInt k.bits x^^^BitVec.ofInt k.bits y).toNat
def zze (k:IntKind) (x y:Int):Int:=k.wrap (BitVec.ofInt k.bits x&&&~~~BitVec.ofInt k.bits y).toNat
def shlI (k:IntKind) (x y:Int):Int:=k.wrap (x*2^(min y.toNat k.bits))
def shrI (k:IntKind) (x y:Int):Int:=x.fdiv (2^(min y.toNat k.bits))
def zrz (op:BinOp) (k:IntKind) (x y:Int):Option LV:=
 match op with
 | .add=>some (.int k (k.wrap (x+y)))
 | .sub=>some (.int k (k.wrap (x - y)))
 | .mul=>some (.int k (k.wrap (x*y)))
 | .and=>some (.int k (andI k x y))
 | .or=>some (.int k (orI k x y))
 | .xor=>some (.int k (xorI k x y))
 | .andNot=>some (.int k (zze k x y))
 | .eql=>some (.bool (x==y))
 | .neq=>some (.bool (x !=y))
 | .lss=>some (.bool (decide (x<y)))
 | .leq=>some (.bool (decide (x<=y)))
 | .gtr=>some (.bool (decide (x>y)))
 | .geq=>some (.bool (decide (x>=y)))
 | .quo=>match y with
  | .ofNat (n+1)=>some (.int k (k.wrap (x.tdiv (.ofNat (n+1)))))
  | _=>none
 | .rem=>match y with
  | .ofNat (n+1)=>some (.int k (x.tmod (.ofNat (n+1))))
  | _=>none
 | .shl| .shr=>none
theorem zuh (h:zrz op k x y=some l) (P:Program) (w:World) (t:TypeId):
  ∃v,(binOp op t (.int k x) (.int k y)).run P w= .ok v w/\l.plain=true/\zaf (fun _=>False) w l v:=by
 have hk:¬(k≠k):=fun h=>h rfl
 unfold zrz at h;split at h
 case h_14=>
  split at h
  ·rename_i n;cases h;have hn:¬(Int.ofNat (n+1)=0):=by simp;omega
   exact ⟨_,by simp only [binOp,Op.intDiv];rw [xd hk,xd hn];rfl,rfl,.int _ _⟩
  ·cases h
 case h_15=>
  split at h
  ·rename_i n;cases h;have hn:¬(Int.ofNat (n+1)=0):=by simp;omega
   exact ⟨_,by simp only [binOp,Op.intDiv];rw [xd hk,xd hn];rfl,rfl,.int _ _⟩
  ·cases h
 all_goals first
  | (cases h;done)
  | (cases h;exact ⟨_,by simp only [binOp];rw [xd hk];rfl,rfl,.int _ _⟩)
  | (cases h;exact ⟨_,by simp only [binOp];rw [xd hk];rfl,rfl,.bool _⟩)
  | (cases h;exact ⟨_,by simp only [binOp,Op.intBits];rw [xd hk];rfl,rfl,.int _ _⟩)
def zdq:List Bx->Nat->Option Bx
 | [],_=>none
 | b::l,k=>match Nat.beq b.lab k with
  | true=>some b
  | false=>zdq l k
theorem zbJ (h:zdq l k=some b):b∈l/\b.lab=k:=by
 induction l with
 | nil=>cases h
 | cons c l ih=>
  rw [zdq] at h;split at h
  ·simp_all
  grind
def zrA (op:BinOp) (x y:List UInt8):Option LV:=
 match op with
 | .eql=>some (.bool (x==y))
 | .neq=>some (.bool (!(x==y)))
 | .lss=>some (.bool (Op.bytesLess x y))
 | .leq=>some (.bool (Op.bytesLess x y|| x==y))
 | .gtr=>some (.bool (!(Op.bytesLess x y|| x==y)))
 | .geq=>some (.bool (!(Op.bytesLess x y)))
 | _=>none
def znT (op:BinOp) (d:Option TypeDesc) (x y:Bool):Option LV:=
 match op,d with
 | .eql,some .bool=>some (.bool (x==y))
 | .neq,some .bool=>some (.bool (!(x==y)))
 | _,_=>none
def zlN (P:Program) (s:TypeId) (f:Nat):Option Nat:=
 match P.underlying s with
 | some (.struct fs)=>match fs[f]? with
  | some fd=>match P.info? fd.type with
   | some i=>match Nat.beq i.size 0 with
    | true=>none
    | false=>some fd.offset
   | none=>none
  | none=>none
 | _=>none
def zbX (P:Program) (t:TypeId):Bool:=
 match P.underlying t with
 | some (.struct _)| some (.array _ _)| none=>false
 | some _=>true
def zxW (d:Option TypeDesc) (x:AV):Option AV:=
 match d,x with
 | some (.slice _),.sl _ _ xs=>some (.lf (.int .i64 xs.length))
 | some (.slice _),.own _ _ _ _ xs=>some (.lf (.int .i64 xs.length))
 | some (.slice _),.lf (.val (.slice _ n _))=>some (.lf (.int .i64 n))
 | some .string,.lf (.str l)=>some (.lf (.int .i64 l.length))
 | _,_=>none
def zum (P:Program) (ρ:Operand->Option AV) (c:Callee) (args:List Operand) (ts:List TypeId):Option AV:=
 match c,args,ts with
 | .builtin .len,[x],[t]=>match ρ x with
  | some av=>zxW (P.underlying t) av
  | none=>none
 | .builtin .min,[x,y],_=>match ρ x,ρ y with
  | some (.lf (.int k m)),some (.lf (.int j n))=>match zlS k j with
   | true=>some (.lf (.int k (if n<m then n else m)))
   | false=>none
  | _,_=>none
 | .builtin .max,[x,y],_=>match ρ x,ρ y with
  | some (.lf (.int k m)),some (.lf (.int j n))=>match zlS k j with
   | true=>some (.lf (.int k (if m<n then n else m)))
   | false=>none
  | _,_=>none
 | _,_,_=>none
def zmM (P:Program) (ρ:Operand->Option AV) (bx:List Bx):Op->Option AV
 | .move x| .assign x=>ρ x
 | .pick c a b=>match ρ c with
  | some (.lf (.bool true))=>ρ a
  | some (.lf (.bool false))=>ρ b
  | _=>none
 | .binOp op t x y _=>match ρ x,ρ y with
  | some (.lf (.int k m)),some (.lf (.int j n))=>match zlS k j with
   | true=>(zrz op k m n).map .lf
   | false=>none
  | some (.lf (.str l)),some (.lf (.str m))=>(zrA op l m).map .lf
  | some (.lf (.bool a)),some (.lf (.bool b))=>(znT op (P.underlying t) a b).map .lf
  | _,_=>none
 | .unOp op _ x=>match op,ρ x with
  | .not,some (.lf (.bool b))=>some (.lf (.bool (!b)))
  | .neg,some (.lf (.int k n))=>some (.lf (.int k (k.wrap (0 - n))))
  | _,_=>none
 | .convert s d x=>match P.underlying s,P.underlying d,ρ x with
  | some _,some (.int k),some (.lf (.int _ n))=>some (.lf (.int k (k.wrap n)))
  | some .string,some .string,some (.lf (.str l))=>some (.lf (.str l))
  | _,_,_=>none
 | .extract x i=>match ρ x with
  | some (.tup l)=>l[i]?
  | _=>none
 | .call c=>zum P ρ c.callee c.args.toList c.argTypes.toList
 | .fieldAddr s x f=>match zlN P s f,ρ x with
  | some o,some (.ptr ℓ off)=>some (.ptr ℓ (off+o))
  | some o,some (.ep r C y off)=>some (.ep r C y (off+o))
  | _,_=>none
 | .load t x=>match zbX P t,ρ x with
  | true,some (.ptr ℓ off)=>match zdq bx ℓ with
   | some b=>b.avs[off]?
   | none=>none
  | true,some (.ep r _ y off)=>match (r.lv y)[off]? with
   | some l=>match l.plain with
    | true=>some (.lf l)
    | false=>none
   | none=>none
  | _,_=>none
 | .nilCheck x=>match ρ x with
  | some (.ptr ℓ off)=>some (.ptr ℓ off)
  | some (.ep r C y off)=>some (.ep r C y off)
  | _=>none
 | _=>none
theorem ztB {γ:Gh} {w:World} {l:List AV} {vs:List Value} (h:AV.relL γ w l vs) {i:Nat} {a:AV} (hi:l[i]? =some a):∃v,vs[i]? =some v/\a.rel γ w v:=by
 induction l generalizing vs i with
 | nil=>cases hi
 | cons b l ih=>
  obtain ⟨v,vs',rfl,h1,h2⟩:=h;cases i with
  | zero=>cases hi;exact ⟨v,rfl,h1⟩
  | succ i=>exact ih h2 hi
theorem zaF (h:AV.relL γ w l vs):vs.length=l.length:=by
 induction l generalizing vs with
 | nil=>cases h;rfl
 | cons b l ih=>obtain ⟨v,vs',rfl,h1,h2⟩:=h;simp [ih h2]
theorem zde (h:AV.rel γ w (.lf (.int k n)) v):v= .int k n:=by cases h.2;rfl
theorem zgv (h:AV.rel γ w (.lf (.bool b)) v):v= .bool b:=by cases h.2;rfl
theorem zoV (h:AV.rel γ w (.lf (.str l)) v):v= .string ⟨l.toArray⟩:=by cases h.2;rfl
theorem zlj (h:AV.rel γ w (.lf (.val u)) v):v=u:=by cases h.2;rfl
theorem zfE (γ:Gh) (w:World) (k:IntKind) (n:Int):AV.rel γ w (.lf (.int k n)) (.int k n):=⟨rfl,.int _ _⟩
theorem zvO (γ:Gh) (w:World) (b:Bool):AV.rel γ w (.lf (.bool b)) (.bool b):=⟨rfl,.bool _⟩
theorem zyg (γ:Gh) (w:World) (l:List UInt8):AV.rel γ w (.lf (.str l)) (.string ⟨l.toArray⟩):=⟨rfl,.str _⟩
theorem zzR {γ:Gh} {w:World} {α:Type} {r:Rp α} {C:List Nat} {xs:List α} {v:Value} (h:AV.rel γ w (.sl r C xs) v):∃A c,v= .slice A xs.length c/\xs.length<=c/\c<=maxLen:=by
 have h':zaf (γ.F C) w (.sl xs.length r.size (xs.flatMap r.lv)) v:=h;cases h' with
 | sl _ _ _ A c cs _ _ hc hm=>exact ⟨A,c,rfl,hc,hm⟩
theorem zqW {γ:Gh} {w:World} {α:Type} {r:Rp α} {e:TypeId} {ℓ:Nat} {C:List Nat} {xs:List α} {v:Value} (h:AV.rel γ w (.own r e ℓ C xs) v):∃A c,v= .slice A xs.length c/\xs.length<=c/\c<=maxLen:=by
 obtain ⟨cs,ho,_⟩:=h;rcases ho.2 with ⟨rfl,h0⟩| ⟨g,cap,cur,rfl,_,_,hc,hm,_⟩
 ·grind
 grind
theorem zui (h:zrA op x y=some l) (P:Program) (w:World) (t:TypeId):
  ∃v,(binOp op t (.string ⟨x.toArray⟩) (.string ⟨y.toArray⟩)).run P w= .ok v w/\l.plain=true/\zaf (fun _=>False) w l v:=by
 unfold zrA at h;split at h
 all_goals first
  | (cases h;done)
  | (cases h;exact ⟨_,by simp only [binOp,Op.stringOp,ByteArray.toList_mk];rfl,rfl,.bool _⟩)
theorem zsA (h:znT op (P.underlying t) x y=some l) (w:World):
    ∃v,(binOp op t (.bool x) (.bool y)).run P w= .ok v w/\l.plain=true/\zaf (fun _=>False) w l v:=by
  unfold znT at h;split at h
  all_goals first
    | (cases h;done)
    | (rename_i hu;cases h
       have hd:∀d:Nat,(Op.equalIn (d+1) t (.bool x) (.bool y)).run P w= .ok (x==y) w:=fun d=>by simp [Op.equalIn,run_underlying hu]
       exact ⟨_,by simp only [binOp];simp [Op.equal,Op.maxDepth,hd 9999],rfl,.bool _⟩)
theorem zwz {P:Program} {t:TypeId} {x av:AV} (h:zxW (P.underlying t) x=some av) {γ:Gh} {w:World} {v:Value} (hx:x.rel γ w v) (ty:TypeId):
  ∃u,(Builtin.len_ #[t] ty #[v]).run P w= .ok u w/\av.rel γ w u:=by
 unfold zxW at h;split at h
 ·rename_i hu;cases h;obtain ⟨A,c,rfl,_⟩:=zzR hx;exact ⟨_,by simp [Builtin.len_,run_underlying hu,goInt],zfE _ _ _ _⟩
 ·rename_i hu;cases h;obtain ⟨A,c,rfl,_⟩:=zqW hx;exact ⟨_,by simp [Builtin.len_,run_underlying hu,goInt],zfE _ _ _ _⟩
 ·rename_i hu;cases h;rw [zlj hx];exact ⟨_,by simp [Builtin.len_,run_underlying hu,goInt],zfE _ _ _ _⟩
 ·rename_i hu;cases h;rw [zoV hx];exact ⟨_,by simp [Builtin.len_,run_underlying hu,goInt,ByteArray.size_mk'],zfE _ _ _ _⟩
 ·cases h
def Opds (ρ:Operand->Option AV) (γ:Gh) (w:World) (ev:Operand->Value) (l:List Operand):Prop:=∀x∈l,∀av,ρ x=some av->av.rel γ w (ev x)
theorem znX (P:Program) (op:BinOp) (t:TypeId) (x y:Operand) (k:IntKind) (n:Int) (b:Value) (w:World):(eqGuard op t x y (.int k n) b).run P w= .ok () w:=by
 unfold eqGuard;split<;>rfl
theorem zzj (P:Program) (op:BinOp) (t:TypeId) (x y:Operand) (s:ByteArray) (b:Value) (w:World):(eqGuard op t x y (.string s) b).run P w= .ok () w:=by
 unfold eqGuard;split<;>rfl
theorem zxu (P:Program) (op:BinOp) (t:TypeId) (x y:Operand) (s:Bool) (b:Value) (w:World):(eqGuard op t x y (.bool s) b).run P w= .ok () w:=by
 unfold eqGuard;split<;>rfl
theorem zpZ (h:zlN P s f=some o):∃fs fd i,P.underlying s=some (.struct fs)/\fs[f]? =some fd/\P.info? fd.type=some i/\i.size≠0/\fd.offset=o:=by
 unfold zlN at h;split at h
 ·rename_i fs hs;split at h
  ·rename_i fd hf;split at h
   ·rename_i i hi;split at h
    ·cases h
    ·rename_i hb;cases h;exact ⟨fs,fd,i,hs,hf,hi,fun e=>by rw [e] at hb;simp at hb,rfl⟩
   ·cases h
  ·cases h
 ·cases h
theorem zfT (b o n:Nat):(⟨b,o,none⟩:Addr).add n=⟨b,o+n,none⟩:=by unfold Addr.add;split<;>simp_all
theorem znE (h:zlN P s f=some o) (b off:Nat) (w:World):(Instr.fieldAt s (.pointer (some ⟨b,off,none⟩)) f).run P w= .ok (.pointer (some ⟨b,off+o,none⟩)) w:=by
 obtain ⟨fs,fd,i,hs,hf,hi,hn,rfl⟩:=zpZ h;simp [Instr.fieldAt,run_underlying hs,hf,Instr.sureAddr,fieldPlace,sizeOf,typeInfo,hi,hn,zfT]
theorem zgW (h:zbX P t=true) (hc:w.cell? ⟨b,off,none⟩=some v):(Instr.loadAt t (.pointer (some ⟨b,off,none⟩))).run P w= .ok v w:=by
 unfold zbX at h;split at h
 ·cases h
 ·cases h
 ·cases h
 ·rename_i d h1 h2 hu;have hi:(isAgg t).run P w= .ok false w:=by
   cases d<;>simp [isAgg,run_underlying hu]<;>first| (exact h1 _ rfl)| (exact h2 _ _ rfl)| rfl
  simp [Instr.loadAt,Instr.sureAddr,loadVar,hi,load,Sem.run,hc]
theorem znK (h:zbX P t=true) (hc:w.cell? ⟨b,off,none⟩=some v):(loadVar t ⟨b,off,none⟩).run P w= .ok v w:=by
 unfold zbX at h;split at h
 ·cases h
 ·cases h
 ·cases h
 ·rename_i d h1 h2 hu;have hi:(isAgg t).run P w= .ok false w:=by
   cases d<;>simp [isAgg,run_underlying hu]<;>first| (exact h1 _ rfl)| (exact h2 _ _ rfl)| rfl
  simp [loadVar,hi,load,Sem.run,hc]
theorem Bx.cell {γ:Gh} {w:World} {b:Bx} (h:b.rel γ w) {off:Nat} {a:AV} (ha:b.avs[off]? =some a):∃v,w.cell? ⟨γ.box b.lab,off,none⟩=some v/\a.rel γ w v:=by
 obtain ⟨_,cs,hh,hr,_⟩:=h;obtain ⟨v,hv,ha⟩:=ztB hr ha;exact ⟨v,by rw [yu w _ off _ _ _ hh];simpa using hv,ha⟩
theorem zyy (P:Program) (w:World) (k j:IntKind) (m n:Int) (ts:Array TypeId) (ty:TypeId):(Builtin.min_ ts ty #[.int k m,.int j n]).run P w= .ok (.int k (if n<m then n else m)) w:=by
 rfl
theorem zyx (P:Program) (w:World) (k j:IntKind) (m n:Int) (ts:Array TypeId) (ty:TypeId):(Builtin.max_ ts ty #[.int k m,.int j n]).run P w= .ok (.int k (if m<n then n else m)) w:=by
 rfl
theorem zbT (ho:o.op= .call c) (hc:c.callee= .builtin b) (ha:c.args.toList=args) (ht:c.argTypes.toList=ts) 
  (h:∀consts,(Go.builtin b ts.toArray o.type consts (args.map ev).toArray).run P w= .ok (.value v) w'):(execOp ev o).run P w= .ok (.value v) w':=by
 obtain ⟨callee,args',ts'⟩:=c;simp only at hc ha ht;subst hc;have e1:args'=args.toArray:=by rw [<-ha]
 have e2:ts'=ts.toArray:=by rw [<-ht]
 subst e1 e2;simp only [execOp,ho,resolve,xo,xE,xq,invoke,qq];exact h _
theorem zun (ho:o.op= .call c) (h:zum P ρ c.callee c.args.toList c.argTypes.toList=some av)
  (hρ:Opds ρ γ w ev c.args.toList):∃v,(execOp ev o).run P w= .ok (.value v) w/\av.rel γ w v:=by
 generalize ha:c.args.toList=args at h hρ
 generalize ht:c.argTypes.toList=ts at h
 generalize hc:c.callee=cal at h
 unfold zum at h;split at h
 ·rename_i x t;split at h
  ·rename_i a hx;obtain ⟨v,hv,hr⟩:=zwz h (hρ x xf a hx) o.type;exact ⟨v,zbT ho hc ha ht fun consts=>by simp [builtin,hv],hr⟩
  ·cases h
 ·rename_i x y;split at h
  ·rename_i k m j n hx hy;split at h
   ·rename_i hk;cases h;have h1:=zde (hρ x xf _ hx);have h2:=zde (hρ y (xg _ xf) _ hy);exact ⟨_,zbT ho hc ha ht fun consts=>by simp [builtin,h1,h2,zyy],zfE _ _ _ _⟩
   ·cases h
  ·cases h
 ·rename_i x y;split at h
  ·rename_i k m j n hx hy;split at h
   ·rename_i hk;cases h;have h1:=zde (hρ x xf _ hx);have h2:=zde (hρ y (xg _ xf) _ hy);exact ⟨_,zbT ho hc ha ht fun consts=>by simp [builtin,h1,h2,zyx],zfE _ _ _ _⟩
   ·cases h
  ·cases h
 ·cases h
theorem zlh {P:Program} {ρ:Operand->Option AV} {bx:List Bx} {o:Oper} {av:AV} (h:zmM P ρ bx o.op=some av) {γ:Gh} {w:World} {ev:Operand->Value}
  (hρ:Opds ρ γ w ev o.op.operands.toList) (hb:Bxs γ w bx):∃v,(execOp ev o).run P w= .ok (.value v) w/\av.rel γ w v:=by
 generalize hop:o.op=op at h hρ
 unfold zmM at h;split at h
 case h_1 x=>exact ⟨_,by simp [execOp,hop],hρ x (by simp [Op.operands]) _ h⟩
 case h_2 x=>exact ⟨_,by simp [execOp,hop],hρ x (by simp [Op.operands]) _ h⟩
 case h_3 c a b=>
  split at h
  ·rename_i hc;have:=zgv (hρ c (by simp [Op.operands]) _ hc);exact ⟨_,by simp [execOp,hop,this,asBool],hρ a (by simp [Op.operands]) _ h⟩
  ·rename_i hc;have:=zgv (hρ c (by simp [Op.operands]) _ hc);exact ⟨_,by simp [execOp,hop,this,asBool],hρ b (by simp [Op.operands]) _ h⟩
  ·cases h
 case h_4 bop t x y yt=>
  split at h
  ·rename_i k m j n hx hy;have h1:=zde (hρ x (by simp [Op.operands]) _ hx);have h2:=zde (hρ y (by simp [Op.operands]) _ hy);split at h
   ·rename_i hk;have:=zlT hk;subst this;cases hl:zrz bop k m n with
    | none=>rw [hl] at h;cases h
    | some l=>
     rw [hl] at h;cases h;obtain ⟨v,hv,hp,hr⟩:=zuh hl P w t;exact ⟨v,by simp [execOp,hop,h1,h2,znX,hv],hp,hr⟩
   ·cases h
  ·rename_i l m hx hy;have h1:=zoV (hρ x (by simp [Op.operands]) _ hx);have h2:=zoV (hρ y (by simp [Op.operands]) _ hy);cases hl:zrA bop l m with
   | none=>rw [hl] at h;cases h
   | some l'=>
    rw [hl] at h;cases h;obtain ⟨v,hv,hp,hr⟩:=zui hl P w t;exact ⟨v,by simp [execOp,hop,h1,h2,zzj,hv],hp,hr⟩
  ·rename_i a b hx hy;have h1:=zgv (hρ x (by simp [Op.operands]) _ hx);have h2:=zgv (hρ y (by simp [Op.operands]) _ hy);cases hl:znT bop (P.underlying t) a b with
   | none=>rw [hl] at h;cases h
   | some l'=>
    rw [hl] at h;cases h;obtain ⟨v,hv,hp,hr⟩:=zsA hl w;exact ⟨v,by simp [execOp,hop,h1,h2,zxu,hv],hp,hr⟩
  ·cases h
 case h_5 uop t x=>
  split at h
  ·rename_i b hx;cases h;have h1:=zgv (hρ x (by simp [Op.operands]) _ hx);exact ⟨_,by simp [execOp,hop,h1,Op.unary],zvO _ _ _⟩
  ·rename_i k n hx;cases h;have h1:=zde (hρ x (by simp [Op.operands]) _ hx);exact ⟨_,by simp [execOp,hop,h1,Op.unary,Op.intArith],zfE _ _ _ _⟩
  ·cases h
 case h_6 s d x=>
  split at h
  ·rename_i k _ n hs hd hx;cases h;have h1:=zde (hρ x (by simp [Op.operands]) _ hx);exact ⟨_,by simp [execOp,hop,h1,convert,run_underlying hs,run_underlying hd,Conv.intToInt],zfE _ _ _ _⟩
  ·rename_i l hs hd hx;cases h;have h1:=zoV (hρ x (by simp [Op.operands]) _ hx);exact ⟨_,by simp [execOp,hop,h1,convert,run_underlying hs,run_underlying hd],zyg _ _ _⟩
  ·cases h
 case h_7 x i=>
  split at h
  ·rename_i l hx;obtain ⟨vs,hv,hL⟩:=hρ x (by simp [Op.operands]) _ hx;obtain ⟨v,hv',hr⟩:=ztB hL h;exact ⟨v,by simp [execOp,hop,hv,Instr.extract,hv'],hr⟩
  ·cases h
 case h_8 c=>exact zun hop h (fun x hx=>hρ x (by simp only [Op.operands,Call.operands];simp;exact .inr (by simpa using hx)))
 case h_9 s x f=>
  split at h
  ·rename_i n ℓ off hf hx;cases h;have h1:ev x=_:=hρ x (by simp [Op.operands]) _ hx;exact ⟨_,by simp [execOp,hop,h1,znE hf],rfl⟩
  ·rename_i n α r C y off hf hx;cases h;obtain ⟨b,o',cs,hv,hF,hlt,hA,hc⟩:=hρ x (by simp [Op.operands]) _ hx;exact ⟨_,by simp [execOp,hop,hv,znE hf];rfl,b,o',cs,by rw [yE],hF,hlt,hA,hc⟩
  ·cases h
 case h_10 t x=>
  split at h
  ·rename_i ℓ off ht hx;have h1:ev x=_:=hρ x (by simp [Op.operands]) _ hx;split at h
   ·rename_i b hfb;obtain ⟨hm,rfl⟩:=zbJ hfb;obtain ⟨v,hv,hr⟩:=Bx.cell (hb b hm) h;exact ⟨v,by simp [execOp,hop,h1,zgW ht hv],hr⟩
   ·cases h
  ·rename_i α r C y off ht hx;obtain ⟨b,o',cs,hv,hF,hlt,hA,hc⟩:=hρ x (by simp [Op.operands]) _ hx;split at h
   ·rename_i l hl;split at h
    ·rename_i hp;cases h;have vd:off<cs.length:=by rw [<-hA.1];exact (xY.1 hl).1
     have hr:=hA.2 off l _ hl (xu vd);have hcell:=hc off vd;rw [xu vd] at hcell;exact ⟨_,by simp [execOp,hop,hv,zgW ht hcell],hp,hr.plain hp⟩
    ·cases h
   ·cases h
  ·cases h
 case h_11 x=>
  split at h
  ·rename_i ℓ off hx;cases h;have h1:ev x= .pointer (some ⟨γ.box ℓ,off,none⟩):=hρ x (by simp [Op.operands]) _ hx;exact ⟨_,by simp [execOp,hop,h1],rfl⟩
  ·rename_i α r C y off hx;cases h;have h1:=hρ x (by simp [Op.operands]) _ hx;obtain ⟨b,o',cs,hv,hrest⟩:=h1;exact ⟨_,by simp [execOp,hop,hv],b,o',cs,rfl,hrest⟩
  ·cases h
 case h_12=>cases h
def okW:List Nat->Bool
 | []=>true
 | c::l=>Nat.ble 2 c&&okW l
theorem zme (h:okW W=true):∀c∈W,2<=c:=by
 induction W with
 | nil=>intro c hc;cases hc
 | cons d W ih=>
  simp only [okW,xh] at h;intro c hc;cases hc with
  | head=>exact xy h.1
  | tail _ hc=>exact ih h.2 c hc
def zfs (N:Lim):Option Nat->Bool
 | none=>true
 | some d=>Nat.blt d N.n&& !memN d N.keep
theorem zdZ (h:zfs N d=true):∀k,d=some k->k<N.n:=by
 rintro k rfl;simp only [zfs,xh] at h;simp_all
theorem zcD (h:zfs N d=true):∀k,d=some k->k∉N.keep:=by
 rintro k rfl hk;simp only [zfs,xh] at h;rw [zae.2 hk] at h;cases h.2
def zjN (W V:List Nat) (l:List (Nat×AV)):List (Nat×AV):=l.filter fun p=>p.2.free W V
def AV.clear (W V:List Nat) (a:AV):AV:=match a.free W V with
 | true=>a
 | false=> .any
def Bx.clear (W V:List Nat) (b:Bx):Bx:=⟨b.lab,b.typ,b.avs.map (AV.clear W V)⟩
def zds (W V:List Nat) (l:List Bx):List Bx:=(l.filter fun b=> !memN b.lab W&& !memN b.lab V).map (Bx.clear W V)
def Env.step (W V:List Nat) (d:Option Nat) (av:AV) (bs:List Bx) (E:Env):Env:=⟨zeL d av (zjN W V E.sl),bs++zds W V E.bx⟩
section
variable {W V:List Nat} {γ γ':Gh} {w w':World} {cx:Cx} {a:Act}
theorem Base.tr (h:Base cx γ a w) (t:Tr W V γ w γ' w') (hW:okW W=true) (hV:okW V=true):Base cx γ' a w':=
 ⟨h.defers.tr t (zme hW),h.clean,h.size,h.kept,cx.X.tr h.ext t (zme hW) (zme hV)⟩
theorem Sl.tr {l:List (Nat×AV)} (h:Sl γ w a l) (t:Tr W V γ w γ' w'):Sl γ' w' a (zjN W V l):=by
 intro p hp;simp only [zjN,yn] at hp;obtain ⟨h1,h2⟩:=AV.free_spec hp.2;exact p.2.keep t h1 h2 (h p hp.1)
theorem ziN {l:List AV} {vs:List Value} (h:AV.relL γ w l vs) (t:Tr W V γ w γ' w'):AV.relL γ' w' (l.map (AV.clear W V)) vs:=by
 induction l generalizing vs with
 | nil=>exact h
 | cons b l ih=>
  obtain ⟨v,vs',rfl,h1,h2⟩:=h;refine ⟨v,vs',rfl,?_,ih h2⟩;unfold AV.clear;cases hf:b.free W V with
  | true=>obtain ⟨f1,f2⟩:=AV.free_spec hf;exact b.keep t f1 f2 h1
  | false=>trivial
theorem zcn (h:(!memN c l)=true):c∉l:=fun hc=>by rw [zae.2 hc] at h;cases h
theorem Bxs.tr (h:Bxs γ w l) (t:Tr W V γ w γ' w'):Bxs γ' w' (zds W V l):=by
 intro b hb;simp only [zds,xr,yn,xh] at hb;obtain ⟨b,⟨hm,h1,h2⟩,rfl⟩:=hb;obtain ⟨hc,cs,hh,hr,h1c⟩:=h b hm;have hlt:γ.box b.lab<w.heap.size:=(xD.1 hh).1;refine ⟨?_,cs,?_,ziN hr t,h1c⟩
 ·show γ'.col (γ'.box b.lab)=b.lab;rw [t.box _ (zcn h2),t.col _ hlt];exact hc
 ·show w'.heap[γ'.box b.lab]? =_;rw [t.box _ (zcn h2),t.block _ hlt (by rw [hc];exact zcn h1)];exact hh
end
def zC (P:Program) (o:Oper) (ins:List (Operand×AV)) (bxs:List Bx) (W V:List Nat) (av:AV) (bs:List Bx):Prop:=
 ∀(γ:Gh) (a:Act) (w:World),(∀p∈ins,p.2.rel γ w (a.eval p.1))->Bxs γ w bxs->
  ∀(next:Act->World->Prop) (Q:Exit->Act->World->Prop),(∀γ' w' v,Tr W V γ w γ' w'->av.rel γ' w' v->Bxs γ' w' bs->next (a.put o.dst v) w')->o.wp P a w next Q
theorem zE 
  (h:∀(γ:Gh) (ev:Operand->Value) (w:World),(∀p∈ins,p.2.rel γ w (ev p.1))->Bxs γ w bxs->
   ∃v w' γ',(execOp ev o).run P w= .ok (.value v) w'/\Tr W V γ w γ' w'/\av.rel γ' w' v/\Bxs γ' w' bs):zC P o ins bxs W V av bs:=by
 intro γ a w hi hb next Q hk;obtain ⟨v,w',γ',hr,ht,hv,hb'⟩:=h γ a.eval w hi hb;unfold Oper.wp;rw [hr];exact hk γ' w' v ht hv hb'
def zjs (E:Env):List (Operand×AV)->Prop
 | []=>True
 | p::l=>E.opd p.1=some p.2/\zjs E l
theorem zjs.rel (h:zjs E l) (hs:Sl γ w a E.sl):∀p∈l,p.2.rel γ w (a.eval p.1):=by
 induction l with
 | nil=>intro p hp;cases hp
 | cons q l ih=>
  intro p hp;cases hp with
  | head=>exact Env.opd_rel h.1 hs
  | tail _ hp=>exact ih h.2 p hp
def zqq (E:Env):List Bx->Prop
 | []=>True
 | b::l=>zdq E.bx b.lab=some b/\zqq E l
theorem zqq.rel (h:zqq E l) (hs:Bxs γ w E.bx):Bxs γ w l:=by
 induction l with
 | nil=>intro p hp;cases hp
 | cons q l ih=>
  intro p hp;cases hp with
  | head=>exact hs _ (zbJ h.1).1
  | tail _ hp=>exact ih h.2 p hp
def zdr (ops:Array Oper) (E:Env) (o:Oper):Option Bool:=
 match o.guard with
 | none=>some true
 | some (j,want)=>match ops.toList[j]? with
  | some g=>match g.dst with
   | some t=>match lookup E.sl t,want with
    | some (.lf (.bool true)),true=>some true
    | some (.lf (.bool false)),false=>some true
    | some (.lf (.bool true)),false=>some false
    | some (.lf (.bool false)),true=>some false
    | some (.tup []),_=>some false
    | _,_=>none
   | none=>none
  | none=>none
theorem zej (h:zdr ops E o=some b) (hs:Sl γ w a E.sl):Region.wanted o (yielded ops a.tmps)=b:=by
 unfold zdr at h;unfold Region.wanted;split at h
 ·grind
 ·rename_i j want hg;rw [hg];split at h
  ·rename_i g hj;split at h
   ·rename_i t ht;have key:∀c,lookup E.sl t=some (.lf (.bool c))->yielded ops a.tmps j=some c:=fun c hc=>by
     have hv:=zgv (hs _ (zbC hc));simp only at hv;have hj':ops[j]? =some g:=by rw [<-Array.getElem?_toList];exact hj
     have htm:a.tmps[t]? =some (.bool c):=by
      rw [yc] at hv;cases he:a.tmps[t]? with
      | none=>rw [he] at hv;cases hv
      | some u=>rw [he] at hv;simp at hv;rw [hv]
     simp [yielded,hj',ht,htm]
    split at h
    ·grind
    ·grind
    ·grind
    ·grind
    ·rename_i hl;cases h;obtain ⟨vs,hv,hL⟩:=hs _ (zbC hl);have hL':vs=[]:=hL;subst hL';have hj':ops[j]? =some g:=by rw [<-Array.getElem?_toList];exact hj
     have:yielded ops a.tmps j=none:=by
      rw [yc] at hv;cases he:a.tmps[t]? with
      | none=>simp [yielded,hj',ht,he]
      | some u=>rw [he] at hv;simp at hv;simp [yielded,hj',ht,he,hv]
     grind
    ·cases h
   ·cases h
  ·cases h
theorem Sl.put_undef {γ:Gh} {w:World} {a:Act} {l:List (Nat×AV)} (h:Sl γ w a l) (d:Option Nat):Sl γ w (a.put d undef) (zeL d (.tup []) l):=by
 cases d with
 | none=>exact h
 | some d=>
  intro p hp;simp only [zeL,xj] at hp;rcases hp with rfl| hp
  ·refine ⟨[],?_,rfl⟩;by_cases hd:d<a.tmps.size
   ·exact zfM hd
   ·simp only [Act.put,yc];rw [Array.getElem?_eq_none (by simp;omega)];rfl
  ·have hp':=yn.1 hp;rw [zic (fun e=>by have:=hp'.2;rw [e] at this;simp at this)];exact h p hp'.1
def RF (ro:Option Nat):Fence:={fn:=fun _=>True,depth:=none,alive:=false,round:=ro}
theorem zle :CallsIn (RF ro) n P f args w R↔Calls P f args w R:=yT (n:=n)
theorem zwR :RowsIn (RF ro) n P row args w R↔Rows P row args w R:=
 ⟨fun h c cs=>let ⟨v,w',r,s⟩:=h c cs (room_wide _);⟨v,w',r,stepsIn_wide.1 s⟩,fun h c cs _=>let ⟨v,w',r,s⟩:=h c cs;⟨v,w',r,stepsIn_wide.2 s⟩⟩
def opq (P:Program) (o:Oper) (a:Act) (w:World) (next:Act->World->Prop) (Q:Exit->Act->World->Prop):Prop:=∀ro,o.wpIn (RF ro) 0 P a w next Q
def zkU (P:Program) (ops:Array Oper) (Q:Exit->Act->World->Prop) (l:List Oper) (a:Act) (w:World):Prop:=∀ro,wpListIn (RF ro) 0 P ops Q l a w
def wq (m:Bool) (P:Program) (c:Code) (Q:Exit->Act->World->Prop) (a:Act) (w:World):Prop:=∀ro,(m=true->ro=none)->c.wpIn (RF ro) 0 P Q a w
section
variable {m:Bool} {P:Program} {o:Oper} {a:Act} {w w':World} {next next':Act->World->Prop} {Q Q':Exit->Act->World->Prop} {ops:Array Oper} {l:List Oper} {x y c:Code}
theorem zoe (h:∀(next:Act->World->Prop) (Q:Exit->Act->World->Prop),(∀v w',next (a.put o.dst v) w')->o.wp P a w next Q):∀c,o.op≠ .defer c:=by
 intro c hc;have h1:=h (fun a' _=>a'.defers=a.defers) (fun _ _ _=>False) (fun v _=>zfF a o.dst v);unfold Oper.wp at h1;have e:(execOp a.eval o).run P w=((resolve a.eval c o.type).run P w).andThen fun d w=> .ok (.defer d) w:=by
  simp [execOp,hc]
 rw [e] at h1;cases hr:(resolve a.eval c o.type).run P w with
 | ok d w1=>
  rw [hr] at h1;have h2:((({a with defers:=d::a.defers}:Act).put o.dst undef).defers)=a.defers:=h1;rw [zfF] at h2;simp_all
 | halt x w1=>
  rw [hr] at h1;cases x<;>exact h1
theorem zln (hd:∀c,o.op≠ .defer c) (h:o.wp P a w next Q):opq P o a w next Q:=by
 intro ro;refine ⟨fun _ _=>trivial,?_⟩;rw [Oper.semAt_eq _ _ _ hd];unfold Oper.wp at h
 generalize (execOp a.eval o).run P w=r at h
 cases r with
 | ok x w1=>
  cases x with
  | value v=>exact h
  | skip=>exact h
  | defer d=>exact h
  | enter f args=>exact ⟨nofun,zle.2 (Calls.mono h (fun e w2 hq=>by cases e<;>exact hq))⟩
  | row row args=>exact ⟨nofun,zwR.2 h⟩
  | _=>exact h.elim
 | halt x w1=>cases x<;>exact h
theorem zqV (hr:(execOp a.eval o).run P w= .ok (.value v) w') (h:next (a.put o.dst v) w'):opq P o a w next Q:=by
 refine zln (zoe (P:=P) (a:=a) (w:=w) (fun nx Qx hn=>?_)) ?_
 ·unfold Oper.wp;rw [hr];exact hn v w'
 ·unfold Oper.wp;rw [hr];exact h
theorem zyj (hr:(execOp a.eval o).run P w= .ok .skip w') (h:next (a.put o.dst undef) w'):opq P o a w next Q:=by
 refine zln (zoe (P:=P) (a:=a) (w:=w) (fun nx Qx hn=>?_)) ?_
 ·unfold Oper.wp;rw [hr];exact hn undef w'
 ·unfold Oper.wp;rw [hr];exact h
theorem zgQ (hw:Region.wanted o (yielded ops a.tmps)=true) (h:opq P o a w (zkU P ops Q l) Q):zkU P ops Q (o::l) a w:=fun ro=>by
 unfold wpListIn;rw [xe hw];exact qJ (fun a w h=>h ro) (h ro)
theorem zuA (hw:Region.wanted o (yielded ops a.tmps)=false) (h:zkU P ops Q l (a.put o.dst undef) w):zkU P ops Q (o::l) a w:=fun ro=>by
 unfold wpListIn;rw [xd (by rw [hw];exact Bool.false_ne_true)];exact ⟨fun _ _=>trivial,h ro⟩
theorem zhC (h:wq m P c Q a w) (k:∀e a w,Q e a w->Q' e a w):wq m P c Q' a w:=fun ro hm=>yF (h ro hm) k
theorem zAe (h:Q .normal a w):wq m P .skip Q a w:=fun _ _=>wpIn_skip h
theorem zBA (h:Q .ret a w):wq m P .ret Q a w:=fun _ _=>wpIn_ret h
theorem zAd {id:Nat} (h:Q (.exit id) a w):wq m P (.exit id) Q a w:=fun _ _=>wpIn_exit h
theorem zBB (h:wq m P x (Exit.then (wq m P y Q) Q) a w):wq m P (.seq x y) Q a w:=fun ro hm=>wpIn_seq (yF (h ro hm) fun e a w hq=>by cases e<;>first| exact hq ro hm| exact hq)
theorem zyY {id:Nat} (h:wq m P c (Exit.inBlock id Q) a w):wq m P (.block id c) Q a w:=fun ro hm=>wpIn_block (h ro hm)
theorem zsw (hc:a.eval v= .bool true) (h:wq m P x Q a w):wq m P (.cond v x y) Q a w:=fun ro hm=>wpIn_cond_true hc (h ro hm)
theorem zqo (hc:a.eval v= .bool false) (h:wq m P y Q a w):wq m P (.cond v x y) Q a w:=fun ro hm=>wpIn_cond_false hc (h ro hm)
theorem zlc {id:Nat} (h:zkU P l.toArray Q l a w):wq m P (.region id l.toArray false) Q a w:=fun ro _=>wpIn_region_lit (h ro)
def anyq (P:Program) (ops:Array Oper) (Q:Exit->Act->World->Prop) (uZ:Nat) (vg:Array Bool) (a:Act) (w:World):Prop:=∀ro,wpAnyIn (RF ro) 0 P .any ops Q uZ vg a w
theorem zqp {id:Nat} (hm:P.follows .mixedOrders=true) (h:anyq P ops Q ops.size (Array.replicate ops.size false) a {w with drawn:=w.drawn+1}):wq m P (.region id ops true) Q a w:=fun ro _=>wpIn_region_any hm (h ro)
def zmu (m:Bool) (P:Program) (c:Code) (Q:Exit->Act->World->Prop):Nat->Act->World->Prop
 | 0,_,_=>False
 | n+1,a,w=>wq m P c (Exit.then (zmu m P c Q n) Q) a w
theorem zpy (hm:m=true->ro=none):∀(n:Nat) (a:Act) (w:World),zmu m P c Q n a w->Code.roundsIn (RF ro) 0 P c Q n a w
 | 0,_,_,h=>h
 | n+1,a,w,h=>by
  rw [roundsIn_succ];exact yF (h ro hm) fun e a w hq=>by cases e<;>first| exact zpy hm n a w hq| exact hq
theorem zpS (n:Nat) (h:zmu m P c Q n a w):wq m P (.loop c) Q a w:=fun _ hm=>wpIn_loop_rounds n (zpy hm n a w h)
theorem zyZ (h:wq m P c Q a w):c.wp P Q a w:=wpIn_wide.1 (h none fun _=>rfl:c.wpIn Fence.wide 0 P Q a w)
end
def zal (P:Program) (N:Lim) (ops:Array Oper) (uY:List Oper) (E E':Env):Prop:=
 ∀(cx:Cx) (a:Act) (w:World) (Q:Exit->Act->World->Prop),cx.n=N->Sx cx E a w->(∀a' w',Sx cx E' a' w'->Q .normal a' w')->zkU P ops Q uY a w
section
variable {P:Program} {N:Lim} {ops:Array Oper} {uY:List Oper} {E E1 E':Env} {o:Oper}
theorem zBo:zal P N ops [] E E:=fun _ _ _ _ _ hs hQ _=>hQ _ _ hs
theorem zoj (hg:zdr ops E o=some true) (hl:zC P o ins bxs W V av bs) (hi:zjs E ins) (hb:zqq E bxs)
  (hW:okW W=true) (hV:okW V=true) (hd:zfs N o.dst=true) (k:zal P N ops uY (E.step W V o.dst av bs) E'):zal P N ops (o::uY) E E':=by
 intro cx a w Q hn hs hQ;obtain ⟨γ,hB,hS,hX⟩:=hs;refine zgQ (zej hg hS) (zln (zoe (P:=P) (a:=a) (w:=w) fun nx Qx hn=>hl γ a w (hi.rel hS) (hb.rel hX) nx Qx fun _ w' v _ _ _=>hn v w') (hl γ a w (hi.rel hS) (hb.rel hX) _ Q fun γ' w' v ht hv hbs=>?_));refine k cx _ _ Q hn ⟨γ',(hB.tr ht hW hV).put _ _ (by rw [hn];exact zcD hd),?_,?_⟩ hQ
 ·exact (hS.tr ht).put (fun k hk=>by rw [hB.size,hn];exact zdZ hd k hk) hv
 ·intro b hb';simp only [Env.step,xl] at hb';rcases hb' with h| h
  ·exact hbs b h
  ·exact hX.tr ht b h
theorem zzP (hg:zdr ops E o=some false) (hd:zfs N o.dst=true) (k:zal P N ops uY ⟨zeL o.dst (.tup []) E.sl,E.bx⟩ E'):zal P N ops (o::uY) E E':=by
 intro cx a w Q hn hs hQ;obtain ⟨γ,hB,hS,hX⟩:=hs;refine zuA (zej hg hS) ?_;exact k cx _ _ Q hn ⟨γ,hB.put _ _ (by rw [hn];exact zcD hd),hS.put_undef _,hX⟩ hQ
theorem zyw (t:Nat) (b:Bool) (hl:lookup E.sl t=some (.lf (.bool b))) (h1:b=true->zal P N ops uY ⟨zeL (some t) (.lf (.bool true)) E.sl,E.bx⟩ E')
  (h0:b=false->zal P N ops uY ⟨zeL (some t) (.lf (.bool false)) E.sl,E.bx⟩ E'):zal P N ops uY E E':=by
 intro cx a w Q hn hs hQ;obtain ⟨γ,hB,hS,hX⟩:=hs;have hv:=hS _ (zbC hl);have hput:∀c,b=c->Sl γ w a (zeL (some t) (.lf (.bool c)) E.sl):=by
  rintro c rfl p hp;simp only [zeL,xj] at hp;rcases hp with rfl| hp
  ·exact hv
  ·exact hS p (yn.1 hp).1
 cases hb:b with
 | true=>exact h1 hb cx a w Q hn ⟨γ,hB,hput _ hb,hX⟩ hQ
 | false=>exact h0 hb cx a w Q hn ⟨γ,hB,hput _ hb,hX⟩ hQ
def AV.le (a b:AV):Prop:=∀γ w v,a.rel γ w v->b.rel γ w v
def zrW (l:List (Nat×AV)):List Nat->Option (List (Nat×AV))
 | []=>some []
 | k::r=>match lookup l k,zrW l r with
  | some a,some r'=>some ((k,a)::r')
  | _,_=>none
theorem zlr :∀(ks:List Nat) (r:List (Nat×AV)),zrW l ks=some r->∀p∈r,p∈l
 | [],r,h,p,hp=>by cases h;cases hp
 | k::ks,r,h,p,hp=>by
  rw [zrW] at h;split at h
  ·rename_i a r' hl hr;cases h;cases hp with
   | head=>exact zbC hl
   | tail _ hp=>exact zlr ks _ hr p hp
  ·cases h
def zka (l:List Bx):List Nat->Option (List Bx)
 | []=>some []
 | k::r=>match zdq l k,zka l r with
  | some a,some r'=>some (a::r')
  | _,_=>none
theorem ziK :∀(ks:List Nat) (r:List Bx),zka l ks=some r->∀p∈r,p∈l
 | [],r,h,p,hp=>by cases h;cases hp
 | k::ks,r,h,p,hp=>by
  rw [zka] at h;split at h
  ·rename_i a r' hl hr;cases h;cases hp with
   | head=>exact (zbJ hl).1
   | tail _ hp=>exact ziK ks _ hr p hp
  ·cases h
def Env.pick (E:Env) (ks bs:List Nat):Option Env:=
 match zrW E.sl ks,zka E.bx bs with
 | some s,some b=>some ⟨s,b⟩
 | _,_=>none
theorem Sx.pick (h:E.pick ks bs=some E') (hs:Sx cx E a w):Sx cx E' a w:=by
 unfold Env.pick at h;split at h
 ·rename_i s b h1 h2;cases h;obtain ⟨γ,hB,hS,hX⟩:=hs;exact ⟨γ,hB,fun p hp=>hS p (zlr _ _ h1 p hp),fun p hp=>hX p (ziK _ _ h2 p hp)⟩
 ·cases h
theorem zBn (ks bs:List Nat) (h:E.pick ks bs=some E'):zal P N ops [] E E':=fun _ _ _ _ _ hs hQ _=>hQ _ _ (hs.pick h)
end
def J (m:Bool) (P:Program) (c:Code) (S:Act->World->Prop) (Q:Exit->Act->World->Prop):Prop:=∀a w,S a w->wq m P c Q a w
section
variable {m:Bool} {P:Program} {S S' M:Act->World->Prop} {Q Q':Exit->Act->World->Prop} {x y c:Code}
theorem J.mono (h:J m P c S Q) (hS:∀a w,S' a w->S a w) (hQ:∀e a w,Q e a w->Q' e a w):J m P c S' Q':=fun a w hs=>zhC (h a w (hS a w hs)) hQ
theorem J.post (h:J m P c S Q) (hQ:∀e a w,Q e a w->Q' e a w):J m P c S Q':=h.mono (fun _ _ h=>h) hQ
theorem zAO {σ ρ:Type} (body:σ->Option (σ⊕ρ)) (Es:σ->Act->World->Prop) (R:ρ->Exit->Act->World->Prop)
  (hb:∀s o,body s=some o->J m P c (Es s) (match o with
   | .inl s'=>fun e a w=>e= .normal/\Es s' a w
   | .inr r=>fun e a w=>e≠ .normal/\R r e a w))
  {s:σ} {r:ρ} (h:zaa body s=some r) (hS:∀a w,S a w->Es s a w) (hQ:∀e a w,R r e a w->Q e a w):J m P (.loop c) S Q:=by
 obtain ⟨n,hn⟩:=zoP h;have key:∀n s,zfp body n s=some r->∀a w,Es s a w->zmu m P c (R r) n a w:=by
  intro n
  induction n with
  | zero=>intro s hn;cases hn
  | succ n ih=>
   intro s hn a w hs;rw [zmu];rw [zfp] at hn;split at hn
   ·cases hn
   ·rename_i s' hbs;refine zhC (hb s _ hbs a w hs) fun e a' w' hq=>?_
    obtain ⟨rfl,hE⟩:=hq;exact ih s' hn a' w' hE
   ·rename_i r' hbs;cases hn;refine zhC (hb s _ hbs a w hs) fun e a' w' hq=>?_
    cases e<;>first| exact absurd rfl hq.1| exact hq.2
 exact fun a w hs=>zhC (zpS n (key n s hn a w (hS a w hs))) hQ
end
open Classical in
noncomputable def gh0 (F:Fp):Gh:=⟨fun b=>if F b then 0 else 1,fun _=>0⟩
def zhS:List Value->Value
 | [u]=>u
 | us=> .tuple us.toArray
def FnOk (P:Program) (f:FuncId) (ins vb:List AV):Prop:=
 ∀(w:World) (F:Fp) (vs:List Value),AV.relL (gh0 F) w ins vs->Calls P f vs.toArray w fun e w'=>∃γ us,e= .returned (zhS us)/\Below w.heap.size w w'/\
  ((∀b,b<w.heap.size->(γ.col b=0/\F b)\/γ.col b=1)/\∀b,w.heap.size<=b->b<w'.heap.size->γ.col b≠0)/\AV.relL γ w' vb us
def AV.toLV:AV->Option LV
 | .lf l=>some l
 | .sl r _ xs=>some (.sl xs.length r.size (xs.flatMap r.lv))
 | .own r _ _ _ xs=>some (.sl xs.length r.size (xs.flatMap r.lv))
 | _=>none
def subN (a b:List Nat):Bool:=a.all fun c=>memN c b
theorem zR (h:subN a b=true):∀c∈a,c∈b:=by
 intro c hc;simp only [subN,xn] at h;exact zae.1 (h c hc)
theorem zlp {γ:Gh} {w:World} {α:Type} {r:Rp α} {e:TypeId} {ℓ:Nat} {C:List Nat} {xs:List α} {v:Value} (h:AV.rel γ w (.own r e ℓ C xs) v):zaf (γ.F (ℓ::C)) w (.sl xs.length r.size (xs.flatMap r.lv)) v:=by
 obtain ⟨cs,ho,hg,hA,hn⟩:=h;have hA':zJ (γ.F (ℓ::C)) w (xs.flatMap r.lv) cs:=hA.mono fun b _ hb=>xg _ hb
 have hl:=r.flat xs;obtain ⟨A,c,hv,hc,hm⟩:=zqW (γ:=γ) (w:=w) (r:=r) (e:=e) (ℓ:=ℓ) (C:=C) ⟨cs,ho,hg,hA,hn⟩;rw [hv];refine .sl _ _ _ A c cs hl (by rw [<-hA.1];exact hl) hc hm (fun h0=>?_) hA'.2;have hcells:=fun g hg=>ho.cells (g:=g) hg
 have hlt:=ho.lt;rcases ho.2 with ⟨rfl,h00⟩| ⟨g,cap,cur,hv',_⟩
 ·omega
 ·rw [hv'] at hv;injection hv with e1 e2 e3;subst e1;have hob:v.ownBlock=some g:=by rw [hv'];rfl
  refine ⟨g,0,rfl,?_,(hlt g hob).2,fun i hi=>?_⟩
  ·show γ.col g∈ℓ::C
   grind
  ·have vd:i<cs.length:=by rw [<-hA.1,hl];exact hi
   rw [xu vd];have:=hcells g hob i _ (xu vd);rw [zfT] at this;exact this
theorem ztK {a:AV} {l:LV} (h:a.toLV=some l) {γ:Gh} {w:World} {v:Value} (hr:a.rel γ w v) {C:List Nat} (hC:∀c∈a.cols,c∈C):zaf (γ.F C) w l v:=by
 cases a with
 | lf l'=>cases h;exact hr.2.plain hr.1
 | sl r C' xs=>cases h;exact zaf.mono hr fun b _ hb=>hC _ hb
 | own r e ℓ C' xs=>cases h;exact (zlp hr).mono fun b _ hb=>hC _ hb
 | any=>cases h
 | rc=>cases h
 | ep=>cases h
 | ptr=>cases h
 | bs=>cases h
 | tl=>cases h
 | qp=>cases h
 | em=>cases h
 | mo=>cases h
 | cu=>cases h
 | mp=>cases h
 | om=>cases h
 | tup=>cases h
 | ag=>cases h
 | fv=>cases h
 | bp=>cases h
 | it=>cases h
def zdE:List AV->Option (List LV)
 | []=>some []
 | a::l=>match a.toLV,zdE l with
  | some x,some r=>some (x::r)
  | _,_=>none
theorem zgE {l:List AV} {ls:List LV} (h:zdE l=some ls) {γ:Gh} {w:World} {vs:List Value} (hr:AV.relL γ w l vs) {C:List Nat} (hC:∀c∈AV.colsL l,c∈C):zJ (γ.F C) w ls vs:=by
 induction l generalizing ls vs with
 | nil=>cases h;cases hr;exact .nil
 | cons a l ih=>
  obtain ⟨v,vs',rfl,h1,h2⟩:=hr;rw [zdE] at h;split at h
  ·rename_i x r hx hr';cases h;exact .cons (ztK hx h1 fun c hc=>hC c (xN _ hc)) (ih hr' h2 fun c hc=>hC c (xG _ hc))
  ·cases h
def zlW (C:List Nat):AV->Bool
 | .lf x=>x.plain
 | .sl _ C' _=>subN C C'
 | _=>false
theorem zfQ (h:zdE l=some ls) (hr:zJ (γ.F C) w ls vs) (hC:l.all (zlW C)=true):AV.relL γ w l vs:=by
 induction l generalizing ls vs with
 | nil=>
  cases h;have:=hr.1;simp at this;exact yU this.symm
 | cons a l ih=>
  rw [zdE] at h;simp only [yo,xh] at hC;split at h
  ·rename_i x r hx hr';cases h;obtain ⟨v,vs',rfl,h1,h2⟩:=hr.head;refine ⟨v,vs',rfl,?_,ih hr' h2 hC.2⟩;cases a with
   | lf y=>cases hx;exact ⟨hC.1,h1.plain hC.1⟩
   | sl r' C' xs=>cases hx;exact zaf.mono h1 fun b _ hb=>zR hC.1 _ hb
   | any=>cases hx
   | own=>exact absurd hC.1 (by simp [zlW])
   | rc=>cases hx
   | ep=>cases hx
   | ptr=>cases hx
   | bs=>cases hx
   | tl=>cases hx
   | qp=>cases hx
   | em=>cases hx
   | mo=>cases hx
   | cu=>cases hx
   | mp=>cases hx
   | om=>cases hx
   | tup=>cases hx
   | ag=>cases hx
   | fv=>cases hx
   | bp=>cases hx
   | it=>cases hx
  ·cases h
def ziD:Nat->List AV->List (Nat×AV)
 | _,[]=>[]
 | n,a::l=>(n,a)::ziD (n+1) l
theorem zlg (h:AV.relL γ w l vs) (ve post:List Value):
  ∀p∈ziD ve.length l,p.2.rel γ w ((ve++vs++post).toArray.getD p.1 undef):=by
 induction l generalizing vs ve with
 | nil=>intro p hp;cases hp
 | cons a l ih=>
  obtain ⟨v,vs',rfl,h1,h2⟩:=h;intro p hp;cases hp with
  | head=>simpa using h1
  | tail _ hp=>
   have hp':p∈ziD (ve.length+1) l:=hp;have:=ih h2 (ve++[v]) p (by simpa using hp');simpa using this
structure AggT (P:Program) (t:TypeId) (n:Nat):Prop where
 agg:∀w,(isAgg t).run P w= .ok true w
 size:∀w,(sizeOf t).run P w= .ok n w
theorem zdB {P:Program} {t:TypeId} {n:Nat} (h:AggT P t n) {w:World} {b o:Nat} {cs:List Value} (hn:cs.length=n) (hc:∀i,i<cs.length->w.cell? ⟨b,o+i,none⟩=cs[i]?):
  (loadVar t ⟨b,o,none⟩).run P w= .ok (.agg cs.toArray) w:=by
 have hl:(loadCells ⟨b,o,none⟩ cs.length).run P w= .ok cs.toArray w:=run_loadCells_list (P:=P) w ⟨b,o,none⟩ cs fun j v hv=>by
  rw [zfT,hc j (xY.1 hv).1];exact hv
 rw [hn] at hl;simp [loadVar,h.agg,h.size,hl]
def zhs (P:Program) (E:Env):List ResultVar->List AV->Prop
 | [],[]=>True
 | .tmp t::rs,a::l=>lookup E.sl t=some a/\zhs P E rs l
 | .cell x t::rs,.rc r C y::l=>(∃ℓ b,lookup E.sl x=some (.ptr ℓ 0)/\zdq E.bx ℓ=some b/\zdE b.avs=some (r.lv y)/\subN (AV.colsL b.avs) C=true/\AggT P t r.size)/\zhs P E rs l
 | .cell x t::rs,.ag m::l=>(∃ℓ b,lookup E.sl x=some (.ptr ℓ 0)/\zdq E.bx ℓ=some b/\b.avs=m/\AggT P t m.length)/\zhs P E rs l
 | .cell x t::rs,.lf y::l=>(∃ℓ b,lookup E.sl x=some (.ptr ℓ 0)/\zdq E.bx ℓ=some b/\b.avs=[.lf y]/\zbX P t=true)/\zhs P E rs l
 | .cell x t::rs,.sl r C y::l=>(∃ℓ b,lookup E.sl x=some (.ptr ℓ 0)/\zdq E.bx ℓ=some b/\b.avs=[.sl r C y]/\zbX P t=true)/\zhs P E rs l
 | .cell x t::rs,.own r e q C y::l=>(∃ℓ b,lookup E.sl x=some (.ptr ℓ 0)/\zdq E.bx ℓ=some b/\b.avs=[.own r e q C y]/\zbX P t=true)/\zhs P E rs l
 | _,_=>False
def resF (tmps:Array Value):ResultVar->Sem Value
 | .tmp t=>pure (tmps.getD t undef)
 | .cell x t=>do loadVar t (<-asAddr (tmps.getD x undef))
theorem znh {P:Program} {E:Env} {γ:Gh} {w:World} {a:Act} {x:Tmp} {t:TypeId} {av:AV} (hs:Sl γ w a E.sl) (hx:Bxs γ w E.bx) (h:∃ℓ b,lookup E.sl x=some (.ptr ℓ 0)/\zdq E.bx ℓ=some b/\b.avs=[av]/\zbX P t=true):
  ∃u,(resF a.tmps (.cell x t)).run P w= .ok u w/\av.rel γ w u:=by
 obtain ⟨ℓ,b,h1,h2,h3,h5⟩:=h;obtain ⟨hm,rfl⟩:=zbJ h2;have hp:a.tmps.getD x undef= .pointer (some ⟨γ.box b.lab,0,none⟩):=hs _ (zbC h1);obtain ⟨u,hc,hr⟩:=Bx.cell (hx b hm) (off:=0) (a:=av) (by rw [h3];rfl);have hld:=znK (P:=P) h5 hc;have ha:(asAddr (.pointer (some ⟨γ.box b.lab,0,none⟩))).run P w= .ok ⟨γ.box b.lab,0,none⟩ w:=rfl;exact ⟨u,by simp only [resF,xo,hp,ha,hld,xq],hr⟩
theorem zfI {P:Program} {E:Env} {γ:Gh} {w:World} {a:Act} (hs:Sl γ w a E.sl) (hx:Bxs γ w E.bx):∀(rs:List ResultVar) (l:List AV),zhs P E rs l->
  ∃us,(rs.mapM (resF a.tmps)).run P w= .ok us w/\AV.relL γ w l us
 | [],[],_=>⟨[],rfl,rfl⟩
 | .tmp t::rs,x::l,h=>by
  obtain ⟨us,hu,hr⟩:=zfI hs hx rs l h.2;refine ⟨a.tmps.getD t undef::us,?_,_,us,rfl,hs _ (zbC h.1),hr⟩;simp only [yv,resF,xo,xE,xq];rw [hu];rfl
 | .cell x t::rs,.rc r C y::l,h=>by
  obtain ⟨us,hu,hr⟩:=zfI hs hx rs l h.2;obtain ⟨ℓ,b,h1,h2,h3,h4,h5⟩:=h.1;obtain ⟨hm,rfl⟩:=zbJ h2;have hp:a.tmps.getD x undef= .pointer (some ⟨γ.box b.lab,0,none⟩):=hs _ (zbC h1);obtain ⟨hcol,cs,hh,hL,_⟩:=hx b hm;have hA:=zgE h3 hL (zR h4);have hld:=zdB h5 (w:=w) (b:=γ.box b.lab) (o:=0) (cs:=cs) (by rw [<-hA.1];exact r.len y) fun i hi=>by rw [yu w _ _ _ _ _ hh];simp
  refine ⟨.agg cs.toArray::us,?_,_,us,rfl,⟨cs,rfl,hA⟩,hr⟩;have ha:(asAddr (.pointer (some ⟨γ.box b.lab,0,none⟩))).run P w= .ok ⟨γ.box b.lab,0,none⟩ w:=rfl;simp only [yv,resF,xo,hp,ha,hld,xE,xq];rw [hu];rfl
 | .cell x t::rs,.ag m::l,h=>by
  obtain ⟨us,hu,hr⟩:=zfI hs hx rs l h.2;obtain ⟨ℓ,b,h1,h2,h3,h5⟩:=h.1;obtain ⟨hm,rfl⟩:=zbJ h2;subst h3;have hp:a.tmps.getD x undef= .pointer (some ⟨γ.box b.lab,0,none⟩):=hs _ (zbC h1);obtain ⟨hcol,cs,hh,hL,hone⟩:=hx b hm;have hld:=zdB h5 (w:=w) (b:=γ.box b.lab) (o:=0) (cs:=cs) (zaF hL) fun i hi=>by rw [yu w _ _ _ _ _ hh];simp
  refine ⟨.agg cs.toArray::us,?_,_,us,rfl,⟨cs,rfl,hL,hone⟩,hr⟩;have ha:(asAddr (.pointer (some ⟨γ.box b.lab,0,none⟩))).run P w= .ok ⟨γ.box b.lab,0,none⟩ w:=rfl;simp only [yv,resF,xo,hp,ha,hld,xE,xq];rw [hu];rfl
 | .cell x t::rs,.lf y::l,h=>by
  obtain ⟨us,hu,hr⟩:=zfI hs hx rs l h.2;obtain ⟨u,h1,h2⟩:=znh hs hx h.1;exact ⟨u::us,by simp only [yv,xo,h1,xq,hu,xE],u,us,rfl,h2,hr⟩
 | .cell x t::rs,.sl r C y::l,h=>by
  obtain ⟨us,hu,hr⟩:=zfI hs hx rs l h.2;obtain ⟨u,h1,h2⟩:=znh hs hx h.1;exact ⟨u::us,by simp only [yv,xo,h1,xq,hu,xE],u,us,rfl,h2,hr⟩
 | .cell x t::rs,.own r e q C y::l,h=>by
  obtain ⟨us,hu,hr⟩:=zfI hs hx rs l h.2;obtain ⟨u,h1,h2⟩:=znh hs hx h.1;exact ⟨u::us,by simp only [yv,xo,h1,xq,hu,xE],u,us,rfl,h2,hr⟩
 | [],_::_,h=>h.elim
 | .cell _ _::_,[],h=>h.elim
 | .cell _ _::_,.any::_,h=>h.elim
 | .cell _ _::_,.ep ..::_,h=>h.elim
 | .cell _ _::_,.ptr ..::_,h=>h.elim
 | .cell _ _::_,.bs ..::_,h=>h.elim
 | .cell _ _::_,.tl ..::_,h=>h.elim
 | .cell _ _::_,.qp ..::_,h=>h.elim
 | .cell _ _::_,.em ..::_,h=>h.elim
 | .cell _ _::_,@AV.mo _ _ _ _ _ _ _ _ _::_,h=>h.elim
 | .cell _ _::_,.cu ..::_,h=>h.elim
 | .cell _ _::_,.mp ..::_,h=>h.elim
 | .cell _ _::_,.om ..::_,h=>h.elim
 | .cell _ _::_,.tup ..::_,h=>h.elim
 | .cell _ _::_,.fv ..::_,h=>h.elim
 | .cell _ _::_,.bp ..::_,h=>h.elim
 | .cell _ _::_,.it ..::_,h=>h.elim
 | .tmp _::_,[],h=>h.elim
theorem zhw (hs:Sl γ w a E.sl) (hx:Bxs γ w E.bx) (h:zhs P E fn.results.toList l):
  ∃us,(results fn a.tmps).run P w= .ok (zhS us) w/\AV.relL γ w l us:=by
 obtain ⟨us,hu,hr⟩:=zfI (P:=P) hs hx _ _ h;refine ⟨us,?_,hr⟩;have e:results fn a.tmps=(fn.results.mapM (resF a.tmps))>>=fun vs=>pure (if h:vs.size=1 then vs[0] else .tuple vs):=by
  rfl
 rw [e,<-yG (xs:=fn.results),qK,xo,Sem.run_map,hu];simp only [xq,xE];congr 1
 match us with
 | []=>rfl
 | [u]=>rfl
 | u::v::r=>
  rfl
theorem zxz (hf:P.funcs[f]? =some fn) (hb:fn.body=some c) (vd:ins.length<=fn.ntmps) (hres:zhs P E fn.results.toList vb)
  (hj:∀X:Ext,J true P c (Sx ⟨⟨fn.ntmps,[]⟩,X,false,#[]⟩ ⟨ziD 0 ins,[]⟩) fun e a w=>e= .ret/\Sx ⟨⟨fn.ntmps,[]⟩,X,false,#[]⟩ E a w):FnOk P f ins vb:=by
 intro w F vs hr;have hl:=zaF hr;refine calls_of_wp hf hb (wp_mono (zyZ (hj (fnX w F) _ w ⟨gh0 F,⟨⟨[],rfl,yw,fun D hD=>by cases hD⟩,fun _=>rfl,?_,(fun k hk=>by cases hk),Below.refl _ _,fun b _=>?_,fun b h1 h2=>by omega⟩,?_,fun b hb=>by cases hb⟩)) ?_)
 ·simp [hl];omega
 ·by_cases hF:F b<;>simp [gh0,hF]
 ·intro p hp;have:=zlg hr [] (List.replicate (fn.ntmps - vs.length) undef) p hp;simp only [xU] at this;have e:(vs++List.replicate (fn.ntmps - vs.length) undef).toArray=vs.toArray++Array.replicate (fn.ntmps - vs.toArray.size) undef:=by simp
  grind
 ·rintro e a w' ⟨rfl,γ,hB,hS,hX⟩;obtain ⟨us,hu,hu'⟩:=zhw (P:=P) (fn:=fn) hS hX hres;exact ⟨hB.clean rfl,zhS us,hu,γ,us,rfl,hB.ext.1,hB.ext.2,hu'⟩
def zoN:AV->AV
 | .lf l=> .lf l
 | .sl r _ xs=> .sl r [0] xs
 | .own r _ _ _ xs=> .sl r [0] xs
 | .rc r _ x=> .rc r [0] x
 | .ep r _ x off=> .ep r [0] x off
 | .qp r _ o=> .qp r [0] o
 | .mp rk rv _ m=> .mp rk rv [0] m
 | .em rk rv _ m=> .em rk rv [0] m
 | .om rk rv _ _ m=> .mp rk rv [0] m
 | _=> .any
def inAV:AV->AV
 | .ag l=> .ag (l.map zoN)
 | .fv g l=> .fv g (l.map zoN)
 | a=>zoN a
def zku:AV->List Nat
 | .sl _ C _| .rc _ C _| .ep _ C _ _| .qp _ C _=>C
 | .own _ _ ℓ C _=>ℓ::C
 | .mp _ _ C _| .em _ _ C _=>C
 | .om _ _ ℓ C _=>ℓ::C
 | _=>[]
def zmQ:AV->List Nat
 | .ag l=>l.flatMap zku
 | .fv _ l=>l.flatMap zku
 | a=>zku a
theorem zvs (F:Fp) (b:Nat) (h:F b):(gh0 F).col b=0:=by simp [gh0,h]
theorem zdI {γ:Gh} {w:World} {a:AV} {v:Value} {D:List Nat} (h:a.rel γ w v) (hD:∀c∈zku a,c∈D):(zoN a).rel (gh0 (γ.F D)) w v:=by
 have key:∀(C:List Nat),(∀c∈C,c∈D)->∀b,b<w.heap.size->γ.F C b->(gh0 (γ.F D)).F [0] b:=fun C hC b _ hb=>by
  show (gh0 (γ.F D)).col b∈[0];have hF:γ.F D b:=hC _ hb;rw [zvs (γ.F D) b hF];exact xf
 cases a with
 | any=>trivial
 | lf l=>exact h
 | sl r C xs=>exact zaf.mono h (key C hD)
 | own r e ℓ C xs=>exact (zlp h).mono (key _ hD)
 | rc r C x=>obtain ⟨cs,hv,hA⟩:=h;exact ⟨cs,hv,hA.mono (key C hD)⟩
 | mp rk rv C m=>
  obtain ⟨b,es,cl,hv,hF,hb,hh,hE⟩:=h;exact ⟨b,es,cl,hv,key C hD b hb hF,hb,hh,hE.mono (key C hD)⟩
 | em rk rv C m=>
  obtain ⟨a,b,es,cl,hv,hFa,ha,hc1,hF,hb,hh,hE⟩:=h;exact ⟨a,b,es,cl,hv,key C hD a ha hFa,ha,hc1,key C hD b hb hF,hb,hh,hE.mono (key C hD)⟩
 | mo=>trivial
 | cu=>trivial
 | om rk rv ℓ C m=>
  obtain ⟨b,es,cl,hv,⟨hF,hbx⟩,hb,hh,hE,hn⟩:=h;exact ⟨b,es,cl,hv,key (ℓ::C) hD b hb (by show γ.col b∈ℓ::C;rw [hF];exact xf),hb,hh,(hE.mono (fun b _ hb=>xg _ hb)).mono (key (ℓ::C) hD)⟩
 | ep r C x off=>
  obtain ⟨b,o,cs,hv,hF,hb,hA,hc⟩:=h;exact ⟨b,o,cs,hv,key C hD b hb hF,hb,hA.mono (key C hD),hc⟩
 | qp r C o=>
  cases o with
  | none=>exact h
  | some x=>
   obtain ⟨b,cs,hv,hF,hb,hA,hc⟩:=h;exact ⟨b,cs,hv,key C hD b hb hF,hb,hA.mono (key C hD),hc⟩
 | bs=>trivial
 | tl=>trivial
 | ptr=>trivial
 | tup=>trivial
 | ag=>trivial
 | fv=>trivial
 | bp=>trivial
 | it=>trivial
theorem zli :∀{l:List AV} {vs:List Value},AV.relL γ w l vs->(∀c∈l.flatMap zku,c∈D)->AV.relL (gh0 (γ.F D)) w (l.map zoN) vs
 | [],_,h,_=>h
 | a::l,_,h,hD=>by
  obtain ⟨v,vs',rfl,h1,h2⟩:=h;exact ⟨v,vs',rfl,zdI h1 (fun c hc=>hD c (by rw [xI];exact xN _ hc)),zli h2 (fun c hc=>hD c (by rw [xI];exact xG _ hc))⟩
theorem zsV (h:a.rel γ w v) (hD:∀c∈zmQ a,c∈D):(inAV a).rel (gh0 (γ.F D)) w v:=by
 cases a with
 | ag l=>obtain ⟨vs,hv,hL,h1⟩:=h;exact ⟨vs,hv,zli hL hD,h1⟩
 | fv g l=>obtain ⟨vs,hv,hL⟩:=h;exact ⟨vs,hv,zli hL hD⟩
 | any=>trivial
 | lf l=>exact zdI h hD
 | sl r C xs=>exact zdI h hD
 | own r e ℓ C xs=>exact zdI h hD
 | rc r C x=>exact zdI h hD
 | mp rk rv C m=>exact zdI h hD
 | om rk rv ℓ C m=>exact zdI h hD
 | ep r C x off=>exact zdI h hD
 | qp r C o=>exact zdI h hD
 | em rk rv C m=>exact zdI h hD
 | mo=>trivial
 | cu=>trivial
 | bs=>trivial
 | tl=>trivial
 | ptr=>trivial
 | tup=>trivial
 | bp=>trivial
 | it=>trivial
def outC (D:List Nat) (s:Nat):List Nat->List Nat
 | []=>[]
 | c::C=>(match c with
  | 0=>D
  | c+1=>[c+1+s])++outC D s C
def zmZ (D:List Nat) (s:Nat):AV->AV
 | .lf l=> .lf l
 | .sl r C xs=> .sl r (outC D s C) xs
 | .own r e ℓ C xs=> .own r e (ℓ+s) (outC D s C) xs
 | .rc r C x=> .rc r (outC D s C) x
 | .qp r C o=> .qp r (outC D s C) o
 | .mp rk rv C m=> .mp rk rv (outC D s C) m
 | .om rk rv ℓ C m=> .om rk rv (ℓ+s) (outC D s C) m
 | .bp r t ℓ C x=> .bp r t (ℓ+s) (outC D s C) x
 | .cu c ℓ C1 C2=> .cu c (ℓ+s) (outC D s C1) (outC D s C2)
 | _=> .any
def zeG (K C:List Nat):Bool:=K.all fun k=> !memN k C
theorem zgJ (h:zeG K C=true):∀k∈K,k∉C:=fun k hk hc=>by
 simp only [zeG,xn] at h;have:=h k hk;rw [zae.2 hc] at this;cases this
def zhR (K D:List Nat) (s:Nat):AV->Bool
 | .sl _ C _| .rc _ C _| .qp _ C _=>zeG K C
 | .own _ _ ℓ C _=>zeG K C&&Nat.ble 2 ℓ&& !memN ℓ K&& !memN (ℓ+s) (outC D s C)
 | .mp _ _ C _=>zeG K C
 | .om _ _ ℓ C _=>zeG K C&&Nat.ble 2 ℓ&& !memN ℓ K&& !memN (ℓ+s) (outC D s C)
 | .bp _ _ ℓ C _=>zeG K C&&Nat.ble 2 ℓ&& !memN ℓ K
 | .cu _ ℓ C1 C2=>zeG K C1&&zeG K C2&&Nat.ble 2 ℓ&& !memN ℓ K
 | _=>true
def zfP (s:Nat):AV->List Nat
 | .own _ _ ℓ _ _=>[ℓ+s]
 | .om _ _ ℓ _ _=>[ℓ+s]
 | .bp _ _ ℓ _ _=>[ℓ+s]
 | .cu _ ℓ _ _=>[ℓ+s]
 | _=>[]
def zjW (D:List Nat) (s:Nat):AV->AV
 | .ag l=> .ag (l.map (zmZ D s))
 | .fv g l=> .fv g (l.map (zmZ D s))
 | a=>zmZ D s a
def znB (K D:List Nat) (s:Nat):AV->Bool
 | .ag l=>l.all (zhR K D s)
 | .fv _ l=>l.all (zhR K D s)
 | a=>zhR K D s a
def zdP (s:Nat):AV->List Nat
 | .ag l=>l.flatMap (zfP s)
 | .fv _ l=>l.flatMap (zfP s)
 | a=>zfP s a
theorem zpi (h:c∈C):(c=0->∀d∈D,d∈outC D s C)/\(c≠0->c+s∈outC D s C):=by
 induction C with
 | nil=>cases h
 | cons x C ih=>
  cases h with
  | head=>
   refine ⟨?_,?_⟩
   ·rintro rfl d hd;simp [outC,hd]
   ·intro hc;cases c with
    | zero=>exact absurd rfl hc
    | succ c=>simp [outC]
  | tail _ h=>
   obtain ⟨h1,h2⟩:=ih h;exact ⟨fun h0 d hd=>by simp only [outC,xl];exact .inr (h1 h0 d hd),fun h0=>by simp only [outC,xl];exact .inr (h2 h0)⟩
open Classical in
noncomputable def zcJ (γ γc:Gh) (n:Nat) (D:List Nat) (s:Nat) (V:List Nat):Gh:=
 ⟨fun b=>if b<n then γ.col b else if γc.col b=0 then D.headD 1 else if γc.col b=1 then 1 else γc.col b+s,fun ℓ=>if ℓ∈V then γc.box (ℓ - s) else γ.box ℓ⟩
def zoo (γ γc:Gh) (n:Nat) (K D:List Nat):Prop:=∀b,b<n->(γc.col b=0/\γ.F D b)\/γc.col b∈K
theorem outF (hold:zoo γ γc n K D) (h1:∀k∈K,k∉C) (hk1:1∈K) (hb:γc.F C b) (hD:0∈C->D=[]->False\/b<n):
  (zcJ γ γc n D s V).F (outC D s C) b:=by
 show (zcJ γ γc n D s V).col b∈outC D s C;have hb':γc.col b∈C:=hb;unfold zcJ;simp only;by_cases hn:b<n
 ·rw [xe hn];rcases hold b hn with ⟨h0,hF⟩| h0
  ·rw [h0] at hb';exact (zpi hb').1 rfl _ hF
  grind
 ·rw [xd hn];by_cases h0:γc.col b=0
  ·rw [xe h0];rw [h0] at hb';cases D with
   | nil=>rcases hD hb' rfl with h| h;exact h.elim;exact absurd h hn
   | cons d D=>exact (zpi hb').1 rfl d xf
  ·rw [xd h0];by_cases h2:γc.col b=1
   ·grind
   ·rw [xd h2];exact (zpi hb').2 h0
theorem zph {γ γc:Gh} {n:Nat} {K D:List Nat} {s:Nat} {V:List Nat} {w':World} {a:AV} {v:Value} (hold:zoo γ γc n K D) (hk1:1∈K) (hD:D≠[])
  (hok:zhR K D s a=true) (hV:∀c∈zfP s a,c∈V) (h:a.rel γc w' v):(zmZ D s a).rel (zcJ γ γc n D s V) w' v:=by
 have hF:∀C,zeG K C=true->∀b,b<w'.heap.size->γc.F C b->(zcJ γ γc n D s V).F (outC D s C) b:=fun C h1 b _ hb=>outF hold (zgJ h1) hk1 hb (fun _ e=>absurd e hD)
 have hnew:∀(ℓ g:Nat),2<=ℓ->memN ℓ K=false->γc.col g=ℓ->¬g<n:=fun ℓ g hℓ hm g1 hlt=>by
  rcases hold g hlt with ⟨h0,_⟩| h0
  ·omega
  ·rw [g1] at h0;rw [zae.2 h0] at hm;cases hm
 cases a with
 | any=>trivial
 | lf l=>exact h
 | sl r C xs=>exact zaf.mono h (hF C hok)
 | rc r C x=>
  obtain ⟨cs,hv,hA⟩:=h;exact ⟨cs,hv,hA.mono (hF C hok)⟩
 | own r e ℓ C xs=>
  obtain ⟨cs,ho,hg,hA,hnot⟩:=h;simp only [zhR,xh,xJ] at hok;obtain ⟨⟨⟨k1,k2⟩,k4⟩,k3⟩:=hok;have hℓ:2<=ℓ:=xy k2;refine ⟨cs,ho,fun g hgb=>?_,hA.mono (hF C k1),fun hc=>by rw [zae.2 hc] at k3;cases k3⟩;obtain ⟨g1,g2⟩:=hg g hgb;refine ⟨?_,?_⟩
  ·unfold zcJ
   grind
  ·unfold zcJ;simp only;rw [xe (hV _ (by simp [zfP])),qr];exact g2
 | mp rk rv C m=>
  obtain ⟨b,es,cl,hv,hF',hb,hh,hE⟩:=h;exact ⟨b,es,cl,hv,hF C hok b hb hF',hb,hh,hE.mono (hF C hok)⟩
 | om rk rv ℓ C m=>
  obtain ⟨b,es,cl,hv,⟨g1,g2⟩,hb,hh,hE,hnot⟩:=h;simp only [zhR,xh,xJ] at hok;obtain ⟨⟨⟨k1,k2⟩,k4⟩,k3⟩:=hok;have hℓ:2<=ℓ:=xy k2;refine ⟨b,es,cl,hv,⟨?_,?_⟩,hb,hh,hE.mono (hF C k1),fun hc=>by rw [zae.2 hc] at k3;cases k3⟩
  ·unfold zcJ
   grind
  ·unfold zcJ;simp only;rw [xe (hV _ (by simp [zfP])),qr];exact g2
 | ep=>trivial
 | ptr=>trivial
 | bs=>trivial
 | tl=>trivial
 | qp r C o=>
  cases o with
  | none=>exact h
  | some x=>
   obtain ⟨b,cs,hv,hF',hb,hA,hc⟩:=h;exact ⟨b,cs,hv,hF C hok b hb hF',hb,hA.mono (hF C hok),hc⟩
 | em=>trivial
 | mo=>trivial
 | cu c ℓ C1 C2=>
  simp only [zhR,xh,xJ] at hok;obtain ⟨⟨⟨k0,k1⟩,k2⟩,k4⟩:=hok;have hℓ:2<=ℓ:=xy k2;refine c.move (xi _) (fun _ _ _=>rfl) (fun b _ g1=>?_) (hF C1 k0) (hF C2 k1) ?_ h
  ·unfold zcJ
   grind
  ·unfold zcJ;simp only;rw [xe (hV _ (by simp [zfP])),qr]
 | tup=>trivial
 | ag=>trivial
 | fv=>trivial
 | it=>trivial
 | bp r t ℓ C x=>
  obtain ⟨b,cs,hv,⟨g1,g2⟩,hb,hh,h1c,hA⟩:=h;simp only [zhR,xh,xJ] at hok;obtain ⟨⟨k1,k2⟩,k4⟩:=hok;have hℓ:2<=ℓ:=xy k2;refine ⟨b,cs,hv,⟨?_,?_⟩,hb,hh,h1c,hA.mono (hF C k1)⟩
  ·unfold zcJ
   grind
  ·unfold zcJ;simp only;rw [xe (hV _ (by simp [zfP])),qr];exact g2
theorem zlo (hold:zoo γ γc n K D) (hk1:1∈K) (hD:D≠[]):∀(l:List AV) (vs:List Value),
  l.all (zhR K D s)=true->(∀c∈l.flatMap (zfP s),c∈V)->AV.relL γc w' l vs->AV.relL (zcJ γ γc n D s V) w' (l.map (zmZ D s)) vs
 | [],vs,_,_,h=>h
 | a::l,vs,hok,hV,h=>by
  obtain ⟨v,vs',rfl,h1,h2⟩:=h;simp only [yo,xh] at hok
  exact ⟨v,vs',rfl,zph hold hk1 hD hok.1 (fun c hc=>hV c (by simp only [xI,xl];exact .inl hc)) h1,
   zlo hold hk1 hD l vs' hok.2 (fun c hc=>hV c (by simp only [xI,xl];exact .inr hc)) h2⟩
theorem zna (hold:zoo γ γc n K D) (hk1:1∈K) (hD:D≠[])
  (hok:znB K D s a=true) (hV:∀c∈zdP s a,c∈V) (h:a.rel γc w' v):(zjW D s a).rel (zcJ γ γc n D s V) w' v:=by
 have key:zjW D s a=zmZ D s a->znB K D s a=zhR K D s a->zdP s a=zfP s a->(zjW D s a).rel (zcJ γ γc n D s V) w' v:=fun e1 e2 e3=>by
  rw [e1];exact zph hold hk1 hD (e2▸hok) (e3▸hV) h
 cases a with
 | ag l=>obtain ⟨vs,hv,hL,h1⟩:=h;exact ⟨vs,hv,zlo hold hk1 hD l vs hok hV hL,h1⟩
 | fv g l=>obtain ⟨vs,hv,hL⟩:=h;exact ⟨vs,hv,zlo hold hk1 hD l vs hok hV hL⟩
 | bp r t ℓ C x=>exact key rfl rfl rfl
 | it=>exact key rfl rfl rfl
 | bs=>exact key rfl rfl rfl
 | tl=>exact key rfl rfl rfl
 | qp=>exact key rfl rfl rfl
 | em=>exact key rfl rfl rfl
 | mo=>exact key rfl rfl rfl
 | cu=>exact key rfl rfl rfl
 | any=>exact key rfl rfl rfl
 | lf l=>exact key rfl rfl rfl
 | sl r C xs=>exact key rfl rfl rfl
 | own r e ℓ C xs=>exact key rfl rfl rfl
 | rc r C x=>exact key rfl rfl rfl
 | ep r C x off=>exact key rfl rfl rfl
 | ptr ℓ off=>exact key rfl rfl rfl
 | mp rk rv C m=>exact key rfl rfl rfl
 | om rk rv ℓ C m=>exact key rfl rfl rfl
 | tup l=>exact key rfl rfl rfl
def zmt:List AV->AV
 | [a]=>a
 | l=> .tup l
theorem zmq (h:AV.relL γ w l vs) (hf:∀a∈l,∀v,a.rel γ w v->(f a).rel γ' w' v):AV.relL γ' w' (l.map f) vs:=by
 induction l generalizing vs with
 | nil=>exact h
 | cons a l ih=>
  obtain ⟨v,vs',rfl,h1,h2⟩:=h;exact ⟨v,vs',rfl,hf a xf v h1,ih h2 fun b hb=>hf b (xg _ hb)⟩
theorem zni (h:AV.relL γ w l us):(zmt l).rel γ w (zhS us):=by
 match l,us,h with
 | [],us,h=>cases h;exact ⟨[],rfl,rfl⟩
 | [a],us,h=>obtain ⟨v,vs',rfl,h1,h2⟩:=h;cases h2;exact h1
 | a::b::l,us,h=>
  have h':=h;obtain ⟨v,vs',rfl,h1,v2,vs2,rfl,h2,h3⟩:=h;exact ⟨_,rfl,h'⟩
theorem zvH {P:Program} {o:Oper} {f:FuncId} {args:List Operand} {ts:Array TypeId} {ins vb:List AV} (xs:List AV) (D:List Nat) (s:Nat)
  (ho:o.op= .call ⟨.value (.func f),args.toArray,ts⟩) (hc:∀as w,(callFunc f as).run P w= .ok (.enter f as) w) (ok:FnOk P f ins vb)
  (hin:xs.map inAV=ins) (vd:xs.length=args.length) (hD:(xs.all fun a=>subN (zmQ a) D)=true) (hD0:D.isEmpty=false) (hout:(vb.all (znB [1] D s))=true):
  zC P o (args.zip xs) [] [] (vb.flatMap (zdP s)) (zmt (vb.map (zjW D s))) []:=by
 intro γ a w hi hb next Q hk;have hvs:AV.relL (gh0 (γ.F D)) w ins (args.map a.eval):=by
  subst hin;clear hb hk hout ok ho;simp only [xn] at hD
  induction xs generalizing args with
  | nil=>cases args<;>first| rfl| (simp at vd)
  | cons x xs ih=>
   cases args with
   | nil=>simp at vd
   | cons y args=>
    exact ⟨_,_,rfl,zsV (hi (y,x) (by simp)) (zR (hD x xf)),
     ih (by simpa using vd) (fun p hp=>hi p (xg _ hp)) (fun b hb=>hD b (xg _ hb))⟩
 have hcall:=ok w (γ.F D) _ hvs;have hrun:(execOp a.eval o).run P w= .ok (.enter f (args.map a.eval).toArray) w:=by
  simp [execOp,ho,resolve,Act.eval,Deferred.ofValue,invoke,hc]
 unfold Oper.wp;rw [hrun,yV];refine hcall.mono fun e w' ⟨γc,us,he,hB,⟨hold,hfr⟩,hr⟩=>?_
 subst he;have hDne:D≠[]:=fun e=>by rw [e] at hD0;cases hD0
 simp only [xn] at hout;refine hk (zcJ γ γc w.heap.size D s (vb.flatMap (zdP s))) w' _ ⟨hB.os,hB.tape,hB.output,hB.size,fun b hb _=>hB.block b hb,fun b hb=>?_,fun ℓ hℓ=>?_,fun b h1 h2 h0=>?_⟩ (zni (zmq hr fun x hx v hv=>?_)) (fun b hb=>by cases hb)
 ·show (if b<w.heap.size then γ.col b else _)=_;rw [xe hb]
 ·show (if ℓ∈vb.flatMap (zdP s) then _ else γ.box ℓ)=_;rw [xd hℓ]
 ·exfalso;have hne:=hfr b h1 h2;have h0':(if b<w.heap.size then γ.col b else if γc.col b=0 then D.headD 1 else if γc.col b=1 then 1 else γc.col b+s)=0:=h0
  grind
 ·exact zna (K:=[1]) (fun b hb=>(hold b hb).imp id fun h=>by simp [h]) (by simp) hDne (hout x hx) (fun c hc=>yx.2 ⟨x,hx,hc⟩) hv
structure ElT (P:Program) (t e:TypeId) (size bytes:Nat):Prop where
 u:P.underlying t=some (.slice e)
 ex:∃i z,P.info? e=some i/\i.zero=some z/\i.size=size/\i.bytes=bytes/\z.cells.size=size
theorem ElT.size {P:Program} {t e:TypeId} {size bytes:Nat} (h:ElT P t e size bytes) (w:World):(sizeOf e).run P w= .ok size w:=by
 obtain ⟨i,z,h1,h2,h3,h4,h5⟩:=h.ex;simp [sizeOf,typeInfo,h1,h3]
section
variable {γ:Gh} {w:World} {α:Type} {r:Rp α} {C:List Nat} {xs:List α} {v:Value} {D:List Nat}
theorem zmy (h:zaf (γ.F D) w (.sl xs.length r.size (xs.flatMap r.lv)) v):∃A c cs,v= .slice A xs.length c/\xs.length<=c/\c<=maxLen/\zJ (γ.F D) w (xs.flatMap r.lv) cs/\cs.length=xs.length*r.size/\
  (0<xs.length->∃b off,A=some ⟨b,off,none⟩/\γ.F D b/\b<w.heap.size/\∀i,i<xs.length*r.size->w.cell? ⟨b,off+i,none⟩=cs[i]?):=by
 cases h with
 | sl _ _ _ A c cs hl hcs hc hm hA hr=>exact ⟨A,c,cs,rfl,hc,hm,⟨by rw [hl,hcs],hr⟩,hcs,hA⟩
theorem zoM {α:Type} {xs:List α} {i:Int} {x:α} (h:idx xs i=some x):0<=i/\i<xs.length/\xs[i.toNat]? =some x:=by
 unfold idx at h
 grind
theorem zzg (h:zaf (γ.F D) w (.sl xs.length r.size (xs.flatMap r.lv)) v) {i:Int} {x:α} (hx:idx xs i=some x):∃b off cs c,v= .slice (some ⟨b,off,none⟩) xs.length c/\γ.F D b/\b<w.heap.size/\
  zJ (γ.F D) w (r.lv x) cs/\∀j,j<cs.length->w.cell? ⟨b,off+i.toNat*r.size+j,none⟩=cs[j]? :=by
 obtain ⟨h0,h1,h2⟩:=zoM hx;obtain ⟨A,c,cs,rfl,hc,hm,hA,hcs,hcell⟩:=zmy h;obtain ⟨b,off,rfl,hF,hb,hcell⟩:=hcell (by omega);have hA':=(hA.drop (i.toNat*r.size)).take r.size;rw [r.flat_at xs _ x h2] at hA';refine ⟨b,off,_,c,rfl,hF,hb,hA',fun j hj=>?_⟩;have hj':j<r.size:=by rw [<-hA'.1,r.len] at hj;exact hj
 have hle:(i.toNat+1)*r.size<=xs.length*r.size:=yi _ (by omega);rw [yC] at hle;rw [x9,xe hj',yy,yE];exact hcell _ (by omega)
end
def isSl {α:Type} (r:Rp α) (xs:List α) (D:List Nat) (a:AV):Prop:=∀γ w v,a.rel γ w v->zaf (γ.F D) w (.sl xs.length r.size (xs.flatMap r.lv)) v
theorem zci {α:Type} (r:Rp α) (xs:List α) (C:List Nat):isSl r xs C (.sl r C xs):=fun _ _ _ h=>h
theorem zgb {α:Type} (r:Rp α) (xs:List α) (e:TypeId) (ℓ:Nat) (C:List Nat):isSl r xs (ℓ::C) (.own r e ℓ C xs):=fun _ _ _ h=>zlp h
theorem zta {α:Type} (r:Rp α) (C:List Nat):isSl r [] C (.lf (.val (.slice none 0 0))):=fun γ w v h=>by
 rw [zlj h];exact .sl 0 _ [] none 0 [] (by simp) (by simp) (xi _) (xm _) (fun h=>absurd h (by omega)) (fun i l u h=>by simp at h)
theorem ztF {P:Program} {t e:TypeId} {size bytes:Nat} (hT:ElT P t e size bytes) (w:World) (b off n c:Nat) (k:IntKind) (i:Int) (h0:0<=i) (h1:i<n):
  (Instr.indexAt t (.slice (some ⟨b,off,none⟩) n c) (.int k i)).run P w= .ok (.pointer (some ⟨b,off+i.toNat*size,none⟩)) w:=by
 simp [Instr.indexAt,asIntOf,run_underlying hT.u,hT.size,h0,h1,zfT]
theorem znx {P:Program} {o:Oper} {α:Type} {r:Rp α} {xs:List α} {D:List Nat} {a:AV} {k:IntKind} {i:Int} {x:α} {t e:TypeId} {y z:Operand} {bytes:Nat}
  (ho:o.op= .indexAddr t y z) (hT:ElT P t e r.size bytes) (hs:isSl r xs D a) (hx:idx xs i=some x):zC P o [(y,a),(z,.lf (.int k i))] [] [] [] (.ep r D x 0) []:=by
 refine zE fun γ ev w hi _=>?_
 have h1:=hs γ w _ (hi (y,a) (by simp));have h2:=zde (hi (z,.lf (.int k i)) (by simp));simp only at h1 h2;obtain ⟨b,off,cs,c,hv,hF,hb,hA,hc⟩:=zzg h1 hx;obtain ⟨i0,i1,_⟩:=zoM hx;exact ⟨_,w,γ,by simp [execOp,ho,hv,h2,ztF hT w b off _ c k i i0 i1],Tr.refl _ _ _ _,⟨b,off+i.toNat*r.size,cs,rfl,hF,hb,hA,hc⟩,fun b hb=>by cases hb⟩
theorem zBc {P:Program} {o:Oper} {α:Type} {r:Rp α} {D:List Nat} {x:α} {t:TypeId} {y:Operand}
  (ho:o.op= .load t y) (hT:AggT P t r.size):zC P o [(y,.ep r D x 0)] [] [] [] (.rc r D x) []:=by
 refine zE fun γ ev w hi _=>?_
 obtain ⟨b,off,cs,hv,hF,hb,hA,hc⟩:=hi (y,.ep r D x 0) (by simp);simp only at hv;have hl:=zdB hT (w:=w) (b:=b) (o:=off) (cs:=cs) (by rw [<-hA.1];exact r.len x) hc;exact ⟨_,w,γ,by simp [execOp,ho,hv,Instr.loadAt,Instr.sureAddr,hl],Tr.refl _ _ _ _,⟨cs,rfl,hA⟩,fun b hb=>by cases hb⟩
theorem zBd {P:Program} {o:Oper} {α β:Type} {r:Rp α} {D:List Nat} {x:α} {t:TypeId} {y:Operand} {off:Nat} (r':Rp β) (xs:List β)
  (ho:o.op= .load t y) (hT:zbX P t=true) (hs:(r.lv x)[off]? =some (.sl xs.length r'.size (xs.flatMap r'.lv))):zC P o [(y,.ep r D x off)] [] [] [] (.sl r' D xs) []:=by
 refine zE fun γ ev w hi _=>?_
 obtain ⟨b,o',cs,hv,hF,hb,hA,hc⟩:=hi (y,.ep r D x off) (by simp);simp only at hv;have vd:off<cs.length:=by rw [<-hA.1];exact (xY.1 hs).1
 have hr:=hA.2 off _ _ hs (xu vd);have hcell:=hc off vd;rw [xu vd] at hcell;exact ⟨_,w,γ,by simp [execOp,ho,hv,zgW hT hcell],Tr.refl _ _ _ _,hr,fun b hb=>by cases hb⟩
theorem zlJ {α:Type} {xs ys:List α} {i j:Int} (h:cut xs i j=some ys):0<=i/\i<=j/\j<=xs.length/\ys=(xs.drop i.toNat).take (j.toNat - i.toNat):=by
 unfold cut at h
 grind
theorem zvm {α:Type} {xs ys:List α} {i j:Int} (h:cut xs i j=some ys):ys.length=j.toNat - i.toNat:=by
 obtain ⟨h0,h1,h2,rfl⟩:=zlJ h;simp;omega
theorem zeC (w:World) (k:IntKind) (i:Int) (y:Nat) (code:BoundsCode) (h0:0<=i) (h1:i<=y):(Instr.sliceBound (.int k i) y code).run P w= .ok i.toNat w:=by
 simp [Instr.sliceBound,asIntOf,h0,h1]
def loOf:Option AV->Option Int
 | none=>some 0
 | some (.lf (.int _ i))=>some i
 | _=>none
def hiOf (n:Int):Option AV->Option Int
 | none=>some n
 | some (.lf (.int _ i))=>some i
 | _=>none
def zvV:Option Operand->Option AV->List (Operand×AV)
 | some x,some a=>[(x,a)]
 | _,_=>[]
theorem zsd {P:Program} {t e:TypeId} {size bytes:Nat} (hT:ElT P t e size bytes) (w:World) (A:Option Addr) (n c:Nat) (hc:n<=c) (lo hi:Option Value) (i j:Int)
  (hlo:(lo=none/\i=0)\/∃k,lo=some (.int k i)) (hhi:(hi=none/\j=n)\/∃k,hi=some (.int k j)) (h0:0<=i) (h1:i<=j) (h2:j<=n):
  (Instr.sliceAt t (.slice A n c) lo hi none).run P w= .ok (.slice (if c=i.toNat then A else A.map (·.add (i.toNat*size))) (j.toNat - i.toNat) (c - i.toNat)) w:=by
 have key:(Instr.sliceBounds true n c lo hi none).run P w= .ok (i.toNat,j.toNat,c) w:=by
  rcases hlo with ⟨rfl,rfl⟩| ⟨k,rfl⟩<;>rcases hhi with ⟨rfl,rfl⟩| ⟨k',rfl⟩
  ·rfl
  ·simp [Instr.sliceBounds,zeC w k' j c _ (by omega) (by omega)]
  ·simp [Instr.sliceBounds,zeC w k i n _ h0 h1]
  ·have:=zeC (P:=P) w k i j.toNat .sliceB h0 (by omega);simp [Instr.sliceBounds,zeC w k' j c _ (by omega) (by omega),this]
 simp [Instr.sliceAt,Instr.slice,run_underlying hT.u,key,hT.size]
theorem zzh {γ:Gh} {w:World} {α:Type} {r:Rp α} {xs ys:List α} {D:List Nat} {A:Option Addr} {c:Nat} (h:zaf (γ.F D) w (.sl xs.length r.size (xs.flatMap r.lv)) (.slice A xs.length c)) {i j:Int} (hy:cut xs i j=some ys):
  zaf (γ.F D) w (.sl ys.length r.size (ys.flatMap r.lv)) (.slice (if c=i.toNat then A else A.map (·.add (i.toNat*r.size))) (j.toNat - i.toNat) (c - i.toNat)):=by
 obtain ⟨A',c',cs,hv,hc,hm,hA,hcs,hcell⟩:=zmy h;injection hv with e1 _ e3;subst e1 e3;obtain ⟨h0,h1,h2,e⟩:=zlJ hy;have hl:=zvm hy;rw [hl];have hf:ys.flatMap r.lv=((xs.flatMap r.lv).drop (i.toNat*r.size)).take ((j.toNat - i.toNat)*r.size):=by rw [e,r.flat_take,r.flat_drop]
 have hA':=(hA.drop (i.toNat*r.size)).take ((j.toNat - i.toNat)*r.size);rw [<-hf] at hA';have vd:(ys.flatMap r.lv).length=(j.toNat - i.toNat)*r.size:=by rw [r.flat,hl]
 refine .sl _ _ _ _ _ _ vd (by rw [<-hA'.1,vd]) (by omega) (by omega) (fun hn=>?_) hA'.2;have hpos:0<xs.length:=by omega
 have hne:¬c=i.toNat:=by omega
 obtain ⟨b,off,rfl,hF,hb,hcell⟩:=hcell hpos;rw [xd hne];refine ⟨b,off+i.toNat*r.size,by simp [zfT],hF,hb,fun k hk=>?_⟩;have hle:j.toNat*r.size<=xs.length*r.size:=yi _ (by omega);have hji:(j.toNat - i.toNat)*r.size=j.toNat*r.size - i.toNat*r.size:=Nat.sub_mul ..;have hij:i.toNat*r.size<=j.toNat*r.size:=yi _ (by omega);rw [x9,xe hk,yy,yE];exact hcell _ (by omega)
theorem zeZ {P:Program} {o:Oper} {α:Type} {r:Rp α} {xs ys:List α} {D:List Nat} {a:AV} {i j:Int} {t e:TypeId} {x:Operand} {lo hi:Option Operand} (lov hiv:Option AV) {bytes:Nat}
  (ho:o.op= .slice t x lo hi none) (hT:ElT P t e r.size bytes) (hs:isSl r xs D a) (hlo:lo.isSome=lov.isSome/\loOf lov=some i) (hhi:hi.isSome=hiv.isSome/\hiOf xs.length hiv=some j) (hy:cut xs i j=some ys):
  zC P o ((x,a)::(zvV lo lov++zvV hi hiv)) [] [] [] (.sl r D ys) []:=by
 refine zE fun γ ev w hin _=>?_
 have h1:=hs γ w _ (hin (x,a) (by simp));simp only at h1;obtain ⟨A,c,cs,hv,hc,hm,_⟩:=zmy h1;obtain ⟨c0,c1,c2,_⟩:=zlJ hy;have hlo':(lo.map ev=none/\i=0)\/∃k,lo.map ev=some (.int k i):=by
  cases lo with
  | none=>
   cases lov with
   | none=>left;exact ⟨rfl,by simpa [loOf] using hlo.2.symm⟩
   | some a=>simp at hlo
  | some y=>
   cases lov with
   | none=>simp at hlo
   | some b=>
    have hb:=hin (y,b) (by simp [zvV]);have h2:=hlo.2;unfold loOf at h2;split at h2
    ·grind
    ·rename_i k i' heq;cases heq;cases h2;right;exact ⟨k,by simp [zde hb]⟩
    ·cases h2
 have hhi':(hi.map ev=none/\j=(xs.length:Int))\/∃k,hi.map ev=some (.int k j):=by
  cases hi with
  | none=>
   cases hiv with
   | none=>left;exact ⟨rfl,by simpa [hiOf] using hhi.2.symm⟩
   | some a=>simp at hhi
  | some y=>
   cases hiv with
   | none=>simp at hhi
   | some b=>
    have hb:=hin (y,b) (by simp [zvV]);have h2:=hhi.2;unfold hiOf at h2;split at h2
    ·grind
    ·rename_i k i' heq;cases heq;cases h2;right;exact ⟨k,by simp [zde hb]⟩
    ·cases h2
 rw [hv] at h1;exact ⟨_,w,γ,by simp [execOp,ho,hv,zsd hT w A _ c hc _ _ i j hlo' hhi' c0 c1 c2],Tr.refl _ _ _ _,zzh h1 hy,fun b hb=>by cases hb⟩
def Rp.Plain {α:Type} (r:Rp α):Prop:=∀x l,l∈r.lv x->l.plain=true
theorem zJ.plain (h:zJ F w ls cs) (hp:∀l∈ls,l.plain=true):zJ G w' ls cs:=
 ⟨h.1,fun i l u h1 h2=>(h.2 i l u h1 h2).plain (hp l (qt h1))⟩
theorem Rp.Plain.flat {α:Type} {r:Rp α} (h:r.Plain) (xs:List α):∀l∈xs.flatMap r.lv,l.plain=true:=by
 intro l hl;obtain ⟨x,_,hx⟩:=yx.1 hl;exact h x l hx
def zxG {α:Type} (r:Rp α) (e:TypeId) (ℓ:Nat) (C:List Nat) (xs:List α) (a:AV):Prop:=∀γ w v,a.rel γ w v->AV.rel γ w (.own r e ℓ C xs) v
theorem zqI {α:Type} (r:Rp α) (e:TypeId) (ℓ:Nat) (C:List Nat) (xs:List α):zxG r e ℓ C xs (.own r e ℓ C xs):=fun _ _ _ h=>h
theorem zqH {α:Type} (r:Rp α) (e:TypeId) (ℓ:Nat) (C:List Nat) (h:memN ℓ C=false):zxG r e ℓ C [] (.lf (.val (.slice none 0 0))):=fun γ w v hv=>by
 rw [zlj hv];refine ⟨[],World.ownsRow_nil w 0 e r.size,?_,zJ.nil,fun hc=>by rw [zae.2 hc] at h;cases h⟩;intro g hg;cases hg
theorem zuy {α:Type} (r:Rp α) (e:TypeId) (ℓ:Nat) (C:List Nat) (h:memN ℓ C=false):AV.le (.lf (.val (.slice none 0 0))) (.own r e ℓ C []):=zqH r e ℓ C h
theorem zmT {α:Type} (r:Rp α) (C:List Nat):AV.le (.lf (.val (.slice none 0 0))) (.sl r C []):=zta r C
theorem zBQ {α:Type} (r:Rp α) (C C':List Nat) (xs:List α) (h:subN C C'=true):AV.le (.sl r C xs) (.sl r C' xs):=fun _ _ _ hv=>zaf.mono hv fun _ _ hb=>zR h _ hb
def LIM:Nat:=140737488355328
def app {α:Type} (bytes:Nat) (xs ys:List α):Option (List α):=if (xs.length+ys.length)*bytes<=LIM then some (xs++ys) else none
theorem zxj {α:Type} {bytes:Nat} {xs ys zs:List α} (h:app bytes xs ys=some zs):(xs.length+ys.length)*bytes<=140737488355328/\zs=xs++ys:=by
 unfold app at h;split at h
 ·rename_i hl;cases h;exact ⟨hl,rfl⟩
 ·cases h
def zch (γ:Gh) (n ℓ g:Nat):Gh:=⟨fun b=>if b<n then γ.col b else ℓ,fun k=>if k=ℓ then g else γ.box k⟩
theorem zlv {P:Program} {t e:TypeId} {size bytes:Nat} (hT:ElT P t e size bytes) (ty:TypeId) (w:World) (base:Nat) (v:Value) (n:Nat) (xs:List Value) (hown:w.ownsRow base e size v n xs) (c:Nat):
  (Builtin.append_ #[t,t] ty #[v,.slice none 0 c]).run P w= .ok v w:=by
 obtain ⟨i,z,hi,hz,hs,hb,hzs⟩:=hT.ex;rcases hown.2 with ⟨rfl,rfl⟩| ⟨g,cap,cur,rfl,_,_,hnc,_⟩
 ·simp [Builtin.append_,run_underlying hT.u,sizeOf,typeInfo,hi,Builtin.lenOf,Builtin.firstCells]
 ·simp [Builtin.append_,run_underlying hT.u,sizeOf,typeInfo,hi,Builtin.lenOf,Builtin.firstCells,hnc,storeCells]
theorem zzQ {P:Program} {t e:TypeId} {size bytes:Nat} (hT:ElT P t e size bytes) (hpos:0<size) (hbp:0<bytes) (ty:TypeId) (w:World) (v:Value) (n:Nat) (xs:List Value) (hown:w.ownsRow 0 e size v n xs)
  (A:Option Addr) (m c:Nat) (news:List Value) (hl:news.length=m*size) (hA:0<m->∃b off,A=some ⟨b,off,none⟩/\∀i,i<m*size->w.cell? ⟨b,off+i,none⟩=news[i]?) (h1:∀u∈news,u.oneCell'=true)
  (hlim:(n+m)*bytes<=140737488355328):
  ∃v' w',(Builtin.append_ #[t,t] ty #[v,.slice A m c]).run P w= .ok v' w'/\w'.ownsRow 0 e size v' (n+m) (xs++news)/\w.grownBy w' v.ownBlock/\(v'.ownBlock=v.ownBlock\/v'.ownBlock=some w.heap.size):=by
 obtain ⟨i,z,hi,hz,hs,hb,hzs⟩:=hT.ex;have hnm:n+m<=maxLen:=by
  have:(n+m)*1<=(n+m)*bytes:=qL _ hbp;unfold maxLen;omega
 rcases A with _| ad
 ·have hm:m=0:=by
   grind
  subst hm;have hn:news=[]:=yU (by simpa using hl);subst hn;exact ⟨v,w,zlv hT ty w 0 v n xs hown c,by simpa using hown,⟨rfl,rfl,rfl,xi _,fun _ _ _=>rfl⟩,.inl rfl⟩
 ·have hnews:∀j u,news[j]? =some u->w.cell? (ad.add j)=some u:=by
   intro j u hu;have hj:j<m*size:=by rw [<-hl];exact (xY.1 hu).1
   have hm:0<m:=by
    grind
   obtain ⟨b,off,h,hc⟩:=hA hm;cases h;rw [zfT,hc j hj];exact hu
  obtain ⟨v',w',hr,ho,hg,_,hbk⟩:=run_append_own_at (P:=P) w 0 t ty e i z size bytes hT.u hi hz hs hb hzs hpos v n xs hown ad m c news hl hnews h1 hnm hlim (xm _)
  grind
theorem zBz {γ:Gh} {w w':World} {e:TypeId} {size n:Nat} {ℓ:Nat} {v v':Value} {cs:List Value} (ho:w.ownsRow 0 e size v n cs) (hg:∀g,v.ownBlock=some g->γ.col g=ℓ/\γ.box ℓ=g) (hgr:w.grownBy w' v.ownBlock)
  (hbk:v'.ownBlock=v.ownBlock\/v'.ownBlock=some w.heap.size):
  ∃γ',Tr [ℓ] [ℓ] γ w γ' w'/\(∀g,v'.ownBlock=some g->γ'.col g=ℓ/\γ'.box ℓ=g):=by
 refine ⟨zch γ w.heap.size ℓ (v'.ownBlock.getD (γ.box ℓ)),⟨hgr.os,hgr.tape,hgr.output,hgr.size,fun b hb hn=>hgr.block b hb fun e=>?_,fun b hb=>?_,fun k hk=>?_,fun b hb _ h=> .inr (by simp [zch,Nat.not_lt.2 hb] at h;simp [h])⟩,fun g hgb=>⟨?_,?_⟩⟩
 ·grind
 ·simp [zch,hb]
 ·simp only [xj,xA,xB] at hk;simp [zch,hk]
 ·rcases hbk with h| h
  ·rw [h] at hgb;have:=(ho.lt g hgb).2;simp [zch,this,(hg g hgb).1]
  ·rw [h] at hgb;cases hgb;simp [zch]
 ·simp [zch,hgb]
theorem zyb {P:Program} {o:Oper} {α:Type} {r:Rp α} {xs ys zs:List α} {C D:List Nat} {a b:AV} {t e:TypeId} {x y:Operand} {bytes:Nat} (ℓ:Nat) (C2:List Nat)
  (ho:o.op= .call ⟨.builtin .append,#[x,y],#[t,t]⟩) (hT:ElT P t e r.size bytes) (hb:Nat.blt 0 bytes=true) (hx:zxG r e ℓ C xs a) (hy:isSl r ys D b) (hz:app bytes xs ys=some zs)
  (hC:r.Plain\/(subN C C2&&subN D C2)=true) (hℓ:memN ℓ C2=false):zC P o [(x,a),(y,b)] [] [ℓ] [ℓ] (.own r e ℓ C2 zs) []:=by
 refine zE fun γ ev w hi _=>?_
 obtain ⟨cs,hown,hg,hA,hnot⟩:=hx γ w _ (hi (x,a) (by simp));have h2:=hy γ w _ (hi (y,b) (by simp));simp only at hown hg h2;obtain ⟨A,c,cs',hv,hc,hm,hA',hcs',hcell⟩:=zmy h2;obtain ⟨hlim,rfl⟩:=zxj hz
 obtain ⟨v',w',hr,ho',hgr,hbk⟩:=zzQ hT r.pos (yW (xy hb)) o.type w _ _ _ hown A ys.length c cs' hcs'
  (fun hm=>by obtain ⟨b,off,e,_,_,hc⟩:=hcell hm;exact ⟨b,off,e,hc⟩) hA'.one hlim
 obtain ⟨γ',ht,hg'⟩:=zBz hown hg hgr hbk;refine ⟨v',w',γ',?_,ht,⟨cs++cs',by rw [xH];exact ho',hg',?_,fun hc=>by rw [zae.2 hc] at hℓ;cases hℓ⟩,fun b hb=>by cases hb⟩
 ·refine zbT (args:=[x,y]) (ts:=[t,t]) ho rfl rfl rfl fun consts=>?_
  simp [builtin,hv,hr]
 ·rw [List.flatMap_append];rcases hC with hp| hC
  ·exact (hA.plain (hp.flat xs)).append (hA'.plain (hp.flat ys))
  ·simp only [xh] at hC;have hn2:∀c∈C2,c∉[ℓ]:=fun c hc h=>by
    simp only [xj,xA,xB] at h;subst h;rw [zae.2 hc] at hℓ;cases hℓ
   have k1:=ht.all (C:=C2) hn2 (hA.mono fun b _ hb=>zR hC.1 _ hb);have k2:=ht.all (C:=C2) hn2 (hA'.mono fun b _ hb=>zR hC.2 _ hb);exact k1.append k2
def zok:LV->Value->Bool
 | .int k n,.int k' n'=>zlS k k'&&decide (n=n')
 | .bool b,.bool b'=>(b&&b')|| (!b&& !b')
 | .str l,.string s=>l.isEmpty&&Nat.beq s.data.toList.length 0
 | .sl n _ ls,.slice none 0 0=>Nat.beq n 0&&ls.isEmpty
 | .val (.slice none 0 0),.slice none 0 0=>true
 | .val (.pointer none),.pointer none=>true
 | .val (.map none),.map none=>true
 | .val .nilFunc,.nilFunc=>true
 | .val .nilIface,.nilIface=>true
 | _,_=>false
theorem zwh (h:zok l v=true) (F:Fp) (w:World):zaf F w l v:=by
 unfold zok at h;split at h
 ·simp only [xh,xt] at h;have:=zlT h.1;rw [this,h.2];exact .int _ _
 ·rename_i b b';cases b<;>cases b'<;>first| exact .bool _| cases h
 ·rename_i l s;simp only [xh,yX] at h;obtain ⟨rfl,h2⟩:=h;have h3:s.data.toList=[]:=yU (xk h2);have:s=⟨([]:List UInt8).toArray⟩:=by
   obtain ⟨d⟩:=s
   grind
  rw [this];exact .str []
 ·simp only [xh,yX] at h;obtain ⟨h1,rfl⟩:=h;have:=xk h1;subst this;exact .sl 0 _ [] none 0 [] (by simp) (by simp) (xi _) (xm _) (fun h=>absurd h (by omega)) (fun i l u h=>by simp at h)
 ·exact .val _ rfl
 ·exact .val _ rfl
 ·exact .val _ rfl
 ·exact .val _ rfl
 ·exact .val _ rfl
 ·cases h
def zokL:List LV->List Value->Bool
 | [],[]=>true
 | l::ls,v::vs=>zok l v&&zokL ls vs
 | _,_=>false
theorem zpW (h:zokL ls vs=true) (F:Fp) (w:World):zJ F w ls vs:=by
 induction ls generalizing vs with
 | nil=>cases vs<;>first| exact .nil| cases h
 | cons l ls ih=>
  cases vs with
  | nil=>cases h
  | cons v vs=>
   simp only [zokL,xh] at h;exact .cons (zwh h.1 F w) (ih h.2)
structure ZeT (P:Program) {α:Type} (t e:TypeId) (r:Rp α) (bytes:Nat) (x0:α):Prop where
 u:P.underlying t=some (.slice e)
 ex:∃i z,P.info? e=some i/\i.zero=some z/\i.size=r.size/\i.bytes=bytes/\z.cells.size=r.size/\zokL (r.lv x0) z.cells.toList=true
theorem ZeT.el {P:Program} {α:Type} {t e:TypeId} {r:Rp α} {bytes:Nat} {x0:α} (h:ZeT P t e r bytes x0):ElT P t e r.size bytes:=by
 obtain ⟨i,z,h1,h2,h3,h4,h5,_⟩:=h.ex;exact ⟨h.u,i,z,h1,h2,h3,h4,h5⟩
def zeB (P:Program) {α:Type} (e:TypeId) (r:Rp α) (bytes:Nat) (x0:α):Bool:=match P.info? e with
 | some i=>match i.zero with
  | some z=>Nat.beq i.size r.size&&Nat.beq i.bytes bytes&&Nat.beq z.cells.size r.size&&zokL (r.lv x0) z.cells.toList
  | none=>false
 | none=>false
theorem ZeT.ofB {P:Program} {α:Type} {t e:TypeId} {r:Rp α} {bytes:Nat} {x0:α} (hu:P.underlying t=some (.slice e)) (h:zeB P e r bytes x0=true):ZeT P t e r bytes x0:=by
 unfold zeB at h;split at h
 ·rename_i i hi;split at h
  ·rename_i z hz;simp only [xh] at h;exact ⟨hu,i,z,hi,hz,xk h.1.1.1,xk h.1.1.2,xk h.1.2,h.2⟩
  ·cases h
 ·cases h
theorem zzN {β:Type} (l:List β) (n i:Nat) (h:i<n*l.length):((List.replicate n l).flatten)[i]? =l[i%l.length]? :=by
 induction n generalizing i with
 | zero=>omega
 | succ n ih=>
  rw [List.replicate_succ,qu,qn];split
  ·rename_i hi;rw [qM hi]
  ·rename_i hi;rw [yC] at h;rw [ih _ (by omega)];congr 1;rw [<-Nat.mod_eq_sub_mod (by omega)]
theorem ztl {α:Type} {r:Rp α} {x0:α} {z:Value} (hs:z.cells.size=r.size) (hz:zokL (r.lv x0) z.cells.toList=true) (F:Fp) (w:World) (n m:Nat) (hnm:n<=m):
  zJ F w ((List.replicate n x0).flatMap r.lv) ((madeCells z.cells (m*r.size)).toList.take (n*r.size)):=by
 have hr:=zpW hz F w;have hl:(madeCells z.cells (m*r.size)).toList.length=m*r.size:=by rw [yH,qN]
 have hle:n*r.size<=m*r.size:=yi _ hnm;refine ⟨by rw [r.flat,qO,xK,hl];omega,fun i l u h1 h2=>?_⟩;have hi:i<n*r.size:=by have:=(xY.1 h1).1;rw [r.flat,qO] at this;exact this
 have e1:(List.replicate n x0).flatMap r.lv=(List.replicate n (r.lv x0)).flatten:=by rw [List.flatMap_def,List.map_replicate]
 rw [e1,zzN _ _ _ (by rw [r.len];exact hi),r.len] at h1;rw [x9,xe hi] at h2;have hmod:i%r.size<z.cells.size:=by rw [hs];exact Nat.mod_lt _ r.pos
 have e2:(madeCells z.cells (m*r.size)).toList[i]? =z.cells.toList[i%r.size]? :=by
  have him:i<m*r.size:=by omega
  simp only [madeCells,Array.toList_map,Array.toList_range,yz,List.getElem?_range him,yI,hs]
  grind
 rw [e2] at h2;exact hr.2 _ l u h1 h2
def mkO {α:Type} (bytes:Nat) (x0:α) (n m:Int):Option (List α):=if 0<=n/\n<=m/\m*bytes<=LIM then some (List.replicate n.toNat x0) else none
def zmx {β:Type} (cs:List β) (off:Nat) (vs:List β):List β:=cs.take off++vs++cs.drop (off+vs.length)
theorem zoJ (off:Nat):∀(vs:List Value) (k:Nat) (cs:Array Value),off+k+vs.length<=cs.size->
  ((vs.zipIdx k).foldl (fun (cs:Array Value) (p:Value×Nat)=>cs.setIfInBounds (off+p.2) p.1) cs).toList=cs.toList.take (off+k)++vs++cs.toList.drop (off+k+vs.length)
 | [],k,cs,_=>by simp
 | v::vs,k,cs,h=>by
  simp only [xz] at h;rw [List.zipIdx_cons,qP,zoJ off vs (k+1) _ (by simp;omega)];have:=list_seg_step cs.toList (off+k) v vs (by simp;omega)
  grind
def zlq:AV->Option (List LV)
 | .rc r _ x=>some (r.lv x)
 | .ag l=>zdE l
 | a=>match a.toLV with
  | some l=>some [l]
  | none=>none
theorem zpj (h:zlq a=some ls) (hr:a.rel γ w v) (hC:subN a.cols C=true):zJ (γ.F C) w ls v.cells.toList:=by
 have leaf:∀l,a.toLV=some l->zJ (γ.F C) w [l] v.cells.toList:=fun l hl=>by
  have h1:=ztK hl hr (zR hC);have:v.cells=#[v]:=by
   have h1c:=h1.one;cases v<;>first| rfl| cases h1c
  rw [this];exact .cons h1 .nil
 cases a with
 | rc r C' x=>
  cases h;obtain ⟨cs,rfl,hA⟩:=hr;exact hA.mono fun b _ hb=>zR hC _ hb
 | ag l=>
  obtain ⟨vs,rfl,hL,_⟩:=hr;exact zgE h hL (zR hC)
 | any=>cases h
 | lf l=>cases h;exact leaf _ rfl
 | sl=>cases h;exact leaf _ rfl
 | own=>cases h;exact leaf _ rfl
 | ep=>cases h
 | ptr=>cases h
 | bs=>cases h
 | tl=>cases h
 | qp=>cases h
 | em=>cases h
 | mo=>cases h
 | cu=>cases h
 | mp=>cases h
 | om=>cases h
 | tup=>cases h
 | fv=>cases h
 | bp=>cases h
 | it=>cases h
def zqx (place:Nat->Option (Nat×Nat)) (cs:List LV):List (Nat×List LV)->Option (List LV)
 | []=>some cs
 | (i,vs)::uY=>match place i with
  | none=>none
  | some (off,size)=>match Nat.beq vs.length size&&Nat.ble (off+vs.length) cs.length with
   | true=>zqx place (zmx cs off vs) uY
   | false=>none
theorem zmN :∀(ps:List (Nat×List LV)) (vs:List (Nat×Value)) (cs:List LV) (cells:Array Value) (out:List LV),zqx place cs ps=some out->
  zJ F w cs cells.toList->ps.length=vs.length->(∀(k:Nat) (p:Nat×List LV) (v:Nat×Value),ps[k]? =some p->vs[k]? =some v->p.1=v.1/\zJ F w p.2 v.2.cells.toList)->
  ∃cells',Instr.fill place cells vs=some cells'/\zJ F w out cells'.toList
 | [],vs,cs,cells,out,h,hA,hl,_=>by
  cases h;cases vs with
  | nil=>exact ⟨cells,rfl,hA⟩
  | cons=>simp at hl
 | (i,ls)::ps,vs,cs,cells,out,h,hA,hl,hp=>by
  cases vs with
  | nil=>simp at hl
  | cons v vs=>
   obtain ⟨j,v⟩:=v;obtain ⟨hij,hv⟩:=hp 0 (i,ls) (j,v) rfl rfl;simp only at hij hv;subst hij;rw [zqx] at h;split at h
   ·cases h
   ·rename_i off size hpl;split at h
    ·rename_i hb;simp only [xh] at hb;have e1:=xk hb.1;have e2:=xy hb.2;have hsz:v.cells.size=ls.length:=by rw [hv.1];simp
     have hcl:cells.size=cs.length:=by rw [hA.1];simp
     have hset:=zoJ off v.cells.toList 0 cells (by simp;omega);simp only [yd] at hset;have hA2:zJ F w (zmx cs off ls) (v.cells.toList.zipIdx.foldl (fun (cs:Array Value) (p:Value×Nat)=>cs.setIfInBounds (off+p.2) p.1) cells).toList:=by
      rw [hset];unfold zmx;rw [hv.1];exact ((hA.take off).append hv).append (hA.drop _)
     obtain ⟨cells',hf,hr⟩:=zmN ps vs _ _ out h hA2 (by simpa using hl) (fun k p u h1 h2=>hp (k+1) p u h1 h2);refine ⟨cells',?_,hr⟩;rw [Instr.fill,hpl];simp only;rw [xd (by simp;omega)];rw [<-hf];congr 1;rw [<-qQ];simp
    ·cases h
def zkA:List (Nat×Operand)->List AV->Option (List (Nat×List LV))
 | [],[]=>some []
 | (i,_)::l,a::as=>match zlq a,zkA l as with
  | some ls,some r=>some ((i,ls)::r)
  | _,_=>none
 | _,_=>none
theorem zjY {γ:Gh} {w:World} {ev:Operand->Value} {C:List Nat}:∀(l:List (Nat×Operand)) (as:List AV) (ps:List (Nat×List LV)),zkA l as=some ps->(∀p∈(l.map (·.2)).zip as,p.2.rel γ w (ev p.1))->
  subN (AV.colsL as) C=true->ps.length=(l.map fun p=>(p.1,ev p.2)).length/\∀(k:Nat) (p:Nat×List LV) (v:Nat×Value),ps[k]? =some p->(l.map fun p=>(p.1,ev p.2))[k]? =some v->p.1=v.1/\zJ (γ.F C) w p.2 v.2.cells.toList
 | [],[],ps,h,_,_=>by cases h;exact ⟨rfl,fun k p v h=>by simp at h⟩
 | (i,x)::l,a::as,ps,h,hr,hC=>by
  rw [zkA] at h;split at h
  ·rename_i ls r h1 h2;cases h;have hC1:subN a.cols C=true:=by
    simp only [subN,xn,AV.colsL] at hC|-
    grind
   have hC2:subN (AV.colsL as) C=true:=by
    simp only [subN,xn,AV.colsL] at hC|-
    grind
   obtain ⟨g1,g2⟩:=zjY l as r h2 (fun p hp=>hr p (by simp [hp])) hC2;refine ⟨by simp [g1],fun k p v hp hv=>?_⟩;cases k with
   | zero=>
    simp at hp hv;subst hp hv;exact ⟨rfl,zpj h1 (hr (x,a) (by simp)) hC1⟩
   | succ k=>exact g2 k p v (by simpa using hp) (by simpa using hv)
  ·cases h
 | [],_::_,ps,h,_,_=>by cases h
 | _::_,[],ps,h,_,_=>by cases h
def zsO (place:Nat->Option (Nat×Nat)) (zl:List LV) (vi:List (Nat×Operand)) (as:List AV):Option (List LV):=match zkA vi as with
 | some ps=>zqx place zl ps
 | none=>none
theorem zoE {vi:List (Nat×Operand)} (h:zsO place zl vi as=some out):∃ps,zkA vi as=some ps/\zqx place zl ps=some out:=by
 unfold zsO at h
 grind
structure StT (P:Program) (t:TypeId) (places:List (Nat×Nat)) (zl:List LV):Prop where
 ex:∃fs z,P.underlying t=some (.struct fs)/\(∀w,(zeroValue t).run P w= .ok z w)/\(∀w,(fs.mapM (m:=Sem) fun (f:Field)=>do pure (f.offset,<-sizeOf f.type)).run P w= .ok places.toArray w)/\zokL zl z.cells.toList=true
theorem zA {P:Program} {o:Oper} {α:Type} {r:Rp α} {t:TypeId} {vi:List (Nat×Operand)} {places:List (Nat×Nat)} {zl:List LV} (as:List AV) (C:List Nat) (x:α)
  (ho:o.op= .build t vi.toArray) (hT:StT P t places zl) (hC:subN (AV.colsL as) C=true) (hf:zsO (fun i=>places[i]?) zl vi as=some (r.lv x)):
  zC P o ((vi.map (·.2)).zip as) [] [] [] (.rc r C x) []:=by
 refine zE fun γ ev w hi _=>?_
 obtain ⟨ps,hp,hf⟩:=zoE hf;obtain ⟨fs,z,hu,hz,hpl,hzo⟩:=hT.ex;obtain ⟨g1,g2⟩:=zjY vi as ps hp hi hC;obtain ⟨cells',hfill,hA⟩:=zmN ps _ zl z.cells _ hf (zpW hzo _ w) g1 g2;have hfill':Instr.fill (fun i=>places.toArray[i]?) z.cells (vi.map fun p=>(p.1,ev p.2))=some cells':=by
  simp_all
 refine ⟨.agg cells',w,γ,?_,Tr.refl _ _ _ _,⟨cells'.toList,by simp,hA⟩,fun b hb=>by cases hb⟩;simp only [execOp,ho,Instr.build,xo,hz,ye hu,xq,hpl,qq];have e:(List.map (fun (x:Nat×Operand)=>(x.1,ev x.2)) vi)=vi.map fun p=>(p.1,ev p.2):=rfl
 simp only [hfill',xE,xq]
theorem zys {α:Type} {r:Rp α} {x0:α} {z:Value} (hs:z.cells.size=r.size) (hz:zokL (r.lv x0) z.cells.toList=true) (F:Fp) (w:World) (n:Nat):
  zJ F w ((List.replicate n x0).flatMap r.lv) (madeCells z.cells (n*r.size)).toList:=by
 have:=ztl hs hz F w n n (xi _)
 rwa [yY (by rw [yH,qN];exact xi _)] at this
theorem zdX {P:Program} {o:Oper} {α:Type} {r:Rp α} {t e:TypeId} {n:Nat} {vi:List (Nat×Operand)} {bytes:Nat} {x0:α} (as:List AV) (ℓ:Nat) (C:List Nat) (xs:List α)
  (ho:o.op= .buildSlice t n vi.toArray) (hT:ZeT P t e r bytes x0) (hn:(Nat.beq n xs.length&&Nat.ble (n*r.size) 16777216)=true) (hC:subN (AV.colsL as) C=true) (hℓ:memN ℓ C=false)
  (hf:zsO (fun i=>some (i*r.size,r.size)) ((List.replicate n x0).flatMap r.lv) vi as=some (xs.flatMap r.lv)):zC P o ((vi.map (·.2)).zip as) [] [] [ℓ] (.own r e ℓ C xs) []:=by
 refine zE fun γ ev w hi _=>?_
 obtain ⟨ps,hp,hf⟩:=zoE hf;obtain ⟨i,z,hi',hz,hs,hby,hzs,hzo⟩:=hT.ex;simp only [xh] at hn;have e1:=xk hn.1;have e2:=xy hn.2;obtain ⟨g1,g2⟩:=zjY vi as ps hp hi hC;obtain ⟨cells',hfill,hA⟩:=zmN ps _ _ (madeCells z.cells (n*r.size)) _ hf (zys hzs hzo _ w n) g1 g2;have hsz:(sizeOf e).run P w= .ok r.size w:=hT.el.size w;have hcs:cells'.size=n*r.size:=by rw [<-yH,<-hA.1,r.flat,e1]
 have hzero:(zeroValue e).run P w= .ok z w:=by simp [zeroValue,typeInfo,hi',hz]
 have ht:Tr [] [ℓ] γ w (zch γ w.heap.size ℓ w.heap.size) (w.alloc (.cells cells' e)):=⟨rfl,rfl,rfl,by simp,fun b hb _=>Below.heap_alloc w _ b hb,fun b hb=>by simp [zch,hb],fun k hk=>by
  simp only [xj,xA,xB] at hk;simp [zch,hk],fun b hb _ h=> .inr (by simp [zch,Nat.not_lt.2 hb] at h;simp [h])⟩
 refine ⟨.slice (some ⟨w.heap.size,0,none⟩) n n,w.alloc (.cells cells' e),_,?_,ht,
  ⟨cells'.toList,?_,fun g hg=>?_,?_,fun hc=>by rw [zae.2 hc] at hℓ;cases hℓ⟩,fun b hb=>by cases hb⟩
 ·have hgt:¬(n*r.size>2^24):=by omega
  simp only [execOp,ho,Instr.buildSlice,xo,ye hT.u,xq,hsz,xd hgt,xE,qq];by_cases h0:n*r.size=0
  ·have:n=0:=by rcases Nat.mul_eq_zero.1 h0 with h| h;exact h;exact absurd h (by have:=r.pos;omega)
   have hm0:madeCells z.cells (n*r.size)=#[]:=by rw [h0];simp [madeCells]
   rw [hm0] at hfill;rw [xe h0];have hr0:Array.range 0=#[]:=rfl;simp only [h0,hr0,Array.map_empty,hfill];simp [newRow]
  ·have hm0:madeCells z.cells (n*r.size)=(Array.range (n*r.size)).map (fun x=>z.cells[x%z.cells.size]!):=rfl;rw [hm0] at hfill;simp only [xd h0,xo,hzero,xE,xq,hfill];simp [newRow]
 ·rw [<-e1];refine World.ownsRow_lit w cells' n (xm _) ?_ hcs;have:n*1<=n*r.size:=qL _ r.pos;unfold maxLen;omega
 ·cases hg;simp [zch]
 ·exact ht.all (fun c _ h=>by cases h) hA
def zokA:AV->Value->Bool
 | .lf l,v=>l.plain&&zok l v
 | .sl _ _ xs,.slice none 0 0=>xs.isEmpty
 | .own _ _ ℓ C xs,.slice none 0 0=>xs.isEmpty&& !memN ℓ C
 | _,_=>false
theorem zzb (h:zokA a v=true) (γ:Gh) (w:World):a.rel γ w v/\v.oneCell'=true:=by
 unfold zokA at h;split at h
 ·simp only [xh] at h;have:=zwh h.2 (fun _=>False) w;exact ⟨⟨h.1,this⟩,this.one⟩
 ·rename_i α r C xs;have hx:xs=[]:=yX.1 h;subst hx;exact ⟨zta r C γ w _ ⟨rfl,.val _ rfl⟩,rfl⟩
 ·rename_i α r e ℓ C xs;simp only [xh,xJ] at h;have hx:xs=[]:=yX.1 h.1;subst hx;exact ⟨zqH r e ℓ C h.2 γ w _ ⟨rfl,.val _ rfl⟩,rfl⟩
 ·cases h
def zru:List AV->List Value->Bool
 | [],[]=>true
 | a::l,v::vs=>zokA a v&&zru l vs
 | _,_=>false
theorem zrv (h:zru l vs=true) (γ:Gh) (w:World):AV.relL γ w l vs/\∀u∈vs,u.oneCell'=true:=by
 induction l generalizing vs with
 | nil=>cases vs<;>first| exact ⟨rfl,fun u hu=>by cases hu⟩| cases h
 | cons a l ih=>
  cases vs with
  | nil=>cases h
  | cons v vs=>
   simp only [zru,xh] at h;obtain ⟨h1,h2⟩:=zzb h.1 γ w;obtain ⟨h3,h4⟩:=ih h.2;refine ⟨⟨v,vs,rfl,h1,h3⟩,fun u hu=>?_⟩;cases hu with
   | head=>exact h2
   | tail _ hu=>exact h4 u hu
theorem zlA (γ:Gh) (w:World) (ℓ:Nat) (o:Obj):Tr [] [ℓ] γ w (zch γ w.heap.size ℓ w.heap.size) (w.alloc o):=
 ⟨rfl,rfl,rfl,by simp,fun b hb _=>Below.heap_alloc w _ b hb,fun b hb=>by simp [zch,hb],fun k hk=>by
  simp only [xj,xA,xB] at hk;simp [zch,hk],fun b hb _ h=> .inr (by simp [zch,Nat.not_lt.2 hb] at h;simp [h])⟩
theorem zct (γ:Gh) (n ℓ g:Nat):(zch γ n ℓ g).box ℓ=g:=by simp [zch]
theorem zid (γ:Gh) (n ℓ g:Nat):(zch γ n ℓ g).col n=ℓ:=by simp [zch]
theorem zlY (ℓ:Nat) (as:List AV) (ho:o.op= .alloc t) (hz:∀w,(zeroValue t).run P w= .ok z w) (hs:zru as z.cells.toList=true):
  zC P o [] [] [] [ℓ] (.ptr ℓ 0) [⟨ℓ,t,as⟩]:=by
 refine zE fun γ ev w hi _=>?_
 refine ⟨.pointer (some ⟨w.heap.size,0,none⟩),w.alloc (.cells z.cells t),_,?_,zlA γ w ℓ _,?_,fun b hb=>?_⟩
 ·simp [execOp,ho,Instr.alloc,Sem.run_bind,hz,newVar,newRow]
 ·show _=_;rw [zct]
 ·simp only [xj,xA,xB] at hb;subst hb;have h:=zrv hs (zch γ w.heap.size ℓ w.heap.size) (w.alloc (.cells z.cells t));refine ⟨by rw [zct,zid],z.cells.toList,?_,h.1,h.2⟩;rw [zct,yG];exact yJ w _
theorem zgR (ℓ:Nat) (as:List AV) (C:List Nat) (ho:o.op= .box t x) (hp:zlq a=some ls) (hC:subN a.cols C=true) (ha:zdE as=some ls) (hl:as.all (zlW C)=true):
  zC P o [(x,a)] [] [] [ℓ] (.ptr ℓ 0) [⟨ℓ,t,as⟩]:=by
 refine zE fun γ ev w hi _=>?_
 have hA:=zpj hp (hi (x,a) (by simp)) hC;refine ⟨.pointer (some ⟨w.heap.size,0,none⟩),w.alloc (.cells (ev x).cells t),_,?_,zlA γ w ℓ _,?_,fun b hb=>?_⟩
 ·simp [execOp,ho,Instr.box,newVar,newRow]
 ·show _=_;rw [zct]
 ·simp only [xj,xA,xB] at hb;subst hb;have hA':=(zlA γ w ℓ (.cells (ev x).cells t)).all (fun c _ h=>by cases h) hA;refine ⟨by rw [zct,zid],(ev x).cells.toList,?_,zfQ ha hA' hl,hA.one⟩;rw [zct,yG];exact yJ w _
theorem zyd {P:Program} {o:Oper} {α:Type} {r:Rp α} {t:TypeId} {y:Operand} {b:Bx} {off:Nat} (x:α) (C:List Nat) (ho:o.op= .load t y) (hT:AggT P t r.size) (hs:zdE ((b.avs.drop off).take r.size)=some (r.lv x))
  (hC:subN (AV.colsL ((b.avs.drop off).take r.size)) C=true):zC P o [(y,.ptr b.lab off)] [b] [] [] (.rc r C x) []:=by
 refine zE fun γ ev w hi hb=>?_
 have h1:ev y=_:=hi (y,.ptr b.lab off) (by simp);obtain ⟨hcol,cs,hh,hL,hone⟩:=hb b (by simp);have sub:∀(l:List AV) (vs:List Value) (k:Nat),AV.relL γ w l vs->AV.relL γ w (l.drop k) (vs.drop k):=by
  intro l
  induction l with
  | nil=>intro vs k h;cases h;cases k<;>rfl
  | cons a l ih=>
   intro vs k h;cases k with
   | zero=>exact h
   | succ k=>obtain ⟨v,vs',rfl,h1,h2⟩:=h;exact ih vs' k h2
 have tak:∀(l:List AV) (vs:List Value) (k:Nat),AV.relL γ w l vs->AV.relL γ w (l.take k) (vs.take k):=by
  intro l
  induction l with
  | nil=>intro vs k h;cases h;cases k<;>rfl
  | cons a l ih=>
   intro vs k h;obtain ⟨v,vs',rfl,h1,h2⟩:=h;cases k with
   | zero=>rfl
   | succ k=>exact ⟨v,_,rfl,h1,ih vs' k h2⟩
 have hL':=tak _ _ r.size (sub _ _ off hL);have hA:=zgE hs hL' (zR hC);have vd:((cs.drop off).take r.size).length=r.size:=by rw [<-hA.1];exact r.len x
 have hl:=zdB hT (w:=w) (b:=γ.box b.lab) (o:=off) (cs:=(cs.drop off).take r.size) vd fun i hi=>by
  rw [vd] at hi;rw [yu w _ _ _ _ _ hh,x9,xe hi,yy];simp
 exact ⟨_,w,γ,by simp [execOp,ho,h1,Instr.loadAt,Instr.sureAddr,hl],Tr.refl _ _ _ _,⟨_,rfl,hA⟩,fun b hb=>by cases hb⟩
theorem zyt (h:AV.relL γ w l vs) (k:Nat) (ha:a.rel γ w v):AV.relL γ w (l.set k a) (vs.set k v):=by
 induction l generalizing vs k with
 | nil=>cases h;exact rfl
 | cons b l ih=>
  obtain ⟨u,vs',rfl,h1,h2⟩:=h;cases k with
  | zero=>exact ⟨v,vs',rfl,ha,h2⟩
  | succ k=>exact ⟨u,_,rfl,h1,ih h2 k⟩
theorem zuZ (hcol:γ.col (γ.box ℓ)=ℓ) (cs:Array Value):Tr [ℓ] [] γ w γ (w.setRow (γ.box ℓ) cs):=
 ⟨rfl,rfl,rfl,by simp,fun b hb hn=>setRow_other w _ b cs (fun e=>hn (by rw [e,hcol];exact xf)),fun _ _=>rfl,fun _ _=>rfl,fun b h1 h2=>absurd h2 (by simp;omega)⟩
def ziH:AV->Bool
 | .lf _| .sl ..| .own ..| .ptr ..| .bs ..| .qp ..| .ep ..| .em ..| .mp ..| .om ..| .fv ..| .cu ..=>true
 | _=>false
theorem zlX (h:ziH a=true) (hr:a.rel γ w v):v.oneCell'=true/\v.cells=#[v]:=by
 have key:v.oneCell'=true:=by
  cases a with
  | lf l=>exact hr.2.one
  | sl r C xs=>exact zaf.one hr
  | own r e ℓ C xs=>exact (zlp hr).one
  | ptr ℓ off=>have:v=_:=hr;rw [this];rfl
  | bs ℓ n=>have:v=_:=hr;rw [this];rfl
  | tl=>cases h
  | qp r C o=>
   cases o with
   | none=>have:v=_:=hr;rw [this];rfl
   | some x=>obtain ⟨b,cs,hv,_⟩:=hr;rw [hv];rfl
  | ep r C x off=>obtain ⟨b,o,cs,hv,_⟩:=hr;rw [hv];rfl
  | em rk rv C m=>obtain ⟨a,b,es,cl,hv,_⟩:=hr;rw [hv];rfl
  | mo=>cases h
  | cu c ℓ C1 C2=>exact c.one hr
  | any=>cases h
  | rc=>cases h
  | mp rk rv C m=>obtain ⟨b,es,cl,hv,_⟩:=hr;rw [hv];rfl
  | om rk rv ℓ C m=>obtain ⟨b,es,cl,hv,_⟩:=hr;rw [hv];rfl
  | tup=>cases h
  | ag=>cases h
  | fv g l=>obtain ⟨vs,hv,_⟩:=hr;rw [hv];rfl
  | bp=>cases h
  | it=>cases h
 refine ⟨key,?_⟩;cases v<;>first| rfl| cases key
theorem zBf (ho:o.op= .store t y z) (hsz:∀w,(sizeOf t).run P w= .ok 1 w) (hoff:Nat.blt off b.avs.length=true) (ha:ziH a=true)
  (hf:a.free [b.lab] []=true):zC P o [(y,.ptr b.lab off),(z,a)] [b] [b.lab] [] .any [⟨b.lab,b.typ,(b.avs.map (AV.clear [b.lab] [])).set off a⟩]:=by
 intro γ av w hi hb next Q hk;have h1:av.eval y=_:=hi (y,.ptr b.lab off) (by simp);have h2:=hi (z,a) (by simp);simp only at h2;obtain ⟨hone',hcells⟩:=zlX ha h2;obtain ⟨hcol,cs,hh,hL,hone⟩:=hb b (by simp);have hoff':off<cs.length:=by rw [zaF hL];exact yW (xy hoff)
 have hst:=qR P (γ.box b.lab) off b.typ [av.eval z] 0 cs.toArray w hh (by simp;omega) (by simpa using hone');simp only [yd,List.length_singleton] at hst;have hrun:(execOp av.eval o).run P w= .ok .skip (w.setRow (γ.box b.lab) (cs.set off (av.eval z)).toArray):=by
  have e:cs.take off++[av.eval z]++cs.drop (off+1)=cs.set off (av.eval z):=by
   rw [pp,xe hoff',yZ];rfl
  rw [e] at hst;simp [execOp,ho,h1,Instr.storeAt,Instr.sureAddr,storeVar,hsz,hcells,hst]
 unfold Oper.wp;rw [hrun,qS];have ht:=zuZ (w:=w) hcol (cs.set off (av.eval z)).toArray;obtain ⟨f1,f2⟩:=AV.free_spec hf;refine hk γ _ undef ht trivial fun b' hb'=>?_
 simp only [xj,xA,xB] at hb';subst hb';refine ⟨hcol,cs.set off (av.eval z),setRow_heap w _ _ _ _ _ hh,zyt (ziN hL ht) off (a.keep ht f1 f2 h2),fun u hu=>?_⟩;rcases List.mem_or_eq_of_mem_set hu with h| h
 ·exact hone u h
 ·grind
theorem zeN (h:AV.relL γ w l vs) (k:AV.relL γ w m us):AV.relL γ w (l++m) (vs++us):=by
 induction l generalizing vs with
 | nil=>cases h;exact k
 | cons a l ih=>obtain ⟨v,vs',rfl,h1,h2⟩:=h;exact ⟨v,_,rfl,h1,ih h2⟩
theorem zii :∀(l:List AV) (vs:List Value) (k:Nat),AV.relL γ w l vs->AV.relL γ w (l.drop k) (vs.drop k)
 | [],vs,k,h=>by cases h;cases k<;>rfl
 | a::l,vs,0,h=>h
 | a::l,vs,k+1,h=>by obtain ⟨v,vs',rfl,h1,h2⟩:=h;exact zii l vs' k h2
theorem zij :∀(l:List AV) (vs:List Value) (k:Nat),AV.relL γ w l vs->AV.relL γ w (l.take k) (vs.take k)
 | [],vs,k,h=>by cases h;cases k<;>rfl
 | a::l,vs,0,h=>rfl
 | a::l,vs,k+1,h=>by obtain ⟨v,vs',rfl,h1,h2⟩:=h;exact ⟨v,_,rfl,h1,zij l vs' k h2⟩
theorem zlk {P:Program} {o:Oper} {α:Type} {r:Rp α} {t:TypeId} {y z:Operand} {b:Bx} {off:Nat} {x:α} {C:List Nat} (as:List AV) (ho:o.op= .store t y z) (hsz:∀w,(sizeOf t).run P w= .ok r.size w)
  (hoff:Nat.ble (off+r.size) b.avs.length=true) (hC:memN b.lab C=false) (ha:zdE as=some (r.lv x)) (hl:as.all (zlW C)=true):
  zC P o [(y,.ptr b.lab off),(z,.rc r C x)] [b] [b.lab] [] .any [⟨b.lab,b.typ,(b.avs.map (AV.clear [b.lab] [])).take off++as++(b.avs.map (AV.clear [b.lab] [])).drop (off+r.size)⟩]:=by
 intro γ av w hi hb next Q hk;have h1:av.eval y=_:=hi (y,.ptr b.lab off) (by simp);obtain ⟨us,hv,hA⟩:=hi (z,.rc r C x) (by simp);simp only at hv;obtain ⟨hcol,cs,hh,hL,hone⟩:=hb b (by simp);have hus:us.length=r.size:=by rw [<-hA.1];exact r.len x
 have hoff':off+r.size<=cs.length:=by rw [zaF hL];exact xy hoff
 have hst:=qR P (γ.box b.lab) off b.typ us 0 cs.toArray w hh (by simp;omega) hA.one;simp only [yd,hus] at hst;have hrun:(execOp av.eval o).run P w= .ok .skip (w.setRow (γ.box b.lab) (cs.take off++us++cs.drop (off+r.size)).toArray):=by
  simp [execOp,ho,h1,hv,Instr.storeAt,Instr.sureAddr,storeVar,hsz,Value.cells,hus,hst]
 unfold Oper.wp;rw [hrun,qS];have ht:=zuZ (w:=w) hcol (cs.take off++us++cs.drop (off+r.size)).toArray;have hA':=ht.all (C:=C) (fun c hc h=>by
  simp only [xj,xA,xB] at h;subst h;rw [zae.2 hc] at hC;cases hC) hA
 have hL':=ziN hL ht;refine hk γ _ undef ht trivial fun b' hb'=>?_
 simp only [xj,xA,xB] at hb';subst hb';refine ⟨hcol,cs.take off++us++cs.drop (off+r.size),setRow_heap w _ _ _ _ _ hh,zeN (zeN (zij _ _ _ hL') (zfQ ha hA' hl)) (zii _ _ _ hL'),fun u hu=>?_⟩;simp only [xl] at hu;rcases hu with (h| h)| h
 ·grind
 ·exact hA.one u h
 ·grind
theorem zwj (l:List UInt8):l.flatMap Rp.byte.lv=l.map fun c=>LV.int .u8 c.toNat:=by
 induction l with
 | nil=>rfl
 | cons c l ih=>rw [xI,ih];rfl
theorem zrQ {src dst e:TypeId} (ho:o.op= .convert src dst x) (hs:P.underlying src=some (.slice e)) (he:P.underlying e=some (.int .u8)) (hd:P.underlying dst=some .string)
  (hx:isSl Rp.byte l D a):zC P o [(x,a)] [] [] [] (.lf (.str l)) []:=by
 refine zE fun γ ev w hi _=>?_
 have h:=hx γ w _ (hi (x,a) (by simp));simp only at h;obtain ⟨A,c,cs,hv,hc,hm,hA,hcs,hcell⟩:=zmy h;rw [zwj] at hA;have hget:∀j (hj:j<l.length),cs[j]? =some (.int .u8 (l[j].toNat:Int)):=fun j hj=>by
  have hj':j<cs.length:=by rw [hcs];simpa [Rp.byte] using hj
  have:=hA.2 j (.int .u8 (l[j].toNat:Int)) cs[j] (by simp [hj]) (xu hj');rw [xu hj']
  generalize cs[j]=u at this
  cases this;rfl
 have hrun:(convert src dst (.slice A l.length c)).run P w= .ok (.string ⟨l.toArray⟩) w:=by
  rcases qT l.length with h0| h0
  ·have:l=[]:=yU h0;subst this;rcases A with _| ad
   ·exact run_convert_bytes_nil w src e hs he 0 c dst hd
   ·exact run_convert_bytes_back w src dst e ad c [] hs he hd (fun j hj=>absurd hj (by simp))
  ·obtain ⟨b,off,rfl,_,_,hc'⟩:=hcell h0;refine run_convert_bytes_back w src dst e _ c l hs he hd fun j hj=>?_
   rw [zfT,hc' j (by simpa [Rp.byte] using hj)];exact hget j hj
 exact ⟨_,w,γ,by simp [execOp,ho,hv,hrun],Tr.refl _ _ _ _,zyg _ _ _,fun b hb=>by cases hb⟩
theorem zrR {P:Program} {o:Oper} {t:TypeId} {x y:Operand} {l:List UInt8} {k:IntKind} {i:Int} {c:UInt8} (ho:o.op= .index t x y) (ht:P.underlying t=some .string) (hx:idx l i=some c):
  zC P o [(x,.lf (.str l)),(y,.lf (.int k i))] [] [] [] (.lf (.int .u8 c.toNat)) []:=by
 refine zE fun γ ev w hi _=>?_
 have h1:=zoV (hi (x,.lf (.str l)) (by simp));have h2:=zde (hi (y,.lf (.int k i)) (by simp));simp only at h1 h2;obtain ⟨i0,i1,i2⟩:=zoM hx;have hb:(⟨l.toArray⟩:ByteArray)[i.toNat]? =some c:=by
  have hlt:i.toNat<(⟨l.toArray⟩:ByteArray).size:=by simp [ByteArray.size_mk'];omega
  rw [ByteArray.getElem?_lt' _ _ hlt];congr 1;have:=(xY.1 i2).2;rw [<-this];rfl
 exact ⟨_,w,γ,by simp [execOp,ho,h1,h2,Instr.index,asIntOf,run_underlying ht,i0,hb],Tr.refl _ _ _ _,zfE _ _ _ _,fun b hb=>by cases hb⟩
def remI (x y:Int):Option Int:=if y=0 then none else some (x.tmod y)
def shlO (k:IntKind) (x y:Int):Option Int:=if y<0 then none else some (shlI k x y)
def shrO (k:IntKind) (x y:Int):Option Int:=if y<0 then none else some (shrI k x y)
theorem zBe (ho:o.op= .binOp .rem t x y t') (hz:remI m n=some z):zC P o [(x,.lf (.int k m)),(y,.lf (.int k n))] [] [] [] (.lf (.int k z)) []:=by
 refine zE fun γ ev w hi _=>?_
 have h1:=zde (hi (x,.lf (.int k m)) (by simp));have h2:=zde (hi (y,.lf (.int k n)) (by simp));simp only at h1 h2;unfold remI at hz;split at hz
 ·cases hz
 ·rename_i hn;cases hz;have hk:¬(k≠k):=fun h=>h rfl
  exact ⟨_,w,γ,by simp only [execOp,ho,h1,h2,xo,znX,xq,binOp,xd hk,Op.intDiv,xd hn,xE],Tr.refl _ _ _ _,zfE _ _ _ _,fun b hb=>by cases hb⟩
theorem zye (ho:o.op= .binOp .shl t x y t') (hz:shlO k m n=some z):zC P o [(x,.lf (.int k m)),(y,.lf (.int j n))] [] [] [] (.lf (.int k z)) []:=by
 refine zE fun γ ev w hi _=>?_
 have h1:=zde (hi (x,.lf (.int k m)) (by simp));have h2:=zde (hi (y,.lf (.int j n)) (by simp));simp only at h1 h2;unfold shlO at hz;split at hz
 ·cases hz
 ·rename_i hn;cases hz;exact ⟨_,w,γ,by simp only [execOp,ho,h1,h2,xo,znX,xq,binOp,Op.shift,xd hn,xE];rfl,Tr.refl _ _ _ _,zfE _ _ _ _,fun b hb=>by cases hb⟩
theorem zgm (ho:o.op= .binOp .shr t x y t') (hz:shrO k m n=some z):zC P o [(x,.lf (.int k m)),(y,.lf (.int j n))] [] [] [] (.lf (.int k z)) []:=by
 refine zE fun γ ev w hi _=>?_
 have h1:=zde (hi (x,.lf (.int k m)) (by simp));have h2:=zde (hi (y,.lf (.int j n)) (by simp));simp only at h1 h2;unfold shrO at hz;split at hz
 ·cases hz
 ·rename_i hn;cases hz;exact ⟨_,w,γ,by simp only [execOp,ho,h1,h2,xo,znX,xq,binOp,Op.shift,xd hn,xE];rfl,Tr.refl _ _ _ _,zfE _ _ _ _,fun b hb=>by cases hb⟩
inductive It where
 | c (x:Code)
 | e (id:Nat)
def zeY:Code->List It->List It
 | .seq a b,l=>zeY a (zeY b l)
 | .skip,l=>l
 | x,l=> .c x::l
def zlM (id:Nat):List It->Option (List It)
 | []=>none
 | .c _::l=>zlM id l
 | .e k::l=>match Nat.beq k id with
  | true=>some l
  | false=>zlM id l
structure Sem2 where
 n:Act->World->Prop
 x:Nat->Act->World->Prop
def semI (m:Bool) (P:Program) (Q:Exit->Act->World->Prop):List It->Sem2
 | []=>⟨Q .normal,fun id=>Q (.exit id)⟩
 | .c x::l=>⟨wq m P x fun e a w=>match e with
  | .normal=>(semI m P Q l).n a w
  | .exit id=>(semI m P Q l).x id a w
  | e=>Q e a w,(semI m P Q l).x⟩
 | .e k::l=>⟨(semI m P Q l).n,fun id a w=>if k=id then (semI m P Q l).n a w else (semI m P Q l).x id a w⟩
def wpI (m:Bool) (P:Program) (Q:Exit->Act->World->Prop) (l:List It) (a:Act) (w:World):Prop:=(semI m P Q l).n a w
def wpX (m:Bool) (P:Program) (Q:Exit->Act->World->Prop) (id:Nat) (l:List It) (a:Act) (w:World):Prop:=(semI m P Q l).x id a w
def zdM (m:Bool) (P:Program) (Q:Exit->Act->World->Prop) (l:List It):Exit->Act->World->Prop:=fun e a w=>match e with
 | .normal=>wpI m P Q l a w
 | .exit id=>wpX m P Q id l a w
 | e=>Q e a w
def JI (m:Bool) (P:Program) (l:List It) (S:Act->World->Prop) (Q:Exit->Act->World->Prop):Prop:=∀a w,S a w->wpI m P Q l a w
section
variable {m:Bool} {P:Program} {Q Q':Exit->Act->World->Prop} {S:Act->World->Prop} {l:List It} {x y c:Code}
theorem zlb :wpI m P Q (.c x::l) a w=wq m P x (zdM m P Q l) a w:=rfl
theorem zyX {a:Act} {w:World} {id k:Nat}:wpX m P Q id (.e k::l) a w=if k=id then wpI m P Q l a w else wpX m P Q id l a w:=rfl
theorem zpR {id:Nat} {a:Act} {w:World}:∀{l l':List It},zlM id l=some l'->wpI m P Q l' a w->wpX m P Q id l a w
 | [],_,h,_=>by cases h
 | .c _::l,_,h,k=>zpR (l:=l) h k
 | .e _::l,_,h,k=>by
  rw [zyX];rw [zlM] at h;split at h
  ·simp_all
  ·rename_i hb;rw [xd (fun e=>by rw [e] at hb;simp at hb)];exact zpR h k
theorem zxy:∀(x:Code) (l:List It) (id:Nat) (a:Act) (w:World),wpX m P Q id (zeY x l) a w->wpX m P Q id l a w
 | .seq p q,l,id,a,w,h=>zxy q l id a w (zxy p (zeY q l) id a w h)
 | .skip,_,_,_,_,h=>h
 | .region _ _ _,_,_,_,_,h=>h
 | .cond _ _ _,_,_,_,_,h=>h
 | .block _ _,_,_,_,_,h=>h
 | .loop _,_,_,_,_,h=>h
 | .rangeFunc _ _ _ _,_,_,_,_,h=>h
 | .exit _,_,_,_,_,h=>h
 | .scope _,_,_,_,_,h=>h
 | .label _,_,_,_,_,h=>h
 | .goto _,_,_,_,_,h=>h
 | .ret,_,_,_,_,h=>h
 | .refuse _,_,_,_,_,h=>h
theorem zfA:∀(x:Code) (l:List It) (a:Act) (w:World),wpI m P Q (zeY x l) a w->wq m P x (zdM m P Q l) a w
 | .seq p q,l,a,w,h=>by
  have h1:=zfA p (zeY q l) a w h;refine zBB (zhC h1 fun e a' w' hq=>?_);cases e with
  | normal=>exact zfA q l a' w' hq
  | exit id=>exact zxy q l id a' w' hq
  | goto l=>exact hq
  | ret=>exact hq
  | panic ch=>exact hq
  | outgrown=>exact hq
 | .skip,_,_,_,h=>zAe h
 | .region _ _ _,_,_,_,h=>h
 | .cond _ _ _,_,_,_,h=>h
 | .block _ _,_,_,_,h=>h
 | .loop _,_,_,_,h=>h
 | .rangeFunc _ _ _ _,_,_,_,h=>h
 | .exit _,_,_,_,h=>h
 | .scope _,_,_,_,h=>h
 | .label _,_,_,_,h=>h
 | .goto _,_,_,_,h=>h
 | .ret,_,_,_,h=>h
 | .refuse _,_,_,_,h=>h
theorem zcC (h:JI m P (zeY c []) S Q):J m P c S Q:=fun a w hs=>zhC (zfA c [] a w (h a w hs)) fun e a w hq=>by
 cases e with
 | normal=>exact hq
 | exit id=>exact hq
 | goto l=>exact hq
 | ret=>exact hq
 | panic ch=>exact hq
 | outgrown=>exact hq
theorem zxM (h:∀a w,S a w->Q .normal a w):JI m P [] S Q:=fun a w hs=>h a w hs
theorem zP {id:Nat} (h:JI m P l S Q):JI m P (.e id::l) S Q:=fun a w hs=>h a w hs
theorem zgz {cx:Cx} {E:Env} {id:Nat} {ops:List Oper} (E':Env) (h:zal P cx.n ops.toArray ops E E') (k:JI m P l (Sx cx E') Q):JI m P (.c (.region id ops.toArray false)::l) (Sx cx E) Q:=
 fun a w hs=>by rw [zlb];exact zlc (h cx a w _ rfl hs fun a' w' hs'=>k a' w' hs')
theorem zxK (hl:E.opd o=some (.lf (.bool b))) (hb:b=true) (k:JI m P (zeY x l) (Sx cx E) Q):JI m P (.c (.cond o x y)::l) (Sx cx E) Q:=fun a w hs=>by
 rw [zlb];obtain ⟨γ,hB,hS,hX⟩:=hs;subst hb;exact zsw (zgv (Env.opd_rel hl hS)) (zfA x l a w (k a w ⟨γ,hB,hS,hX⟩))
theorem zxJ (hl:E.opd o=some (.lf (.bool b))) (hb:b=false) (k:JI m P (zeY y l) (Sx cx E) Q):JI m P (.c (.cond o x y)::l) (Sx cx E) Q:=fun a w hs=>by
 rw [zlb];obtain ⟨γ,hB,hS,hX⟩:=hs;subst hb;exact zqo (zgv (Env.opd_rel hl hS)) (zfA y l a w (k a w ⟨γ,hB,hS,hX⟩))
theorem zoQ (h:∀a w,S a w->Q .ret a w):JI m P (.c .ret::l) S Q:=fun a w hs=>by rw [zlb];exact zBA (h a w hs)
theorem zgl {id:Nat} {a:Act} {w:World}:∀{l:List It},zlM id l=none->Q (.exit id) a w->wpX m P Q id l a w
 | [],_,k=>k
 | .c _::l,h,k=>zgl (l:=l) h k
 | .e _::l,h,k=>by
  rw [zlM] at h;split at h
  ·cases h
  ·rename_i hb;rw [zyX,xd (fun e=>by rw [e] at hb;simp at hb)];exact zgl h k
theorem zxL {id:Nat} (he:zlM id l=none) (h:∀a w,S a w->Q (.exit id) a w):JI m P (.c (.exit id)::l) S Q:=fun a w hs=>by
 rw [zlb];exact zAd (zgl he (h a w hs))
theorem zr {id:Nat} (k:JI m P (zeY c (.e id::l)) S Q):JI m P (.c (.block id c)::l) S Q:=fun a w hs=>by
 rw [zlb];refine zyY (zhC (zfA c (.e id::l) a w (k a w hs)) fun e a' w' hq=>?_);cases e with
 | normal=>exact hq
 | exit j=>
  have hq':wpX m P Q j (.e id::l) a' w':=hq;rw [zyX] at hq';by_cases hj:j=id
  ·rw [xe hj.symm] at hq';simp only [Exit.inBlock,xe hj];exact hq'
  ·rw [xd (fun e=>hj e.symm)] at hq';simp only [Exit.inBlock,xd hj];exact hq'
 | goto l=>exact hq
 | ret=>exact hq
 | panic ch=>exact hq
 | outgrown=>exact hq
end
def zbI (E E':Env):Prop:=∀cx a w,Sx cx E a w->Sx cx E' a w
theorem znZ (ks bs:List Nat) (h:E.pick ks bs=some E'):zbI E E':=fun _ _ _ hs=>hs.pick h
theorem zbI.go (h:zbI E E') (hs:Sx cx E a w):Sx cx E' a w:=h cx a w hs
theorem zbI.trans (h:zbI E E1) (k:zbI E1 E'):zbI E E':=fun cx a w hs=>k cx a w (h cx a w hs)
theorem zqJ (h:zbI E E') (k:JI m P l (Sx cx E') Q):JI m P l (Sx cx E) Q:=fun a w hs=>k a w (h cx a w hs)
section
variable {P:Program} {N:Lim} {ops:Array Oper} {uY:List Oper} {E E1 E':Env}
theorem zBX (h:zbI E E1) (k:zal P N ops uY E1 E'):zal P N ops uY E E':=fun cx a w Q hn hs hQ=>k cx a w Q hn (h cx a w hs) hQ
end
inductive Fact where
 | sl (k:Nat) (a:AV)
 | bx (b:Bx)
 | rs (k ℓ n:Nat)
 | ms (k ℓ:Nat)
 | lk {κ α:Type} [DecidableEq κ] (k:Nat) (rk:Rp κ) (r:Rp α) (e:TypeId) (ℓ:Nat) (C:List Nat) (m:List (κ×List α)) (q:κ)
 | ap {κ α:Type} [DecidableEq κ] (k:Nat) (rk:Rp κ) (r:Rp α) (e:TypeId) (ℓ:Nat) (C:List Nat) (m:List (κ×List α)) (q:κ) (ys:List α)
def Fact.rel (γ:Gh) (a:Act) (w:World):Fact->Prop
 | .sl k v=>v.rel γ w (a.tmps.getD k undef)
 | .bx b=>b.rel γ w
 | .rs k ℓ n=>0<n->∃c,a.tmps.getD k undef= .slice (some ⟨γ.box ℓ,0,none⟩) n c
 | .ms k ℓ=>a.tmps.getD k undef= .map (some (γ.box ℓ))
 | @Fact.lk _ _ _ k rk r e ℓ C m q=>∃b n,MoIn γ w rk r e ℓ C (fun _=>True) m b n/\a.tmps.getD k undef=(mget n q).getD (.slice none 0 0)
 | @Fact.ap _ _ _ k rk r e ℓ C m q ys=>∃b n,MoIn γ w rk r e ℓ C (fun j=>j≠q) m b n/\zjt γ w r e ℓ C ys (a.tmps.getD k undef)/\∀j u,j≠q->mget n j=some u->zxi u (a.tmps.getD k undef)
structure OpD where
 want:Bool
 req:List Fact
 W:List Nat
 V:List Nat
 dst:Option Nat
 prod:List Fact
def zmf (d:Option Nat) (k:Nat):Bool:=match d with
 | some x=>Nat.beq x k
 | none=>false
def OpD.kills (d:OpD):Fact->Bool
 | .sl k a=>zmf d.dst k|| !a.free d.W d.V
 | .bx b=>memN b.lab d.W|| memN b.lab d.V|| !(b.avs.all fun a=>a.free d.W d.V)
 | .rs k ℓ _=>zmf d.dst k|| memN ℓ d.V
 | .ms k ℓ=>zmf d.dst k|| memN ℓ d.V
 | @Fact.lk _ _ _ k _ _ _ ℓ C _ _=>zmf d.dst k|| !((ℓ::C).all fun c=> !memN c d.W)|| memN ℓ d.V
 | @Fact.ap _ _ _ k _ _ _ ℓ C _ _ _=>zmf d.dst k|| !((ℓ::C).all fun c=> !memN c d.W)|| memN ℓ d.V
def zpb (d:OpD) (L:List Fact):List Fact:=d.prod++L.filter fun f=> !d.kills f
theorem zra (h:AV.relL γ w l vs) (t:Tr W V γ w γ' w') (hf:(l.all fun a=>a.free W V)=true):AV.relL γ' w' l vs:=by
 induction l generalizing vs with
 | nil=>exact h
 | cons a l ih=>
  obtain ⟨v,vs',rfl,h1,h2⟩:=h;simp only [yo,xh] at hf;obtain ⟨f1,f2⟩:=AV.free_spec hf.1;exact ⟨v,vs',rfl,a.keep t f1 f2 h1,ih h2 hf.2⟩
theorem zoi {d:Option Nat} {k:Nat} {a:Act} {v:Value} (h:zmf d k=false):(a.put d v).tmps.getD k undef=a.tmps.getD k undef:=by
 cases d with
 | none=>rfl
 | some x=>exact zic (fun e=>by rw [e] at h;simp [zmf] at h)
theorem offW {l W:List Nat} (h:(l.all fun c=> !memN c W)=true):∀c∈l,c∉W:=fun c hc hw=>by
 simp only [xn,xJ] at h;have:=h c hc;rw [zae.2 hw] at this;cases this
theorem Fact.keep {d:OpD} {f:Fact} {γ γ':Gh} {a:Act} {w w':World} (h:f.rel γ a w) (t:Tr d.W d.V γ w γ' w') (hk:d.kills f=false) (v:Value):f.rel γ' (a.put d.dst v) w':=by
 cases f with
 | sl k av=>
  simp only [OpD.kills,yA,qv] at hk;obtain ⟨f1,f2⟩:=AV.free_spec hk.2;have hr:=av.keep t f1 f2 h;show av.rel γ' w' ((a.put d.dst v).tmps.getD k undef);cases hd:d.dst with
  | none=>exact hr
  | some x=>
   rw [hd] at hk;rw [zic (fun e=>by rw [e] at hk;simp [zmf] at hk)];exact hr
 | bx b=>
  simp only [OpD.kills,yA,qv] at hk;obtain ⟨⟨h1,h2⟩,h3⟩:=hk;obtain ⟨hc,cs,hh,hL,hone⟩:=h;have hlt:γ.box b.lab<w.heap.size:=(xD.1 hh).1;have n1:b.lab∉d.W:=fun hm=>by rw [zae.2 hm] at h1;cases h1
  have n2:b.lab∉d.V:=fun hm=>by rw [zae.2 hm] at h2;cases h2
  refine ⟨by rw [t.box _ n2,t.col _ hlt];exact hc,cs,?_,zra hL t h3,hone⟩;rw [t.box _ n2,t.block _ hlt (by rw [hc];exact n1)];exact hh
 | rs k ℓ n=>
  simp only [OpD.kills,yA] at hk;intro hn;obtain ⟨c,hc⟩:=h hn;have n2:ℓ∉d.V:=fun hm=>by have:=hk.2;rw [zae.2 hm] at this;cases this
  refine ⟨c,?_⟩;rw [t.box _ n2,<-hc];cases hd:d.dst with
  | none=>rfl
  | some x=>rw [zic (fun e=>by have:=hk.1;rw [hd,e] at this;simp [zmf] at this)]
 | ms k ℓ=>
  simp only [OpD.kills,yA] at hk;have n2:ℓ∉d.V:=fun hm=>by have:=hk.2;rw [zae.2 hm] at this;cases this
  show _=_;rw [t.box _ n2,zoi hk.1];exact h
 | lk k rk r e ℓ C m q=>
  simp only [OpD.kills,yA,qv] at hk;obtain ⟨b,n,hm,hv⟩:=h;have hW:=offW hk.1.2;exact ⟨b,n,hm.keep t (hW ℓ xf) (fun c hc=>hW c (xg _ hc)) (fun hc=>by have:=hk.2;rw [zae.2 hc] at this;cases this),by rw [zoi hk.1.1];exact hv⟩
 | ap k rk r e ℓ C m q ys=>
  simp only [OpD.kills,yA,qv] at hk;obtain ⟨b,n,hm,hr,ha⟩:=h;have hW:=offW hk.1.2;have h1:=hW ℓ xf;have h2:=fun c (hc:c∈C)=>hW c (xg _ hc)
  refine ⟨b,n,hm.keep t h1 h2 (fun hc=>by have:=hk.2;rw [zae.2 hc] at this;cases this),?_,?_⟩
  ·rw [zoi hk.1.1];exact hr.keep t h1 h2
  ·rw [zoi hk.1.1];exact ha
structure Does (P:Program) (ops:Array Oper) (cx:Cx) (i:Nat) (d:OpD):Prop where
 oper:∃o,ops[i]? =some o/\o.dst=d.dst/\∀(γ:Gh) (a:Act) (w:World),Base cx γ a w->(∀f∈d.req,f.rel γ a w)->Region.wanted o (yielded ops a.tmps)=d.want/\
  (d.want=true->∀(next:Act->World->Prop) (Q:Exit->Act->World->Prop),(∀γ' w' v,Tr d.W d.V γ w γ' w'->(∀f∈d.prod,f.rel γ' (a.put d.dst v) w')->next (a.put d.dst v) w')->opq P o a w next Q)/\
  (d.want=false->∀f∈d.prod,f.rel γ (a.put d.dst undef) w)
 okW:okW d.W=true
 okV:YtnckiilakdkklaaGreat.okW d.V=true
 kept:∀k,d.dst=some k->k∉cx.n.keep
 none_:d.want=false->d.W=[]/\d.V=[]
def zmV (va:List Nat):List Edge->Nat
 | []=>0
 | e::l=>match Region.binds .any e with
  | true=>2^e.on||| va.getD e.on 0||| zmV va l
  | false=>zmV va l
def zoZ:List Oper->List Nat->List Nat
 | [],va=>va
 | o::l,va=>zoZ l (va++[zmV va o.after.toList])
def zjr (ops:Array Oper) (D:Nat->Prop):Prop:=∀(j:Nat) (o:Oper),ops[j]? =some o->D j->∀e∈o.after,Region.binds .any e=true->D e.on
theorem zjR {D:Nat->Prop} {va:List Nat} (hacc:∀k m,va[k]? =some m->D k->∀i,m.testBit i=true->D i):∀(l:List Edge),(∀e∈l,Region.binds .any e=true->D e.on)->∀i,(zmV va l).testBit i=true->D i
 | [],_,i,h=>by simp [zmV] at h
 | e::l,hl,i,h=>by
  rw [zmV] at h;split at h
  ·rename_i hb;have he:=hl e xf hb;rw [Nat.testBit_or,Nat.testBit_or,qw,qw] at h;rcases h with (h| h)| h
   ·grind
   ·grind
   ·exact zjR hacc l (fun x hx=>hl x (xg _ hx)) i h
  ·exact zjR hacc l (fun x hx=>hl x (xg _ hx)) i h
theorem zll {ops:Array Oper} {D:Nat->Prop} (hD:zjr ops D):∀(l:List Oper) (va:List Nat),(∀j,l[j]? =ops[va.length+j]?)->(∀k m,va[k]? =some m->D k->∀i,m.testBit i=true->D i)->
  ∀k m,(zoZ l va)[k]? =some m->D k->∀i,m.testBit i=true->D i
 | [],va,_,h=>h
 | o::l,va,hl,h=>by
  have ho:ops[va.length]? =some o:=by have:=hl 0;simpa using this.symm
  refine zll hD l _ (fun j=>by have:=hl (j+1);simp at this;rw [this];congr 1;simp;omega) fun k m hk hDk=>?_
  rw [qn] at hk;split at hk
  ·grind
  ·rename_i hkl;have hk0:k - va.length=0:=by
    grind
   rw [hk0] at hk;simp at hk;have hke:k=va.length:=by omega
   subst hke hk;exact zjR h _ fun e he hb=>hD _ o ho hDk e (by simpa using he) hb
def zeF (di dj:OpD):Bool:=(di.req++di.prod).any dj.kills|| (dj.req++dj.prod).any di.kills
def zjy:List OpD->List Fact->List (List Fact)
 | [],_=>[]
 | d::ds,L=>L::zjy ds (zpb d L)
def endF:List OpD->List Fact->List Fact
 | [],L=>L
 | d::ds,L=>endF ds (zpb d L)
def From (ds:List OpD) (L0:List Fact) (n:Nat) (f:Fact):Prop:=
 (f∈L0/\∀j d,j<n->ds[j]? =some d->d.kills f=false)\/∃p dp,p<n/\ds[p]? =some dp/\f∈dp.prod/\∀j d,p<j->j<n->ds[j]? =some d->d.kills f=false
theorem zwq (hd:ds[n]? =some d) (h:∀f∈L,From ds L0 n f):∀f∈zpb d L,From ds L0 (n+1) f:=by
 intro f hf;simp only [zpb,xl,yn,xJ] at hf;rcases hf with hf| ⟨hf,hk⟩
 ·exact .inr ⟨n,d,by omega,hd,hf,fun j dj h1 h2=>by omega⟩
 ·rcases h f hf with ⟨h0,hn⟩| ⟨p,dp,hp,hdp,hfp,hn⟩
  ·refine .inl ⟨h0,fun j dj hj hdj=>?_⟩
   grind
  ·refine .inr ⟨p,dp,by omega,hdp,hfp,fun j dj h1 h2 hdj=>?_⟩
   grind
theorem zoK :∀(ds:List OpD) (n:Nat) (L:List Fact),(∀j,ds[j]? =ds0[n+j]?)->(∀f∈L,From ds0 L0 n f)->
  (∀j Lj,(zjy ds L)[j]? =some Lj->∀f∈Lj,From ds0 L0 (n+j) f)/\∀f∈endF ds L,From ds0 L0 (n+ds.length) f
 | [],n,L,_,h=>⟨fun j Lj hj=>by simp [zjy] at hj,fun f hf=>h f hf⟩
 | d::ds,n,L,hds,h=>by
  have hd:ds0[n]? =some d:=by have:=hds 0;simpa using this.symm
  obtain ⟨g1,g2⟩:=zoK ds (n+1) (zpb d L) (fun j=>by have:=hds (j+1);simp at this;rw [this];congr 1;omega) (zwq hd h);refine ⟨fun j Lj hj=>?_,fun f hf=>?_⟩
  ·cases j with
   | zero=>simp [zjy] at hj;subst hj;exact h
   | succ j=>
    have:=g1 j Lj (by simpa [zjy] using hj)
    grind
  ·have:=g2 f hf
   grind
def zog (ms:List Nat):Nat->OpD->Nat->List OpD->Bool
 | _,_,_,[]=>true
 | i,di,j,dj::l=>(match zeF di dj with
  | true=>(ms.getD j 0).testBit i
  | false=>true)&&zog ms i di (j+1) l
def zjU (ms:List Nat):Nat->List OpD->Bool
 | _,[]=>true
 | i,d::l=>zog ms i d (i+1) l&&zjU ms (i+1) l
theorem zmg :∀(l:List OpD) (j:Nat),zog ms i di j l=true->∀k dk,l[k]? =some dk->zeF di dk=true->(ms.getD (j+k) 0).testBit i=true
 | [],j,_,k,dk,hk,_=>by simp at hk
 | d::l,j,h,k,dk,hk,hc=>by
  simp only [zog,xh] at h;cases k with
  | zero=>
   grind
  | succ k=>
   have:=zmg l (j+1) h.2 k dk (by simpa using hk) hc
   grind
theorem zjV :∀(l:List OpD) (n:Nat),zjU ms n l=true->∀i k di dk,i<k->l[i]? =some di->l[k]? =some dk->zeF di dk=true->(ms.getD (n+k) 0).testBit (n+i)=true
 | [],n,_,i,k,di,dk,_,hi,_,_=>by simp at hi
 | d::l,n,h,i,k,di,dk,hik,hi,hk,hc=>by
  simp only [zjU,xh] at h;cases k with
  | zero=>omega
  | succ k=>
   cases i with
   | zero=>
    simp at hi;subst hi;have:=zmg l (n+1) h.1 k dk (by simpa using hk) hc
    grind
   | succ i=>
    have:=zjV l (n+1) h.2 i k di dk (by omega) (by simpa using hi) (by simpa using hk) hc
    grind
def zqr (ds:List OpD) (L0:List Fact) (D:Nat->Prop) (γ:Gh) (a:Act) (w:World):Prop:=
 (∀f∈L0,(∀j d,D j->ds[j]? =some d->d.kills f=false)->f.rel γ a w)/\
 ∀i di,D i->ds[i]? =some di->∀f∈di.prod,(∀j d,D j->i<j->ds[j]? =some d->d.kills f=false)->f.rel γ a w
theorem zhQ (hf:f∈di.req\/f∈di.prod) (hk:dj.kills f=true):zeF di dj=true/\zeF dj di=true:=by
 have:f∈di.req++di.prod:=by simpa using hf
 have h1:(di.req++di.prod).any dj.kills=true:=qx.2 ⟨f,this,hk⟩;exact ⟨by rw [zeF,h1];rfl,by rw [zeF,h1,qa]⟩
section
variable {P:Program} {ops:Array Oper} {ds:List OpD} {L0:List Fact} {D:Nat->Prop} {cx:Cx}
theorem zto (hms:ms=zoZ ops.toList []) (ho:zjU ms 0 ds=true) (hD:zjr ops D) (hij:i<j) (hi:ds[i]? =some di) (hj:ds[j]? =some dj) (hc:zeF di dj=true) (hDj:D j):D i:=by
 have hb:=zjV ds 0 ho i j di dj hij hi hj hc;simp only [xL] at hb;cases hm:ms[j]? with
 | none=>simp [List.getD,hm] at hb
 | some m=>
  simp [List.getD,hm] at hb;subst hms;exact zll hD ops.toList [] (fun j=>by simp) (fun k m hk=>by simp at hk) j m hm hDj i hb
theorem zws (hms:ms=zoZ ops.toList []) (ho:zjU ms 0 ds=true) (hD:zjr ops D) (hi:ds[i]? =some di) (hDi:¬D i) (hpre:∀j,j<i->(ms.getD i 0).testBit j=true->D j)
  (hfrom:∀f∈di.req,From ds L0 i f) (hprod:∀(j:Nat) (d:OpD) (f:Fact),ds[j]? =some d->f∈d.prod->d.kills f=true) (h:zqr ds L0 D γ a w):∀f∈di.req,f.rel γ a w:=by
 intro f hf;have later:∀j d,D j->ds[j]? =some d->d.kills f=true->j<i:=fun j d hDj hj hk=>by
  rcases Nat.lt_trichotomy j i with h| h| h
  ·exact h
  ·grind
  ·exact absurd (zto hms ho hD h hi hj (zhQ (.inl hf) hk).1 hDj) hDi
 rcases hfrom f hf with ⟨h0,hn⟩| ⟨p,dp,hp,hdp,hfp,hn⟩
 ·refine h.1 f h0 fun j d hDj hj=>?_
  grind
 ·have hk:=hprod p dp f hdp hfp;have hb:=zjV ds 0 ho p i dp di hp hdp hi (zhQ (.inl hf) hk).2;simp only [xL] at hb;have hDp:D p:=hpre p hp hb;refine h.2 p dp hDp hdp f hfp fun j d hDj hpj hj=>?_
  grind
theorem zut (hms:ms=zoZ ops.toList []) (ho:zjU ms 0 ds=true) (hD:zjr ops D) (hi:ds[i]? =some di) (hDi:¬D i) (h:zqr ds L0 D γ a w)
  (ht:Tr di.W di.V γ w γ' w') (hp:∀f∈di.prod,f.rel γ' (a.put di.dst v) w'):zqr ds L0 (fun j=>D j\/j=i) γ' (a.put di.dst v) w':=by
 refine ⟨fun f hf hk=>?_,fun p dp hDp hdp f hf hk=>?_⟩
 ·exact Fact.keep (h.1 f hf fun j d hDj hj=>hk j d (.inl hDj) hj) ht (hk i di (.inr rfl) hi) v
 ·by_cases hpi:p=i
  ·grind
  ·have hDp':D p:=hDp.resolve_right hpi;refine Fact.keep (h.2 p dp hDp' hdp f hf fun j d hDj hpj hj=>hk j d (.inl hDj) hpj hj) ht ?_ v;rcases yj p i with hlt| hge
   ·grind
   ·cases hkk:di.kills f with
    | false=>rfl
    | true=>exact absurd (zto hms ho hD (by omega) hi hdp (zhQ (.inr hf) hkk).2 hDp') hDi
def zer (vg:Array Bool):Nat->Prop:=fun i=>vg.getD i false=true
theorem zlG (hD:zjr ops (zer vg)) (hr:i∈Region.ready .any ops vg):zjr ops fun j=>zer vg j\/j=i:=by
 intro j o hj hDj e he hb;rcases hDj with hDj| rfl
 ·exact .inl (hD j o hj hDj e he hb)
 ·obtain ⟨_,o',ho',hall⟩:=mem_ready.1 hr;rw [hj] at ho';cases ho';exact .inl (hall e he hb)
theorem zuz (hi:i<vg.size) (j:Nat):zer (vg.setIfInBounds i true) j↔zer vg j\/j=i:=by
 unfold zer;simp only [yc]
 grind
theorem zuf (hs:vg.size=ops.size) (hdown:∀(i:Nat) (o:Oper),ops[i]? =some o->∀e∈o.after,Region.binds .any e=true->e.on<i) (hr:Region.ready .any ops vg=[]):∀i,i<ops.size->zer vg i:=by
 intro i
 induction i using Nat.strongRecOn with
 | _ i ih=>
  intro hi;cases hl:vg.getD i false with
  | true=>exact hl
  | false=>
   exfalso;have:i∈Region.ready .any ops vg:=by
    refine mem_ready.2 ⟨?_,ops[i],qU hi,fun e he hb=>?_⟩
    ·grind
    ·have:=hdown i ops[i] (qU hi) e he hb;exact ih e.on this (by omega)
   grind
theorem zrx (hms:ms=zoZ ops.toList []) (ho:zjU ms 0 ds=true) (vd:ds.length=ops.size) (hdoes:∀i di,ds[i]? =some di->Does P ops cx i di)
  (hfrom:∀i di,ds[i]? =some di->∀f∈di.req,From ds L0 i f) (hprod:∀(j:Nat) (d:OpD) (f:Fact),ds[j]? =some d->f∈d.prod->d.kills f=true)
  (hdown:∀(i:Nat) (o:Oper),ops[i]? =some o->∀e∈o.after,Region.binds .any e=true->e.on<i) 
  (hQ:∀γ a w,Base cx γ a w->zqr ds L0 (fun j=>j<ops.size) γ a w->Q .normal a w):
  ∀(uZ:Nat) (vg:Array Bool) (γ:Gh) (a:Act) (w:World),vg.size=ops.size->zjr ops (zer vg)->(vg.toList.filter (·==false)).length<=uZ->
   Base cx γ a w->zqr ds L0 (zer vg) γ a w->anyq P ops Q uZ vg a w:=by
 have fin:∀(vg:Array Bool) (γ:Gh) (a:Act) (w:World),vg.size=ops.size->Region.ready .any ops vg=[]->Base cx γ a w->zqr ds L0 (zer vg) γ a w->Q .normal a w:=by
  intro vg γ a w hs hr hB hH;have hall:=zuf hs hdown hr;have hlt:∀j d,ds[j]? =some d->j<ops.size:=fun j d hj=>by rw [<-vd];exact (xY.1 hj).1
  exact hQ γ a w hB ⟨fun f hf hk=>hH.1 f hf fun j d _ hj=>hk j d (hlt j d hj) hj,fun i di _ hdi f hf hk=>hH.2 i di (hall i (hlt i di hdi)) hdi f hf fun j d _ hij hj=>hk j d (hlt j d hj) hij hj⟩
 intro uZ
 induction uZ with
 | zero=>
  intro vg γ a w hs hD hcnt hB hH;have hr:Region.ready .any ops vg=[]:=by
   cases hre:Region.ready .any ops vg with
   | nil=>rfl
   | cons i l=>
    exfalso;have hi:i∈Region.ready .any ops vg:=by rw [hre];exact xf
    obtain ⟨hun,o,hoi,_⟩:=mem_ready.1 hi;have hil:i<vg.size:=by rw [hs];exact (xD.1 hoi).1
    have hm:false∈vg.toList:=by
     simp only [yc,qU hil,Option.getD_some] at hun
     grind
    simp_all
  exact fun _=>⟨hr,fin vg γ a w hs hr hB hH⟩
 | succ uZ ih=>
  intro vg γ a w hs hD hcnt hB hH;refine fun ro=>⟨fun hr=>fin vg γ a w hs hr hB hH,fun i hi=>?_⟩
  obtain ⟨hun,o,hoi,hall⟩:=mem_ready.1 hi;have hilt:i<ops.size:=(xD.1 hoi).1;have hil:i<vg.size:=by omega
  have hid:i<ds.length:=by omega
  have hdi:ds[i]? =some ds[i]:=xu hid;have hnot:¬zer vg i:=by
   unfold zer
   grind
  obtain ⟨o',ho',hdst,hdo⟩:=(hdoes i _ hdi).oper;rw [hoi] at ho';cases ho';have hreq:=zws hms ho hD hdi hnot (fun j hj hb=>by
   have hm:=zll (zlG hD hi) ops.toList [] (fun j=>by simp) (fun k m hk=>by simp at hk);cases hk:ms[i]? with
   | none=>simp [List.getD,hk] at hb
   | some m=>
    simp [List.getD,hk] at hb;subst hms;rcases hm i m hk (.inr rfl) j hb with h| h
    ·exact h
    ·omega) (hfrom i _ hdi) hprod hH
  obtain ⟨hw,hT,hF⟩:=hdo γ a w hB hreq;have next:∀(γ':Gh) (w':World) (v:Value),Tr (ds[i]).W (ds[i]).V γ w γ' w'->(∀f∈(ds[i]).prod,f.rel γ' (a.put (ds[i]).dst v) w')->anyq P ops Q uZ (vg.setIfInBounds i true) (a.put o.dst v) w':=by
   intro γ' w' v ht hp;have hcnt':((vg.setIfInBounds i true).toList.filter (·==false)).length<=uZ:=by
    have hli:vg.toList[i]? =some false:=by
     simp_all
    have key:∀(l:List Bool) (i:Nat),l[i]? =some false->((l.set i true).filter (·==false)).length+1=(l.filter (·==false)).length:=by
     intro l
     induction l with
     | nil=>intro i h;simp at h
     | cons x l ihl=>
      intro i h;cases i with
      | zero=>simp at h;subst h;simp
      | succ i=>
       grind
    grind
   rw [hdst];have hB':=(hB.tr ht (hdoes i _ hdi).okW (hdoes i _ hdi).okV).put (ds[i]).dst v (hdoes i _ hdi).kept;have hH':=zut hms ho hD hdi hnot hH ht hp;have hset:∀j,zer (vg.setIfInBounds i true) j↔zer vg j\/j=i:=zuz hil;have hD':zjr ops (zer (vg.setIfInBounds i true)):=fun j o hj hDj e he hb=>(hset _).2 (zlG hD hi j o hj ((hset j).1 hDj) e he hb)
   exact ih _ γ' _ w' (by simp [hs]) hD' hcnt' hB' ⟨fun f hf hk=>hH'.1 f hf fun j d hDj hj=>hk j d ((hset j).2 hDj) hj,fun p dp hDp hdp f hf hk=>hH'.2 p dp ((hset p).1 hDp) hdp f hf fun j d hDj hpj hj=>hk j d ((hset j).2 hDj) hpj hj⟩
  unfold wpOpIn;rw [hoi];simp only;cases hwant:(ds[i]).want with
  | true=>
   rw [xe (by rw [hw,hwant])];refine qJ (fun a w h=>h ro) (hT hwant (anyq P ops Q uZ (vg.setIfInBounds i true)) Q (fun γ' w' v ht hp=>?_) ro)
   grind
  | false=>
   rw [xd (by rw [hw,hwant];exact Bool.false_ne_true)];obtain ⟨e1,e2⟩:=(hdoes i _ hdi).none_ hwant;exact ⟨fun _ _=>trivial,next γ w undef (by rw [e1,e2];exact Tr.refl _ _ _ _) (hF hwant) ro⟩
end
def rsOf:List (Nat×AV)->List Fact
 | []=>[]
 | (k,.own _ _ ℓ _ xs)::l=> .rs k ℓ xs.length::rsOf l
 | (k,@AV.mo _ _ _ _ _ _ ℓ _ _)::l=> .ms k ℓ::rsOf l
 | _::l=>rsOf l
def zks (E:Env):List Fact:=E.sl.map (fun p=>Fact.sl p.1 p.2)++E.bx.map Fact.bx++rsOf E.sl
theorem zkD:∀{l:List (Nat×AV)} {f:Fact},f∈rsOf l->(∃k ℓ n,f= .rs k ℓ n)\/∃k ℓ,f= .ms k ℓ
 | [],f,h=>by cases h
 | (k,x)::l,f,h=>by
  cases x with
  | own r e ℓ C xs=>
   simp only [rsOf,xj] at h;rcases h with rfl| h
   ·grind
   ·exact zkD h
  | mo rk r e ℓ C m=>
   simp only [rsOf,xj] at h;rcases h with rfl| h
   ·grind
   ·exact zkD h
  | _=>exact zkD (l:=l) h
theorem ztE :∀{l:List (Nat×AV)},Sl γ w a l->∀f∈rsOf l,f.rel γ a w
 | [],_,f,hf=>by cases hf
 | (k,x)::l,h,f,hf=>by
  have hx:x.rel γ w (a.tmps.getD k undef):=h (k,x) xf;have ht:=fun f hf=>ztE (l:=l) (fun p hp=>h p (xg _ hp)) f hf
  cases x with
  | own r e ℓ C xs=>
   simp only [rsOf,xj] at hf;rcases hf with rfl| hf
   ·intro hn;obtain ⟨cs,ho,hg,_⟩:=hx;rcases ho.2 with ⟨_,h0⟩| ⟨g,cap,cur,hv,_⟩
    ·omega
    ·exact ⟨cap,by rw [hv,(hg g (by rw [hv];rfl)).2]⟩
   ·exact ht f hf
  | mo rk r e ℓ C m=>
   simp only [rsOf,xj] at hf;rcases hf with rfl| hf
   ·obtain ⟨b,n,hv,es,cl,⟨g1,g2⟩,_⟩:=hx;show _=_
    grind
   ·exact ht f hf
  | _=>exact ht f hf
def zcX:List Fact->Env
 | []=>⟨[],[]⟩
 | .sl k a::l=>⟨(k,a)::(zcX l).sl,(zcX l).bx⟩
 | .bx b::l=>⟨(zcX l).sl,b::(zcX l).bx⟩
 | .rs _ _ _::l=>zcX l
 | .ms _ _::l=>zcX l
 | @Fact.lk _ _ _ _ _ _ _ _ _ _ _::l=>zcX l
 | @Fact.ap _ _ _ _ _ _ _ _ _ _ _ _::l=>zcX l
theorem zgx :(∀p∈(zcX L).sl,Fact.sl p.1 p.2∈L)/\∀b∈(zcX L).bx,Fact.bx b∈L:=by
 induction L with
 | nil=>
  refine ⟨?_,?_⟩
  ·intro p hp;cases hp
  ·intro b hb;cases hb
 | cons f L ih=>
  cases f with
  | sl k a=>
   refine ⟨fun p hp=>?_,fun b hb=>xg _ (ih.2 b hb)⟩;cases hp with
   | head=>exact xf
   | tail _ hp=>exact xg _ (ih.1 p hp)
  | bx b=>
   refine ⟨fun p hp=>xg _ (ih.1 p hp),fun c hc=>?_⟩;cases hc with
   | head=>exact xf
   | tail _ hc=>exact xg _ (ih.2 c hc)
  | rs k ℓ n=>exact ⟨fun p hp=>xg _ (ih.1 p hp),fun b hb=>xg _ (ih.2 b hb)⟩
  | ms k ℓ=>exact ⟨fun p hp=>xg _ (ih.1 p hp),fun b hb=>xg _ (ih.2 b hb)⟩
  | lk=>exact ⟨fun p hp=>xg _ (ih.1 p hp),fun b hb=>xg _ (ih.2 b hb)⟩
  | ap=>exact ⟨fun p hp=>xg _ (ih.1 p hp),fun b hb=>xg _ (ih.2 b hb)⟩
inductive zhr where
 | ev
 | ex (bl:List Nat) (W V:List Nat) (av:AV) (bs:List Bx)
 | raw (ix W V:List Nat) (prod:List Fact)
structure DIn where
 ins:List (Operand×AV)
 bxs:List Bx
 rq:List Fact
def nthF:List Fact->Nat->Option Fact
 | [],_=>none
 | f::_,0=>some f
 | _::l,n+1=>nthF l n
theorem ztm:∀{l:List Fact} {n:Nat} {f:Fact},nthF l n=some f->f∈l
 | [],_,_,h=>by cases h
 | _::_,0,_,h=>by cases h;exact xf
 | _::l,n+1,f,h=>xg _ (ztm (l:=l) (n:=n) h)
def zvU (L:List Fact):List Nat->Option (List Fact)
 | []=>some []
 | n::l=>match nthF L n,zvU L l with
  | some f,some r=>some (f::r)
  | _,_=>none
theorem zqS :∀{ix:List Nat} {r:List Fact},zvU L ix=some r->∀f∈r,f∈L
 | [],r,h,f,hf=>by cases h;cases hf
 | n::ix,r,h,f,hf=>by
  rw [zvU] at h;split at h
  ·rename_i x r' hx hr;cases h;cases hf with
   | head=>exact ztm hx
   | tail _ hf=>exact zqS hr f hf
  ·cases h
def zxh (P:Program) (o:Oper) (rq:List Fact) (W V:List Nat) (prod:List Fact):Prop:=
 ∀(γ:Gh) (a:Act) (w:World),(∀k,o.dst=some k->k<a.tmps.size)->(∀f∈rq,f.rel γ a w)->∀(next:Act->World->Prop) (Q:Exit->Act->World->Prop),
  (∀γ' w' v,Tr W V γ w γ' w'->(∀f∈prod,f.rel γ' (a.put o.dst v) w')->next (a.put o.dst v) w')->opq P o a w next Q
def zmr:List (Operand×AV)->List Fact
 | []=>[]
 | (.tmp k,a)::l=> .sl k a::zmr l
 | _::l=>zmr l
def slOf (d:Option Nat) (a:AV):List Fact:=match d with
 | some k=>[.sl k a]
 | none=>[]
def zfZ (ops:Array Oper) (E:Env) (o:Oper):List Fact:=match o.guard with
 | none=>[]
 | some (j,_)=>match ops.toList[j]? with
  | some g=>match g.dst with
   | some t=>match lookup E.sl t with
    | some a=>[.sl t a]
    | none=>[]
   | none=>[]
  | none=>[]
def zgM (E:Env):List Operand->List (Operand×AV)
 | []=>[]
 | x::l=>match E.opd x with
  | some a=>(x,a)::zgM E l
  | none=>zgM E l
def zlF (E:Env):Op->List Bx
 | .load _ x=>match E.opd x with
  | some (.ptr ℓ _)=>match zdq E.bx ℓ with
   | some b=>[b]
   | none=>[]
  | _=>[]
 | _=>[]
def zqT (P:Program) (ops:Array Oper) (L:List Fact) (o:Oper) (s:zhr):Option (OpD×List DIn):=match zdr ops (zcX L) o with
 | some true=>match s with
  | .ev=>match zmM P (zcX L).opd (zlF (zcX L) o.op) o.op with
   | some av=>some (⟨true,zfZ ops (zcX L) o++(zmr (zgM (zcX L) o.op.operands.toList)++(zlF (zcX L) o.op).map .bx),[],[],o.dst,slOf o.dst av⟩,[])
   | none=>none
  | .ex bl W V av bs=>match zka (zcX L).bx bl with
   | some bxs=>some (⟨true,zfZ ops (zcX L) o++(zmr (zgM (zcX L) o.op.operands.toList)++bxs.map .bx),W,V,o.dst,slOf o.dst av++bs.map .bx⟩,[⟨zgM (zcX L) o.op.operands.toList,bxs,[]⟩])
   | none=>none
  | .raw ix W V prod=>match zvU L ix with
   | some rq=>some (⟨true,zfZ ops (zcX L) o++rq,W,V,o.dst,prod⟩,[⟨[],[],rq⟩])
   | none=>none
 | some false=>match s with
  | .ev=>some (⟨false,zfZ ops (zcX L) o,[],[],o.dst,slOf o.dst (.tup [])⟩,[])
  | .ex ..=>none
  | .raw ..=>none
 | none=>none
def znV (P:Program) (N:Lim) (ops:Array Oper):List Oper->List zhr->List Fact->Option (List OpD×List Fact×List DIn)
 | [],_,L=>some ([],L,[])
 | o::l,ss,L=>match zqT P ops L o (ss.headD .ev) with
  | some (d,i)=>match zfs N o.dst&&(okW d.W&&okW d.V)&&d.prod.all d.kills with
   | true=>match znV P N ops l ss.tail (zpb d L) with
    | some (ds,L',is)=>some (d::ds,L',i++is)
    | none=>none
   | false=>none
  | none=>none
def zvn:Nat->List Oper->Bool
 | _,[]=>true
 | i,o::l=>(o.after.toList.all fun e=> !Region.binds .any e|| Nat.blt e.on i)&&zvn (i+1) l
def znU (P:Program) (N:Lim) (ops:List Oper) (ss:List zhr) (E:Env) (ks bs:List Nat):Option (Env×List DIn):=
 match znV P N ops.toArray ops ss (zks E) with
 | some (ds,L,is)=>match zjU (zoZ ops []) 0 ds&&zvn 0 ops with
  | true=>match (zcX L).pick ks bs with
   | some E'=>some (E',is)
   | none=>none
  | false=>none
 | none=>none
def zbP (P:Program):List Oper->List zhr->List DIn->Prop
 | _::l,.ev::ss,is=>zbP P l ss is
 | o::l,.ex _ W V av bs::ss,i::is=>(zC P o i.ins i.bxs W V av bs/\zbP P l ss is)
 | o::l,.raw _ W V prod::ss,i::is=>(zxh P o i.rq W V prod/\zbP P l ss is)
 | _,[],_=>True
 | _,_,[]=>True
 | [],_,_=>True
theorem zkB :∀(l:List Operand),(∀f∈zmr (zgM E l),f.rel γ a w)->(∀p∈zgM E l,p.2.rel γ w (a.eval p.1))/\Opds E.opd γ w a.eval l
 | [],_=>⟨fun p hp=>by simp [zgM] at hp,fun x hx=>by cases hx⟩
 | x::l,h=>by
  rw [zgM] at h|-;cases hx:E.opd x with
  | none=>
   rw [hx] at h;obtain ⟨h1,h2⟩:=zkB l h;refine ⟨h1,fun y hy av hav=>?_⟩;cases hy with
   | head=>rw [hx] at hav;cases hav
   | tail _ hy=>exact h2 y hy av hav
  | some av=>
   rw [hx] at h;simp only at h;have hhd:av.rel γ w (a.eval x):=by
    cases x with
    | tmp k=>exact h (.sl k av) (by simp [zmr])
    | const v=>exact zjz hx γ w
    | global g=>cases hx
    | func f=>cases hx;exact ⟨rfl,.val _ rfl⟩
   obtain ⟨h1,h2⟩:=zkB (γ:=γ) (a:=a) (w:=w) (E:=E) l (fun f hf=>h f (by cases x<;>simp [zmr,hf]));refine ⟨fun p hp=>?_,fun y hy av' hav=>?_⟩
   ·grind
   ·cases hy with
    | head=>rw [hx] at hav;cases hav;exact hhd
    | tail _ hy=>exact h2 y hy av' hav
theorem zfN (h:zdr ops E o=some b) (hs:∀f∈zfZ ops E o,f.rel γ a w):Region.wanted o (yielded ops a.tmps)=b:=by
 have h0:=h;unfold zdr at h;unfold zfZ at hs;split at h
 ·rename_i hg;cases h;unfold Region.wanted;rw [hg]
 ·rename_i j want hg;rw [hg] at hs;simp only at hs;split at h
  ·rename_i g hj;rw [hj] at hs;simp only at hs;split at h
   ·rename_i t ht;rw [ht] at hs;simp only at hs;cases hl:lookup E.sl t with
    | none=>rw [hl] at h;cases want<;>cases h
    | some av=>
     rw [hl] at hs;have hav:av.rel γ w (a.tmps.getD t undef):=hs (.sl t av) xf;have h1:zdr ops ⟨[(t,av)],[]⟩ o=some b:=by
      unfold zdr;rw [hg];simp only;rw [hj];simp only;rw [ht];simp only;have:lookup [(t,av)] t=some av:=by simp [lookup]
      grind
     exact zej (γ:=γ) (w:=w) h1 (fun p hp=>by simp at hp;subst hp;exact hav)
   ·cases h
  ·cases h
theorem zpF (hB:Base cx γ a w) (hd:zfs cx.n d=true) (hv:av.rel γ' w' v):∀f∈slOf d av,f.rel γ' (a.put d v) w':=by
 intro f hf;cases d with
 | none=>cases hf
 | some k=>
  simp only [slOf,xj,xA,xB] at hf;subst hf;show av.rel γ' w' ((a.put (some k) v).tmps.getD k undef);rw [zfM (by rw [hB.size];exact zdZ hd k rfl)];exact hv
theorem zfB :∀(l:List Operand),f∈zmr (zgM (zcX L) l)->f∈L
 | [],h=>by cases h
 | x::l,h=>by
  rw [zgM] at h;cases hx:(zcX L).opd x with
  | none=>rw [hx] at h;exact zfB l h
  | some av=>
   rw [hx] at h;cases x with
   | tmp k=>
    simp only [zmr,xj] at h;rcases h with rfl| h
    ·exact zgx.1 (k,av) (zbC hx)
    ·exact zfB l h
   | const v=>exact zfB l h
   | global g=>exact zfB l h
   | func g=>exact zfB l h
theorem zgu (h:f∈zfZ ops (zcX L) o):f∈L:=by
 unfold zfZ at h;split at h
 ·cases h
 ·split at h
  ·split at h
   ·split at h
    ·rename_i hl;simp only [xj,xA,xB] at h;subst h;exact zgx.1 (_,_) (zbC hl)
    ·cases h
   ·cases h
  ·cases h
theorem zwi (h:b∈zlF (zcX L) op):Fact.bx b∈L:=by
 unfold zlF at h;split at h
 ·split at h
  ·split at h
   ·rename_i b' hb;simp only [xj,xA,xB] at h;subst h;exact zgx.2 _ (zbJ hb).1
   ·cases h
  ·cases h
 ·cases h
theorem zuG (h:zqT P ops L o s=some (d,i)) (hn:ops[n]? =some o) (hd:zfs cx.n o.dst=true)
  (hl:∀bl W V av bs,s= .ex bl W V av bs->∀x,i=[x]->zC P o x.ins x.bxs W V av bs) (hl2:∀ix W V prod,s= .raw ix W V prod->∀x,i=[x]->zxh P o x.rq W V prod) (hW:okW d.W=true) (hV:okW d.V=true):Does P ops cx n d/\∀f∈d.req,f∈L:=by
 unfold zqT at h;split at h
 ·rename_i hg;split at h
  ·split at h
   ·rename_i av he;cases h;refine ⟨⟨⟨o,hn,rfl,fun γ a w hB hreq=>⟨zfN hg fun f hf=>hreq f (xN _ hf),fun _ next Q hk=>?_,fun h=>by cases h⟩⟩,hW,hV,zcD hd,fun h=>by cases h⟩,fun f hf=>?_⟩
    ·obtain ⟨h1,h2⟩:=zkB (γ:=γ) (a:=a) (w:=w) (E:=zcX L) o.op.operands.toList fun f hf=>hreq f (xG _ (xN _ hf))
     obtain ⟨v,hr,hv⟩:=zlh he h2 (fun b hb=>hreq (.bx b) (xG _ (xG _ (qb hb))));refine zqV hr ?_;exact hk γ w v (Tr.refl _ _ _ _) (zpF hB hd hv)
    ·simp only [xl] at hf;rcases hf with hf| hf| hf
     ·exact zgu hf
     ·exact zfB _ hf
     ·obtain ⟨b,hb,rfl⟩:=xr.1 hf;exact zwi hb
   ·cases h
  ·rename_i bl W V av bs;split at h
   ·rename_i bxs hbx;cases h;have hlaw:=hl bl W V av bs rfl _ rfl;refine ⟨⟨⟨o,hn,rfl,fun γ a w hB hreq=>⟨zfN hg fun f hf=>hreq f (xN _ hf),fun _ next Q hk=>?_,fun h=>by cases h⟩⟩,hW,hV,zcD hd,fun h=>by cases h⟩,fun f hf=>?_⟩
    ·obtain ⟨h1,h2⟩:=zkB (γ:=γ) (a:=a) (w:=w) (E:=zcX L) o.op.operands.toList fun f hf=>hreq f (xG _ (xN _ hf))
     have hbb:Bxs γ w bxs:=fun b hb=>hreq (.bx b) (xG _ (xG _ (qb hb)))
     refine zln (zoe (P:=P) (a:=a) (w:=w) fun nx Qx hn=>hlaw γ a w h1 hbb nx Qx fun _ w' v _ _ _=>hn v w') (hlaw γ a w h1 hbb next Q fun γ' w' v ht hv hbs=>hk γ' w' v ht fun f hf=>?_);simp only [xl] at hf;rcases hf with hf| hf
     ·exact zpF hB hd hv f hf
     ·obtain ⟨b,hb,rfl⟩:=xr.1 hf;exact hbs b hb
    ·simp only [xl] at hf;rcases hf with hf| hf| hf
     ·exact zgu hf
     ·exact zfB _ hf
     ·obtain ⟨b,hb,rfl⟩:=xr.1 hf;exact zgx.2 _ (ziK _ _ hbx b hb)
   ·cases h
  ·rename_i ix W V prod;split at h
   ·rename_i rq hrq;cases h;have hlaw:=hl2 ix W V prod rfl _ rfl;refine ⟨⟨⟨o,hn,rfl,fun γ a w hB hreq=>⟨zfN hg fun f hf=>hreq f (xN _ hf),fun _ next Q hk=>?_,fun h=>by cases h⟩⟩,hW,hV,zcD hd,fun h=>by cases h⟩,fun f hf=>?_⟩
    ·exact hlaw γ a w (fun k hk=>by rw [hB.size];exact zdZ hd k hk) (fun f hf=>hreq f (xG _ hf)) next Q hk
    ·rcases xl.1 hf with hf| hf
     ·exact zgu hf
     ·exact zqS hrq f hf
   ·cases h
 ·rename_i hg;split at h
  ·cases h;refine ⟨⟨⟨o,hn,rfl,fun γ a w hB hreq=>⟨zfN hg hreq,fun h=>(by cases h),fun _=>zpF hB hd ⟨[],rfl,rfl⟩⟩⟩,hW,hV,zcD hd,fun _=>⟨rfl,rfl⟩⟩,fun f hf=>zgu hf⟩
  ·cases h
  ·cases h
 ·cases h
theorem zlK :∀(l:List Oper) (ss:List zhr) (L:List Fact) (n:Nat) (ds:List OpD) (L':List Fact) (is:List DIn),znV P cx.n ops l ss L=some (ds,L',is)->
  (∀j,l[j]? =ops[n+j]?)->zbP P l ss is->
  ds.length=l.length/\L'=endF ds L/\∀k d,ds[k]? =some d->Does P ops cx (n+k) d/\(∀f∈d.prod,d.kills f=true)/\∃Lk,(zjy ds L)[k]? =some Lk/\∀f∈d.req,f∈Lk
 | [],ss,L,n,ds,L',is,h,_,_=>by
  cases h;exact ⟨rfl,rfl,fun k d hk=>by simp at hk⟩
 | o::l,ss,L,n,ds,L',is,h,hl,hlaw=>by
  have hn:ops[n]? =some o:=by have:=hl 0;simpa using this.symm
  rw [znV] at h;split at h
  ·rename_i d i hd;split at h
   ·rename_i hc;simp only [xh] at hc;obtain ⟨⟨hc1,hc2⟩,hc3⟩:=hc;split at h
    ·rename_i ds' L2 is' hr;cases h;have hsplit:(∀bl W V av bs,ss.headD .ev= .ex bl W V av bs->∀x,i=[x]->zC P o x.ins x.bxs W V av bs)/\(∀ix W V prod,ss.headD .ev= .raw ix W V prod->∀x,i=[x]->zxh P o x.rq W V prod)/\zbP P l ss.tail is':=by
      cases ss with
      | nil=>
       refine ⟨fun bl W V av bs he=>by simp at he,fun ix W V prod he=>by simp at he,?_⟩;cases l<;>cases is'<;>trivial
      | cons s ss=>
       cases s with
       | ev=>
        have hi:i=[]:=by
         simp only [qV,zqT] at hd
         grind
        subst hi;refine ⟨fun bl W V av bs he=>by simp at he,fun ix W V prod he=>by simp at he,?_⟩;simpa [zbP] using hlaw
       | ex bl W V av bs=>
        simp only [qV,zqT] at hd;split at hd
        ·split at hd
         ·cases hd;simp only [xO,xU,zbP] at hlaw
          grind
         ·cases hd
        ·cases hd
        ·cases hd
       | raw ix W V prod=>
        simp only [qV,zqT] at hd;split at hd
        ·split at hd
         ·cases hd;simp only [xO,xU,zbP] at hlaw
          grind
         ·cases hd
        ·cases hd
        ·cases hd
     obtain ⟨g1,g2,g3⟩:=zlK l ss.tail (zpb d L) (n+1) ds' L' is' hr (fun j=>by have:=hl (j+1);simp at this;rw [this];congr 1;omega) hsplit.2.2;obtain ⟨e1,e2⟩:=zuG hd hn hc1 hsplit.1 hsplit.2.1 hc2.1 hc2.2;refine ⟨by simp [g1],g2,fun k d' hk=>?_⟩;cases k with
     | zero=>
      simp at hk;subst hk;exact ⟨e1,fun f hf=>by simp only [xn] at hc3;exact hc3 f hf,L,by simp [zjy],e2⟩
     | succ k=>
      have:=g3 k d' (by simpa using hk);rw [show n+(k+1)=n+1+k by omega];exact ⟨this.1,this.2.1,by simpa [zjy] using this.2.2⟩
    ·cases h
   ·cases h
  ·cases h
theorem zoA:∀(l:List Oper) (n:Nat),zvn n l=true->∀k o,l[k]? =some o->∀e∈o.after,Region.binds .any e=true->e.on<n+k
 | [],n,_,k,o,hk=>by simp at hk
 | x::l,n,h,k,o,hk=>by
  simp only [zvn,xh,xn] at h;cases k with
  | zero=>
   simp at hk;subst hk;intro e he hb;have:=h.1 e (by simpa using he);simp_all
  | succ k=>
   have:=zoA l (n+1) h.2 k o (by simpa using hk)
   grind
theorem zzs {m:Bool} {P:Program} {cx:Cx} {E:Env} {id:Nat} {ops:List Oper} {l:List It} {Q:Exit->Act->World->Prop} (E':Env) (ss:List zhr) (is:List DIn) (ks bs:List Nat)
  (hm:P.follows .mixedOrders=true) (h:znU P cx.n ops ss E ks bs=some (E',is)) (hl:zbP P ops ss is) (k:JI m P l (Sx cx E') Q):JI m P (.c (.region id ops.toArray true)::l) (Sx cx E) Q:=by
 intro a w hs;rw [zlb];obtain ⟨γ,hB,hS,hX⟩:=hs;unfold znU at h;split at h
 ·rename_i ds L is' hrun;split at h
  ·rename_i hc;split at h
   ·rename_i E2 hp;cases h;simp only [xh] at hc;obtain ⟨g1,g2,g3⟩:=zlK ops ss (zks E) 0 ds L is hrun (fun j=>by simp) hl;have hfc:=zoK (ds0:=ds) (L0:=zks E) ds 0 (zks E) (fun j=>by simp) (fun f hf=> .inl ⟨hf,fun j d hj=>by omega⟩)
    refine zqp hm (zrx (cx:=cx) (L0:=zks E) rfl (by simpa using hc.1) (by simpa using g1) (fun i di hi=>by have:=(g3 i di hi).1;rwa [xL] at this) (fun i di hi f hf=>?_) (fun j d f hj hf=>(g3 j d hj).2.1 f hf)
     (fun i o ho e he hb=>by have:=zoA ops 0 hc.2 i o (by simpa using ho) e he hb;omega) (fun γ' a' w' hB' hH=>?_) _ _ γ a {w with drawn:=w.drawn+1} (by simp) (fun j o hj hD=>?_) ?_ ?_ ?_)
    ·grind
    ·-- what the walk's end knows
     have hend:∀f∈L,f.rel γ' a' w':=fun f hf=>by
      rw [g2] at hf;rcases hfc.2 f hf with ⟨h0,hn⟩| ⟨p,dp,hp',hdp,hfp,hn⟩
      ·exact hH.1 f h0 fun j d hj hjd=>hn j d (by simp only [qW] at hj;omega) hjd
      ·exact hH.2 p dp (by simp only [qW];omega) hdp f hfp fun j d hj hpj hjd=>hn j d hpj (by simp only [qW] at hj;omega) hjd
     refine k a' w' (Sx.pick hp ⟨γ',hB',fun p hp'=>?_,fun b hb=>?_⟩)
     ·exact hend _ (zgx.1 p hp')
     ·exact hend _ (zgx.2 b hb)
    ·unfold zer at hD;simp only [yc] at hD
     grind
    ·grind
    ·exact ⟨hB.defers,hB.clean,hB.size,hB.kept,cx.X.tr hB.ext (⟨rfl,rfl,rfl,xi _,fun _ _ _=>rfl,fun _ _=>rfl,fun _ _=>rfl,fun b h1 h2=>absurd h2 (qy.2 h1)⟩:Tr [] [] γ w γ w.drew) (fun c hc=>by cases hc) (fun c hc=>by cases hc)⟩
    ·refine ⟨fun f hf _=>?_,fun i di hD=>?_⟩
     ·simp only [zks,xl,xr] at hf;rcases hf with (⟨p,hp',rfl⟩| ⟨b,hb,rfl⟩)| hf
      ·have ht:Tr [] [] γ w γ w.drew:=⟨rfl,rfl,rfl,xi _,fun _ _ _=>rfl,fun _ _=>rfl,fun _ _=>rfl,fun b h1 h2=>absurd h2 (qy.2 h1)⟩;exact p.2.keep ht (fun c _ h=>by cases h) (fun c _ h=>by cases h) (hS p hp')
      ·have ht:Tr [] [] γ w γ w.drew:=⟨rfl,rfl,rfl,xi _,fun _ _ _=>rfl,fun _ _=>rfl,fun _ _=>rfl,fun b h1 h2=>absurd h2 (qy.2 h1)⟩;obtain ⟨hcol,cs,hh,hL,hone⟩:=hX b hb;refine ⟨hcol,cs,hh,zra hL ht ?_,hone⟩;simp only [xn];intro x _;simp [AV.free,memN]
      ·have hf0:=ztE hS f hf;rcases zkD hf with ⟨k,ℓ,n,rfl⟩| ⟨k,ℓ,rfl⟩<;>exact hf0
     ·exfalso;unfold zer at hD;simp only [yc] at hD
      grind
   ·cases h
  ·cases h
 ·cases h
theorem zC.cons (p:Operand×AV) (h:zC P o ins bxs W V av bs):zC P o (p::ins) bxs W V av bs:=
 fun γ a w hi hb=>h γ a w (fun q hq=>hi q (xg _ hq)) hb
def renN (x o c:Nat):Nat:=match Nat.beq c x with
 | true=>o
 | false=>c
theorem zdi (x o:Nat):renN x o x=o:=by simp [renN]
theorem zdt (h:c≠x):renN x o c=c:=by
 unfold renN;cases hb:Nat.beq c x with
 | true=>exact absurd (xk hb) h
 | false=>rfl
def zgr (γ:Gh) (x o:Nat):Gh:=⟨fun b=>renN x o (γ.col b),fun k=>match Nat.beq k o with
 | true=>γ.box x
 | false=>γ.box k⟩
theorem zcq (γ:Gh) (x o:Nat):(zgr γ x o).box o=γ.box x:=by simp [zgr]
theorem zbA (γ:Gh) (h:k≠o):(zgr γ x o).box k=γ.box k:=by
 show (match Nat.beq k o with
 | true=>γ.box x
 | false=>γ.box k)=_
 cases hb:Nat.beq k o with
 | true=>exact absurd (xk hb) h
 | false=>rfl
mutual
def AV.ren (x o:Nat):AV->AV
 | .any=> .any
 | .lf l=> .lf l
 | .sl r C xs=> .sl r (C.map (renN x o)) xs
 | .own r e ℓ C xs=>match Nat.beq ℓ x,Nat.beq ℓ o with
  | true,_=>match memN o (C.map (renN x o)) with
   | true=> .any
   | false=> .own r e o (C.map (renN x o)) xs
  | false,true=> .any
  | false,false=> .own r e ℓ (C.map (renN x o)) xs
 | .rc r C y=> .rc r (C.map (renN x o)) y
 | .ep r C y off=> .ep r (C.map (renN x o)) y off
 | .ptr ℓ off=>match Nat.beq ℓ x,Nat.beq ℓ o with
  | true,_=> .ptr o off
  | false,true=> .any
  | false,false=> .ptr ℓ off
 | .bs ℓ n=>match Nat.beq ℓ x,Nat.beq ℓ o with
  | true,_=> .bs o n
  | false,true=> .any
  | false,false=> .bs ℓ n
 | .tl ℓ off n=>match Nat.beq ℓ x,Nat.beq ℓ o with
  | true,_=> .tl o off n
  | false,true=> .any
  | false,false=> .tl ℓ off n
 | .qp r C y=> .qp r (C.map (renN x o)) y
 | .em rk rv C m=> .em rk rv (C.map (renN x o)) m
 | .mp rk rv C m=> .mp rk rv (C.map (renN x o)) m
 | .om rk rv ℓ C m=>match Nat.beq ℓ x,Nat.beq ℓ o with
  | true,_=>match memN o (C.map (renN x o)) with
   | true=> .any
   | false=> .om rk rv o (C.map (renN x o)) m
  | false,true=> .any
  | false,false=> .om rk rv ℓ (C.map (renN x o)) m
 | @AV.mo _ _ _ rk r e ℓ C m=>match Nat.beq ℓ x,Nat.beq ℓ o with
  | true,_=>match memN o (C.map (renN x o)) with
   | true=> .any
   | false=> .mo rk r e o (C.map (renN x o)) m
  | false,true=> .any
  | false,false=> .mo rk r e ℓ (C.map (renN x o)) m
 | .cu c ℓ C1 C2=>match Nat.beq ℓ x,Nat.beq ℓ o with
  | true,_=> .cu c o (C1.map (renN x o)) (C2.map (renN x o))
  | false,true=> .any
  | false,false=> .cu c ℓ (C1.map (renN x o)) (C2.map (renN x o))
 | .tup l=> .tup (AV.renL x o l)
 | .ag l=> .ag (AV.renL x o l)
 | .fv g l=> .fv g (AV.renL x o l)
 | .bp r t ℓ C y=>match Nat.beq ℓ x,Nat.beq ℓ o with
  | true,_=> .bp r t o (C.map (renN x o)) y
  | false,true=> .any
  | false,false=> .bp r t ℓ (C.map (renN x o)) y
 | .it rk rv ℓ C last left=>match Nat.beq ℓ x,Nat.beq ℓ o with
  | true,_=> .any
  | false,true=> .any
  | false,false=> .it rk rv ℓ (C.map (renN x o)) last left
def AV.renL (x o:Nat):List AV->List AV
 | []=>[]
 | a::l=>a.ren x o::AV.renL x o l
end
theorem zbz (h:γ.F C b):(zgr γ x o).F (C.map (renN x o)) b:=qb (f:=renN x o) h
mutual
theorem AV.ren_rel (a:AV) (h:a.rel γ w v):(a.ren x o).rel (zgr γ x o) w v:=by
 match a with
 | .any=>trivial
 | .lf l=>exact h
 | .sl r C xs=>exact zaf.mono h fun b _ hb=>zbz hb
 | .rc r C y=>obtain ⟨cs,hv,hA⟩:=h;exact ⟨cs,hv,hA.mono fun b _ hb=>zbz hb⟩
 | .ep r C y off=>obtain ⟨b,o',cs,hv,hF,hb,hA,hc⟩:=h;exact ⟨b,o',cs,hv,zbz hF,hb,hA.mono fun b _ hb=>zbz hb,hc⟩
 | .qp r C none=>exact h
 | .em rk rv C m=>obtain ⟨a,b,es,cl,hv,hFa,ha,hc1,hF,hb,hh,hE⟩:=h;exact ⟨a,b,es,cl,hv,zbz hFa,ha,hc1,zbz hF,hb,hh,hE.mono fun b _ hb=>zbz hb⟩
 | .qp r C (some y)=>obtain ⟨b,cs,hv,hF,hb,hA,hc⟩:=h;exact ⟨b,cs,hv,zbz hF,hb,hA.mono fun b _ hb=>zbz hb,hc⟩
 | @AV.mo _ _ _ rk r e ℓ C m=>
  obtain ⟨b,n,hv,hm⟩:=h;rw [AV.ren];cases h1:Nat.beq ℓ x with
  | true=>
   have:=xk h1;subst this;cases hmm:memN o (C.map (renN ℓ o)) with
   | true=>trivial
   | false=>exact ⟨b,n,hv,hm.regh (fun b _ hc=>by show renN ℓ o (γ.col b)=o;rw [hc,zdi]) (fun b _ hb=>zbz hb) (zcq γ _ _) fun hc=>by rw [zae.2 hc] at hmm;cases hmm⟩
  | false=>
   have hx:ℓ≠x:=fun e=>by rw [e] at h1;simp at h1
   cases h2:Nat.beq ℓ o with
   | true=>trivial
   | false=>
    have hlo:ℓ≠o:=fun e=>by rw [e] at h2;simp at h2
    refine ⟨b,n,hv,hm.regh (fun b _ hc=>by show renN x o (γ.col b)=ℓ;rw [hc,zdt hx]) (fun b _ hb=>zbz hb) (zbA γ hlo) fun hc=>?_⟩;obtain ⟨c,hc,he⟩:=xr.1 hc;by_cases hcx:c=x
    ·rw [hcx,zdi] at he;exact hlo he.symm
    ·rw [zdt hcx] at he;rw [he] at hc;exact hm.off hc
 | .cu c ℓ C1 C2=>
  rw [AV.ren];cases h1:Nat.beq ℓ x with
  | true=>
   have:=xk h1;subst this;exact c.move (xi _) (fun _ _ _=>rfl) (fun b _ hc=>by show renN ℓ o (γ.col b)=o;rw [hc,zdi]) (fun b _ hb=>zbz hb) (fun b _ hb=>zbz hb) (zcq γ _ _) h
  | false=>
   have hx:ℓ≠x:=fun e=>by rw [e] at h1;simp at h1
   cases h2:Nat.beq ℓ o with
   | true=>trivial
   | false=>
    have hlo:ℓ≠o:=fun e=>by rw [e] at h2;simp at h2
    exact c.move (xi _) (fun _ _ _=>rfl) (fun b _ hc=>by show renN x o (γ.col b)=ℓ;rw [hc,zdt hx]) (fun b _ hb=>zbz hb) (fun b _ hb=>zbz hb) (zbA γ hlo) h
 | .tup l=>obtain ⟨vs,hv,hL⟩:=h;exact ⟨vs,hv,AV.renL_rel l hL⟩
 | .ag l=>obtain ⟨vs,hv,hL,h1⟩:=h;exact ⟨vs,hv,AV.renL_rel l hL,h1⟩
 | .fv g l=>obtain ⟨vs,hv,hL⟩:=h;exact ⟨vs,hv,AV.renL_rel l hL⟩
 | .bp r t ℓ C y=>
  obtain ⟨b,cs,hv,⟨g1,g2⟩,hb,hh,h1c,hA⟩:=h;have hA':zJ ((zgr γ x o).F (C.map (renN x o))) w (r.lv y) cs.toList:=hA.mono fun b _ hb=>zbz hb
  rw [AV.ren];cases h1:Nat.beq ℓ x with
  | true=>
   have:=xk h1;subst this;refine ⟨b,cs,hv,⟨?_,?_⟩,hb,hh,h1c,hA'⟩
   ·show renN ℓ o (γ.col b)=o;rw [g1,zdi]
   ·rw [zcq];exact g2
  | false=>
   have hx:ℓ≠x:=fun e=>by rw [e] at h1;simp at h1
   cases h2:Nat.beq ℓ o with
   | true=>trivial
   | false=>
    have hlo:ℓ≠o:=fun e=>by rw [e] at h2;simp at h2
    refine ⟨b,cs,hv,⟨?_,?_⟩,hb,hh,h1c,hA'⟩
    ·show renN x o (γ.col b)=ℓ;rw [g1,zdt hx]
    ·rw [zbA γ hlo];exact g2
 | .it rk rv ℓ C last left=>
  obtain ⟨r,b,hv,⟨g1,g2⟩,hr',hF,hlt,⟨es,cl,seen,since,c0,ls,la,i1,i2,i3,i4,i5,i6,i7,i8,i9,i10⟩,hn⟩:=h;rw [AV.ren];cases h1:Nat.beq ℓ x with
  | true=>trivial
  | false=>
   have hx:ℓ≠x:=fun e=>by rw [e] at h1;simp at h1
   cases h2:Nat.beq ℓ o with
   | true=>trivial
   | false=>
    have hlo:ℓ≠o:=fun e=>by rw [e] at h2;simp at h2
    refine ⟨r,b,hv,⟨?_,?_⟩,hr',zbz hF,hlt,⟨es,cl,seen,since,c0,ls,la,i1,i2,i3,i4,i5,i6,i7,i8.mono fun b _ hb=>zbz hb,i9.mono fun b _ hb=>zbz hb,i10⟩,fun hc=>?_⟩
    ·show renN x o (γ.col r)=ℓ;rw [g1,zdt hx]
    ·rw [zbA γ hlo];exact g2
    ·obtain ⟨c,hc,he⟩:=xr.1 hc;by_cases hcx:c=x
     ·rw [hcx,zdi] at he;exact hlo he.symm
     ·rw [zdt hcx] at he;rw [he] at hc;exact hn hc
 | .mp rk rv C m=>obtain ⟨b,es,cl,hv,hF,hb,hh,hE⟩:=h;exact ⟨b,es,cl,hv,zbz hF,hb,hh,hE.mono fun b _ hb=>zbz hb⟩
 | .om rk rv ℓ C m=>
  obtain ⟨b,es,cl,hv,⟨g1,g2⟩,hb,hh,hE,hn⟩:=h;have hE':zbq ((zgr γ x o).F (C.map (renN x o))) w rk rv m es.toList:=hE.mono fun b _ hb=>zbz hb
  rw [AV.ren];cases h1:Nat.beq ℓ x with
  | true=>
   have:=xk h1;subst this;cases hm:memN o (C.map (renN ℓ o)) with
   | true=>trivial
   | false=>
    refine ⟨b,es,cl,hv,⟨?_,?_⟩,hb,hh,hE',fun hc=>by rw [zae.2 hc] at hm;cases hm⟩
    ·show renN ℓ o (γ.col b)=o;rw [g1,zdi]
    ·rw [zcq];exact g2
  | false=>
   have hx:ℓ≠x:=fun e=>by rw [e] at h1;simp at h1
   cases h2:Nat.beq ℓ o with
   | true=>trivial
   | false=>
    have hlo:ℓ≠o:=fun e=>by rw [e] at h2;simp at h2
    refine ⟨b,es,cl,hv,⟨?_,?_⟩,hb,hh,hE',fun hc=>?_⟩
    ·show renN x o (γ.col b)=ℓ;rw [g1,zdt hx]
    ·rw [zbA γ hlo];exact g2
    ·obtain ⟨c,hc,he⟩:=xr.1 hc;by_cases hcx:c=x
     ·rw [hcx,zdi] at he;exact hlo he.symm
     ·rw [zdt hcx] at he;rw [he] at hc;exact hn hc
 | .ptr ℓ off=>
  have hv:v= .pointer (some ⟨γ.box ℓ,off,none⟩):=h;rw [AV.ren];cases h1:Nat.beq ℓ x with
  | true=>
   have:=xk h1;subst this;show v=_;rw [zcq];exact hv
  | false=>
   cases h2:Nat.beq ℓ o with
   | true=>trivial
   | false=>
    show v=_;rw [zbA γ (fun e=>by rw [e] at h2;simp at h2)];exact hv
 | .tl ℓ off n=>
  obtain ⟨A,c,hv,hA⟩:=h;rw [AV.ren];cases h1:Nat.beq ℓ x with
  | true=>
   have:=xk h1;subst this;exact ⟨A,c,hv,fun hn=>by rw [zcq];exact hA hn⟩
  | false=>
   cases h2:Nat.beq ℓ o with
   | true=>trivial
   | false=>exact ⟨A,c,hv,fun hn=>by rw [zbA γ (fun e=>by rw [e] at h2;simp at h2)];exact hA hn⟩
 | .bs ℓ n=>
  have hv:v= .slice (some ⟨γ.box ℓ,0,none⟩) n n:=h;rw [AV.ren];cases h1:Nat.beq ℓ x with
  | true=>
   have:=xk h1;subst this;show v=_;rw [zcq];exact hv
  | false=>
   cases h2:Nat.beq ℓ o with
   | true=>trivial
   | false=>
    show v=_;rw [zbA γ (fun e=>by rw [e] at h2;simp at h2)];exact hv
 | .own r e ℓ C xs=>
  obtain ⟨cs,ho,hg,hA,hn⟩:=h;have hA':zJ ((zgr γ x o).F (C.map (renN x o))) w (xs.flatMap r.lv) cs:=hA.mono fun b _ hb=>zbz hb
  rw [AV.ren];cases h1:Nat.beq ℓ x with
  | true=>
   have:=xk h1;subst this;cases hm:memN o (C.map (renN ℓ o)) with
   | true=>trivial
   | false=>
    refine ⟨cs,ho,fun g hgb=>⟨?_,?_⟩,hA',fun hc=>by rw [zae.2 hc] at hm;cases hm⟩
    ·show renN ℓ o (γ.col g)=o;rw [(hg g hgb).1,zdi]
    ·rw [zcq];exact (hg g hgb).2
  | false=>
   have hx:ℓ≠x:=fun e=>by rw [e] at h1;simp at h1
   cases h2:Nat.beq ℓ o with
   | true=>trivial
   | false=>
    have hlo:ℓ≠o:=fun e=>by rw [e] at h2;simp at h2
    refine ⟨cs,ho,fun g hgb=>⟨?_,?_⟩,hA',fun hc=>?_⟩
    ·show renN x o (γ.col g)=ℓ;rw [(hg g hgb).1,zdt hx]
    ·rw [zbA γ hlo];exact (hg g hgb).2
    ·obtain ⟨c,hc,he⟩:=xr.1 hc;by_cases hcx:c=x
     ·rw [hcx,zdi] at he;exact hlo he.symm
     ·rw [zdt hcx] at he;rw [he] at hc;exact hn hc
theorem AV.renL_rel (l:List AV) (h:AV.relL γ w l vs):AV.relL (zgr γ x o) w (AV.renL x o l) vs:=by
 match l with
 | []=>exact h
 | a::l=>
  obtain ⟨v,vs',rfl,h1,h2⟩:=h;exact ⟨v,vs',rfl,AV.ren_rel a h1,AV.renL_rel l h2⟩
end
def zrb (x o:Nat):List Bx->List Bx
 | []=>[]
 | b::l=>match Nat.beq b.lab x,Nat.beq b.lab o with
  | true,_=>⟨o,b.typ,AV.renL x o b.avs⟩::zrb x o l
  | false,true=>zrb x o l
  | false,false=>⟨b.lab,b.typ,AV.renL x o b.avs⟩::zrb x o l
def Env.ren (x o:Nat) (E:Env):Env:=⟨E.sl.map fun p=>(p.1,p.2.ren x o),zrb x o E.bx⟩
theorem zAY (x o:Nat) (h:(Nat.ble 2 x&&Nat.ble 2 o&& !spB x)=true):zbI E (E.ren x o):=fun cx a w hs=>by
 obtain ⟨γ,hB,hS,hX⟩:=hs;simp only [xh] at h;have hx:=xy h.1.1;have ho:=xy h.1.2;have hal:zon γ (zgr γ x o):=by
  refine ⟨fun b hb=>?_,fun b hb=>?_,fun b (hb:renN x o (γ.col b)=0)=>?_,fun b hb=>?_⟩
  ·show renN x o (γ.col b)=0;rw [zdt (by omega)];exact hb
  ·show renN x o (γ.col b)=1;rw [zdt (by omega)];exact hb
  ·by_cases e:γ.col b=x
   ·rw [e,zdi] at hb;omega
   ·rw [zdt e] at hb;exact hb
  ·show renN x o (γ.col b)=_;refine zdt fun e=>?_
   grind
 refine ⟨zgr γ x o,⟨hB.defers.ren hal,hB.clean,hB.size,hB.kept,cx.X.ren hB.ext hal⟩,fun p hp=>?_,?_⟩
 ·obtain ⟨q,hq,rfl⟩:=xr.1 hp;exact AV.ren_rel q.2 (hS q hq)
 ·have key:∀l,Bxs γ w l->Bxs (zgr γ x o) w (zrb x o l):=by
   intro l
   induction l with
   | nil=>intro _ b hb;cases hb
   | cons c l ih=>
    intro hl b hb;have ih':=ih fun d hd=>hl d (xg _ hd)
    obtain ⟨hc,cs,hh,hL,hone⟩:=hl c xf;rw [zrb] at hb;cases h1:Nat.beq c.lab x with
    | true=>
     rw [h1] at hb;simp only [xj] at hb;rcases hb with rfl| hb
     ·have e1:=xk h1;refine ⟨?_,cs,?_,AV.renL_rel _ hL,hone⟩
      ·show renN x o (γ.col ((zgr γ x o).box o))=o;rw [zcq,<-e1,hc,e1,zdi]
      ·show w.heap[(zgr γ x o).box o]? =_;rw [zcq,<-e1];exact hh
     ·exact ih' b hb
    | false=>
     rw [h1] at hb;have hnx:c.lab≠x:=fun e=>by rw [e] at h1;simp at h1
     cases h2:Nat.beq c.lab o with
     | true=>rw [h2] at hb;exact ih' b hb
     | false=>
      rw [h2] at hb;have hno:c.lab≠o:=fun e=>by rw [e] at h2;simp at h2
      simp only [xj] at hb;rcases hb with rfl| hb
      ·refine ⟨?_,cs,?_,AV.renL_rel _ hL,hone⟩
       ·show renN x o (γ.col ((zgr γ x o).box c.lab))=c.lab;rw [zbA γ hno,hc,zdt hnx]
       ·show w.heap[(zgr γ x o).box c.lab]? =_;rw [zbA γ hno];exact hh
      ·exact ih' b hb
  exact key E.bx hX
def zby:LV->Value
 | .int k n=> .int k n
 | .bool b=> .bool b
 | .str l=> .string ⟨l.toArray⟩
 | .val v=>v
 | .sl ..=>undef
theorem zov (h:zaf F w l v) (hp:l.plain=true):v=zby l:=by
 cases h<;>first| rfl| cases hp
theorem zsF (h:zJ F w ls vs) (hp:ls.all LV.plain=true):vs=ls.map zby:=by
 induction ls generalizing vs with
 | nil=>exact yU h.1.symm
 | cons l ls ih=>
  obtain ⟨v,vs',rfl,h1,h2⟩:=h.head;simp only [yo,xh] at hp;rw [zov h1 hp.1,ih h2 hp.2];rfl
def leI:List (Operand×AV)->List (Operand×AV)->Prop
 | [],[]=>True
 | p::l,q::m=>(p.1=q.1/\AV.le p.2 q.2)/\leI l m
 | _,_=>False
theorem zrN {γ:Gh} {w:World} {a:Act}:∀(l m:List (Operand×AV)),leI l m->(∀p∈l,p.2.rel γ w (a.eval p.1))->∀p∈m,p.2.rel γ w (a.eval p.1)
 | [],[],_,_,p,hp=>by cases hp
 | q::l,x::m,h,hr,p,hp=>by
  obtain ⟨⟨h1,h2⟩,h3⟩:=h;cases hp with
  | head=>rw [<-h1];exact h2 γ w _ (hr q xf)
  | tail _ hp=>exact zrN l m h3 (fun y hy=>hr y (xg _ hy)) p hp
 | [],_::_,h,_,_,_=>h.elim
 | _::_,[],h,_,_,_=>h.elim
theorem zC.le (h:zC P o ins bxs W V av bs) (hl:leI ins' ins):zC P o ins' bxs W V av bs:=
 fun γ a w hi hb=>h γ a w (zrN _ _ hl hi) hb
def zgq (x:Int):Option UInt8:=if 0<=x/\x<256 then some (UInt8.ofNat x.toNat) else none
theorem zxl (h:zgq x=some c):x=(c.toNat:Int):=by
 unfold zgq at h;split at h
 ·rename_i hx;cases h;simp;omega
 ·cases h
theorem zfO (h:zgq x=some c):AV.le (.lf (.int .u8 x)) (.lf (.int .u8 (c.toNat:Int))):=by rw [zxl h];exact fun _ _ _ hv=>hv
theorem zuJ:Rp.byte.Plain:=fun x l h=>by simp [Rp.byte] at h;subst h;rfl
theorem znb (k:IntKind):(Rp.int k).Plain:=fun x l h=>by simp [Rp.int] at h;subst h;rfl
theorem iteT {α:Type} {c:Bool} {x y:Option α} {r:α} (h:(if c then x else y)=some r) (hc:c=true):x=some r:=by rw [hc] at h;exact h
theorem iteF {α:Type} {c:Bool} {x y:Option α} {r:α} (h:(if c then x else y)=some r) (hc:c=false):y=some r:=by rw [hc] at h;exact h
theorem AV.le_refl (a:AV):a.le a:=fun _ _ _ h=>h
theorem zBP {α:Type} (r:Rp α) (C C':List Nat) (x:α) (h:subN C C'=true):AV.le (.rc r C x) (.rc r C' x):=fun _ _ _ ⟨cs,hv,hA⟩=>⟨cs,hv,hA.mono fun _ _ hb=>zR h _ hb⟩
theorem zAX {α:Type} (r:Rp α) (e:TypeId) (ℓ:Nat) (C C':List Nat) (xs:List α) (h:subN C C'=true) (hn:memN ℓ C'=false):AV.le (.own r e ℓ C xs) (.own r e ℓ C' xs):=fun _ _ _ ⟨cs,ho,hg,hA,_⟩=>
 ⟨cs,ho,hg,hA.mono fun _ _ hb=>zR h _ hb,fun hc=>by rw [zae.2 hc] at hn;cases hn⟩
theorem zAZ {α:Type} (r:Rp α) (e:TypeId) (ℓ:Nat) (C C':List Nat) (xs:List α) (h:subN (ℓ::C) C'=true):AV.le (.own r e ℓ C xs) (.sl r C' xs):=fun _ _ _ hv=>zaf.mono (zlp hv) fun _ _ hb=>zR h _ hb
theorem zAU (a:AV):AV.le a .any:=fun _ _ _ _=>trivial
def leL:List AV->List AV->Prop
 | [],[]=>True
 | a::l,b::m=>a.le b/\leL l m
 | _,_=>False
theorem zlU (h:leL l m) (hr:AV.relL γ w l vs):AV.relL γ w m vs:=by
 induction l generalizing m vs with
 | nil=>cases m<;>first| exact hr| exact h.elim
 | cons a l ih=>
  cases m with
  | nil=>exact h.elim
  | cons b m=>obtain ⟨v,vs',rfl,h1,h2⟩:=hr;exact ⟨v,vs',rfl,h.1 γ w v h1,ih h.2 h2⟩
theorem FnOk.le (h:FnOk P f ins vb) (hl:leL ins' ins):FnOk P f ins' vb:=fun w F vs hr=>h w F vs (zlU hl hr)
theorem zBb (E:Env) (h:zmM P E.opd (zlF E o.op) o.op=some (.lf (.bool c))) (hc:c=b):zC P o (zgM E o.op.operands.toList) (zlF E o.op) [] [] (.lf (.bool b)) []:=by
 subst hc;refine zE fun γ ev w hi hb=>?_
 have key:∀(l:List Operand),(∀p∈zgM E l,p.2.rel γ w (ev p.1))->Opds E.opd γ w ev l:=by
  intro l
  induction l with
  | nil=>intro _ x hx;cases hx
  | cons x l ih=>
   intro h y hy av hav;rw [zgM] at h;cases hx:E.opd x with
   | none=>
    rw [hx] at h;cases hy with
    | head=>rw [hx] at hav;cases hav
    | tail _ hy=>exact ih h y hy av hav
   | some a=>
    rw [hx] at h;cases hy with
    | head=>rw [hx] at hav;cases hav;exact h (x,_) xf
    | tail _ hy=>exact ih (fun p hp=>h p (xg _ hp)) y hy av hav
 obtain ⟨v,hr,hv⟩:=zlh h (key _ hi) hb;exact ⟨v,w,γ,hr,Tr.refl _ _ _ _,hv,fun b hb=>by cases hb⟩
section
variable {m:Bool} {P:Program} {Q:Exit->Act->World->Prop} {S M:Act->World->Prop} {l:List It} {c:Code}
theorem zvz (h:J m P c S R) (k:∀e a w,R e a w->zdM m P Q l e a w):JI m P (.c c::l) S Q:=fun a w hs=>by
 rw [zlb];exact zhC (h a w hs) k
theorem zvA {σ ρ:Type} (body:σ->Option (σ⊕ρ)) (Es:σ->Act->World->Prop) (R:ρ->Exit->Act->World->Prop)
  (hb:∀s o,body s=some o->J m P c (Es s) (match o with
   | .inl s'=>fun e a w=>e= .normal/\Es s' a w
   | .inr r=>fun e a w=>e≠ .normal/\R r e a w))
  {s:σ} {r:ρ} (h:zaa body s=some r) (hS:∀a w,S a w->Es s a w) (k:∀e a w,R r e a w->zdM m P Q l e a w):JI m P (.c (.loop c)::l) S Q:=
 zvz (zAO body Es R hb h hS (fun _ _ _ hr=>hr)) k
theorem zdW (k:JI m P l M Q):∀e a w,(e= .normal/\M a w)->zdM m P Q l e a w:=by
 rintro e a w ⟨rfl,h⟩;exact k a w h
theorem zaV {id:Nat} (l':List It) (he:zlM id l=some l') (k:JI m P l' M Q):∀e a w,(e= .exit id/\M a w)->zdM m P Q l e a w:=by
 rintro e a w ⟨rfl,h⟩;exact zpR he (k a w h)
theorem zvE (k:∀a w,M a w->Q .ret a w):∀e a w,(e= .ret/\M a w)->zdM m P Q l e a w:=by
 rintro e a w ⟨rfl,h⟩;exact k a w h
end
theorem zqC (N:Nat) (hf:P.funcs[f]? =some fn) (hb:fn.body=some c) (hN:fn.ntmps=N) (vd:Nat.ble ins.length N=true) (hres:zhs P E fn.results.toList vb)
  (hj:∀X:Ext,J true P c (Sx ⟨⟨N,[]⟩,X,false,#[]⟩ ⟨ziD 0 ins,[]⟩) fun e a w=>e= .ret/\Sx ⟨⟨N,[]⟩,X,false,#[]⟩ E a w):FnOk P f ins vb:=by
 subst hN;exact zxz hf hb (xy vd) hres hj
open Go.ChangeShapes Go.WideShapes
abbrev allF:Fp:=fun _=>True
def SzOk (P:Program) {H:Type} (t:TypeId) (d:DataW H):Prop:=∀m∈d.weights P t,m<=140737488351232
theorem zjb {H:Type} :∀{ds:List (DataW H)} {i:Nat} {d:DataW H},ds[i]? =some d->∀m∈d.weights P e,m∈DataW.weightsAll P e ds
 | d0::ds,0,d,hd,m,hm=>by
  simp only [List.getElem?_cons_zero,xF] at hd;subst hd;simp only [DataW.weightsAll,xl];exact Or.inl hm
 | d0::ds,i+1,d,hd,m,hm=>by
  simp only [List.getElem?_cons_succ] at hd;simp only [DataW.weightsAll,xl];exact Or.inr (zjb hd m hm)
 | [],_,_,hd,_,_=>by simp at hd
theorem SzOk.of_each {H:Type} {P:Program} {ts:List TypeId} {ds:List (DataW H)} (h:(DataW.weightsEach P ts ds).all (·<=reachBytes)=true) (j:Nat) {t:TypeId} {d:DataW H} (ht:ts[j]? =some t) (hd:ds[j]? =some d):SzOk P t d:=fun m hm=>by
 have:=xn.1 h _ (DataW.weights_mem_each ht hd m hm);exact yB this
def zkP (P:Program) {α:Type} (n:Nat) (t:TypeId) (r:Rp α) (W:α->Prop):Prop:=
 ∀{H:Type} (enc:TypeId×Value->H) (w:World) (spare:Nat->Bool) (held:Bool) (cs:List Value) (x:DataW H×List MemPlace),DataW.trod enc P w 0 spare held n t cs=some x->SzOk P t x.1->∃y:α,zJ allF w (r.lv y) cs/\W y
section
variable {P:Program} {n:Nat} {t e:TypeId}
theorem zfu (h:zaf F w l v):zJ F w [l] [v]:= .cons h .nil
theorem zmY {k:IntKind} (hu:P.underlying t=some (.int k)):zkP P n t (Rp.int k) fun m=>(Lit.int k m).wf=true:=fun _ _ _ _ _ _ h _=>by
 obtain ⟨m,rfl,_,hw⟩:=DataW.trod_int hu h;exact ⟨m,zfu (.int k m),hw⟩
theorem zuH (hu:P.underlying t=some (.int .u8)):zkP P n t Rp.byte fun _=>True:=fun _ _ _ _ _ _ h _=>by
 obtain ⟨m,rfl,_,hw⟩:=DataW.trod_int hu h;have hb:0<=m/\m<=255:=by simpa [Lit.wf,IntKind.min,IntKind.max,IntKind.bits,IntKind.signed] using hw
 have e1:((UInt8.ofNat m.toNat).toNat:Int)=m:=by simp;omega
 refine ⟨UInt8.ofNat m.toNat,zfu ?_,trivial⟩;rw [e1];exact .int .u8 m
theorem zpf (hu:P.underlying t=some .bool):zkP P n t Rp.bool fun _=>True:=fun _ _ _ _ _ _ h _=>by
 obtain ⟨b,rfl,_⟩:=DataW.trod_bool hu h;exact ⟨b,zfu (.bool b),trivial⟩
theorem zqU (hu:P.underlying t=some .string):zkP P n t Rp.str fun l=>l.length<=140737488351232:=fun _ _ _ _ _ _ h hz=>by
 obtain ⟨s,rfl,rfl,hw⟩:=DataW.trod_string hu h;exact ⟨s.data.toList,zfu (by have:=zaf.str (F:=allF) (w:=‹World›) s.data.toList;simpa using this),hz _ (by simp [DataW.weights])⟩
theorem zpg {α:Type} {r:Rp α} {W:α->Prop}:zkP P 0 t r W:=fun _ _ _ _ _ _ h _=>by simp [DataW.trod] at h
theorem zuB {w:World} {a:Addr} {v:Value} (h:w.cell? a=some v):a.block<w.heap.size/\a.spot=none:=by
 unfold World.cell? at h;split at h
 ·rename_i c e f hh;refine ⟨(xD.1 hh).1,?_⟩;split at h
  ·cases h
  ·rename_i hs;cases hsp:a.spot with
   | none=>rfl
   | some x=>rw [hsp] at hs;exact absurd rfl hs
 ·cases h
theorem zrw (a:Addr) (m k:Nat):(a.add m).add k=a.add (m+k):=by
 unfold Addr.add;by_cases h1:m=0
 ·subst h1;simp
 ·by_cases h2:k=0
  ·subst h2;simp
  ·have h3:¬(m+k=0):=by omega
   simp only [xd h1,xd h2,xd h3];congr 1;omega
theorem zpX {a:Addr} (h:a.spot=none) (i:Nat):a.add i=⟨a.block,a.off+i,none⟩:=by
 obtain ⟨b,o,s⟩:=a;simp only at h;subst h;unfold Addr.add;split
 ·rename_i h0;subst h0;rfl
 ·rfl
theorem zuI {α:Type} {r:Rp α} {W:α->Prop} {B:Nat} (hu:P.underlying t=some (.slice e)) (hc:P.cellsOf e=r.size) (hB:P.bytesOf e=B) (h:zkP P n e r W):zkP P (n+1) t r.list fun xs=>xs.length*B<=140737488351232/\∀x∈xs,W x:=by
 intro H enc w spare held cs x hx hz;rcases DataW.trod_slice hu hx with ⟨rfl,_⟩| ⟨a,len,cap,elems,uY,m,hm,rfl,rfl,_,hl,hcap,vd,hel,_⟩
 ·exact ⟨[],zfu (.sl 0 _ _ _ 0 [] (by simp) (by simp) (xi _) (xm _) (fun h=>absurd h (by omega)) (fun i l u h1=>by simp at h1)),by simp,fun x hx=>by cases hx⟩
 ·cases hm;rw [hc] at hel
  -- element by element
  have each:∀i,i<len->∃y cs',w.cells? 0 (a.add (i*r.size)) r.size=some cs'/\zJ allF w (r.lv y) cs'/\W y:=by
   intro i hi;have h1:=hel i hi;rw [xu (show i<elems.length by omega),Option.bind_eq_some_iff] at h1;obtain ⟨cs',h2,h3⟩:=h1;obtain ⟨y,h4,h5⟩:=h enc w spare held cs' _ h3 fun m hm=>hz m (by
    simp only [DataW.weights,hu,xj,xl];refine .inr (.inl (zjb (i:=i) (d:=(elems[i]'(by omega)).1) ?_ m hm));rw [yz,xu (show i<elems.length by omega)];rfl)
   exact ⟨y,cs',h2,h4,h5⟩
  have rows:∀k,k<=len->∃(ys:List α) (ds:List Value),ys.length=k/\zJ allF w (ys.flatMap r.lv) ds/\(∀y∈ys,W y)/\∀j,j<k*r.size->w.cell? (a.add j)=ds[j]? :=by
   intro k
   induction k with
   | zero=>exact fun _=>⟨[],[],rfl,.nil,(fun y hy=>by cases hy),fun j hj=>by omega⟩
   | succ k ih=>
    intro hk;obtain ⟨ys,ds,h1,h2,h3,h4⟩:=ih (by omega);obtain ⟨y,cs',h5,h6,h7⟩:=each k (by omega);obtain ⟨_,h8,h9⟩:=World.cells?_some h5;have hds:ds.length=k*r.size:=by rw [<-h2.1,r.flat,h1]
    refine ⟨ys++[y],ds++cs',by simp [h1],?_,?_,fun j hj=>?_⟩
    ·rw [List.flatMap_append];simp only [xI,List.flatMap_nil,qc];exact h2.append h6
    ·intro z hz;rcases xl.1 hz with hz| hz
     ·exact h3 z hz
     ·simp at hz;subst hz;exact h7
    ·rw [qn];split
     ·rename_i hj';exact h4 j (by omega)
     ·rename_i hj';rw [yC] at hj;have:=h9 (j - ds.length) (by omega);rw [<-this,hds,zrw];congr 2;omega
  obtain ⟨ys,ds,h1,h2,h3,h4⟩:=rows len (xi _);have hds:ds.length=len*r.size:=by rw [<-h2.1,r.flat,h1]
  have hsz:=hz ((elems.length+uY.length)*P.bytesOf e) (by simp [DataW.weights,hu]);rw [hB] at hsz;refine ⟨ys,zfu ?_,yb (yi B (by omega)) hsz,h3⟩;rw [h1];refine .sl len r.size _ (some a) cap ds (by rw [r.flat,h1]) hds hl hcap (fun h0=>?_) h2.2;have h0':0<len*r.size:=Nat.mul_pos h0 r.pos;have hc0:=h4 0 h0';rw [xu (show 0<ds.length by omega)] at hc0;obtain ⟨hb,hs⟩:=zuB hc0;have hs':a.spot=none:=by unfold Addr.add at hs;split at hs<;>simp_all
  have hb':a.block<w.heap.size:=by unfold Addr.add at hb;split at hb<;>simp_all
  refine ⟨a.block,a.off,by cases a;simp at hs';subst hs';rfl,trivial,hb',fun i hi=>?_⟩;have:=h4 i hi;rw [<-this];congr 1;exact (zpX hs' i).symm
def FOk (P:Program) (n:Nat) (fs:List Field) (off:Nat) (S:List LV->Prop):Prop:=
 ∀(H:Type) (enc:TypeId×Value->H) (w:World) (spare:Nat->Bool) (held:Bool) (cs:List Value),cs.length=off+(fs.map fun f=>P.cellsOf f.type).sum->
  (∀(i:Nat) (f:Field),fs[i]? =some f->∃x,DataW.trod enc P w 0 spare held n f.type ((cs.drop f.offset).take (P.cellsOf f.type))=some x/\SzOk P f.type x.1)->∃ls,zJ allF w ls (cs.drop off)/\S ls
theorem zvr {off:Nat}:FOk P n [] off fun ls=>ls=[]:=fun _ _ _ _ _ cs hl _=>by
 have:cs.drop off=[]:=yp (by simp at hl;omega);exact ⟨[],by rw [this];exact .nil,rfl⟩
theorem zfY {α:Type} {r:Rp α} {W:α->Prop} {f:Field} {fs:List Field} {off:Nat} {S:List LV->Prop} (h:zkP P n f.type r W) (ho:f.offset=off) (hc:P.cellsOf f.type=r.size) (k:FOk P n fs (off+r.size) S):
  FOk P n (f::fs) off fun ls=>∃y ls',ls=r.lv y++ls'/\W y/\S ls':=by
 intro H enc w spare held cs hl hx;obtain ⟨x,hx0,hz0⟩:=hx 0 f rfl;rw [ho,hc] at hx0;obtain ⟨y,hy,hw⟩:=h enc w spare held _ _ hx0 hz0;obtain ⟨ls,h1,h2⟩:=k H enc w spare held cs (by simp [hc] at hl;omega) fun i g hg=>hx (i+1) g (by simpa using hg)
 refine ⟨r.lv y++ls,?_,y,ls,rfl,hw,h2⟩;have e:cs.drop off=(cs.drop off).take r.size++cs.drop (off+r.size):=by rw [<-xP,xZ]
 rw [e];exact hy.append h1
theorem zrU {α:Type} {r:Rp α} {W:α->Prop} {fs:Array Field} {S:List LV->Prop} (hu:P.underlying t=some (.struct fs)) (hc:P.cellsOf t=(fs.toList.map fun f=>P.cellsOf f.type).sum) (hf:FOk P n fs.toList 0 S) (hy:∀ls,S ls->∃y,ls=r.lv y/\W y):zkP P (n+1) t r W:=by
 intro H enc w spare held cs x hx hz;obtain ⟨xs,m,hm,rfl,hl,hxl,hget⟩:=DataW.trod_struct hu hx;cases hm;obtain ⟨ls,h1,h2⟩:=hf H enc w spare held cs (by rw [hl,hc];omega) fun i f hif=>by
  have hi:i<xs.length:=by rw [hxl];have:=(xY.1 hif).1;simpa using this
  refine ⟨xs[i],by rw [hget i f (by simpa using hif),xu hi],fun m hm=>hz m ?_⟩;simp only [DataW.weights,hu];refine DataW.weights_mem_each (j:=i) (t:=f.type) (d:=xs[i].1) (by rw [yz,hif];rfl) (by rw [yz,xu hi];rfl) m hm
 obtain ⟨y,rfl,hw⟩:=hy ls h2;exact ⟨y,by simpa using h1,hw⟩
def ziy (P:Program) {α:Type} (t:TypeId) (r:Rp α) (W:α->Prop):Prop:=∀n,zkP P n t r W
theorem zjT {α:Type} {r:Rp α} {W:α->Prop} {B:Nat} (hu:P.underlying t=some (.slice e)) (hc:P.cellsOf e=r.size) (hB:P.bytesOf e=B) (h:ziy P e r W):ziy P t r.list fun xs=>xs.length*B<=140737488351232/\∀x∈xs,W x
 | 0=>zpg
 | n+1=>zuI hu hc hB (h n)
theorem zkV {α:Type} {r:Rp α} {W:α->Prop} {fs:Array Field} {S:List LV->Prop} (hu:P.underlying t=some (.struct fs)) (hc:P.cellsOf t=(fs.toList.map fun f=>P.cellsOf f.type).sum) (hf:∀n,FOk P n fs.toList 0 S) (hy:∀ls,S ls->∃y,ls=r.lv y/\W y):ziy P t r W
 | 0=>zpg
 | n+1=>zrU hu hc (hf n) hy
end
section
variable {P:Program} {H:Type} {enc:TypeId×Value->H} {w:World} {t e:TypeId} {v:Value} {d:DataW H} {ps:List MemPlace}
theorem zzd (h:zaf allF w l v):zaf ((gh0 allF).F [0]) w l v:=zaf.mono h fun b _ _=>by
 show (gh0 allF).col b∈[0];rw [zvs allF b trivial];exact xf
theorem zvi {k:IntKind} (hu:P.underlying t=some (.int k)) (hval:Value.okWide P w .any 0 t v) (h:DataW.Trod enc P w 0 (fun _=>true) true t v d ps) (_hz:SzOk P t d):∃m:Int,AV.rel (gh0 allF) w (.lf (.int k m)) v/\(Lit.int k m).wf=true:=by
 obtain ⟨m,rfl,_,_,hw⟩:=open_int hu hval h;exact ⟨m,⟨rfl,.int k m⟩,hw⟩
theorem zxk {α:Type} {r:Rp α} {W:List α->Prop} (hu:P.underlying t=some (.slice e)) (ho:ziy P t r.list W) (hval:Value.okWide P w .any 0 t v) (h:DataW.Trod enc P w 0 (fun _=>true) true t v d ps) (hz:SzOk P t d):∃xs:List α,AV.rel (gh0 allF) w (.sl r [0] xs) v/\W xs:=by
 obtain ⟨a,len,cap,rfl⟩:=okWide_slice hu hval;obtain ⟨uZ,hf⟩:=h;obtain ⟨y,hy,hw⟩:=ho uZ enc w _ _ _ _ hf hz;have hy':zJ allF w [.sl y.length r.size (y.flatMap r.lv)] [.slice a len cap]:=hy;obtain ⟨u,hu',hl⟩:=hy'.single;cases hu';exact ⟨y,zzd hl,hw⟩
end
theorem zww (h:FnOk P f ins [.lf (.bool b)]) (hb:b=true) (hr:AV.relL (gh0 allF) w ins vs):
  Calls P f vs.toArray w fun e w'=>e= .returned (.bool true)/\Below w.heap.size w w':=by
 subst hb;refine (h w allF vs hr).mono ?_;rintro e w' ⟨γ,us,rfl,hbel,_,v,us',rfl,hv,hu⟩;have hu':us'=[]:=hu;subst hu';exact ⟨by rw [zgv hv];rfl,hbel⟩
theorem lw_e (h:zbP P l ss is):zbP P (o::l) (.ev::ss) is:=by simpa [zbP] using h
def zpE (P:Program):List Field->List (Nat×Nat)->Bool
 | [],[]=>true
 | f::fs,(o,s)::ps=>Nat.beq f.offset o&&(match P.info? f.type with| some i=>Nat.beq i.size s| none=>false)&&zpE P fs ps
 | _,_=>false
theorem zly :∀(fs:List Field) (ps:List (Nat×Nat)),zpE P fs ps=true->∀w,(fs.mapM (m:=Sem) fun (f:Field)=>do pure (f.offset,<-sizeOf f.type)).run P w= .ok ps w
 | [],[],_,w=>rfl
 | f::fs,(o,s)::ps,h,w=>by
  simp only [zpE,xh] at h;obtain ⟨⟨h1,h2⟩,h3⟩:=h;have h1:=xk h1;split at h2
  ·rename_i i hi;have h2:=xk h2;subst h1 h2;have hs:(sizeOf f.type).run P w= .ok i.size w:=by simp [sizeOf,typeInfo,hi]
   simp only [yv,xo,hs,xq,xE,zly fs ps h3 w]
  ·cases h2
 | [],_::_,h,_=>by cases h
 | _::_,[],h,_=>by cases h
def stB (P:Program) (t:TypeId) (fs:Array Field) (places:List (Nat×Nat)) (zl:List LV):Bool:=zpE P fs.toList places&&match P.info? t with
 | some i=>match i.zero with
  | some z=>zokL zl z.cells.toList
  | none=>false
 | none=>false
theorem StT.ofB (hu:P.underlying t=some (.struct fs)) (h:stB P t fs places zl=true):StT P t places zl:=by
 simp only [stB,xh] at h;obtain ⟨h1,h2⟩:=h;split at h2
 ·rename_i i hi;split at h2
  ·rename_i z hz;refine ⟨fs,z,hu,fun w=>by simp [zeroValue,typeInfo,hi,hz],fun w=>?_,h2⟩;have:=zly fs.toList places h1 w;rw [<-yG (xs:=fs),qK,Sem.run_map];rw [this];rfl
  ·cases h2
 ·cases h2
def zmS:Option TypeDesc->LV->Bool
 | some (.int k),.int k' _=>decide (k=k')
 | some .bool,.bool _=>true
 | some .string,.str _=>true
 | _,_=>false
def ziU (P:Program):Nat->List Field->List LV->Bool
 | _,[],[]=>true
 | off, f :: fs, l :: ls => (f.name != "_" && Nat.beq f.offset off && P.plainKey f.type && zmS (P.underlying f.type) l) && ziU P (off + 1) fs ls
 | _,_,_=>false
def leq:LV->LV->Bool
 | .int _ a,.int _ b=>a==b
 | .bool a,.bool b=>a==b
 | .str a,.str b=>a==b
 | _,_=>false
def eqL:List LV->List LV->Bool
 | [],[]=>true
 | l::ls,m::ms=>leq l m&&eqL ls ms
 | _,_=>false
theorem zzz (h1:zmS (P.underlying t) l=true) (h2:zmS (P.underlying t) m=true) (d:Nat) (w:World):
  (Op.equalIn (d+1) t (zby l) (zby m)).run P w= .ok (leq l m) w:=by
 generalize hu:P.underlying t=u at h1 h2
 unfold zmS at h1;split at h1
 ·rename_i k k' a;have:=yB h1;subst this;cases m<;>first| cases h2| skip
  rename_i k2 b;have:=yB h2;subst this;exact run_equalIn_int w d t k k a b hu
 ·cases m<;>first| cases h2| skip
  exact run_equalIn_bool' w d t _ _ hu
 ·cases m<;>first| cases h2| skip
  have:=run_equalIn_string w d t ⟨(‹List UInt8›:List UInt8).toArray⟩ ⟨(‹List UInt8›:List UInt8).toArray⟩ hu;rename_i a b;have:=run_equalIn_string w d t ⟨a.toArray⟩ ⟨b.toArray⟩ hu;simp only [zby,leq];rw [this];simp [ByteArray.toList_eq]
 ·cases h1
theorem zlL (d:Nat) (w:World):∀(fs:List Field) (ls ms:List LV) (off:Nat),ziU P off fs ls=true->ziU P off fs ms=true->
  (∀i,i<ls.length->xs[off+i]? =(ls.map zby)[i]?)->(∀i,i<ms.length->ys[off+i]? =(ms.map zby)[i]?)->(Op.eqFields (d+1) xs ys fs).run P w= .ok (eqL ls ms) w
 | [],[],[],_,_,_,_,_=>rfl
 | f::fs,l::ls,m::ms,off,h1,h2,hx,hy=>by
  simp only [ziU,xh] at h1 h2;obtain ⟨⟨⟨⟨a1,a2⟩,a3⟩,a4⟩,a5⟩:=h1;obtain ⟨⟨_,b4⟩,b5⟩:=h2;have hn : f.name ≠ "_" := by simpa using a1
  have ho:=xk a2;have p1:=qX a3 (xs:=xs) (off:=f.offset) (v:=zby l) (w:=w) (by rw [ho];simpa using hx 0 (by simp));have p2:=qX a3 (xs:=ys) (off:=f.offset) (v:=zby m) (w:=w) (by rw [ho];simpa using hy 0 (by simp));have ih:=zlL d w fs ls ms (off+1) a5 b5 (fun i hi=>by have:=hx (i+1) (by simpa using hi);simpa [Nat.add_assoc,Nat.add_comm 1 i] using this) (fun i hi=>by have:=hy (i+1) (by simpa using hi);simpa [Nat.add_assoc,Nat.add_comm 1 i] using this);simp only [Op.eqFields,hn,ne_eq,not_false_eq_true,x8,xo,p1,p2,xq,zzz a4 b4 d w,eqL];cases leq l m
  ·rfl
  ·simpa using ih
 | [],[],_::_,_,_,h,_,_=>by cases h
 | [],_::_,_,_,h,_,_,_=>by cases h
 | _::_,[],_,_,h,_,_,_=>by cases h
 | _::_,_::_,[],_,_,h,_,_=>by cases h
theorem eqT (hu:P.underlying t=some (.struct fs)) (hp:P.stoodInHeld t=false) (h1:ziU P 0 fs.toList ls=true) (h2:ziU P 0 fs.toList ms=true) (he:eqL ls ms=b):
  ∀w,(Op.equalIn 10000 t (.agg (ls.map zby).toArray) (.agg (ms.map zby).toArray)).run P w= .ok b w:=fun w=>by
 have hf:P.fieldsOf t=fs:=by unfold Program.fieldsOf;rw [hu]
 rw [run_equalIn_struct w 9999 t _ _ (by rw [hf];exact hu) hp,hf,zlL 9998 w fs.toList ls ms 0 h1 h2 (fun i _=>by simp) (fun i _=>by simp),he]
end Go.Proofs.YtnckiilakdkklaaGreat

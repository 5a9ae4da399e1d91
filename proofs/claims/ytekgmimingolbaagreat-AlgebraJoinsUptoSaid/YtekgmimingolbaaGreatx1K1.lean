/-
  What every proof here stands on. No condition.
-/
import Derived.WalkKit
import Derived.Laws.OwnMore
import Derived.Maps.AppendAt
import Derived.LoopN
import Derived.Maps.RangeRun
import Derived.CallsIn
import Derived.LoopNIn
import Derived.TacticsIn
import Derived.OrdersIn
import Derived.Laws.IdiomStrings
import Derived.Laws.StructEq
import Derived.Orders
import Derived.ProofKit
import Derived.OpenShut
import Derived.ShutString
import Derived.ChangeOld
import Derived.Below
import Derived.SizedLaws
import Derived.ChangeKeysEq
set_option autoImplicit true
set_option relaxedAutoImplicit true
namespace Go.Proofs.YtekgmimingolbaaGreat
open Go Go.RowKit
abbrev uh:=@Array.foldl_toList
abbrev yD:=@Array.getD_eq_getD_getElem?
abbrev uK:=@Array.getElem?_append_left
abbrev qi:=@Array.getElem?_eq_getElem
abbrev xY:=@Array.getElem?_eq_some_iff
abbrev pE:=@Array.getElem?_setIfInBounds_ne
abbrev uE:=@Array.getElem?_setIfInBounds_self_of_lt
abbrev qT:=@Array.getElem?_toList
abbrev yF:=@Array.length_toList
abbrev qz:=@Array.toArray_toList
abbrev up:=@Array.toList_push
abbrev uF:=@Array.toList_setIfInBounds
abbrev xA:=@Bool.and_eq_true
abbrev pg:=@Bool.and_false
abbrev px:=@Bool.and_true
abbrev yu:=@Bool.eq_false_or_eq_true
abbrev yK:=@Bool.eq_iff_iff
abbrev yQ:=@Bool.false_and
abbrev qH:=@Bool.false_eq_true
abbrev pF:=@Bool.false_ne_true
abbrev q6:=@Bool.false_or
abbrev po:=@Bool.not_eq_false'
abbrev pd:=@Bool.not_eq_true
abbrev ym:=@Bool.not_eq_true'
abbrev p9:=@Bool.not_false
abbrev uu:=@Bool.or_assoc
abbrev qj:=@Bool.or_eq_false_iff
abbrev qk:=@Bool.or_eq_true
abbrev qN:=@Bool.or_false
abbrev qV:=@Bool.or_true
abbrev xR:=@Bool.true_and
abbrev pv:=@Bool.true_or
abbrev pq:=@Int.emod_eq_of_lt
abbrev qr:=@Int.le_refl
abbrev qq:=@Int.lt_irrefl
abbrev uc:=@Int.natCast_nonneg
abbrev pQ:=@Int.tdiv_eq_ediv_of_nonneg
abbrev yT:=@Int.tmod_eq_emod_of_nonneg
abbrev yp:=@Int.toNat_natCast
abbrev uS:=@List.Pairwise.filterMap
abbrev yx:=@List.all_cons
abbrev xJ:=@List.all_eq_true
abbrev pY:=@List.any_append
abbrev q8:=@List.any_cons
abbrev uv:=@List.any_eq_false
abbrev pK:=@List.any_eq_true
abbrev yS:=@List.append_assoc
abbrev yX:=@List.append_nil
abbrev yC:=@List.cons.injEq
abbrev yz:=@List.cons_append
abbrev uJ:=@List.drop_append_of_le_length
abbrev qo:=@List.drop_drop
abbrev xQ:=@List.drop_eq_getElem_cons
abbrev yb:=@List.drop_eq_nil_of_le
abbrev pD:=@List.drop_succ_cons
abbrev ut:=@List.drop_take
abbrev xX:=@List.drop_zero
abbrev yw:=@List.eq_nil_of_length_eq_zero
abbrev pZ:=@List.exists_cons_of_ne_nil
abbrev pL:=@List.ext_getElem?
abbrev pt:=@List.findIdx?_eq_none_iff
abbrev pu:=@List.findIdx?_eq_some_iff_getElem
abbrev pk:=@List.flatMap_append
abbrev xN:=@List.flatMap_cons
abbrev yo:=@List.flatMap_nil
abbrev ug:=@List.foldl_cons
abbrev pc:=@List.getD_eq_getElem?_getD
abbrev pC:=@List.getElem?_append
abbrev uL:=@List.getElem?_append_left
abbrev pr:=@List.getElem?_append_right
abbrev uG:=@List.getElem?_cons_succ
abbrev yG:=@List.getElem?_drop
abbrev xH:=@List.getElem?_eq_getElem
abbrev xZ:=@List.getElem?_eq_some_iff
abbrev yB:=@List.getElem?_map
abbrev yk:=@List.getElem?_take
abbrev pT:=@List.getElem_cons_succ
abbrev uz:=@List.getElem_cons_zero
abbrev xC:=@List.getElem_mem
abbrev qg:=@List.getElem_of_mem
abbrev pP:=@List.getElem_take
abbrev pp:=@List.headD_cons
abbrev qL:=@List.isEmpty_eq_false_iff
abbrev pl:=@List.isEmpty_iff
abbrev yh:=@List.length_append
abbrev yn:=@List.length_cons
abbrev yq:=@List.length_drop
abbrev uQ:=@List.length_filterMap_le
abbrev yZ:=@List.length_map
abbrev pw:=@List.length_nil
abbrev pn:=@List.length_replicate
abbrev qn:=@List.length_set
abbrev qc:=@List.length_singleton
abbrev xK:=@List.length_take
abbrev qy:=@List.mapM_cons
abbrev ue:=@List.mapM_toArray
abbrev qX:=@List.map_append
abbrev ye:=@List.map_cons
abbrev pO:=@List.map_map
abbrev qY:=@List.map_nil
abbrev pi:=@List.map_toArray
abbrev xD:=@List.mem_append
abbrev xU:=@List.mem_append_left
abbrev xV:=@List.mem_append_right
abbrev xz:=@List.mem_cons
abbrev xy:=@List.mem_cons_of_mem
abbrev xx:=@List.mem_cons_self
abbrev yE:=@List.mem_filter
abbrev qO:=@List.mem_filterMap
abbrev qB:=@List.mem_flatMap
abbrev xP:=@List.mem_map
abbrev ql:=@List.mem_map_of_mem
abbrev yR:=@List.mem_of_getElem?
abbrev pJ:=@List.mem_of_mem_drop
abbrev pI:=@List.mem_of_mem_take
abbrev yf:=@List.mem_singleton
abbrev yc:=@List.nil_append
abbrev ur:=@List.nodup_cons
abbrev qA:=@List.nodup_nil
abbrev xF:=@List.not_mem_nil
abbrev yr:=@List.pairwise_cons
abbrev uD:=@List.pairwise_iff_getElem
abbrev pN:=@List.pairwise_map
abbrev uN:=@List.pairwise_mergeSort
abbrev uA:=@List.prefix_append
abbrev uR:=@List.prefix_iff_eq_take
abbrev uB:=@List.prefix_of_prefix_length_le
abbrev qM:=@List.prefix_refl
abbrev ui:=@List.set_eq_take_append_cons_drop
abbrev qD:=@List.size_toArray
abbrev pf:=@List.sum_cons
abbrev uy:=@List.takeWhile_append_dropWhile
abbrev qQ:=@List.take_append
abbrev qF:=@List.take_append_drop
abbrev uP:=@List.take_append_getElem
abbrev uI:=@List.take_append_of_le_length
abbrev yY:=@List.take_length
abbrev yP:=@List.take_of_length_le
abbrev uC:=@List.take_prefix
abbrev yU:=@List.take_succ_cons
abbrev yA:=@List.take_succ_eq_append_getElem
abbrev qZ:=@List.take_take
abbrev yJ:=@List.take_zero
abbrev qS:=@Nat.add_assoc
abbrev qP:=@Nat.add_sub_cancel
abbrev uH:=@Nat.add_sub_cancel_left
abbrev yL:=@Nat.add_zero
abbrev uO:=@Nat.and_two_pow_sub_one_eq_mod
abbrev xL:=@Nat.eq_of_beq_eq_true
abbrev pj:=@Nat.eq_zero_or_pos
abbrev xW:=@Nat.le_of_ble_eq_true
abbrev qR:=@Nat.le_of_not_lt
abbrev xB:=@Nat.le_refl
abbrev yi:=@Nat.le_trans
abbrev pz:=@Nat.lt_irrefl
abbrev xT:=@Nat.lt_of_lt_of_le
abbrev qa:=@Nat.lt_of_succ_le
abbrev qd:=@Nat.lt_or_ge
abbrev uo:=@Nat.lt_trichotomy
abbrev yN:=@Nat.min_eq_left
abbrev pS:=@Nat.mul_assoc
abbrev pM:=@Nat.mul_comm
abbrev uf:=@Nat.mul_le_mul_left
abbrev yg:=@Nat.mul_le_mul_right
abbrev qK:=@Nat.mul_one
abbrev qh:=@Nat.not_lt
abbrev ph:=@Nat.one_pos
abbrev uw:=@Nat.pow_le_pow_right
abbrev pR:=@Nat.pow_succ
abbrev qE:=@Nat.sub_zero
abbrev yy:=@Nat.succ_mul
abbrev xE:=@Nat.zero_add
abbrev xI:=@Nat.zero_le
abbrev qG:=@Obj.cells.injEq
abbrev qw:=@Oper.upon_enter
abbrev ul:=@Oper.upon_skip
abbrev ud:=@Oper.wpIn_mono
abbrev yH:=@Option.getD_some
abbrev uM:=@Option.isSome_iff_exists
abbrev pG:=@Option.map_some
abbrev yW:=@Option.some.inj
abbrev yj:=@Option.some.injEq
abbrev qe:=@Prod.mk.injEq
abbrev xM:=@Result.andThen_ok
abbrev xO:=@Sem.run_bind
abbrev yl:=@Sem.run_pure
abbrev pB:=@World.cell?_of_block
abbrev pA:=@World.ownsRow_nil
abbrev qv:=@and_true
abbrev pW:=@beq_iff_eq
abbrev qx:=@callsIn_wide
abbrev py:=@calls_of_wp
abbrev yv:=@cell_of_row
abbrev qt:=@decide_eq_decide
abbrev yd:=@decide_eq_false
abbrev qJ:=@decide_eq_false_iff_not
abbrev ya:=@decide_eq_true
abbrev xS:=@decide_eq_true_eq
abbrev pV:=@decide_false
abbrev pU:=@decide_true
abbrev pX:=@eq_false_of_ne_true
abbrev yV:=@getElem!_pos
abbrev yO:=@heap_alloc_new
abbrev qI:=@if_false
abbrev xu:=@if_neg
abbrev xw:=@if_pos
abbrev yI:=@if_true
abbrev qm:=@of_decide_eq_true
abbrev xG:=@or_false
abbrev qW:=@run_part_plain
abbrev qC:=@run_storeCells_at
abbrev yM:=@run_underlying
abbrev qf:=@setRow_heap
abbrev pH:=@setRow_other
abbrev pm:=@size_madeCells
abbrev uq:=@size_zeroCells
abbrev qu:=@true_and
abbrev qU:=@wpIn_mono
def zkO {σ ρ:Type} (body:σ->Option (σ⊕ρ)):Nat->σ->Option ρ
 | 0,_=>none
 | n+1,s=>match body s with
  | none=>none
  | some (.inl s')=>zkO body n s'
  | some (.inr r)=>some r
open Classical in
noncomputable def zaj {σ ρ:Type} (body:σ->Option (σ⊕ρ)) (s:σ):Option ρ:=
 if h:∃n r,zkO body n s=some r then zkO body h.choose s else none
theorem zCX {σ ρ:Type} {body:σ->Option (σ⊕ρ)} {n:Nat} {s:σ} {r:ρ} (h:zkO body n s=some r):zkO body (n+1) s=some r:=by
 induction n generalizing s with
 | zero=>simp [zkO] at h
 | succ n ih=>
  rw [zkO] at h|-;split at h
  ·cases h
  ·exact ih h
  ·exact h
theorem zBn {σ ρ:Type} {body:σ->Option (σ⊕ρ)} {n m:Nat} {s:σ} {r:ρ} (h:zkO body n s=some r) (hm:n<=m):zkO body m s=some r:=by
 obtain ⟨k,rfl⟩:=Nat.exists_eq_add_of_le hm;clear hm
 induction k with
 | zero=>exact h
 | succ k ih=>exact zCX ih
theorem zvc {σ ρ:Type} {body:σ->Option (σ⊕ρ)} {n:Nat} {s:σ} {r:ρ} (h:zkO body n s=some r):zaj body s=some r:=by
 have hex:∃n r,zkO body n s=some r:=⟨n,r,h⟩;unfold zaj;rw [dif_pos hex];obtain ⟨r',h'⟩:=hex.choose_spec;rw [h'];have h1:=zBn h' (Nat.le_max_left hex.choose n);have h2:=zBn h (Nat.le_max_right hex.choose n);rw [h1] at h2;exact h2
theorem zwN {σ ρ:Type} {body:σ->Option (σ⊕ρ)} {s:σ} {r:ρ} (h:zaj body s=some r):∃n,zkO body n s=some r:=by
 unfold zaj at h;split at h
 ·exact ⟨_,h⟩
 ·cases h
theorem zL {σ ρ:Type} {body:σ->Option (σ⊕ρ)} {s s':σ} (h:body s=some (.inl s')):zaj body s=zaj body s':=by
 cases hw:zaj body s' with
 | some r=>
  obtain ⟨n,hn⟩:=zwN hw;exact zvc (n:=n+1) (by rw [zkO,h];exact hn)
 | none=>
  cases hw':zaj body s with
  | none=>rfl
  | some r=>
   obtain ⟨n,hn⟩:=zwN hw';cases n with
   | zero=>simp [zkO] at hn
   | succ n=>rw [zkO,h] at hn;rw [zvc hn] at hw;cases hw
theorem zJ {σ ρ:Type} {body:σ->Option (σ⊕ρ)} {s:σ} {r:ρ} (h:body s=some (.inr r)):zaj body s=some r:=
 zvc (n:=1) (by rw [zkO,h])
open Classical in
noncomputable def zAE {ρ:Type} (x y:Option ρ):Option ρ:=if x=y then x else none
theorem zwl {ρ:Type} {x y:Option ρ} {r:ρ} (h:zAE x y=some r):x=some r/\y=some r:=by
 unfold zAE at h;split at h
 ·rename_i e;exact ⟨h,e▸h⟩
 ·cases h
theorem zqB {ρ:Type} {x y:Option ρ} {r:ρ} (hx:x=some r) (hy:y=some r):zAE x y=some r:=by
 unfold zAE;rw [hx,hy,xw rfl]
noncomputable def nilO {α ρ:Type} (xs:List α) (x y:Option ρ):Option ρ:=match xs with
 | []=>zAE x y
 | _::_=>y
theorem zoP {α ρ:Type} {xs:List α} {x y:Option ρ} {r:ρ} (h:nilO xs x y=some r):(xs=[]->x=some r)/\y=some r:=by
 cases xs with
 | nil=>exact ⟨fun _=>(zwl h).1,(zwl h).2⟩
 | cons a l=>exact ⟨fun e=>(by cases e),h⟩
def zwR {ν:Type} (m:List (Int×ν)):Option (List Int):=
 if (m.all fun p=>(Lit.int .i64 p.1).wf)=true/\m.length*8<=140737488355328 then some ((m.map Prod.fst).mergeSort fun x y=>decide (x<=y)) else none
def lexI:List Int->List Int->Int
 | [],[]=>0
 | [],_::_=> -1
 | _::_,[]=>1
 | x::l,y::m=>if x<y then -1 else if y<x then 1 else lexI l m
def znN (l:List (List Int)):List (List Int):=l.mergeSort fun x y=>decide (lexI x y<=0)
def zAo (l:List (List Int)):Option (List (List Int)):=if l.length<4611686018427387904/\l.all (fun x=>decide (x.length<9223372036854775807))=true then some (znN l) else none
abbrev Rnd (σ χ:Type):=σ->χ->Option (Bool×σ)
def rnd {σ ρ χ:Type} (kb:σ->χ->Option (σ⊕ρ)):Rnd (σ⊕ρ) χ
 | .inl s,x=>match kb s x with
  | some (.inl s')=>some (true,.inl s')
  | some (.inr r)=>some (false,.inr r)
  | none=>none
 | .inr _,_=>none
theorem zCE {α β:Type} {x:Option α} {f:α->Option β} {r:β} (h:(x>>=f)=some r):∃a,x=some a/\f a=some r:=by
 cases x with
 | none=>cases h
 | some a=>exact ⟨a,rfl,h⟩
theorem zGX {α:Type} {c:Bool} {x y:Option α} {r:α} (h:(if c then x else y)=some r):(c=true/\x=some r)\/(c=false/\y=some r):=by
 cases c
 ·exact .inr ⟨rfl,h⟩
 ·exact .inl ⟨rfl,h⟩
def idx {α:Type} (xs:List α) (i:Int):Option α:=if 0<=i then xs[i.toNat]? else none
def cut {α:Type} (xs:List α) (i j:Int):Option (List α):=if 0<=i/\i<=j/\j<=xs.length then some ((xs.drop i.toNat).take (j.toNat - i.toNat)) else none
inductive LV where
 | int (k:IntKind) (n:Int)
 | bool (b:Bool)
 | str (l:List UInt8)
 | sl (n size:Nat) (ls:List LV)
 | val (v:Value)
abbrev Fp:=Nat->Prop
inductive zbk (F:Fp) (w:World):LV->Value->Prop
 | int (k:IntKind) (n:Int):zbk F w (.int k n) (.int k n)
 | bool (b:Bool):zbk F w (.bool b) (.bool b)
 | str (l:List UInt8):zbk F w (.str l) (.string ⟨l.toArray⟩)
 | val (v:Value) (h:v.oneCell'=true):zbk F w (.val v) v
 | sl (n size:Nat) (ls:List LV) (A:Option Addr) (c:Nat) (cs:List Value) (hl:ls.length=n*size) (hcs:cs.length=n*size) (hc:n<=c) (hm:c<=maxLen)
   (hA:0<n->∃b off,A=some ⟨b,off,none⟩/\F b/\b<w.heap.size/\∀i,i<n*size->w.cell? ⟨b,off+i,none⟩=cs[i]?)
   (hr:∀(i:Nat) (l:LV) (u:Value),ls[i]? =some l->cs[i]? =some u->zbk F w l u):
   zbk F w (.sl n size ls) (.slice A n c)
def zW (F:Fp) (w:World) (ls:List LV) (cs:List Value):Prop:=ls.length=cs.length/\∀(i:Nat) (l:LV) (u:Value),ls[i]? =some l->cs[i]? =some u->zbk F w l u
structure zvd (F:Fp) (w w':World):Prop where
 size:w.heap.size<=w'.heap.size
 block:∀b,b<w.heap.size->F b->w'.heap[b]? =w.heap[b]?
section
variable {F G:Fp} {w w':World}
theorem zvd.cell (h:zvd F w w') (hb:a.block<w.heap.size) (hF:F a.block):w'.cell? a=w.cell? a:=pB (h.block _ hb hF)
theorem zbk.keep (h:zbk F w l v) (hk:zvd F w w'):zbk F w' l v:=by
 induction h with
 | int k n=>exact .int k n
 | bool b=>exact .bool b
 | str l=>exact .str l
 | val v h=>exact .val v h
 | sl n size ls A c cs hl hcs hc hm hA hr ih=>
  refine .sl n size ls A c cs hl hcs hc hm (fun hn=>?_) ih;obtain ⟨b,off,e,hF,hb,hcell⟩:=hA hn;exact ⟨b,off,e,hF,xT hb hk.size,fun i hi=>(hk.cell (a:=⟨b,off+i,none⟩) hb hF).trans (hcell i hi)⟩
theorem zbk.mono (h:zbk F w l v) (hG:∀b,b<w.heap.size->F b->G b):zbk G w l v:=by
 induction h with
 | int k n=>exact .int k n
 | bool b=>exact .bool b
 | str l=>exact .str l
 | val v h=>exact .val v h
 | sl n size ls A c cs hl hcs hc hm hA hr ih=>
  refine .sl n size ls A c cs hl hcs hc hm (fun hn=>?_) ih;obtain ⟨b,off,e,hF,hb,hcell⟩:=hA hn;exact ⟨b,off,e,hG b hb hF,hb,hcell⟩
theorem zbk.one (h:zbk F w l v):v.oneCell'=true:=by
 cases h<;>first| rfl| assumption
theorem zW.keep (h:zW F w ls cs) (hk:zvd F w w'):zW F w' ls cs:=⟨h.1,fun i l u h1 h2=>(h.2 i l u h1 h2).keep hk⟩
theorem zW.mono (h:zW F w ls cs) (hG:∀b,b<w.heap.size->F b->G b):zW G w ls cs:=⟨h.1,fun i l u h1 h2=>(h.2 i l u h1 h2).mono hG⟩
theorem zW.nil:zW F w [] []:=⟨rfl,fun i l u h1=>by simp at h1⟩
theorem zW.append (h:zW F w ls cs) (k:zW F w ms ds):zW F w (ls++ms) (cs++ds):=by
 refine ⟨by rw [yh,yh,h.1,k.1],fun i l u h1 h2=>?_⟩;rw [pC] at h1 h2;rw [h.1] at h1;split at h1
 ·rename_i hi;rw [xw hi] at h2;exact h.2 i l u h1 h2
 ·rename_i hi;rw [xu hi] at h2;exact k.2 _ l u h1 h2
theorem zW.drop (h:zW F w ls cs) (k:Nat):zW F w (ls.drop k) (cs.drop k):=
 ⟨by simp [h.1],fun i l u h1 h2=>h.2 (k+i) l u (by simpa using h1) (by simpa using h2)⟩
theorem zW.take (h:zW F w ls cs) (k:Nat):zW F w (ls.take k) (cs.take k):=by
 refine ⟨by simp [h.1],fun i l u h1 h2=>?_⟩;rw [yk] at h1 h2;split at h1
 ·rename_i hi;rw [xw hi] at h2;exact h.2 i l u h1 h2
 ·cases h1
theorem zW.cons (h:zbk F w l v) (k:zW F w ls cs):zW F w (l::ls) (v::cs):=
 zW.append (ls:=[l]) (cs:=[v]) ⟨rfl,fun i l' u h1 h2=>by
  cases i with
  | zero=>simp at h1 h2;subst h1 h2;exact h
  | succ i=>simp at h1⟩ k
theorem zW.one (h:zW F w ls cs):∀u∈cs,u.oneCell'=true:=by
 intro u hu;obtain ⟨i,hi,rfl⟩:=qg hu;exact (h.2 i _ _ (xH (by rw [h.1];exact hi)) (xH hi)).one
theorem zW.head (h:zW F w (l::ls) cs):∃v cs',cs=v::cs'/\zbk F w l v/\zW F w ls cs':=by
 cases cs with
 | nil=>have:=h.1;simp at this
 | cons v cs'=>exact ⟨v,cs',rfl,h.2 0 l v rfl rfl,h.drop 1⟩
theorem zW.single (h:zW F w [l] cs):∃v,cs=[v]/\zbk F w l v:=by
 obtain ⟨v,cs',rfl,h1,h2⟩:=h.head;have:=h2.1;cases cs' with
 | nil=>exact ⟨v,rfl,h1⟩
 | cons=>simp at this
end
structure Rp (α:Type) where
 size:Nat
 agg:Bool
 lv:α->List LV
 len:∀x,(lv x).length=size
 pos:0<size
theorem Rp.flat {α:Type} (r:Rp α) (xs:List α):(xs.flatMap r.lv).length=xs.length*r.size:=by
 induction xs with
 | nil=>simp
 | cons x xs ih=>simp only [xN,yh,ih,r.len,yn,yy];omega
theorem Rp.flat_drop {α:Type} (r:Rp α) (xs:List α) (k:Nat):(xs.drop k).flatMap r.lv=(xs.flatMap r.lv).drop (k*r.size):=by
 induction k generalizing xs with
 | zero=>simp
 | succ k ih=>
  cases xs with
  | nil=>simp
  | cons x xs=>
   have hx:=r.len x;rw [pD,ih,xN,List.drop_append,hx,yy];rw [yb (as:=r.lv x) (by omega),yc,qP]
theorem Rp.flat_take {α:Type} (r:Rp α) (xs:List α) (k:Nat):(xs.take k).flatMap r.lv=(xs.flatMap r.lv).take (k*r.size):=by
 induction k generalizing xs with
 | zero=>simp
 | succ k ih=>
  cases xs with
  | nil=>simp
  | cons x xs=>
   have hx:=r.len x;rw [yU,xN,ih,xN,qQ,hx,yy];rw [yP (l:=r.lv x) (by omega),qP]
theorem Rp.flat_at {α:Type} (r:Rp α) (xs:List α) (k:Nat) (x:α) (h:xs[k]? =some x):((xs.flatMap r.lv).drop (k*r.size)).take r.size=r.lv x:=by
 rw [<-r.flat_drop];have hk:k<xs.length:=(xZ.1 h).1;have e:xs.drop k=x::xs.drop (k+1):=by
  rw [xQ hk];congr 1;exact (xZ.1 h).2
 have hx:=r.len x;rw [e,xN,qQ,hx,yP (l:=r.lv x) (by omega)];simp
def Rp.byte:Rp UInt8:=⟨1,false,fun c=>[.int .u8 c.toNat],fun _=>rfl,ph⟩
def Rp.int (k:IntKind):Rp Int:=⟨1,false,fun n=>[.int k n],fun _=>rfl,ph⟩
def Rp.bool:Rp Bool:=⟨1,false,fun n=>[.bool n],fun _=>rfl,ph⟩
def Rp.str:Rp (List UInt8):=⟨1,false,fun n=>[.str n],fun _=>rfl,ph⟩
def Rp.list {α:Type} (r:Rp α):Rp (List α):=⟨1,false,fun xs=>[.sl xs.length r.size (xs.flatMap r.lv)],fun _=>rfl,ph⟩
structure Gh where
 col:Nat->Nat
 box:Nat->Nat
def Gh.F (γ:Gh) (C:List Nat):Fp:=fun b=>γ.col b∈C
structure Cu where
 R:List Nat->List Nat->Nat->Gh->World->Value->Prop
 one:∀{C1 C2:List Nat} {ℓ:Nat} {γ:Gh} {w:World} {v:Value},R C1 C2 ℓ γ w v->v.oneCell'=true
 move:∀{C1 C2 C1' C2':List Nat} {ℓ ℓ':Nat} {γ γ':Gh} {w w':World} {v:Value},w.heap.size<=w'.heap.size->(∀b,b<w.heap.size->γ.col b∈ℓ::(C1++C2)->w'.heap[b]? =w.heap[b]?)->(∀b,b<w.heap.size->γ.col b=ℓ->γ'.col b=ℓ')->
  (∀b,b<w.heap.size->γ.F C1 b->γ'.F C1' b)->(∀b,b<w.heap.size->γ.F C2 b->γ'.F C2' b)->γ'.box ℓ'=γ.box ℓ->R C1 C2 ℓ γ w v->R C1' C2' ℓ' γ' w' v
inductive AV:Type 1 where
 | any
 | lf (l:LV)
 | sl {α:Type} (r:Rp α) (C:List Nat) (xs:List α)
 | own {α:Type} (r:Rp α) (e:TypeId) (ℓ:Nat) (C:List Nat) (xs:List α)
 | rc {α:Type} (r:Rp α) (C:List Nat) (x:α)
 | ep {α:Type} (r:Rp α) (C:List Nat) (x:α) (off:Nat)
 | ptr (ℓ off:Nat)
 | mp {κ ν:Type} (rk:Rp κ) (rv:Rp ν) (C:List Nat) (m:List (κ×ν))
 | om {κ ν:Type} (rk:Rp κ) (rv:Rp ν) (ℓ:Nat) (C:List Nat) (m:List (κ×ν))
 | tup (l:List AV)
 | ag (l:List AV)
 | fv (g:Nat) (l:List AV)
 | bp {α:Type} (r:Rp α) (t:TypeId) (ℓ:Nat) (C:List Nat) (x:α)
 | it {κ ν:Type} (rk:Rp κ) (rv:Rp ν) (ℓ:Nat) (C:List Nat) (last left:List (κ×ν))
 | bs (ℓ n:Nat)
 | tl (ℓ off n:Nat)
 | qp {α:Type} (r:Rp α) (C:List Nat) (o:Option α)
 | em {κ ν:Type} (rk:Rp κ) (rv:Rp ν) (C:List Nat) (m:List (κ×ν))
 | mo {κ α:Type} [DecidableEq κ] (rk:Rp κ) (r:Rp α) (e:TypeId) (ℓ:Nat) (C:List Nat) (m:List (κ×List α))
 | cu (c:Cu) (ℓ:Nat) (C1 C2:List Nat)
def LV.plain:LV->Bool
 | .sl ..=>false
 | _=>true
theorem zbk.plain (h:zbk F w l v) (hp:l.plain=true):zbk G w' l v:=by
 cases h with
 | int k n=>exact .int k n
 | bool b=>exact .bool b
 | str l=>exact .str l
 | val v h=>exact .val v h
 | sl=>cases hp
def VRel {α:Type} (F:Fp) (w:World) (r:Rp α) (x:α) (v:Value):Prop:=zW F w (r.lv x) v.cells.toList/\(r.agg=true->∃cs:List Value,v= .agg cs.toArray)/\(r.agg=false->v.cells=#[v])
theorem VRel.mono {α:Type} {F G:Fp} {w:World} {r:Rp α} {x:α} {v:Value} (h:VRel F w r x v) (hG:∀b,b<w.heap.size->F b->G b):VRel G w r x v:=⟨h.1.mono hG,h.2⟩
theorem VRel.keep {α:Type} {F:Fp} {w w':World} {r:Rp α} {x:α} {v:Value} (h:VRel F w r x v) (hk:zvd F w w'):VRel F w' r x v:=⟨h.1.keep hk,h.2⟩
inductive zdY {κ ν:Type} (F:Fp) (w:World) (rk:Rp κ) (rv:Rp ν):List (κ×ν)->List MapEntry->Prop
 | nil:zdY F w rk rv [] []
 | cons {p:κ×ν} {m:List (κ×ν)} {e:MapEntry} {es:List MapEntry} (h1:VRel F w rk p.1 e.key) (h2:VRel F w rv p.2 e.val) (h:zdY F w rk rv m es):zdY F w rk rv (p::m) (e::es)
theorem zdY.mono {κ ν:Type} {F G:Fp} {w:World} {rk:Rp κ} {rv:Rp ν} {m:List (κ×ν)} {es:List MapEntry} (h:zdY F w rk rv m es) (hG:∀b,b<w.heap.size->F b->G b):zdY G w rk rv m es:=by
 induction h with
 | nil=>exact .nil
 | cons h1 h2 _ ih=>exact .cons (h1.mono hG) (h2.mono hG) ih
theorem zdY.keep {κ ν:Type} {F:Fp} {w w':World} {rk:Rp κ} {rv:Rp ν} {m:List (κ×ν)} {es:List MapEntry} (h:zdY F w rk rv m es) (hk:zvd F w w'):zdY F w' rk rv m es:=by
 induction h with
 | nil=>exact .nil
 | cons h1 h2 _ ih=>exact .cons (h1.keep hk) (h2.keep hk) ih
def StOk {κ ν:Type} (m:List (κ×ν)) (es:Array MapEntry) (cl:Nat):Prop:=(∀x∈es.toList,x.born<cl)/\(es.toList.map (·.born)).Nodup/\(m.map Prod.fst).Nodup
def mget {κ ν:Type} [DecidableEq κ]:List (κ×ν)->κ->Option ν
 | [],_=>none
 | p::m,k=>if k=p.1 then some p.2 else mget m k
def mput {κ ν:Type} [DecidableEq κ]:List (κ×ν)->κ->ν->List (κ×ν)
 | [],k,x=>[(k,x)]
 | p::m,k,x=>if k=p.1 then (k,x)::m else p::mput m k x
def Rp.valR:Rp Value:=⟨1,false,fun v=>[.val v],fun _=>rfl,by decide⟩
def znv {α:Type} (γ:Gh) (w:World) (r:Rp α) (e:TypeId) (ℓ:Nat) (C:List Nat) (xs:List α) (v:Value):Prop:=
 ∃cs,w.ownsRow 0 e r.size v xs.length cs/\(∀g,v.ownBlock=some g->γ.col g=ℓ)/\zW (γ.F C) w (xs.flatMap r.lv) cs
def zCA (u v:Value):Prop:=∀g,u.ownBlock=some g->v.ownBlock≠some g
structure zJQ {κ α:Type} [DecidableEq κ] (γ:Gh) (w:World) (r:Rp α) (e:TypeId) (ℓ:Nat) (C:List Nat) (S:κ->Prop) (m:List (κ×List α)) (n:List (κ×Value)):Prop where
 keys:m.map Prod.fst=n.map Prod.fst
 row:∀k xs u,mget m k=some xs->mget n k=some u->S k->znv γ w r e ℓ C xs u
 apart:∀j k u v,j≠k->mget n j=some u->mget n k=some v->S j->S k->zCA u v
def MoIn {κ α:Type} [DecidableEq κ] (γ:Gh) (w:World) (rk:Rp κ) (r:Rp α) (e:TypeId) (ℓ:Nat) (C:List Nat) (S:κ->Prop) (m:List (κ×List α)) (b:Nat) (n:List (κ×Value)):Prop:=
 ∃es cl,(γ.col b=ℓ/\γ.box ℓ=b)/\b<w.heap.size/\w.heap[b]? =some (.map es cl)/\StOk n es cl/\zdY (γ.F C) w rk Rp.valR n es.toList/\zJQ γ w r e ℓ C S m n/\ℓ∉C
def zKJ {κ ν:Type} (F:Fp) (w:World) (rk:Rp κ) (rv:Rp ν) (last left:List (κ×ν)) (b r:Nat):Prop:=
 ∃es cl seen since c0 ls la,w.heap[r]? =some (.mapIter (some b) since seen c0)/\w.heap[b]? =some (.map es cl)/\(∀x∈es.toList,x.born<since)/\(es.toList.map (·.born)).Nodup/\since<=c0/\since<=cl/\
  ls.Perm (leftOf es seen).toList/\zdY F w rk rv left ls/\zdY F w rk rv last la/\∀e∈la,e∈es.toList/\(∃se:Array Nat,seen=se.push e.born)/\c0=cl
mutual
def AV.rel (γ:Gh) (w:World):AV->Value->Prop
 | .any,_=>True
 | .lf l,v=>l.plain=true/\zbk (fun _=>False) w l v
 | .sl r C xs,v=>zbk (γ.F C) w (.sl xs.length r.size (xs.flatMap r.lv)) v
 | .own r e ℓ C xs,v=>∃cs,w.ownsRow 0 e r.size v xs.length cs/\(∀g,v.ownBlock=some g->γ.col g=ℓ/\γ.box ℓ=g)/\zW (γ.F C) w (xs.flatMap r.lv) cs/\ℓ∉C
 | .rc r C x,v=>∃cs,v= .agg cs.toArray/\zW (γ.F C) w (r.lv x) cs
 | .ep r C x off,v=>∃b o cs,v= .pointer (some ⟨b,o+off,none⟩)/\γ.col b∈C/\b<w.heap.size/\zW (γ.F C) w (r.lv x) cs/\∀i,i<cs.length->w.cell? ⟨b,o+i,none⟩=cs[i]?
 | .ptr ℓ off,v=>v= .pointer (some ⟨γ.box ℓ,off,none⟩)
 | .bs ℓ n,v=>v= .slice (some ⟨γ.box ℓ,0,none⟩) n n
 | .tl ℓ off n,v=>∃A c,v= .slice A n c/\(0<n->A=some ⟨γ.box ℓ,off,none⟩)
 | .qp r C o,v=>match o with
  | none=>v= .pointer none
  | some x=>∃b cs,v= .pointer (some ⟨b,0,none⟩)/\γ.col b∈C/\b<w.heap.size/\zW (γ.F C) w (r.lv x) cs/\∀i,i<cs.length->w.cell? ⟨b,0+i,none⟩=cs[i]?
 | .mp rk rv C m,v=>∃b es cl,v= .map (some b)/\γ.col b∈C/\b<w.heap.size/\(w.heap[b]? =some (.map es cl)/\StOk m es cl)/\zdY (γ.F C) w rk rv m es.toList
 | .em rk rv C m,v=>∃a b es cl,v= .pointer (some ⟨a,0,none⟩)/\γ.col a∈C/\a<w.heap.size/\w.cell? ⟨a,0,none⟩=some (.map (some b))/\γ.col b∈C/\b<w.heap.size/\(w.heap[b]? =some (.map es cl)/\StOk m es cl)/\zdY (γ.F C) w rk rv m es.toList
 | .om rk rv ℓ C m,v=>∃b es cl,v= .map (some b)/\(γ.col b=ℓ/\γ.box ℓ=b)/\b<w.heap.size/\(w.heap[b]? =some (.map es cl)/\StOk m es cl)/\zdY (γ.F C) w rk rv m es.toList/\ℓ∉C
 | @AV.mo _ _ _ rk r e ℓ C m,v=>∃b n,v= .map (some b)/\MoIn γ w rk r e ℓ C (fun _=>True) m b n
 | .cu c ℓ C1 C2,v=>c.R C1 C2 ℓ γ w v
 | .tup l,v=>∃vs:List Value,v= .tuple vs.toArray/\AV.relL γ w l vs
 | .ag l,v=>∃vs:List Value,v= .agg vs.toArray/\AV.relL γ w l vs/\∀u∈vs,u.oneCell'=true
 | .fv g l,v=>∃vs:List Value,v= .func (.func g) #[] vs.toArray/\AV.relL γ w l vs
 | .bp r t ℓ C x,v=>∃b cs,v= .pointer (some ⟨b,0,none⟩)/\(γ.col b=ℓ/\γ.box ℓ=b)/\b<w.heap.size/\w.heap[b]? =some (.cells cs t (0,0))/\(∀u∈cs.toList,u.oneCell'=true)/\zW (γ.F C) w (r.lv x) cs.toList
 | .it rk rv ℓ C last left,v=>∃r b,v= .pointer (some ⟨r,0,none⟩)/\(γ.col r=ℓ/\γ.box ℓ=r)/\r<w.heap.size/\γ.col b∈C/\b<w.heap.size/\zKJ (γ.F C) w rk rv last left b r/\ℓ∉C
def AV.relL (γ:Gh) (w:World):List AV->List Value->Prop
 | [],vs=>vs=[]
 | a::l,vs=>∃v vs',vs=v::vs'/\AV.rel γ w a v/\AV.relL γ w l vs'
end
mutual
/-- The colors that a reading looks at. -/
def AV.cols:AV->List Nat
 | .any| .lf _| .ptr _ _| .bs _ _| .tl _ _ _=>[]
 | .sl _ C _| .rc _ C _| .ep _ C _ _| .qp _ C _=>C
 | .own _ _ ℓ C _=>ℓ::C
 | .mp _ _ C _| .em _ _ C _=>C
 | .om _ _ ℓ C _=>ℓ::C
 | @AV.mo _ _ _ _ _ _ ℓ C _=>ℓ::C
 | .cu _ ℓ C1 C2=>ℓ::(C1++C2)
 | .tup l=>AV.colsL l
 | .ag l=>AV.colsL l
 | .fv _ l=>AV.colsL l
 | .bp _ _ ℓ C _=>ℓ::C
 | .it _ _ ℓ C _ _=>ℓ::C
def AV.colsL:List AV->List Nat
 | []=>[]
 | a::l=>AV.cols a++AV.colsL l
end
mutual
/-- The boxes that it points into. -/
def AV.labs:AV->List Nat
 | .ptr ℓ _=>[ℓ]
 | .bs ℓ _=>[ℓ]
 | .tl ℓ _ _=>[ℓ]
 | .own _ _ ℓ _ _=>[ℓ]
 | .om _ _ ℓ _ _=>[ℓ]
 | @AV.mo _ _ _ _ _ _ ℓ _ _=>[ℓ]
 | .cu _ ℓ _ _=>[ℓ]
 | .tup l=>AV.labsL l
 | .ag l=>AV.labsL l
 | .fv _ l=>AV.labsL l
 | .bp _ _ ℓ _ _=>[ℓ]
 | .it _ _ ℓ _ _ _=>[ℓ]
 | _=>[]
def AV.labsL:List AV->List Nat
 | []=>[]
 | a::l=>AV.labs a++AV.labsL l
end
structure Tr (W V:List Nat) (γ:Gh) (w:World) (γ':Gh) (w':World):Prop where
 os:w'.os=w.os
 tape:w'.tape=w.tape
 output:w'.output=w.output
 size:w.heap.size<=w'.heap.size
 block:∀b,b<w.heap.size->γ.col b∉W->w'.heap[b]? =w.heap[b]?
 col:∀b,b<w.heap.size->γ'.col b=γ.col b
 box:∀ℓ,ℓ∉V->γ'.box ℓ=γ.box ℓ
 fresh:∀b,w.heap.size<=b->b<w'.heap.size->γ'.col b=0->0∈W\/0∈V
section
variable {W V:List Nat} {γ γ':Gh} {w w':World}
theorem Tr.refl (W V:List Nat) (γ:Gh) (w:World):Tr W V γ w γ w:=⟨rfl,rfl,rfl,xB _,fun _ _ _=>rfl,fun _ _=>rfl,fun _ _=>rfl,fun b h1 h2=>by omega⟩
theorem Tr.lv (h:Tr W V γ w γ' w') (hC:∀c∈C,c∉W) (hl:zbk (γ.F C) w l v):zbk (γ'.F C) w' l v:=by
 have h1:zbk (fun b=>γ.F C b/\b<w.heap.size) w l v:=hl.mono fun b hb hF=>⟨hF,hb⟩
 refine (h1.keep (w':=w') ⟨h.size,fun b hb hF=>h.block b hb (hC _ hF.1)⟩).mono fun b hb hF=>?_
 show γ'.col b∈C;rw [h.col b hF.2];exact hF.1
theorem Tr.all (h:Tr W V γ w γ' w') (hC:∀c∈C,c∉W) (hl:zW (γ.F C) w ls cs):zW (γ'.F C) w' ls cs:=
 ⟨hl.1,fun i l u h1 h2=>h.lv hC (hl.2 i l u h1 h2)⟩
theorem Tr.es (h:Tr W V γ w γ' w') {C:List Nat} (hC:∀c∈C,c∉W) {κ ν:Type} {rk:Rp κ} {rv:Rp ν} {m:List (κ×ν)} {es:List MapEntry} (hl:zdY (γ.F C) w rk rv m es):zdY (γ'.F C) w' rk rv m es:=by
 induction hl with
 | nil=>exact .nil
 | cons h1 h2 _ ih=>exact .cons ⟨h.all hC h1.1,h1.2⟩ ⟨h.all hC h2.1,h2.2⟩ ih
theorem zjl (ho:w.ownsRow base e size v n cs) (hb:∀g,v.ownBlock=some g->w'.heap[g]? =w.heap[g]?):w'.ownsRow base e size v n cs:=by
 refine ⟨ho.1,?_⟩;rcases ho.2 with hn| ⟨g,cap,cur,rfl,hg,hh,rest⟩
 ·exact .inl hn
 ·exact .inr ⟨g,cap,cur,rfl,hg,(hb g rfl).trans hh,rest⟩
theorem MoIn.off {κ α:Type} [DecidableEq κ] {γ:Gh} {w:World} {rk:Rp κ} {r:Rp α} {e:TypeId} {ℓ:Nat} {C:List Nat} {S:κ->Prop} {m:List (κ×List α)} {b:Nat} {n:List (κ×Value)} (h:MoIn γ w rk r e ℓ C S m b n):ℓ∉C:=by
 obtain ⟨es,cl,_,_,_,_,_,_,hn⟩:=h;exact hn
theorem MoIn.regh {κ α:Type} [DecidableEq κ] {γ γ':Gh} {w:World} {rk:Rp κ} {r:Rp α} {e:TypeId} {ℓ ℓ':Nat} {C C':List Nat} {S:κ->Prop} {m:List (κ×List α)} {b:Nat} {n:List (κ×Value)} (h1:∀b,b<w.heap.size->γ.col b=ℓ->γ'.col b=ℓ')
  (h2:∀b,b<w.heap.size->γ.col b∈C->γ'.col b∈C') (h3:γ'.box ℓ'=γ.box ℓ) (h4:ℓ'∉C') (h:MoIn γ w rk r e ℓ C S m b n):MoIn γ' w rk r e ℓ' C' S m b n:=by
 obtain ⟨es,cl,⟨g1,g2⟩,hb,hh,hO,hE,hR,_⟩:=h;refine ⟨es,cl,⟨h1 b hb g1,h3.trans g2⟩,hb,hh,hO,hE.mono h2,⟨hR.keys,fun k xs u a1 a2 a3=>?_,hR.apart⟩,h4⟩;obtain ⟨cs,ho,hg,hA⟩:=hR.row k xs u a1 a2 a3;exact ⟨cs,ho,fun g hgb=>h1 g (ho.lt g hgb).2 (hg g hgb),hA.mono h2⟩
theorem znv.keep (h:Tr W V γ w γ' w') {α:Type} {r:Rp α} {e:TypeId} {ℓ:Nat} {C:List Nat} {xs:List α} {v:Value} (h1:ℓ∉W) (h2:∀c∈C,c∉W) (hr:znv γ w r e ℓ C xs v):znv γ' w' r e ℓ C xs v:=by
 obtain ⟨cs,ho,hg,hA⟩:=hr;have hlt:=ho.lt;exact ⟨cs,zjl ho fun g hgb=>h.block g (hlt g hgb).2 (by rw [hg g hgb];exact h1),fun g hgb=>by rw [h.col g (hlt g hgb).2];exact hg g hgb,h.all h2 hA⟩
theorem MoIn.keep (h:Tr W V γ w γ' w') {κ α:Type} [DecidableEq κ] {rk:Rp κ} {r:Rp α} {e:TypeId} {ℓ:Nat} {C:List Nat} {S:κ->Prop} {m:List (κ×List α)} {b:Nat} {n:List (κ×Value)} (h1:ℓ∉W) (h2:∀c∈C,c∉W) (h3:ℓ∉V)
  (hr:MoIn γ w rk r e ℓ C S m b n):MoIn γ' w' rk r e ℓ C S m b n:=by
 obtain ⟨es,cl,⟨g1,g2⟩,hb,hh,hO,hE,hR,hn⟩:=hr;exact ⟨es,cl,⟨by rw [h.col b hb];exact g1,by rw [h.box ℓ h3];exact g2⟩,xT hb h.size,(h.block b hb (by rw [g1];exact h1)).trans hh,hO,h.es h2 hE,⟨hR.keys,fun k xs u a1 a2 a3=>(hR.row k xs u a1 a2 a3).keep h h1 h2,hR.apart⟩,hn⟩
mutual
theorem AV.keep (a:AV) {v:Value} (h:Tr W V γ w γ' w') (hc:∀c∈a.cols,c∉W) (hl:∀c∈a.labs,c∉V) (hr:a.rel γ w v):a.rel γ' w' v:=by
 match a with
 | .any=>trivial
 | .lf l=>exact ⟨hr.1,hr.2.plain hr.1⟩
 | .sl r C xs=>exact h.lv hc hr
 | .own r e ℓ C xs=>
  obtain ⟨cs,ho,hg,hA,hn⟩:=hr;have hlt:=ho.lt;refine ⟨cs,zjl ho fun g hgb=>h.block g (hlt g hgb).2 ?_,fun g hgb=>?_,h.all (fun c hC=>hc c (xy _ hC)) hA,hn⟩
  ·rw [(hg g hgb).1];exact hc ℓ xx
  ·rw [h.col g (hlt g hgb).2,h.box ℓ (hl ℓ xx)];exact hg g hgb
 | .rc r C x=>
  obtain ⟨cs,hv,hA⟩:=hr;exact ⟨cs,hv,h.all hc hA⟩
 | .ep r C x off=>
  obtain ⟨b,o,cs,hv,hF,hb,hA,hcell⟩:=hr;refine ⟨b,o,cs,hv,by rw [h.col b hb];exact hF,xT hb h.size,h.all hc hA,fun i hi=>?_⟩;rw [<-hcell i hi];exact pB (h.block b hb (hc _ hF))
 | .ptr ℓ off=>
  show v=_;rw [h.box ℓ (hl ℓ xx)];exact hr
 | .bs ℓ n=>
  show v=_;rw [h.box ℓ (hl ℓ xx)];exact hr
 | .tl ℓ off n=>
  obtain ⟨A,c,hv,hA⟩:=hr;exact ⟨A,c,hv,fun hn=>by rw [h.box ℓ (hl ℓ xx)];exact hA hn⟩
 | .qp r C o=>
  cases o with
  | none=>exact hr
  | some x=>
   obtain ⟨b,cs,hv,hF,hb,hA,hcell⟩:=hr;refine ⟨b,cs,hv,by rw [h.col b hb];exact hF,xT hb h.size,h.all hc hA,fun i hi=>?_⟩;rw [<-hcell i hi];exact pB (h.block b hb (hc _ hF))
 | .mp rk rv C m=>
  obtain ⟨b,es,cl,hv,hF,hb,hh,hE⟩:=hr;exact ⟨b,es,cl,hv,by rw [h.col b hb];exact hF,xT hb h.size,⟨(h.block b hb (hc _ hF)).trans hh.1,hh.2⟩,h.es hc hE⟩
 | .em rk rv C m=>
  obtain ⟨a,b,es,cl,hv,hFa,ha,hc1,hF,hb,hh,hE⟩:=hr;exact ⟨a,b,es,cl,hv,by rw [h.col a ha];exact hFa,xT ha h.size,(pB (h.block a ha (hc _ hFa))).trans hc1,by rw [h.col b hb];exact hF,xT hb h.size,⟨(h.block b hb (hc _ hF)).trans hh.1,hh.2⟩,h.es hc hE⟩
 | .om rk rv ℓ C m=>
  obtain ⟨b,es,cl,hv,⟨hF,hbx⟩,hb,hh,hE,hn⟩:=hr;exact ⟨b,es,cl,hv,⟨by rw [h.col b hb];exact hF,by rw [h.box ℓ (hl ℓ xx)];exact hbx⟩,xT hb h.size,⟨(h.block b hb (by rw [hF];exact hc ℓ xx)).trans hh.1,hh.2⟩,h.es (fun c hC=>hc c (xy _ hC)) hE,hn⟩
 | @AV.mo _ _ _ rk r e ℓ C m=>
  obtain ⟨b,n,hv,hm⟩:=hr;exact ⟨b,n,hv,hm.keep h (hc ℓ xx) (fun c hC=>hc c (xy _ hC)) (hl ℓ xx)⟩
 | .cu c ℓ C1 C2=>
  refine c.move h.size (fun b hb hc'=>h.block b hb (hc _ hc')) (fun b hb e=>by rw [h.col b hb];exact e) (fun b hb hF=>?_) (fun b hb hF=>?_) (h.box ℓ (hl ℓ xx)) hr
  ·show γ'.col b∈C1;rw [h.col b hb];exact hF
  ·show γ'.col b∈C2;rw [h.col b hb];exact hF
 | .tup l=>
  obtain ⟨vs,hv,hL⟩:=hr;exact ⟨vs,hv,AV.keepL l h hc hl hL⟩
 | .ag l=>
  obtain ⟨vs,hv,hL,h1⟩:=hr;exact ⟨vs,hv,AV.keepL l h hc hl hL,h1⟩
 | .fv g l=>
  obtain ⟨vs,hv,hL⟩:=hr;exact ⟨vs,hv,AV.keepL l h hc hl hL⟩
 | .bp r t ℓ C x=>
  obtain ⟨b,cs,hv,⟨hF,hbx⟩,hb,hh,h1,hA⟩:=hr;exact ⟨b,cs,hv,⟨by rw [h.col b hb];exact hF,by rw [h.box ℓ (hl ℓ xx)];exact hbx⟩,xT hb h.size,(h.block b hb (by rw [hF];exact hc ℓ xx)).trans hh,h1,h.all (fun c hC=>hc c (xy _ hC)) hA⟩
 | .it rk rv ℓ C last left=>
  obtain ⟨r,b,hv,⟨g1,g2⟩,hr',hF,hb,⟨es,cl,seen,since,c0,ls,la,i1,i2,i3,i4,i5,i6,i7,i8,i9,i10⟩,hn⟩:=hr;have hC:∀c∈C,c∉W:=fun c h1=>hc c (xy _ h1)
  exact ⟨r,b,hv,⟨by rw [h.col r hr'];exact g1,by rw [h.box ℓ (hl ℓ xx)];exact g2⟩,xT hr' h.size,by rw [h.col b hb];exact hF,xT hb h.size,
   ⟨es,cl,seen,since,c0,ls,la,(h.block r hr' (by rw [g1];exact hc ℓ xx)).trans i1,(h.block b hb (hC _ hF)).trans i2,i3,i4,i5,i6,i7,h.es hC i8,h.es hC i9,i10⟩,hn⟩
theorem AV.keepL (l:List AV) (h:Tr W V γ w γ' w') (hc:∀c∈AV.colsL l,c∉W) (hl:∀c∈AV.labsL l,c∉V) (hr:AV.relL γ w l vs):AV.relL γ' w' l vs:=by
 match l with
 | []=>exact hr
 | a::l=>
  obtain ⟨v,vs',rfl,h1,h2⟩:=hr
  exact ⟨v,vs',rfl,AV.keep a h (fun c hC=>hc c (xU _ hC)) (fun c hC=>hl c (xU _ hC)) h1,
   AV.keepL l h (fun c hC=>hc c (xV _ hC)) (fun c hC=>hl c (xV _ hC)) h2⟩
end
theorem Tr.trans (h:Tr W V γ w γ' w') (k:Tr W' V' γ' w' γ'' w''):Tr (W++W') (V++V') γ w γ'' w'':=by
 refine ⟨k.os.trans h.os,k.tape.trans h.tape,k.output.trans h.output,yi h.size k.size,fun b hb hn=>?_,fun b hb=>?_,fun ℓ hn=>?_,fun b h1 h2 h0=>?_⟩
 ·simp only [xD,not_or] at hn;rw [k.block b (xT hb h.size) (by rw [h.col b hb];exact hn.2),h.block b hb hn.1]
 ·rw [k.col b (xT hb h.size),h.col b hb]
 ·simp only [xD,not_or] at hn;rw [k.box ℓ hn.2,h.box ℓ hn.1]
 ·simp only [xD];by_cases hb:b<w'.heap.size
  ·rcases h.fresh b h1 hb (by rw [<-k.col b hb];exact h0) with e| e
   ·exact .inl (.inl e)
   ·exact .inr (.inl e)
  ·rcases k.fresh b (qR hb) h2 h0 with e| e
   ·exact .inl (.inr e)
   ·exact .inr (.inr e)
end
structure Bx where
 lab:Nat
 typ:TypeId
 avs:List AV
def Bx.rel (γ:Gh) (w:World) (b:Bx):Prop:=
 γ.col (γ.box b.lab)=b.lab/\∃cs:List Value,w.heap[γ.box b.lab]? =some (.cells cs.toArray b.typ (0,0))/\AV.relL γ w b.avs cs/\∀u∈cs,u.oneCell'=true
structure Env where
 sl:List (Nat×AV)
 bx:List Bx
def memN (c:Nat):List Nat->Bool
 | []=>false
 | x::l=>Nat.beq c x|| memN c l
theorem zbt :memN c l=true↔c∈l:=by
 induction l with
 | nil=>simp [memN]
 | cons x l ih=>simp [memN,ih]
def AV.free (W V:List Nat) (a:AV):Bool:=a.cols.all (fun c=> !memN c W)&&a.labs.all (fun c=> !memN c V)
theorem AV.free_spec {W V:List Nat} {a:AV} (h:a.free W V=true):(∀c∈a.cols,c∉W)/\∀c∈a.labs,c∉V:=by
 unfold AV.free at h;simp only [xA,xJ,ym] at h;refine ⟨fun c hc hw=>?_,fun c hc hw=>?_⟩
 ·have:=h.1 c hc;rw [zbt.2 hw] at this;cases this
 ·have:=h.2 c hc;rw [zbt.2 hw] at this;cases this
def lookup:List (Nat×AV)->Nat->Option AV
 | [],_=>none
 | p::l,k=>match Nat.beq p.1 k with
  | true=>some p.2
  | false=>lookup l k
theorem zeS (h:lookup l k=some a):(k,a)∈l:=by
 induction l with
 | nil=>cases h
 | cons p l ih=>
  rw [lookup] at h;split at h
  ·rename_i hb;have:=xL hb;obtain ⟨p1,p2⟩:=p;cases h;simp only at this;subst this;exact xx
  ·exact xy _ (ih h)
def zrJ:Value->Option AV
 | .int k n=>some (.lf (.int k n))
 | .bool b=>some (.lf (.bool b))
 | .string s=>some (.lf (.str s.data.toList))
 | .slice none n c=>some (.lf (.val (.slice none n c)))
 | .nilFunc=>some (.lf (.val .nilFunc))
 | .pointer none=>some (.lf (.val (.pointer none)))
 | .map none=>some (.lf (.val (.map none)))
 | .nilIface=>some (.lf (.val .nilIface))
 | _=>none
theorem znx (h:zrJ v=some a) (γ:Gh) (w:World):a.rel γ w v:=by
 unfold zrJ at h;split at h
 all_goals cases h
 ·exact ⟨rfl,.int _ _⟩
 ·exact ⟨rfl,.bool _⟩
 ·rename_i s;refine ⟨rfl,?_⟩;have:=zbk.str (F:=fun _=>False) (w:=w) s.data.toList;simpa using this
 all_goals exact ⟨rfl,.val _ rfl⟩
def Env.opd (E:Env):Operand->Option AV
 | .tmp t=>lookup E.sl t
 | .const v=>zrJ v
 | .func f=>some (.lf (.val (.func (.func f) #[] #[])))
 | .global _=>none
def spB (c:Nat):Bool:=Nat.ble 800000 c&&Nat.ble c 899999
structure zwh (γ γ':Gh):Prop where
 zero:∀b,γ.col b=0->γ'.col b=0
 one:∀b,γ.col b=1->γ'.col b=1
 back:∀b,γ'.col b=0->γ.col b=0
 old:∀b,spB (γ.col b)=true->γ'.col b=γ.col b
structure Ext where
 X:Gh->World->Prop
 tr:∀{γ γ':Gh} {w w':World} {W V:List Nat},X γ w->Tr W V γ w γ' w'->(∀c∈W,2<=c)->(∀c∈V,2<=c)->X γ' w'
 ren:∀{γ γ':Gh} {w:World},X γ w->zwh γ γ'->X γ' w
 base:Nat
 le:∀{γ:Gh} {w:World},X γ w->base<=w.heap.size
def fnX (w0:World) (F:Fp):Ext where
 X γ w:=Below w0.heap.size w0 w/\(∀b,b<w0.heap.size->(γ.col b=0/\F b)\/γ.col b=1)/\∀b,w0.heap.size<=b->b<w.heap.size->γ.col b≠0
 tr:=fun {γ γ' w w' W V} h t hW hV=>by
  have hlt:∀b,b<w0.heap.size->b<w.heap.size:=fun b hb=>xT hb h.1.size
  have hn:∀b,b<w0.heap.size->γ.col b∉W:=fun b hb hc=>by
   have:=hW _ hc;rcases h.2.1 b hb with ⟨h0,_⟩| h0<;>omega
  refine ⟨⟨t.os.trans h.1.os,t.tape.trans h.1.tape,t.output.trans h.1.output,yi h.1.size t.size,fun b hb=>?_⟩,fun b hb=>?_,fun b h1 h2 h0=>?_⟩
  ·rw [t.block b (hlt b hb) (hn b hb)];exact h.1.block b hb
  ·rw [t.col b (hlt b hb)];exact h.2.1 b hb
  ·by_cases hb:b<w.heap.size
   ·exact h.2.2 b h1 hb (by rw [<-t.col b hb];exact h0)
   ·rcases t.fresh b (qR hb) h2 h0 with e| e
    ·have:=hW _ e;omega
    ·have:=hV _ e;omega
 ren:=fun {γ γ' w} h k=>⟨h.1,fun b hb=>(h.2.1 b hb).imp (fun ⟨h0,hF⟩=>⟨k.zero b h0,hF⟩) (k.one b),fun b h1 h2 h0=>h.2.2 b h1 h2 (k.back b h0)⟩
 base:=w0.heap.size
 le:=fun h=>h.1.size
def zto (n0:Nat) (γ:Gh) (w:World) (ds:List Deferred):Prop:=
 ∃Ds:List Nat,ds=Ds.map (fun D=>{target:= .collected D,args:=#[]})/\Ds.Nodup/\∀D∈Ds,n0<=D/\w.heap[D]? =some (.deferred (some []))/\γ.col D=1
theorem zto.tr (h:zto n0 γ w ds) (t:Tr W V γ w γ' w') (hW:∀c∈W,2<=c):zto n0 γ' w' ds:=by
 obtain ⟨Ds,e,hn,h⟩:=h;refine ⟨Ds,e,hn,fun D hD=>?_⟩;obtain ⟨h0,h1,h2⟩:=h D hD;have hlt:=(xY.1 h1).1;refine ⟨h0,?_,(t.col D hlt).trans h2⟩;rw [t.block D hlt (fun hc=>by have:=hW _ hc;omega)];exact h1
theorem zto.ren (h:zto n0 γ w ds) (k:zwh γ γ'):zto n0 γ' w ds:=by
 obtain ⟨Ds,e,hn,h⟩:=h;exact ⟨Ds,e,hn,fun D hD=>⟨(h D hD).1,(h D hD).2.1,k.one D (h D hD).2.2⟩⟩
structure Lim where
 n:Nat
 keep:List Nat
structure Cx where
 n:Lim
 X:Ext
 marked:Bool
 old:Array Value
structure Base (cx:Cx) (γ:Gh) (a:Act) (w:World):Prop where
 defers:zto cx.X.base γ w a.defers
 clean:cx.marked=false->a.defers=[]
 size:a.tmps.size=cx.n.n
 kept:∀k∈cx.n.keep,a.tmps.getD k undef=cx.old.getD k undef
 ext:cx.X.X γ w
def Sl (γ:Gh) (w:World) (a:Act) (l:List (Nat×AV)):Prop:=∀p∈l,p.2.rel γ w (a.tmps.getD p.1 undef)
def Bxs (γ:Gh) (w:World) (l:List Bx):Prop:=∀b∈l,b.rel γ w
def Sx (cx:Cx) (E:Env) (a:Act) (w:World):Prop:=∃γ,Base cx γ a w/\Sl γ w a E.sl/\Bxs γ w E.bx
theorem Env.opd_rel {E:Env} {x:Operand} {av:AV} (h:E.opd x=some av) {γ:Gh} {w:World} {a:Act} (hs:Sl γ w a E.sl):av.rel γ w (a.eval x):=by
 cases x with
 | tmp t=>exact hs _ (zeS h)
 | const v=>exact znx h γ w
 | global g=>cases h
 | func f=>cases h;exact ⟨rfl,.val _ rfl⟩
def zif (d:Option Nat) (av:AV) (l:List (Nat×AV)):List (Nat×AV):=
 match d with
 | none=>l
 | some d=>(d,av)::l.filter fun p=> !Nat.beq p.1 d
def zCP (d:Option Nat) (l:List (Nat×AV)):List (Nat×AV):=
 match d with
 | none=>l
 | some d=>l.filter fun p=> !Nat.beq p.1 d
theorem zly {a:Act} {d k:Nat} {v:Value} (h:k≠d):(a.put (some d) v).tmps.getD k undef=a.tmps.getD k undef:=by
 simp only [Act.put,yD];rw [pE (Ne.symm h)]
theorem zfF {a:Act} {d:Nat} {v:Value} (h:d<a.tmps.size):(a.put (some d) v).tmps.getD d undef=v:=by
 simp only [Act.put,yD];rw [uE h];rfl
theorem zke (a:Act) (d:Option Nat) (v:Value):(a.put d v).defers=a.defers:=by cases d<;>rfl
theorem zrl (a:Act) (d:Option Nat) (v:Value):(a.put d v).tmps.size=a.tmps.size:=by cases d<;>simp [Act.put]
theorem Base.put {cx:Cx} {γ:Gh} {a:Act} {w:World} (h:Base cx γ a w) (d:Option Nat) (v:Value) (hk:∀k,d=some k->k∉cx.n.keep):Base cx γ (a.put d v) w:=
 ⟨by rw [zke];exact h.defers,fun e=>by rw [zke];exact h.clean e,(zrl a d v).trans h.size,fun k hm=>by
  cases d with
  | none=>exact h.kept k hm
  | some d=>
   have hne:k≠d:=fun e=>hk d rfl (by rw [<-e];exact hm)
   rw [zly hne];exact h.kept k hm,h.ext⟩
theorem Sl.drop {γ:Gh} {w:World} {a:Act} {l:List (Nat×AV)} (h:Sl γ w a l) (d:Option Nat) (v:Value):Sl γ w (a.put d v) (zCP d l):=by
 cases d with
 | none=>exact h
 | some d=>
  intro p hp;simp only [zCP,yE,ym] at hp;rw [zly (fun e=>by rw [e] at hp;simp at hp)];exact h p hp.1
theorem Sl.put {γ:Gh} {w:World} {a:Act} {l:List (Nat×AV)} (h:Sl γ w a l) {d:Option Nat} {v:Value} {av:AV} (hd:∀k,d=some k->k<a.tmps.size) (hv:av.rel γ w v):Sl γ w (a.put d v) (zif d av l):=by
 cases d with
 | none=>exact h
 | some d=>
  intro p hp;simp only [zif,xz] at hp;rcases hp with rfl| hp
  ·simp only;rw [zfF (hd d rfl)];exact hv
  ·exact h.drop (some d) v p hp
def ztF (j k:IntKind):Bool:=match j,k with
 | .i8,.i8| .i16,.i16| .i32,.i32| .i64,.i64| .u8,.u8| .u16,.u16| .u32,.u32| .u64,.u64=>true
 | _,_=>false
theorem ztG (h:ztF j k=true):j=k:=by cases j<;>cases k<;>first| rfl| cases h
def andI (k:IntKind) (x y:Int):Int:=k.wrap (BitVec.ofInt k.bits x&&&BitVec.ofInt k.bits y).toNat
def orI (k:IntKind) (x y:Int):Int:=k.wrap (BitVec.ofInt k.bits x||| BitVec.ofInt k.bits y).toNat
def xorI (k:IntKind) (x y:Int):Int:=k.wrap (BitVec.ofInt k.bits x^^^BitVec.ofInt k.bits y).toNat
def zIy (k:IntKind) (x y:Int):Int:=k.wrap (BitVec.ofInt k.bits x&&&~~~BitVec.ofInt k.bits y).toNat
def shlI (k:IntKind) (x y:Int):Int:=k.wrap (x*2^(min y.toNat k.bits))
def shrI (k:IntKind) (x y:Int):Int:=x.fdiv (2^(min y.toNat k.bits))
def zzx (op:BinOp) (k:IntKind) (x y:Int):Option LV:=
 match op with
 | .add=>some (.int k (k.wrap (x+y)))
 | .sub=>some (.int k (k.wrap (x - y)))
 | .mul=>some (.int k (k.wrap (x*y)))
 | .and=>some (.int k (andI k x y))
 | .or=>some (.int k (orI k x y))
 | .xor=>some (.int k (xorI k x y))
 | .andNot=>some (.int k (zIy k x y))
 | .eql=>some (.bool (x==y))
 | .neq=>some (.bool (x !=y))
 | .lss=>some (.bool (decide (x<y)))
 | .leq=>some (.bool (decide (x<=y)))
 | .gtr=>some (.bool (decide (x>y)))
 | .geq=>some (.bool (decide (x>=y)))
 | .quo=>match y with
  | .ofNat (n+1)=>some (.int k (k.wrap (x.tdiv (.ofNat (n+1)))))
  | _=>none
 | .rem=>match y with
  | .ofNat (n+1)=>some (.int k (x.tmod (.ofNat (n+1))))
  | _=>none
 | .shl| .shr=>none
theorem zCC (h:zzx op k x y=some l) (P:Program) (w:World) (t:TypeId):
  ∃v,(binOp op t (.int k x) (.int k y)).run P w= .ok v w/\l.plain=true/\zbk (fun _=>False) w l v:=by
 have hk:¬(k≠k):=fun h=>h rfl
 unfold zzx at h;split at h
 case h_14=>
  split at h
  ·rename_i n;cases h;have hn:¬(Int.ofNat (n+1)=0):=by simp;omega
   exact ⟨_,by simp only [binOp,Op.intDiv];rw [xu hk,xu hn];rfl,rfl,.int _ _⟩
  ·cases h
 case h_15=>
  split at h
  ·rename_i n;cases h;have hn:¬(Int.ofNat (n+1)=0):=by simp;omega
   exact ⟨_,by simp only [binOp,Op.intDiv];rw [xu hk,xu hn];rfl,rfl,.int _ _⟩
  ·cases h
 all_goals first
  | (cases h;done)
  | (cases h;exact ⟨_,by simp only [binOp];rw [xu hk];rfl,rfl,.int _ _⟩)
  | (cases h;exact ⟨_,by simp only [binOp];rw [xu hk];rfl,rfl,.bool _⟩)
  | (cases h;exact ⟨_,by simp only [binOp,Op.intBits];rw [xu hk];rfl,rfl,.int _ _⟩)
def zik:List Bx->Nat->Option Bx
 | [],_=>none
 | b::l,k=>match Nat.beq b.lab k with
  | true=>some b
  | false=>zik l k
theorem zfj (h:zik l k=some b):b∈l/\b.lab=k:=by
 induction l with
 | nil=>cases h
 | cons c l ih=>
  rw [zik] at h;split at h
  ·rename_i hb;cases h;exact ⟨xx,xL hb⟩
  ·obtain ⟨h1,h2⟩:=ih h;exact ⟨xy _ h1,h2⟩
def zzy (op:BinOp) (x y:List UInt8):Option LV:=
 match op with
 | .eql=>some (.bool (x==y))
 | .neq=>some (.bool (!(x==y)))
 | .lss=>some (.bool (Op.bytesLess x y))
 | .leq=>some (.bool (Op.bytesLess x y|| x==y))
 | .gtr=>some (.bool (!(Op.bytesLess x y|| x==y)))
 | .geq=>some (.bool (!(Op.bytesLess x y)))
 | _=>none
def zvL (op:BinOp) (d:Option TypeDesc) (x y:Bool):Option LV:=
 match op,d with
 | .eql,some .bool=>some (.bool (x==y))
 | .neq,some .bool=>some (.bool (!(x==y)))
 | _,_=>none
def zqN (P:Program) (s:TypeId) (f:Nat):Option Nat:=
 match P.underlying s with
 | some (.struct fs)=>match fs[f]? with
  | some fd=>match P.info? fd.type with
   | some i=>match Nat.beq i.size 0 with
    | true=>none
    | false=>some fd.offset
   | none=>none
  | none=>none
 | _=>none
def zfk (P:Program) (t:TypeId):Bool:=
 match P.underlying t with
 | some (.struct _)| some (.array _ _)| none=>false
 | some _=>true
def zHu (d:Option TypeDesc) (x:AV):Option AV:=
 match d,x with
 | some (.slice _),.sl _ _ xs=>some (.lf (.int .i64 xs.length))
 | some (.slice _),.own _ _ _ _ xs=>some (.lf (.int .i64 xs.length))
 | some (.slice _),.lf (.val (.slice _ n _))=>some (.lf (.int .i64 n))
 | some .string,.lf (.str l)=>some (.lf (.int .i64 l.length))
 | _,_=>none
def zCG (P:Program) (ρ:Operand->Option AV) (c:Callee) (args:List Operand) (ts:List TypeId):Option AV:=
 match c,args,ts with
 | .builtin .len,[x],[t]=>match ρ x with
  | some av=>zHu (P.underlying t) av
  | none=>none
 | .builtin .min,[x,y],_=>match ρ x,ρ y with
  | some (.lf (.int k m)),some (.lf (.int j n))=>match ztF k j with
   | true=>some (.lf (.int k (if n<m then n else m)))
   | false=>none
  | _,_=>none
 | .builtin .max,[x,y],_=>match ρ x,ρ y with
  | some (.lf (.int k m)),some (.lf (.int j n))=>match ztF k j with
   | true=>some (.lf (.int k (if m<n then n else m)))
   | false=>none
  | _,_=>none
 | _,_,_=>none
def zuz (P:Program) (ρ:Operand->Option AV) (bx:List Bx):Op->Option AV
 | .move x| .assign x=>ρ x
 | .pick c a b=>match ρ c with
  | some (.lf (.bool true))=>ρ a
  | some (.lf (.bool false))=>ρ b
  | _=>none
 | .binOp op t x y _=>match ρ x,ρ y with
  | some (.lf (.int k m)),some (.lf (.int j n))=>match ztF k j with
   | true=>(zzx op k m n).map .lf
   | false=>none
  | some (.lf (.str l)),some (.lf (.str m))=>(zzy op l m).map .lf
  | some (.lf (.bool a)),some (.lf (.bool b))=>(zvL op (P.underlying t) a b).map .lf
  | _,_=>none
 | .unOp op _ x=>match op,ρ x with
  | .not,some (.lf (.bool b))=>some (.lf (.bool (!b)))
  | .neg,some (.lf (.int k n))=>some (.lf (.int k (k.wrap (0 - n))))
  | _,_=>none
 | .convert s d x=>match P.underlying s,P.underlying d,ρ x with
  | some _,some (.int k),some (.lf (.int _ n))=>some (.lf (.int k (k.wrap n)))
  | some .string,some .string,some (.lf (.str l))=>some (.lf (.str l))
  | _,_,_=>none
 | .extract x i=>match ρ x with
  | some (.tup l)=>l[i]?
  | _=>none
 | .call c=>zCG P ρ c.callee c.args.toList c.argTypes.toList
 | .fieldAddr s x f=>match zqN P s f,ρ x with
  | some o,some (.ptr ℓ off)=>some (.ptr ℓ (off+o))
  | some o,some (.ep r C y off)=>some (.ep r C y (off+o))
  | _,_=>none
 | .load t x=>match zfk P t,ρ x with
  | true,some (.ptr ℓ off)=>match zik bx ℓ with
   | some b=>b.avs[off]?
   | none=>none
  | true,some (.ep r _ y off)=>match (r.lv y)[off]? with
   | some l=>match l.plain with
    | true=>some (.lf l)
    | false=>none
   | none=>none
  | _,_=>none
 | .nilCheck x=>match ρ x with
  | some (.ptr ℓ off)=>some (.ptr ℓ off)
  | some (.ep r C y off)=>some (.ep r C y off)
  | _=>none
 | _=>none
theorem ztW {γ:Gh} {w:World} {l:List AV} {vs:List Value} (h:AV.relL γ w l vs) {i:Nat} {a:AV} (hi:l[i]? =some a):∃v,vs[i]? =some v/\a.rel γ w v:=by
 induction l generalizing vs i with
 | nil=>cases hi
 | cons b l ih=>
  obtain ⟨v,vs',rfl,h1,h2⟩:=h;cases i with
  | zero=>cases hi;exact ⟨v,rfl,h1⟩
  | succ i=>exact ih h2 hi
theorem zdc (h:AV.relL γ w l vs):vs.length=l.length:=by
 induction l generalizing vs with
 | nil=>cases h;rfl
 | cons b l ih=>obtain ⟨v,vs',rfl,h1,h2⟩:=h;simp [ih h2]
theorem zfA (h:AV.rel γ w (.lf (.int k n)) v):v= .int k n:=by cases h.2;rfl
theorem zml (h:AV.rel γ w (.lf (.bool b)) v):v= .bool b:=by cases h.2;rfl
theorem zuF (h:AV.rel γ w (.lf (.str l)) v):v= .string ⟨l.toArray⟩:=by cases h.2;rfl
theorem zsM (h:AV.rel γ w (.lf (.val u)) v):v=u:=by cases h.2;rfl
theorem zkF (γ:Gh) (w:World) (k:IntKind) (n:Int):AV.rel γ w (.lf (.int k n)) (.int k n):=⟨rfl,.int _ _⟩
theorem zvV (γ:Gh) (w:World) (b:Bool):AV.rel γ w (.lf (.bool b)) (.bool b):=⟨rfl,.bool _⟩
theorem zHC (γ:Gh) (w:World) (l:List UInt8):AV.rel γ w (.lf (.str l)) (.string ⟨l.toArray⟩):=⟨rfl,.str _⟩
theorem zJn {γ:Gh} {w:World} {α:Type} {r:Rp α} {C:List Nat} {xs:List α} {v:Value} (h:AV.rel γ w (.sl r C xs) v):∃A c,v= .slice A xs.length c/\xs.length<=c/\c<=maxLen:=by
 have h':zbk (γ.F C) w (.sl xs.length r.size (xs.flatMap r.lv)) v:=h;cases h' with
 | sl _ _ _ A c cs _ _ hc hm=>exact ⟨A,c,rfl,hc,hm⟩
theorem zyY {γ:Gh} {w:World} {α:Type} {r:Rp α} {e:TypeId} {ℓ:Nat} {C:List Nat} {xs:List α} {v:Value} (h:AV.rel γ w (.own r e ℓ C xs) v):∃A c,v= .slice A xs.length c/\xs.length<=c/\c<=maxLen:=by
 obtain ⟨cs,ho,_⟩:=h;rcases ho.2 with ⟨rfl,h0⟩| ⟨g,cap,cur,rfl,_,_,hc,hm,_⟩
 ·rw [h0];exact ⟨none,0,rfl,xB _,xI _⟩
 ·exact ⟨_,_,rfl,hc,hm⟩
theorem zCD (h:zzy op x y=some l) (P:Program) (w:World) (t:TypeId):
  ∃v,(binOp op t (.string ⟨x.toArray⟩) (.string ⟨y.toArray⟩)).run P w= .ok v w/\l.plain=true/\zbk (fun _=>False) w l v:=by
 unfold zzy at h;split at h
 all_goals first
  | (cases h;done)
  | (cases h;exact ⟨_,by simp only [binOp,Op.stringOp,ByteArray.toList_mk];rfl,rfl,.bool _⟩)
theorem zAM (h:zvL op (P.underlying t) x y=some l) (w:World):
    ∃v,(binOp op t (.bool x) (.bool y)).run P w= .ok v w/\l.plain=true/\zbk (fun _=>False) w l v:=by
  unfold zvL at h;split at h
  all_goals first
    | (cases h;done)
    | (rename_i hu;cases h
       have hd:∀d:Nat,(Op.equalIn (d+1) t (.bool x) (.bool y)).run P w= .ok (x==y) w:=fun d=>by simp [Op.equalIn,run_underlying hu]
       exact ⟨_,by simp only [binOp];simp [Op.equal,Op.maxDepth,hd 9999],rfl,.bool _⟩)
theorem zFo {P:Program} {t:TypeId} {x av:AV} (h:zHu (P.underlying t) x=some av) {γ:Gh} {w:World} {v:Value} (hx:x.rel γ w v) (ty:TypeId):
  ∃u,(Builtin.len_ #[t] ty #[v]).run P w= .ok u w/\av.rel γ w u:=by
 unfold zHu at h;split at h
 ·rename_i hu;cases h;obtain ⟨A,c,rfl,_⟩:=zJn hx;exact ⟨_,by simp [Builtin.len_,run_underlying hu,goInt],zkF _ _ _ _⟩
 ·rename_i hu;cases h;obtain ⟨A,c,rfl,_⟩:=zyY hx;exact ⟨_,by simp [Builtin.len_,run_underlying hu,goInt],zkF _ _ _ _⟩
 ·rename_i hu;cases h;rw [zsM hx];exact ⟨_,by simp [Builtin.len_,run_underlying hu,goInt],zkF _ _ _ _⟩
 ·rename_i hu;cases h;rw [zuF hx];exact ⟨_,by simp [Builtin.len_,run_underlying hu,goInt,ByteArray.size_mk'],zkF _ _ _ _⟩
 ·cases h
def Opds (ρ:Operand->Option AV) (γ:Gh) (w:World) (ev:Operand->Value) (l:List Operand):Prop:=∀x∈l,∀av,ρ x=some av->av.rel γ w (ev x)
theorem zrK (P:Program) (op:BinOp) (t:TypeId) (x y:Operand) (k:IntKind) (n:Int) (b:Value) (w:World):(eqGuard op t x y (.int k n) b).run P w= .ok () w:=by
 unfold eqGuard;split<;>rfl
theorem zIK (P:Program) (op:BinOp) (t:TypeId) (x y:Operand) (s:ByteArray) (b:Value) (w:World):(eqGuard op t x y (.string s) b).run P w= .ok () w:=by
 unfold eqGuard;split<;>rfl
theorem zGz (P:Program) (op:BinOp) (t:TypeId) (x y:Operand) (s:Bool) (b:Value) (w:World):(eqGuard op t x y (.bool s) b).run P w= .ok () w:=by
 unfold eqGuard;split<;>rfl
theorem zya (h:zqN P s f=some o):∃fs fd i,P.underlying s=some (.struct fs)/\fs[f]? =some fd/\P.info? fd.type=some i/\i.size≠0/\fd.offset=o:=by
 unfold zqN at h;split at h
 ·rename_i fs hs;split at h
  ·rename_i fd hf;split at h
   ·rename_i i hi;split at h
    ·cases h
    ·rename_i hb;cases h;exact ⟨fs,fd,i,hs,hf,hi,fun e=>by rw [e] at hb;simp at hb,rfl⟩
   ·cases h
  ·cases h
 ·cases h
theorem zlo (b o n:Nat):(⟨b,o,none⟩:Addr).add n=⟨b,o+n,none⟩:=by unfold Addr.add;split<;>simp_all
theorem zrt (h:zqN P s f=some o) (b off:Nat) (w:World):(Instr.fieldAt s (.pointer (some ⟨b,off,none⟩)) f).run P w= .ok (.pointer (some ⟨b,off+o,none⟩)) w:=by
 obtain ⟨fs,fd,i,hs,hf,hi,hn,rfl⟩:=zya h;simp [Instr.fieldAt,run_underlying hs,hf,Instr.sureAddr,fieldPlace,sizeOf,typeInfo,hi,hn,zlo]
theorem ziY (h:zfk P t=true) (hc:w.cell? ⟨b,off,none⟩=some v):(Instr.loadAt t (.pointer (some ⟨b,off,none⟩))).run P w= .ok v w:=by
 unfold zfk at h;split at h
 ·cases h
 ·cases h
 ·cases h
 ·rename_i d h1 h2 hu;have hi:(isAgg t).run P w= .ok false w:=by
   cases d<;>simp [isAgg,run_underlying hu]<;>first| (exact h1 _ rfl)| (exact h2 _ _ rfl)| rfl
  simp [Instr.loadAt,Instr.sureAddr,loadVar,hi,load,Sem.run,hc]
theorem zvD (h:zfk P t=true) (hc:w.cell? ⟨b,off,none⟩=some v):(loadVar t ⟨b,off,none⟩).run P w= .ok v w:=by
 unfold zfk at h;split at h
 ·cases h
 ·cases h
 ·cases h
 ·rename_i d h1 h2 hu;have hi:(isAgg t).run P w= .ok false w:=by
   cases d<;>simp [isAgg,run_underlying hu]<;>first| (exact h1 _ rfl)| (exact h2 _ _ rfl)| rfl
  simp [loadVar,hi,load,Sem.run,hc]
theorem Bx.cell {γ:Gh} {w:World} {b:Bx} (h:b.rel γ w) {off:Nat} {a:AV} (ha:b.avs[off]? =some a):∃v,w.cell? ⟨γ.box b.lab,off,none⟩=some v/\a.rel γ w v:=by
 obtain ⟨_,cs,hh,hr,_⟩:=h;obtain ⟨v,hv,ha⟩:=ztW hr ha;exact ⟨v,by rw [yv w _ off _ _ _ hh];simpa using hv,ha⟩
theorem zHW (P:Program) (w:World) (k j:IntKind) (m n:Int) (ts:Array TypeId) (ty:TypeId):(Builtin.min_ ts ty #[.int k m,.int j n]).run P w= .ok (.int k (if n<m then n else m)) w:=by
 simp [Builtin.min_,Builtin.min2]
theorem zHV (P:Program) (w:World) (k j:IntKind) (m n:Int) (ts:Array TypeId) (ty:TypeId):(Builtin.max_ ts ty #[.int k m,.int j n]).run P w= .ok (.int k (if m<n then n else m)) w:=by
 simp [Builtin.max_,Builtin.max2]
theorem zdA (ho:o.op= .call c) (hc:c.callee= .builtin b) (ha:c.args.toList=args) (ht:c.argTypes.toList=ts) 
  (h:∀consts,(Go.builtin b ts.toArray o.type consts (args.map ev).toArray).run P w= .ok (.value v) w'):(execOp ev o).run P w= .ok (.value v) w':=by
 obtain ⟨callee,args',ts'⟩:=c;simp only at hc ha ht;subst hc;have e1:args'=args.toArray:=by rw [<-ha]
 have e2:ts'=ts.toArray:=by rw [<-ht]
 subst e1 e2;simp only [execOp,ho,resolve,xO,yl,xM,invoke,pi];exact h _
theorem zCH (ho:o.op= .call c) (h:zCG P ρ c.callee c.args.toList c.argTypes.toList=some av)
  (hρ:Opds ρ γ w ev c.args.toList):∃v,(execOp ev o).run P w= .ok (.value v) w/\av.rel γ w v:=by
 generalize ha:c.args.toList=args at h hρ
 generalize ht:c.argTypes.toList=ts at h
 generalize hc:c.callee=cal at h
 unfold zCG at h;split at h
 ·rename_i x t;split at h
  ·rename_i a hx;obtain ⟨v,hv,hr⟩:=zFo h (hρ x xx a hx) o.type;exact ⟨v,zdA ho hc ha ht fun consts=>by simp [builtin,hv],hr⟩
  ·cases h
 ·rename_i x y;split at h
  ·rename_i k m j n hx hy;split at h
   ·rename_i hk;cases h;have h1:=zfA (hρ x xx _ hx);have h2:=zfA (hρ y (xy _ xx) _ hy);exact ⟨_,zdA ho hc ha ht fun consts=>by simp [builtin,h1,h2,zHW],zkF _ _ _ _⟩
   ·cases h
  ·cases h
 ·rename_i x y;split at h
  ·rename_i k m j n hx hy;split at h
   ·rename_i hk;cases h;have h1:=zfA (hρ x xx _ hx);have h2:=zfA (hρ y (xy _ xx) _ hy);exact ⟨_,zdA ho hc ha ht fun consts=>by simp [builtin,h1,h2,zHV],zkF _ _ _ _⟩
   ·cases h
  ·cases h
 ·cases h
theorem zpw {P:Program} {ρ:Operand->Option AV} {bx:List Bx} {o:Oper} {av:AV} (h:zuz P ρ bx o.op=some av) {γ:Gh} {w:World} {ev:Operand->Value}
  (hρ:Opds ρ γ w ev o.op.operands.toList) (hb:Bxs γ w bx):∃v,(execOp ev o).run P w= .ok (.value v) w/\av.rel γ w v:=by
 generalize hop:o.op=op at h hρ
 unfold zuz at h;split at h
 case h_1 x=>exact ⟨_,by simp [execOp,hop],hρ x (by simp [Op.operands]) _ h⟩
 case h_2 x=>exact ⟨_,by simp [execOp,hop],hρ x (by simp [Op.operands]) _ h⟩
 case h_3 c a b=>
  split at h
  ·rename_i hc;have:=zml (hρ c (by simp [Op.operands]) _ hc);exact ⟨_,by simp [execOp,hop,this,asBool],hρ a (by simp [Op.operands]) _ h⟩
  ·rename_i hc;have:=zml (hρ c (by simp [Op.operands]) _ hc);exact ⟨_,by simp [execOp,hop,this,asBool],hρ b (by simp [Op.operands]) _ h⟩
  ·cases h
 case h_4 bop t x y yt=>
  split at h
  ·rename_i k m j n hx hy;have h1:=zfA (hρ x (by simp [Op.operands]) _ hx);have h2:=zfA (hρ y (by simp [Op.operands]) _ hy);split at h
   ·rename_i hk;have:=ztG hk;subst this;cases hl:zzx bop k m n with
    | none=>rw [hl] at h;cases h
    | some l=>
     rw [hl] at h;cases h;obtain ⟨v,hv,hp,hr⟩:=zCC hl P w t;exact ⟨v,by simp [execOp,hop,h1,h2,zrK,hv],hp,hr⟩
   ·cases h
  ·rename_i l m hx hy;have h1:=zuF (hρ x (by simp [Op.operands]) _ hx);have h2:=zuF (hρ y (by simp [Op.operands]) _ hy);cases hl:zzy bop l m with
   | none=>rw [hl] at h;cases h
   | some l'=>
    rw [hl] at h;cases h;obtain ⟨v,hv,hp,hr⟩:=zCD hl P w t;exact ⟨v,by simp [execOp,hop,h1,h2,zIK,hv],hp,hr⟩
  ·rename_i a b hx hy;have h1:=zml (hρ x (by simp [Op.operands]) _ hx);have h2:=zml (hρ y (by simp [Op.operands]) _ hy);cases hl:zvL bop (P.underlying t) a b with
   | none=>rw [hl] at h;cases h
   | some l'=>
    rw [hl] at h;cases h;obtain ⟨v,hv,hp,hr⟩:=zAM hl w;exact ⟨v,by simp [execOp,hop,h1,h2,zGz,hv],hp,hr⟩
  ·cases h
 case h_5 uop t x=>
  split at h
  ·rename_i b hx;cases h;have h1:=zml (hρ x (by simp [Op.operands]) _ hx);exact ⟨_,by simp [execOp,hop,h1,Op.unary],zvV _ _ _⟩
  ·rename_i k n hx;cases h;have h1:=zfA (hρ x (by simp [Op.operands]) _ hx);exact ⟨_,by simp [execOp,hop,h1,Op.unary,Op.intArith],zkF _ _ _ _⟩
  ·cases h
 case h_6 s d x=>
  split at h
  ·rename_i k _ n hs hd hx;cases h;have h1:=zfA (hρ x (by simp [Op.operands]) _ hx);exact ⟨_,by simp [execOp,hop,h1,convert,run_underlying hs,run_underlying hd,Conv.intToInt],zkF _ _ _ _⟩
  ·rename_i l hs hd hx;cases h;have h1:=zuF (hρ x (by simp [Op.operands]) _ hx);exact ⟨_,by simp [execOp,hop,h1,convert,run_underlying hs,run_underlying hd],zHC _ _ _⟩
  ·cases h
 case h_7 x i=>
  split at h
  ·rename_i l hx;obtain ⟨vs,hv,hL⟩:=hρ x (by simp [Op.operands]) _ hx;obtain ⟨v,hv',hr⟩:=ztW hL h;exact ⟨v,by simp [execOp,hop,hv,Instr.extract,hv'],hr⟩
  ·cases h
 case h_8 c=>exact zCH hop h (fun x hx=>hρ x (by simp only [Op.operands,Call.operands];simp;exact .inr (by simpa using hx)))
 case h_9 s x f=>
  split at h
  ·rename_i n ℓ off hf hx;cases h;have h1:ev x=_:=hρ x (by simp [Op.operands]) _ hx;exact ⟨_,by simp [execOp,hop,h1,zrt hf],rfl⟩
  ·rename_i n α r C y off hf hx;cases h;obtain ⟨b,o',cs,hv,hF,hlt,hA,hc⟩:=hρ x (by simp [Op.operands]) _ hx;exact ⟨_,by simp [execOp,hop,hv,zrt hf];rfl,b,o',cs,by rw [qS],hF,hlt,hA,hc⟩
  ·cases h
 case h_10 t x=>
  split at h
  ·rename_i ℓ off ht hx;have h1:ev x=_:=hρ x (by simp [Op.operands]) _ hx;split at h
   ·rename_i b hfb;obtain ⟨hm,rfl⟩:=zfj hfb;obtain ⟨v,hv,hr⟩:=Bx.cell (hb b hm) h;exact ⟨v,by simp [execOp,hop,h1,ziY ht hv],hr⟩
   ·cases h
  ·rename_i α r C y off ht hx;obtain ⟨b,o',cs,hv,hF,hlt,hA,hc⟩:=hρ x (by simp [Op.operands]) _ hx;split at h
   ·rename_i l hl;split at h
    ·rename_i hp;cases h;have hlen:off<cs.length:=by rw [<-hA.1];exact (xZ.1 hl).1
     have hr:=hA.2 off l _ hl (xH hlen);have hcell:=hc off hlen;rw [xH hlen] at hcell;exact ⟨_,by simp [execOp,hop,hv,ziY ht hcell],hp,hr.plain hp⟩
    ·cases h
   ·cases h
  ·cases h
 case h_11 x=>
  split at h
  ·rename_i ℓ off hx;cases h;have h1:ev x= .pointer (some ⟨γ.box ℓ,off,none⟩):=hρ x (by simp [Op.operands]) _ hx;exact ⟨_,by simp [execOp,hop,h1],rfl⟩
  ·rename_i α r C y off hx;cases h;have h1:=hρ x (by simp [Op.operands]) _ hx;obtain ⟨b,o',cs,hv,hrest⟩:=h1;exact ⟨_,by simp [execOp,hop,hv],b,o',cs,rfl,hrest⟩
  ·cases h
 case h_12=>cases h
def okW:List Nat->Bool
 | []=>true
 | c::l=>Nat.ble 2 c&&okW l
theorem ztP (h:okW W=true):∀c∈W,2<=c:=by
 induction W with
 | nil=>intro c hc;cases hc
 | cons d W ih=>
  simp only [okW,xA] at h;intro c hc;cases hc with
  | head=>exact xW h.1
  | tail _ hc=>exact ih h.2 c hc
def zjS (N:Lim):Option Nat->Bool
 | none=>true
 | some d=>Nat.blt d N.n&& !memN d N.keep
theorem zhu (h:zjS N d=true):∀k,d=some k->k<N.n:=by
 rintro k rfl;simp only [zjS,xA] at h;exact qa (xW h.1)
theorem zeU (h:zjS N d=true):∀k,d=some k->k∉N.keep:=by
 rintro k rfl hk;simp only [zjS,xA] at h;rw [zbt.2 hk] at h;cases h.2
def zqS (W V:List Nat) (l:List (Nat×AV)):List (Nat×AV):=l.filter fun p=>p.2.free W V
def AV.clear (W V:List Nat) (a:AV):AV:=match a.free W V with
 | true=>a
 | false=> .any
def Bx.clear (W V:List Nat) (b:Bx):Bx:=⟨b.lab,b.typ,b.avs.map (AV.clear W V)⟩
def zil (W V:List Nat) (l:List Bx):List Bx:=(l.filter fun b=> !memN b.lab W&& !memN b.lab V).map (Bx.clear W V)
def Env.step (W V:List Nat) (d:Option Nat) (av:AV) (bs:List Bx) (E:Env):Env:=⟨zif d av (zqS W V E.sl),bs++zil W V E.bx⟩
section
variable {W V:List Nat} {γ γ':Gh} {w w':World} {cx:Cx} {a:Act}
theorem Base.tr (h:Base cx γ a w) (t:Tr W V γ w γ' w') (hW:okW W=true) (hV:okW V=true):Base cx γ' a w':=
 ⟨h.defers.tr t (ztP hW),h.clean,h.size,h.kept,cx.X.tr h.ext t (ztP hW) (ztP hV)⟩
theorem Sl.tr {l:List (Nat×AV)} (h:Sl γ w a l) (t:Tr W V γ w γ' w'):Sl γ' w' a (zqS W V l):=by
 intro p hp;simp only [zqS,yE] at hp;obtain ⟨h1,h2⟩:=AV.free_spec hp.2;exact p.2.keep t h1 h2 (h p hp.1)
theorem zmS {l:List AV} {vs:List Value} (h:AV.relL γ w l vs) (t:Tr W V γ w γ' w'):AV.relL γ' w' (l.map (AV.clear W V)) vs:=by
 induction l generalizing vs with
 | nil=>exact h
 | cons b l ih=>
  obtain ⟨v,vs',rfl,h1,h2⟩:=h;refine ⟨v,vs',rfl,?_,ih h2⟩;unfold AV.clear;cases hf:b.free W V with
  | true=>obtain ⟨f1,f2⟩:=AV.free_spec hf;exact b.keep t f1 f2 h1
  | false=>trivial
theorem zds (h:(!memN c l)=true):c∉l:=fun hc=>by rw [zbt.2 hc] at h;cases h
theorem Bxs.tr (h:Bxs γ w l) (t:Tr W V γ w γ' w'):Bxs γ' w' (zil W V l):=by
 intro b hb;simp only [zil,xP,yE,xA] at hb;obtain ⟨b,⟨hm,h1,h2⟩,rfl⟩:=hb;obtain ⟨hc,cs,hh,hr,h1c⟩:=h b hm;have hlt:γ.box b.lab<w.heap.size:=(xY.1 hh).1;refine ⟨?_,cs,?_,zmS hr t,h1c⟩
 ·show γ'.col (γ'.box b.lab)=b.lab;rw [t.box _ (zds h2),t.col _ hlt];exact hc
 ·show w'.heap[γ'.box b.lab]? =_;rw [t.box _ (zds h2),t.block _ hlt (by rw [hc];exact zds h1)];exact hh
end
def zA (P:Program) (o:Oper) (ins:List (Operand×AV)) (bxs:List Bx) (W V:List Nat) (av:AV) (bs:List Bx):Prop:=
 ∀(γ:Gh) (a:Act) (w:World),(∀p∈ins,p.2.rel γ w (a.eval p.1))->Bxs γ w bxs->
  ∀(next:Act->World->Prop) (Q:Exit->Act->World->Prop),(∀γ' w' v,Tr W V γ w γ' w'->av.rel γ' w' v->Bxs γ' w' bs->next (a.put o.dst v) w')->o.wp P a w next Q
theorem zS 
  (h:∀(γ:Gh) (ev:Operand->Value) (w:World),(∀p∈ins,p.2.rel γ w (ev p.1))->Bxs γ w bxs->
   ∃v w' γ',(execOp ev o).run P w= .ok (.value v) w'/\Tr W V γ w γ' w'/\av.rel γ' w' v/\Bxs γ' w' bs):zA P o ins bxs W V av bs:=by
 intro γ a w hi hb next Q hk;obtain ⟨v,w',γ',hr,ht,hv,hb'⟩:=h γ a.eval w hi hb;unfold Oper.wp;rw [hr];exact hk γ' w' v ht hv hb'
def zqx (E:Env):List (Operand×AV)->Prop
 | []=>True
 | p::l=>E.opd p.1=some p.2/\zqx E l
theorem zqx.rel (h:zqx E l) (hs:Sl γ w a E.sl):∀p∈l,p.2.rel γ w (a.eval p.1):=by
 induction l with
 | nil=>intro p hp;cases hp
 | cons q l ih=>
  intro p hp;cases hp with
  | head=>exact Env.opd_rel h.1 hs
  | tail _ hp=>exact ih h.2 p hp
def zyp (E:Env):List Bx->Prop
 | []=>True
 | b::l=>zik E.bx b.lab=some b/\zyp E l
theorem zyp.rel (h:zyp E l) (hs:Bxs γ w E.bx):Bxs γ w l:=by
 induction l with
 | nil=>intro p hp;cases hp
 | cons q l ih=>
  intro p hp;cases hp with
  | head=>exact hs _ (zfj h.1).1
  | tail _ hp=>exact ih h.2 p hp
def zgN (ops:Array Oper) (E:Env) (o:Oper):Option Bool:=
 match o.guard with
 | none=>some true
 | some (j,want)=>match ops.toList[j]? with
  | some g=>match g.dst with
   | some t=>match lookup E.sl t,want with
    | some (.lf (.bool true)),true=>some true
    | some (.lf (.bool false)),false=>some true
    | some (.lf (.bool true)),false=>some false
    | some (.lf (.bool false)),true=>some false
    | some (.tup []),_=>some false
    | _,_=>none
   | none=>none
  | none=>none
theorem zfG (h:zgN ops E o=some b) (hs:Sl γ w a E.sl):Region.wanted o (yielded ops a.tmps)=b:=by
 unfold zgN at h;unfold Region.wanted;split at h
 ·rename_i hg;rw [hg];cases h;rfl
 ·rename_i j want hg;rw [hg];split at h
  ·rename_i g hj;split at h
   ·rename_i t ht;have key:∀c,lookup E.sl t=some (.lf (.bool c))->yielded ops a.tmps j=some c:=fun c hc=>by
     have hv:=zml (hs _ (zeS hc));simp only at hv;have hj':ops[j]? =some g:=by rw [<-qT];exact hj
     have htm:a.tmps[t]? =some (.bool c):=by
      rw [yD] at hv;cases he:a.tmps[t]? with
      | none=>rw [he] at hv;cases hv
      | some u=>rw [he] at hv;simp at hv;rw [hv]
     simp [yielded,hj',ht,htm]
    split at h
    ·rename_i hl;cases h;simp only [key _ hl];rfl
    ·rename_i hl;cases h;simp only [key _ hl];rfl
    ·rename_i hl;cases h;simp only [key _ hl];rfl
    ·rename_i hl;cases h;simp only [key _ hl];rfl
    ·rename_i hl;cases h;obtain ⟨vs,hv,hL⟩:=hs _ (zeS hl);have hL':vs=[]:=hL;subst hL';have hj':ops[j]? =some g:=by rw [<-qT];exact hj
     have:yielded ops a.tmps j=none:=by
      rw [yD] at hv;cases he:a.tmps[t]? with
      | none=>simp [yielded,hj',ht,he]
      | some u=>rw [he] at hv;simp at hv;simp [yielded,hj',ht,he,hv]
     simp only [this];rfl
    ·cases h
   ·cases h
  ·cases h
theorem Sl.put_undef {γ:Gh} {w:World} {a:Act} {l:List (Nat×AV)} (h:Sl γ w a l) (d:Option Nat):Sl γ w (a.put d undef) (zif d (.tup []) l):=by
 cases d with
 | none=>exact h
 | some d=>
  intro p hp;simp only [zif,xz] at hp;rcases hp with rfl| hp
  ·refine ⟨[],?_,rfl⟩;by_cases hd:d<a.tmps.size
   ·exact zfF hd
   ·simp only [Act.put,yD];rw [Array.getElem?_eq_none (by simp;omega)];rfl
  ·have hp':=yE.1 hp;rw [zly (fun e=>by have:=hp'.2;rw [e] at this;simp at this)];exact h p hp'.1
def RF (ro:Option Nat):Fence:={fn:=fun _=>True,depth:=none,alive:=false,round:=ro}
theorem zsG :CallsIn (RF ro) n P f args w R↔Calls P f args w R:=qx (n:=n)
theorem zFH :RowsIn (RF ro) n P row args w R↔Rows P row args w R:=
 ⟨fun h c cs=>let ⟨v,w',r,s⟩:=h c cs (room_wide _);⟨v,w',r,stepsIn_wide.1 s⟩,fun h c cs _=>let ⟨v,w',r,s⟩:=h c cs;⟨v,w',r,stepsIn_wide.2 s⟩⟩
def opq (P:Program) (o:Oper) (a:Act) (w:World) (next:Act->World->Prop) (Q:Exit->Act->World->Prop):Prop:=∀ro,o.wpIn (RF ro) 0 P a w next Q
def zkt (P:Program) (ops:Array Oper) (Q:Exit->Act->World->Prop) (l:List Oper) (a:Act) (w:World):Prop:=∀ro,wpListIn (RF ro) 0 P ops Q l a w
def wq (m:Bool) (P:Program) (c:Code) (Q:Exit->Act->World->Prop) (a:Act) (w:World):Prop:=∀ro,(m=true->ro=none)->c.wpIn (RF ro) 0 P Q a w
section
variable {m:Bool} {P:Program} {o:Oper} {a:Act} {w w':World} {next next':Act->World->Prop} {Q Q':Exit->Act->World->Prop} {ops:Array Oper} {l:List Oper} {x y c:Code}
theorem zvX (h:∀(next:Act->World->Prop) (Q:Exit->Act->World->Prop),(∀v w',next (a.put o.dst v) w')->o.wp P a w next Q):∀c,o.op≠ .defer c:=by
 intro c hc;have h1:=h (fun a' _=>a'.defers=a.defers) (fun _ _ _=>False) (fun v _=>zke a o.dst v);unfold Oper.wp at h1;have e:(execOp a.eval o).run P w=((resolve a.eval c o.type).run P w).andThen fun d w=> .ok (.defer d) w:=by
  simp [execOp,hc]
 rw [e] at h1;cases hr:(resolve a.eval c o.type).run P w with
 | ok d w1=>
  rw [hr] at h1;have h2:((({a with defers:=d::a.defers}:Act).put o.dst undef).defers)=a.defers:=h1;rw [zke] at h2;have:=congrArg List.length h2;simp at this
 | halt x w1=>
  rw [hr] at h1;cases x<;>exact h1
theorem zre (hd:∀c,o.op≠ .defer c) (h:o.wp P a w next Q):opq P o a w next Q:=by
 intro ro;refine ⟨fun _ _=>trivial,?_⟩;rw [Oper.semAt_eq _ _ _ hd];unfold Oper.wp at h
 generalize (execOp a.eval o).run P w=r at h
 cases r with
 | ok x w1=>
  cases x with
  | value v=>exact h
  | skip=>exact h
  | defer d=>exact h
  | enter f args=>exact ⟨nofun,zsG.2 (Calls.mono h (fun e w2 hq=>by cases e<;>exact hq))⟩
  | row row args=>exact ⟨nofun,zFH.2 h⟩
  | _=>exact h.elim
 | halt x w1=>cases x<;>exact h
theorem zkv (hr:(execOp a.eval o).run P w= .ok (.value v) w') (h:next (a.put o.dst v) w'):opq P o a w next Q:=by
 refine zre (zvX (P:=P) (a:=a) (w:=w) (fun nx Qx hn=>?_)) ?_
 ·unfold Oper.wp;rw [hr];exact hn v w'
 ·unfold Oper.wp;rw [hr];exact h
theorem zmP (hr:(execOp a.eval o).run P w= .ok .skip w') (h:next (a.put o.dst undef) w'):opq P o a w next Q:=by
 refine zre (zvX (P:=P) (a:=a) (w:=w) (fun nx Qx hn=>?_)) ?_
 ·unfold Oper.wp;rw [hr];exact hn undef w'
 ·unfold Oper.wp;rw [hr];exact h
theorem zhJ (hw:Region.wanted o (yielded ops a.tmps)=true) (h:opq P o a w (zkt P ops Q l) Q):zkt P ops Q (o::l) a w:=fun ro=>by
 unfold wpListIn;rw [xw hw];exact ud (fun a w h=>h ro) (h ro)
theorem zwT (hw:Region.wanted o (yielded ops a.tmps)=false) (h:zkt P ops Q l (a.put o.dst undef) w):zkt P ops Q (o::l) a w:=fun ro=>by
 unfold wpListIn;rw [xu (by rw [hw];exact pF)];exact ⟨fun _ _=>trivial,h ro⟩
theorem zln (h:wq m P c Q a w) (k:∀e a w,Q e a w->Q' e a w):wq m P c Q' a w:=fun ro hm=>qU (h ro hm) k
theorem zAz (h:Q .normal a w):wq m P .skip Q a w:=fun _ _=>wpIn_skip h
theorem zKG (h:Q .ret a w):wq m P .ret Q a w:=fun _ _=>wpIn_ret h
theorem zAy {id:Nat} (h:Q (.exit id) a w):wq m P (.exit id) Q a w:=fun _ _=>wpIn_exit h
theorem zjG (h:wq m P x (Exit.then (wq m P y Q) Q) a w):wq m P (.seq x y) Q a w:=fun ro hm=>wpIn_seq (qU (h ro hm) fun e a w hq=>by cases e<;>first| exact hq ro hm| exact hq)
theorem zuo {id:Nat} (h:wq m P c (Exit.inBlock id Q) a w):wq m P (.block id c) Q a w:=fun ro hm=>wpIn_block (h ro hm)
theorem zpP (hc:a.eval v= .bool true) (h:wq m P x Q a w):wq m P (.cond v x y) Q a w:=fun ro hm=>wpIn_cond_true hc (h ro hm)
theorem zow (hc:a.eval v= .bool false) (h:wq m P y Q a w):wq m P (.cond v x y) Q a w:=fun ro hm=>wpIn_cond_false hc (h ro hm)
theorem zcA {id:Nat} (h:zkt P l.toArray Q l a w):wq m P (.region id l.toArray false) Q a w:=fun ro _=>wpIn_region_lit (h ro)
def anyq (P:Program) (ops:Array Oper) (Q:Exit->Act->World->Prop) (fuel:Nat) (listed:Array Bool) (a:Act) (w:World):Prop:=∀ro,wpAnyIn (RF ro) 0 P .any ops Q fuel listed a w
theorem zyo {id:Nat} (hm:P.follows .mixedOrders=true) (h:anyq P ops Q ops.size (Array.replicate ops.size false) a {w with drawn:=w.drawn+1}):wq m P (.region id ops true) Q a w:=fun ro _=>wpIn_region_any hm (h ro)
def zsd (m:Bool) (P:Program) (c:Code) (Q:Exit->Act->World->Prop):Nat->Act->World->Prop
 | 0,_,_=>False
 | n+1,a,w=>wq m P c (Exit.then (zsd m P c Q n) Q) a w
theorem zxB (hm:m=true->ro=none):∀(n:Nat) (a:Act) (w:World),zsd m P c Q n a w->Code.roundsIn (RF ro) 0 P c Q n a w
 | 0,_,_,h=>h
 | n+1,a,w,h=>by
  rw [roundsIn_succ];exact qU (h ro hm) fun e a w hq=>by cases e<;>first| exact zxB hm n a w hq| exact hq
theorem zrH (n:Nat) (h:zsd m P c Q n a w):wq m P (.loop c) Q a w:=fun _ hm=>wpIn_loop_rounds n (zxB hm n a w h)
theorem zEO (h:wq m P c Q a w):c.wp P Q a w:=wpIn_wide.1 (h none fun _=>rfl:c.wpIn Fence.wide 0 P Q a w)
end
def zcM (P:Program) (N:Lim) (ops:Array Oper) (rest:List Oper) (E E':Env):Prop:=
 ∀(cx:Cx) (a:Act) (w:World) (Q:Exit->Act->World->Prop),cx.n=N->Sx cx E a w->(∀a' w',Sx cx E' a' w'->Q .normal a' w')->zkt P ops Q rest a w
section
variable {P:Program} {N:Lim} {ops:Array Oper} {rest:List Oper} {E E1 E':Env} {o:Oper}
theorem zKy:zcM P N ops [] E E:=fun _ _ _ _ _ hs hQ _=>hQ _ _ hs
theorem zwd (hg:zgN ops E o=some true) (hl:zA P o ins bxs W V av bs) (hi:zqx E ins) (hb:zyp E bxs)
  (hW:okW W=true) (hV:okW V=true) (hd:zjS N o.dst=true) (k:zcM P N ops rest (E.step W V o.dst av bs) E'):zcM P N ops (o::rest) E E':=by
 intro cx a w Q hn hs hQ;obtain ⟨γ,hB,hS,hX⟩:=hs;refine zhJ (zfG hg hS) (zre (zvX (P:=P) (a:=a) (w:=w) fun nx Qx hn=>hl γ a w (hi.rel hS) (hb.rel hX) nx Qx fun _ w' v _ _ _=>hn v w') (hl γ a w (hi.rel hS) (hb.rel hX) _ Q fun γ' w' v ht hv hbs=>?_));refine k cx _ _ Q hn ⟨γ',(hB.tr ht hW hV).put _ _ (by rw [hn];exact zeU hd),?_,?_⟩ hQ
 ·exact (hS.tr ht).put (fun k hk=>by rw [hB.size,hn];exact zhu hd k hk) hv
 ·intro b hb';simp only [Env.step,xD] at hb';rcases hb' with h| h
  ·exact hbs b h
  ·exact hX.tr ht b h
theorem zJk (hg:zgN ops E o=some false) (hd:zjS N o.dst=true) (k:zcM P N ops rest ⟨zif o.dst (.tup []) E.sl,E.bx⟩ E'):zcM P N ops (o::rest) E E':=by
 intro cx a w Q hn hs hQ;obtain ⟨γ,hB,hS,hX⟩:=hs;refine zwT (zfG hg hS) ?_;exact k cx _ _ Q hn ⟨γ,hB.put _ _ (by rw [hn];exact zeU hd),hS.put_undef _,hX⟩ hQ
def zty (P:Program) (N:Lim) (ops:Array Oper):List Oper->Env->Option Env
 | [],E=>some E
 | o::rest,E=>match zgN ops E o with
  | some true=>match zjS N o.dst,zuz P E.opd E.bx o.op with
   | true,some av=>zty P N ops rest ⟨zif o.dst av E.sl,E.bx⟩
   | _,_=>none
  | some false=>match zjS N o.dst with
   | true=>zty P N ops rest ⟨zif o.dst (.tup []) E.sl,E.bx⟩
   | false=>none
  | none=>none
theorem zHU (t:Nat) (b:Bool) (hl:lookup E.sl t=some (.lf (.bool b))) (h1:b=true->zcM P N ops rest ⟨zif (some t) (.lf (.bool true)) E.sl,E.bx⟩ E')
  (h0:b=false->zcM P N ops rest ⟨zif (some t) (.lf (.bool false)) E.sl,E.bx⟩ E'):zcM P N ops rest E E':=by
 intro cx a w Q hn hs hQ;obtain ⟨γ,hB,hS,hX⟩:=hs;have hv:=hS _ (zeS hl);have hput:∀c,b=c->Sl γ w a (zif (some t) (.lf (.bool c)) E.sl):=by
  rintro c rfl p hp;simp only [zif,xz] at hp;rcases hp with rfl| hp
  ·exact hv
  ·exact hS p (yE.1 hp).1
 cases hb:b with
 | true=>exact h1 hb cx a w Q hn ⟨γ,hB,hput _ hb,hX⟩ hQ
 | false=>exact h0 hb cx a w Q hn ⟨γ,hB,hput _ hb,hX⟩ hQ
def AV.le (a b:AV):Prop:=∀γ w v,a.rel γ w v->b.rel γ w v
def zAf (l:List (Nat×AV)):List Nat->Option (List (Nat×AV))
 | []=>some []
 | k::r=>match lookup l k,zAf l r with
  | some a,some r'=>some ((k,a)::r')
  | _,_=>none
theorem zmR :∀(ks:List Nat) (r:List (Nat×AV)),zAf l ks=some r->∀p∈r,p∈l
 | [],r,h,p,hp=>by cases h;cases hp
 | k::ks,r,h,p,hp=>by
  rw [zAf] at h;split at h
  ·rename_i a r' hl hr;cases h;cases hp with
   | head=>exact zeS hl
   | tail _ hp=>exact zmR ks _ hr p hp
  ·cases h
def zrj (l:List Bx):List Nat->Option (List Bx)
 | []=>some []
 | k::r=>match zik l k,zrj l r with
  | some a,some r'=>some (a::r')
  | _,_=>none
theorem zpI :∀(ks:List Nat) (r:List Bx),zrj l ks=some r->∀p∈r,p∈l
 | [],r,h,p,hp=>by cases h;cases hp
 | k::ks,r,h,p,hp=>by
  rw [zrj] at h;split at h
  ·rename_i a r' hl hr;cases h;cases hp with
   | head=>exact (zfj hl).1
   | tail _ hp=>exact zpI ks _ hr p hp
  ·cases h
def Env.pick (E:Env) (ks bs:List Nat):Option Env:=
 match zAf E.sl ks,zrj E.bx bs with
 | some s,some b=>some ⟨s,b⟩
 | _,_=>none
theorem Sx.pick (h:E.pick ks bs=some E') (hs:Sx cx E a w):Sx cx E' a w:=by
 unfold Env.pick at h;split at h
 ·rename_i s b h1 h2;cases h;obtain ⟨γ,hB,hS,hX⟩:=hs;exact ⟨γ,hB,fun p hp=>hS p (zmR _ _ h1 p hp),fun p hp=>hX p (zpI _ _ h2 p hp)⟩
 ·cases h
theorem zKx (ks bs:List Nat) (h:E.pick ks bs=some E'):zcM P N ops [] E E':=fun _ _ _ _ _ hs hQ _=>hQ _ _ (hs.pick h)
def zDY (P:Program) (N:Lim) (ops:Array Oper) (rest:List Oper) (E:Env) (ks bs:List Nat):Option Env:=match zty P N ops rest E with
 | some E1=>E1.pick ks bs
 | none=>none
end
def J (m:Bool) (P:Program) (c:Code) (S:Act->World->Prop) (Q:Exit->Act->World->Prop):Prop:=∀a w,S a w->wq m P c Q a w
section
variable {m:Bool} {P:Program} {S S' M:Act->World->Prop} {Q Q':Exit->Act->World->Prop} {x y c:Code}
theorem J.mono (h:J m P c S Q) (hS:∀a w,S' a w->S a w) (hQ:∀e a w,Q e a w->Q' e a w):J m P c S' Q':=fun a w hs=>zln (h a w (hS a w hs)) hQ
theorem J.post (h:J m P c S Q) (hQ:∀e a w,Q e a w->Q' e a w):J m P c S Q':=h.mono (fun _ _ h=>h) hQ
theorem zKb {σ ρ:Type} (body:σ->Option (σ⊕ρ)) (Es:σ->Act->World->Prop) (R:ρ->Exit->Act->World->Prop)
  (hb:∀s o,body s=some o->J m P c (Es s) (match o with
   | .inl s'=>fun e a w=>e= .normal/\Es s' a w
   | .inr r=>fun e a w=>e≠ .normal/\R r e a w))
  {s:σ} {r:ρ} (h:zaj body s=some r) (hS:∀a w,S a w->Es s a w) (hQ:∀e a w,R r e a w->Q e a w):J m P (.loop c) S Q:=by
 obtain ⟨n,hn⟩:=zwN h;have key:∀n s,zkO body n s=some r->∀a w,Es s a w->zsd m P c (R r) n a w:=by
  intro n
  induction n with
  | zero=>intro s hn;cases hn
  | succ n ih=>
   intro s hn a w hs;rw [zsd];rw [zkO] at hn;split at hn
   ·cases hn
   ·rename_i s' hbs;refine zln (hb s _ hbs a w hs) fun e a' w' hq=>?_
    obtain ⟨rfl,hE⟩:=hq;exact ih s' hn a' w' hE
   ·rename_i r' hbs;cases hn;refine zln (hb s _ hbs a w hs) fun e a' w' hq=>?_
    cases e<;>first| exact absurd rfl hq.1| exact hq.2
 exact fun a w hs=>zln (zrH n (key n s hn a w (hS a w hs))) hQ
end
open Classical in
noncomputable def gh0 (F:Fp):Gh:=⟨fun b=>if F b then 0 else 1,fun _=>0⟩
def zlV:List Value->Value
 | [u]=>u
 | us=> .tuple us.toArray
def FnOk (P:Program) (f:FuncId) (ins outs:List AV):Prop:=
 ∀(w:World) (F:Fp) (vs:List Value),AV.relL (gh0 F) w ins vs->Calls P f vs.toArray w fun e w'=>∃γ us,e= .returned (zlV us)/\Below w.heap.size w w'/\
  ((∀b,b<w.heap.size->(γ.col b=0/\F b)\/γ.col b=1)/\∀b,w.heap.size<=b->b<w'.heap.size->γ.col b≠0)/\AV.relL γ w' outs us
def AV.toLV:AV->Option LV
 | .lf l=>some l
 | .sl r _ xs=>some (.sl xs.length r.size (xs.flatMap r.lv))
 | .own r _ _ _ xs=>some (.sl xs.length r.size (xs.flatMap r.lv))
 | _=>none
def subN (a b:List Nat):Bool:=a.all fun c=>memN c b
theorem zaq (h:subN a b=true):∀c∈a,c∈b:=by
 intro c hc;simp only [subN,xJ] at h;exact zbt.1 (h c hc)
theorem zta {γ:Gh} {w:World} {α:Type} {r:Rp α} {e:TypeId} {ℓ:Nat} {C:List Nat} {xs:List α} {v:Value} (h:AV.rel γ w (.own r e ℓ C xs) v):zbk (γ.F (ℓ::C)) w (.sl xs.length r.size (xs.flatMap r.lv)) v:=by
 obtain ⟨cs,ho,hg,hA,hn⟩:=h;have hA':zW (γ.F (ℓ::C)) w (xs.flatMap r.lv) cs:=hA.mono fun b _ hb=>xy _ hb
 have hl:=r.flat xs;obtain ⟨A,c,hv,hc,hm⟩:=zyY (γ:=γ) (w:=w) (r:=r) (e:=e) (ℓ:=ℓ) (C:=C) ⟨cs,ho,hg,hA,hn⟩;rw [hv];refine .sl _ _ _ A c cs hl (by rw [<-hA.1];exact hl) hc hm (fun h0=>?_) hA'.2;have hcells:=fun g hg=>ho.cells (g:=g) hg
 have hlt:=ho.lt;rcases ho.2 with ⟨rfl,h00⟩| ⟨g,cap,cur,hv',_⟩
 ·omega
 ·rw [hv'] at hv;injection hv with e1 e2 e3;subst e1;have hob:v.ownBlock=some g:=by rw [hv'];rfl
  refine ⟨g,0,rfl,?_,(hlt g hob).2,fun i hi=>?_⟩
  ·show γ.col g∈ℓ::C;rw [(hg g hob).1];exact xx
  ·have hlen:i<cs.length:=by rw [<-hA.1,hl];exact hi
   rw [xH hlen];have:=hcells g hob i _ (xH hlen);rw [zlo] at this;exact this
theorem zCh {a:AV} {l:LV} (h:a.toLV=some l) {γ:Gh} {w:World} {v:Value} (hr:a.rel γ w v) {C:List Nat} (hC:∀c∈a.cols,c∈C):zbk (γ.F C) w l v:=by
 cases a with
 | lf l'=>cases h;exact hr.2.plain hr.1
 | sl r C' xs=>cases h;exact zbk.mono hr fun b _ hb=>hC _ hb
 | own r e ℓ C' xs=>cases h;exact (zta hr).mono fun b _ hb=>hC _ hb
 | any=>cases h
 | rc=>cases h
 | ep=>cases h
 | ptr=>cases h
 | bs=>cases h
 | tl=>cases h
 | qp=>cases h
 | em=>cases h
 | mo=>cases h
 | cu=>cases h
 | mp=>cases h
 | om=>cases h
 | tup=>cases h
 | ag=>cases h
 | fv=>cases h
 | bp=>cases h
 | it=>cases h
def zjc:List AV->Option (List LV)
 | []=>some []
 | a::l=>match a.toLV,zjc l with
  | some x,some r=>some (x::r)
  | _,_=>none
theorem zkx {l:List AV} {ls:List LV} (h:zjc l=some ls) {γ:Gh} {w:World} {vs:List Value} (hr:AV.relL γ w l vs) {C:List Nat} (hC:∀c∈AV.colsL l,c∈C):zW (γ.F C) w ls vs:=by
 induction l generalizing ls vs with
 | nil=>cases h;cases hr;exact .nil
 | cons a l ih=>
  obtain ⟨v,vs',rfl,h1,h2⟩:=hr;rw [zjc] at h;split at h
  ·rename_i x r hx hr';cases h;exact .cons (zCh hx h1 fun c hc=>hC c (xU _ hc)) (ih hr' h2 fun c hc=>hC c (xV _ hc))
  ·cases h
def ztJ (C:List Nat):AV->Bool
 | .lf x=>x.plain
 | .sl _ C' _=>subN C C'
 | _=>false
theorem zll (h:zjc l=some ls) (hr:zW (γ.F C) w ls vs) (hC:l.all (ztJ C)=true):AV.relL γ w l vs:=by
 induction l generalizing ls vs with
 | nil=>
  cases h;have:=hr.1;simp at this;exact yw this.symm
 | cons a l ih=>
  rw [zjc] at h;simp only [yx,xA] at hC;split at h
  ·rename_i x r hx hr';cases h;obtain ⟨v,vs',rfl,h1,h2⟩:=hr.head;refine ⟨v,vs',rfl,?_,ih hr' h2 hC.2⟩;cases a with
   | lf y=>cases hx;exact ⟨hC.1,h1.plain hC.1⟩
   | sl r' C' xs=>cases hx;exact zbk.mono h1 fun b _ hb=>zaq hC.1 _ hb
   | any=>cases hx
   | own=>exact absurd hC.1 (by simp [ztJ])
   | rc=>cases hx
   | ep=>cases hx
   | ptr=>cases hx
   | bs=>cases hx
   | tl=>cases hx
   | qp=>cases hx
   | em=>cases hx
   | mo=>cases hx
   | cu=>cases hx
   | mp=>cases hx
   | om=>cases hx
   | tup=>cases hx
   | ag=>cases hx
   | fv=>cases hx
   | bp=>cases hx
   | it=>cases hx
  ·cases h
def zsH:Nat->List AV->List (Nat×AV)
 | _,[]=>[]
 | n,a::l=>(n,a)::zsH (n+1) l
theorem zsI (h:AV.relL γ w l vs) (pre post:List Value):
  ∀p∈zsH pre.length l,p.2.rel γ w ((pre++vs++post).toArray.getD p.1 undef):=by
 induction l generalizing vs pre with
 | nil=>intro p hp;cases hp
 | cons a l ih=>
  obtain ⟨v,vs',rfl,h1,h2⟩:=h;intro p hp;cases hp with
  | head=>simpa using h1
  | tail _ hp=>
   have hp':p∈zsH (pre.length+1) l:=hp;have:=ih h2 (pre++[v]) p (by simpa using hp');simpa using this
structure AggT (P:Program) (t:TypeId) (n:Nat):Prop where
 agg:∀w,(isAgg t).run P w= .ok true w
 size:∀w,(sizeOf t).run P w= .ok n w
theorem zfl {P:Program} {t:TypeId} {n:Nat} (h:AggT P t n) {w:World} {b o:Nat} {cs:List Value} (hn:cs.length=n) (hc:∀i,i<cs.length->w.cell? ⟨b,o+i,none⟩=cs[i]?):
  (loadVar t ⟨b,o,none⟩).run P w= .ok (.agg cs.toArray) w:=by
 have hl:(loadCells ⟨b,o,none⟩ cs.length).run P w= .ok cs.toArray w:=run_loadCells_list (P:=P) w ⟨b,o,none⟩ cs fun j v hv=>by
  rw [zlo,hc j (xZ.1 hv).1];exact hv
 rw [hn] at hl;simp [loadVar,h.agg,h.size,hl]
def zox (P:Program) (E:Env):List ResultVar->List AV->Prop
 | [],[]=>True
 | .tmp t::rs,a::l=>lookup E.sl t=some a/\zox P E rs l
 | .cell x t::rs,.rc r C y::l=>(∃ℓ b,lookup E.sl x=some (.ptr ℓ 0)/\zik E.bx ℓ=some b/\zjc b.avs=some (r.lv y)/\subN (AV.colsL b.avs) C=true/\AggT P t r.size)/\zox P E rs l
 | .cell x t::rs,.ag m::l=>(∃ℓ b,lookup E.sl x=some (.ptr ℓ 0)/\zik E.bx ℓ=some b/\b.avs=m/\AggT P t m.length)/\zox P E rs l
 | .cell x t::rs,.lf y::l=>(∃ℓ b,lookup E.sl x=some (.ptr ℓ 0)/\zik E.bx ℓ=some b/\b.avs=[.lf y]/\zfk P t=true)/\zox P E rs l
 | .cell x t::rs,.sl r C y::l=>(∃ℓ b,lookup E.sl x=some (.ptr ℓ 0)/\zik E.bx ℓ=some b/\b.avs=[.sl r C y]/\zfk P t=true)/\zox P E rs l
 | .cell x t::rs,.own r e q C y::l=>(∃ℓ b,lookup E.sl x=some (.ptr ℓ 0)/\zik E.bx ℓ=some b/\b.avs=[.own r e q C y]/\zfk P t=true)/\zox P E rs l
 | _,_=>False
def resF (tmps:Array Value):ResultVar->Sem Value
 | .tmp t=>pure (tmps.getD t undef)
 | .cell x t=>do loadVar t (<-asAddr (tmps.getD x undef))
theorem zuT {P:Program} {E:Env} {γ:Gh} {w:World} {a:Act} {x:Tmp} {t:TypeId} {av:AV} (hs:Sl γ w a E.sl) (hx:Bxs γ w E.bx) (h:∃ℓ b,lookup E.sl x=some (.ptr ℓ 0)/\zik E.bx ℓ=some b/\b.avs=[av]/\zfk P t=true):
  ∃u,(resF a.tmps (.cell x t)).run P w= .ok u w/\av.rel γ w u:=by
 obtain ⟨ℓ,b,h1,h2,h3,h5⟩:=h;obtain ⟨hm,rfl⟩:=zfj h2;have hp:a.tmps.getD x undef= .pointer (some ⟨γ.box b.lab,0,none⟩):=hs _ (zeS h1);obtain ⟨u,hc,hr⟩:=Bx.cell (hx b hm) (off:=0) (a:=av) (by rw [h3];rfl);have hld:=zvD (P:=P) h5 hc;have ha:(asAddr (.pointer (some ⟨γ.box b.lab,0,none⟩))).run P w= .ok ⟨γ.box b.lab,0,none⟩ w:=rfl;exact ⟨u,by simp only [resF,xO,hp,ha,hld,xM],hr⟩
theorem zld {P:Program} {E:Env} {γ:Gh} {w:World} {a:Act} (hs:Sl γ w a E.sl) (hx:Bxs γ w E.bx):∀(rs:List ResultVar) (l:List AV),zox P E rs l->
  ∃us,(rs.mapM (resF a.tmps)).run P w= .ok us w/\AV.relL γ w l us
 | [],[],_=>⟨[],rfl,rfl⟩
 | .tmp t::rs,x::l,h=>by
  obtain ⟨us,hu,hr⟩:=zld hs hx rs l h.2;refine ⟨a.tmps.getD t undef::us,?_,_,us,rfl,hs _ (zeS h.1),hr⟩;simp only [qy,resF,xO,yl,xM];rw [hu];rfl
 | .cell x t::rs,.rc r C y::l,h=>by
  obtain ⟨us,hu,hr⟩:=zld hs hx rs l h.2;obtain ⟨ℓ,b,h1,h2,h3,h4,h5⟩:=h.1;obtain ⟨hm,rfl⟩:=zfj h2;have hp:a.tmps.getD x undef= .pointer (some ⟨γ.box b.lab,0,none⟩):=hs _ (zeS h1);obtain ⟨hcol,cs,hh,hL,_⟩:=hx b hm;have hA:=zkx h3 hL (zaq h4);have hld:=zfl h5 (w:=w) (b:=γ.box b.lab) (o:=0) (cs:=cs) (by rw [<-hA.1];exact r.len y) fun i hi=>by rw [yv w _ _ _ _ _ hh];simp
  refine ⟨.agg cs.toArray::us,?_,_,us,rfl,⟨cs,rfl,hA⟩,hr⟩;have ha:(asAddr (.pointer (some ⟨γ.box b.lab,0,none⟩))).run P w= .ok ⟨γ.box b.lab,0,none⟩ w:=rfl;simp only [qy,resF,xO,hp,ha,hld,yl,xM];rw [hu];rfl
 | .cell x t::rs,.ag m::l,h=>by
  obtain ⟨us,hu,hr⟩:=zld hs hx rs l h.2;obtain ⟨ℓ,b,h1,h2,h3,h5⟩:=h.1;obtain ⟨hm,rfl⟩:=zfj h2;subst h3;have hp:a.tmps.getD x undef= .pointer (some ⟨γ.box b.lab,0,none⟩):=hs _ (zeS h1);obtain ⟨hcol,cs,hh,hL,hone⟩:=hx b hm;have hld:=zfl h5 (w:=w) (b:=γ.box b.lab) (o:=0) (cs:=cs) (zdc hL) fun i hi=>by rw [yv w _ _ _ _ _ hh];simp
  refine ⟨.agg cs.toArray::us,?_,_,us,rfl,⟨cs,rfl,hL,hone⟩,hr⟩;have ha:(asAddr (.pointer (some ⟨γ.box b.lab,0,none⟩))).run P w= .ok ⟨γ.box b.lab,0,none⟩ w:=rfl;simp only [qy,resF,xO,hp,ha,hld,yl,xM];rw [hu];rfl
 | .cell x t::rs,.lf y::l,h=>by
  obtain ⟨us,hu,hr⟩:=zld hs hx rs l h.2;obtain ⟨u,h1,h2⟩:=zuT hs hx h.1;exact ⟨u::us,by simp only [qy,xO,h1,xM,hu,yl],u,us,rfl,h2,hr⟩
 | .cell x t::rs,.sl r C y::l,h=>by
  obtain ⟨us,hu,hr⟩:=zld hs hx rs l h.2;obtain ⟨u,h1,h2⟩:=zuT hs hx h.1;exact ⟨u::us,by simp only [qy,xO,h1,xM,hu,yl],u,us,rfl,h2,hr⟩
 | .cell x t::rs,.own r e q C y::l,h=>by
  obtain ⟨us,hu,hr⟩:=zld hs hx rs l h.2;obtain ⟨u,h1,h2⟩:=zuT hs hx h.1;exact ⟨u::us,by simp only [qy,xO,h1,xM,hu,yl],u,us,rfl,h2,hr⟩
 | [],_::_,h=>h.elim
 | .cell _ _::_,[],h=>h.elim
 | .cell _ _::_,.any::_,h=>h.elim
 | .cell _ _::_,.ep ..::_,h=>h.elim
 | .cell _ _::_,.ptr ..::_,h=>h.elim
 | .cell _ _::_,.bs ..::_,h=>h.elim
 | .cell _ _::_,.tl ..::_,h=>h.elim
 | .cell _ _::_,.qp ..::_,h=>h.elim
 | .cell _ _::_,.em ..::_,h=>h.elim
 | .cell _ _::_,@AV.mo _ _ _ _ _ _ _ _ _::_,h=>h.elim
 | .cell _ _::_,.cu ..::_,h=>h.elim
 | .cell _ _::_,.mp ..::_,h=>h.elim
 | .cell _ _::_,.om ..::_,h=>h.elim
 | .cell _ _::_,.tup ..::_,h=>h.elim
 | .cell _ _::_,.fv ..::_,h=>h.elim
 | .cell _ _::_,.bp ..::_,h=>h.elim
 | .cell _ _::_,.it ..::_,h=>h.elim
 | .tmp _::_,[],h=>h.elim
theorem zlI (hs:Sl γ w a E.sl) (hx:Bxs γ w E.bx) (h:zox P E fn.results.toList l):
  ∃us,(results fn a.tmps).run P w= .ok (zlV us) w/\AV.relL γ w l us:=by
 obtain ⟨us,hu,hr⟩:=zld (P:=P) hs hx _ _ h;refine ⟨us,?_,hr⟩;have e:results fn a.tmps=(fn.results.mapM (resF a.tmps))>>=fun vs=>pure (if h:vs.size=1 then vs[0] else .tuple vs):=by
  unfold results;congr 2
 rw [e,<-qz (xs:=fn.results),ue,xO,Sem.run_map,hu];simp only [xM,yl];congr 1
 match us with
 | []=>rfl
 | [u]=>rfl
 | u::v::r=>
  rw [dif_neg (by simp)];rfl
theorem zGI (hf:P.funcs[f]? =some fn) (hb:fn.body=some c) (hlen:ins.length<=fn.ntmps) (hres:zox P E fn.results.toList outs)
  (hj:∀X:Ext,J true P c (Sx ⟨⟨fn.ntmps,[]⟩,X,false,#[]⟩ ⟨zsH 0 ins,[]⟩) fun e a w=>e= .ret/\Sx ⟨⟨fn.ntmps,[]⟩,X,false,#[]⟩ E a w):FnOk P f ins outs:=by
 intro w F vs hr;have hl:=zdc hr;refine py hf hb (wp_mono (zEO (hj (fnX w F) _ w ⟨gh0 F,⟨⟨[],rfl,qA,fun D hD=>by cases hD⟩,fun _=>rfl,?_,(fun k hk=>by cases hk),Below.refl _ _,fun b _=>?_,fun b h1 h2=>by omega⟩,?_,fun b hb=>by cases hb⟩)) ?_)
 ·simp [hl];omega
 ·by_cases hF:F b<;>simp [gh0,hF]
 ·intro p hp;have:=zsI hr [] (List.replicate (fn.ntmps - vs.length) undef) p hp;simp only [yc] at this;have e:(vs++List.replicate (fn.ntmps - vs.length) undef).toArray=vs.toArray++Array.replicate (fn.ntmps - vs.toArray.size) undef:=by simp
  rw [e] at this;exact this
 ·rintro e a w' ⟨rfl,γ,hB,hS,hX⟩;obtain ⟨us,hu,hu'⟩:=zlI (P:=P) (fn:=fn) hS hX hres;exact ⟨hB.clean rfl,zlV us,hu,γ,us,rfl,hB.ext.1,hB.ext.2,hu'⟩
def zyG:AV->AV
 | .lf l=> .lf l
 | .sl r _ xs=> .sl r [0] xs
 | .own r _ _ _ xs=> .sl r [0] xs
 | .rc r _ x=> .rc r [0] x
 | .ep r _ x off=> .ep r [0] x off
 | .qp r _ o=> .qp r [0] o
 | .mp rk rv _ m=> .mp rk rv [0] m
 | .em rk rv _ m=> .em rk rv [0] m
 | .om rk rv _ _ m=> .mp rk rv [0] m
 | _=> .any
def inAV:AV->AV
 | .ag l=> .ag (l.map zyG)
 | .fv g l=> .fv g (l.map zyG)
 | a=>zyG a
def zrP:AV->List Nat
 | .sl _ C _| .rc _ C _| .ep _ C _ _| .qp _ C _=>C
 | .own _ _ ℓ C _=>ℓ::C
 | .mp _ _ C _| .em _ _ C _=>C
 | .om _ _ ℓ C _=>ℓ::C
 | _=>[]
def zzM:AV->List Nat
 | .ag l=>l.flatMap zrP
 | .fv _ l=>l.flatMap zrP
 | a=>zrP a
theorem zzK (F:Fp) (b:Nat) (h:F b):(gh0 F).col b=0:=by simp [gh0,h]
theorem ziC {γ:Gh} {w:World} {a:AV} {v:Value} {D:List Nat} (h:a.rel γ w v) (hD:∀c∈zrP a,c∈D):(zyG a).rel (gh0 (γ.F D)) w v:=by
 have key:∀(C:List Nat),(∀c∈C,c∈D)->∀b,b<w.heap.size->γ.F C b->(gh0 (γ.F D)).F [0] b:=fun C hC b _ hb=>by
  show (gh0 (γ.F D)).col b∈[0];have hF:γ.F D b:=hC _ hb;rw [zzK (γ.F D) b hF];exact xx
 cases a with
 | any=>trivial
 | lf l=>exact h
 | sl r C xs=>exact zbk.mono h (key C hD)
 | own r e ℓ C xs=>exact (zta h).mono (key _ hD)
 | rc r C x=>obtain ⟨cs,hv,hA⟩:=h;exact ⟨cs,hv,hA.mono (key C hD)⟩
 | mp rk rv C m=>
  obtain ⟨b,es,cl,hv,hF,hb,hh,hE⟩:=h;exact ⟨b,es,cl,hv,key C hD b hb hF,hb,hh,hE.mono (key C hD)⟩
 | em rk rv C m=>
  obtain ⟨a,b,es,cl,hv,hFa,ha,hc1,hF,hb,hh,hE⟩:=h;exact ⟨a,b,es,cl,hv,key C hD a ha hFa,ha,hc1,key C hD b hb hF,hb,hh,hE.mono (key C hD)⟩
 | mo=>trivial
 | cu=>trivial
 | om rk rv ℓ C m=>
  obtain ⟨b,es,cl,hv,⟨hF,hbx⟩,hb,hh,hE,hn⟩:=h;exact ⟨b,es,cl,hv,key (ℓ::C) hD b hb (by show γ.col b∈ℓ::C;rw [hF];exact xx),hb,hh,(hE.mono (fun b _ hb=>xy _ hb)).mono (key (ℓ::C) hD)⟩
 | ep r C x off=>
  obtain ⟨b,o,cs,hv,hF,hb,hA,hc⟩:=h;exact ⟨b,o,cs,hv,key C hD b hb hF,hb,hA.mono (key C hD),hc⟩
 | qp r C o=>
  cases o with
  | none=>exact h
  | some x=>
   obtain ⟨b,cs,hv,hF,hb,hA,hc⟩:=h;exact ⟨b,cs,hv,key C hD b hb hF,hb,hA.mono (key C hD),hc⟩
 | bs=>trivial
 | tl=>trivial
 | ptr=>trivial
 | tup=>trivial
 | ag=>trivial
 | fv=>trivial
 | bp=>trivial
 | it=>trivial
theorem zsL :∀{l:List AV} {vs:List Value},AV.relL γ w l vs->(∀c∈l.flatMap zrP,c∈D)->AV.relL (gh0 (γ.F D)) w (l.map zyG) vs
 | [],_,h,_=>h
 | a::l,_,h,hD=>by
  obtain ⟨v,vs',rfl,h1,h2⟩:=h;exact ⟨v,vs',rfl,ziC h1 (fun c hc=>hD c (by rw [xN];exact xU _ hc)),zsL h2 (fun c hc=>hD c (by rw [xN];exact xV _ hc))⟩
theorem zBf (h:a.rel γ w v) (hD:∀c∈zzM a,c∈D):(inAV a).rel (gh0 (γ.F D)) w v:=by
 cases a with
 | ag l=>obtain ⟨vs,hv,hL,h1⟩:=h;exact ⟨vs,hv,zsL hL hD,h1⟩
 | fv g l=>obtain ⟨vs,hv,hL⟩:=h;exact ⟨vs,hv,zsL hL hD⟩
 | any=>trivial
 | lf l=>exact ziC h hD
 | sl r C xs=>exact ziC h hD
 | own r e ℓ C xs=>exact ziC h hD
 | rc r C x=>exact ziC h hD
 | mp rk rv C m=>exact ziC h hD
 | om rk rv ℓ C m=>exact ziC h hD
 | ep r C x off=>exact ziC h hD
 | qp r C o=>exact ziC h hD
 | em rk rv C m=>exact ziC h hD
 | mo=>trivial
 | cu=>trivial
 | bs=>trivial
 | tl=>trivial
 | ptr=>trivial
 | tup=>trivial
 | bp=>trivial
 | it=>trivial
def outC (D:List Nat) (s:Nat):List Nat->List Nat
 | []=>[]
 | c::C=>(match c with
  | 0=>D
  | c+1=>[c+1+s])++outC D s C
def zuN (D:List Nat) (s:Nat):AV->AV
 | .lf l=> .lf l
 | .sl r C xs=> .sl r (outC D s C) xs
 | .own r e ℓ C xs=> .own r e (ℓ+s) (outC D s C) xs
 | .rc r C x=> .rc r (outC D s C) x
 | .qp r C o=> .qp r (outC D s C) o
 | .mp rk rv C m=> .mp rk rv (outC D s C) m
 | .om rk rv ℓ C m=> .om rk rv (ℓ+s) (outC D s C) m
 | .bp r t ℓ C x=> .bp r t (ℓ+s) (outC D s C) x
 | .cu c ℓ C1 C2=> .cu c (ℓ+s) (outC D s C1) (outC D s C2)
 | _=> .any
def zko (K C:List Nat):Bool:=K.all fun k=> !memN k C
theorem zmG (h:zko K C=true):∀k∈K,k∉C:=fun k hk hc=>by
 simp only [zko,xJ] at h;have:=h k hk;rw [zbt.2 hc] at this;cases this
def zor (K D:List Nat) (s:Nat):AV->Bool
 | .sl _ C _| .rc _ C _| .qp _ C _=>zko K C
 | .own _ _ ℓ C _=>zko K C&&Nat.ble 2 ℓ&& !memN ℓ K&& !memN (ℓ+s) (outC D s C)
 | .mp _ _ C _=>zko K C
 | .om _ _ ℓ C _=>zko K C&&Nat.ble 2 ℓ&& !memN ℓ K&& !memN (ℓ+s) (outC D s C)
 | .bp _ _ ℓ C _=>zko K C&&Nat.ble 2 ℓ&& !memN ℓ K
 | .cu _ ℓ C1 C2=>zko K C1&&zko K C2&&Nat.ble 2 ℓ&& !memN ℓ K
 | _=>true
def zlk (s:Nat):AV->List Nat
 | .own _ _ ℓ _ _=>[ℓ+s]
 | .om _ _ ℓ _ _=>[ℓ+s]
 | .bp _ _ ℓ _ _=>[ℓ+s]
 | .cu _ ℓ _ _=>[ℓ+s]
 | _=>[]
def zvs (D:List Nat) (s:Nat):AV->AV
 | .ag l=> .ag (l.map (zuN D s))
 | .fv g l=> .fv g (l.map (zuN D s))
 | a=>zuN D s a
def zxm (K D:List Nat) (s:Nat):AV->Bool
 | .ag l=>l.all (zor K D s)
 | .fv _ l=>l.all (zor K D s)
 | a=>zor K D s a
def zkd (s:Nat):AV->List Nat
 | .ag l=>l.flatMap (zlk s)
 | .fv _ l=>l.flatMap (zlk s)
 | a=>zlk s a
theorem zxl (h:c∈C):(c=0->∀d∈D,d∈outC D s C)/\(c≠0->c+s∈outC D s C):=by
 induction C with
 | nil=>cases h
 | cons x C ih=>
  cases h with
  | head=>
   refine ⟨?_,?_⟩
   ·rintro rfl d hd;simp [outC,hd]
   ·intro hc;cases c with
    | zero=>exact absurd rfl hc
    | succ c=>simp [outC]
  | tail _ h=>
   obtain ⟨h1,h2⟩:=ih h;exact ⟨fun h0 d hd=>by simp only [outC,xD];exact .inr (h1 h0 d hd),fun h0=>by simp only [outC,xD];exact .inr (h2 h0)⟩
open Classical in
noncomputable def zgQ (γ γc:Gh) (n:Nat) (D:List Nat) (s:Nat) (V:List Nat):Gh:=
 ⟨fun b=>if b<n then γ.col b else if γc.col b=0 then D.headD 1 else if γc.col b=1 then 1 else γc.col b+s,fun ℓ=>if ℓ∈V then γc.box (ℓ - s) else γ.box ℓ⟩
def zwi (γ γc:Gh) (n:Nat) (K D:List Nat):Prop:=∀b,b<n->(γc.col b=0/\γ.F D b)\/γc.col b∈K
theorem outF (hold:zwi γ γc n K D) (h1:∀k∈K,k∉C) (hk1:1∈K) (hb:γc.F C b) (hD:0∈C->D=[]->False\/b<n):
  (zgQ γ γc n D s V).F (outC D s C) b:=by
 show (zgQ γ γc n D s V).col b∈outC D s C;have hb':γc.col b∈C:=hb;unfold zgQ;simp only;by_cases hn:b<n
 ·rw [xw hn];rcases hold b hn with ⟨h0,hF⟩| h0
  ·rw [h0] at hb';exact (zxl hb').1 rfl _ hF
  ·exact absurd hb' (h1 _ h0)
 ·rw [xu hn];by_cases h0:γc.col b=0
  ·rw [xw h0];rw [h0] at hb';cases D with
   | nil=>rcases hD hb' rfl with h| h;exact h.elim;exact absurd h hn
   | cons d D=>exact (zxl hb').1 rfl d xx
  ·rw [xu h0];by_cases h2:γc.col b=1
   ·rw [h2] at hb';exact absurd hb' (h1 1 hk1)
   ·rw [xu h2];exact (zxl hb').2 h0
theorem zxk {γ γc:Gh} {n:Nat} {K D:List Nat} {s:Nat} {V:List Nat} {w':World} {a:AV} {v:Value} (hold:zwi γ γc n K D) (hk1:1∈K) (hD:D≠[])
  (hok:zor K D s a=true) (hV:∀c∈zlk s a,c∈V) (h:a.rel γc w' v):(zuN D s a).rel (zgQ γ γc n D s V) w' v:=by
 have hF:∀C,zko K C=true->∀b,b<w'.heap.size->γc.F C b->(zgQ γ γc n D s V).F (outC D s C) b:=fun C h1 b _ hb=>outF hold (zmG h1) hk1 hb (fun _ e=>absurd e hD)
 have hnew:∀(ℓ g:Nat),2<=ℓ->memN ℓ K=false->γc.col g=ℓ->¬g<n:=fun ℓ g hℓ hm g1 hlt=>by
  rcases hold g hlt with ⟨h0,_⟩| h0
  ·omega
  ·rw [g1] at h0;rw [zbt.2 h0] at hm;cases hm
 cases a with
 | any=>trivial
 | lf l=>exact h
 | sl r C xs=>exact zbk.mono h (hF C hok)
 | rc r C x=>
  obtain ⟨cs,hv,hA⟩:=h;exact ⟨cs,hv,hA.mono (hF C hok)⟩
 | own r e ℓ C xs=>
  obtain ⟨cs,ho,hg,hA,hnot⟩:=h;simp only [zor,xA,ym] at hok;obtain ⟨⟨⟨k1,k2⟩,k4⟩,k3⟩:=hok;have hℓ:2<=ℓ:=xW k2;refine ⟨cs,ho,fun g hgb=>?_,hA.mono (hF C k1),fun hc=>by rw [zbt.2 hc] at k3;cases k3⟩;obtain ⟨g1,g2⟩:=hg g hgb;refine ⟨?_,?_⟩
  ·unfold zgQ;simp only;rw [xu (hnew ℓ g hℓ k4 g1),xu (by omega),xu (by omega),g1]
  ·unfold zgQ;simp only;rw [xw (hV _ (by simp [zlk])),qP];exact g2
 | mp rk rv C m=>
  obtain ⟨b,es,cl,hv,hF',hb,hh,hE⟩:=h;exact ⟨b,es,cl,hv,hF C hok b hb hF',hb,hh,hE.mono (hF C hok)⟩
 | om rk rv ℓ C m=>
  obtain ⟨b,es,cl,hv,⟨g1,g2⟩,hb,hh,hE,hnot⟩:=h;simp only [zor,xA,ym] at hok;obtain ⟨⟨⟨k1,k2⟩,k4⟩,k3⟩:=hok;have hℓ:2<=ℓ:=xW k2;refine ⟨b,es,cl,hv,⟨?_,?_⟩,hb,hh,hE.mono (hF C k1),fun hc=>by rw [zbt.2 hc] at k3;cases k3⟩
  ·unfold zgQ;simp only;rw [xu (hnew ℓ b hℓ k4 g1),xu (by omega),xu (by omega),g1]
  ·unfold zgQ;simp only;rw [xw (hV _ (by simp [zlk])),qP];exact g2
 | ep=>trivial
 | ptr=>trivial
 | bs=>trivial
 | tl=>trivial
 | qp r C o=>
  cases o with
  | none=>exact h
  | some x=>
   obtain ⟨b,cs,hv,hF',hb,hA,hc⟩:=h;exact ⟨b,cs,hv,hF C hok b hb hF',hb,hA.mono (hF C hok),hc⟩
 | em=>trivial
 | mo=>trivial
 | cu c ℓ C1 C2=>
  simp only [zor,xA,ym] at hok;obtain ⟨⟨⟨k0,k1⟩,k2⟩,k4⟩:=hok;have hℓ:2<=ℓ:=xW k2;refine c.move (xB _) (fun _ _ _=>rfl) (fun b _ g1=>?_) (hF C1 k0) (hF C2 k1) ?_ h
  ·unfold zgQ;simp only;rw [xu (hnew ℓ b hℓ k4 g1),xu (by omega),xu (by omega),g1]
  ·unfold zgQ;simp only;rw [xw (hV _ (by simp [zlk])),qP]
 | tup=>trivial
 | ag=>trivial
 | fv=>trivial
 | it=>trivial
 | bp r t ℓ C x=>
  obtain ⟨b,cs,hv,⟨g1,g2⟩,hb,hh,h1c,hA⟩:=h;simp only [zor,xA,ym] at hok;obtain ⟨⟨k1,k2⟩,k4⟩:=hok;have hℓ:2<=ℓ:=xW k2;refine ⟨b,cs,hv,⟨?_,?_⟩,hb,hh,h1c,hA.mono (hF C k1)⟩
  ·unfold zgQ;simp only;rw [xu (hnew ℓ b hℓ k4 g1),xu (by omega),xu (by omega),g1]
  ·unfold zgQ;simp only;rw [xw (hV _ (by simp [zlk])),qP];exact g2
theorem zsZ (hold:zwi γ γc n K D) (hk1:1∈K) (hD:D≠[]):∀(l:List AV) (vs:List Value),
  l.all (zor K D s)=true->(∀c∈l.flatMap (zlk s),c∈V)->AV.relL γc w' l vs->AV.relL (zgQ γ γc n D s V) w' (l.map (zuN D s)) vs
 | [],vs,_,_,h=>h
 | a::l,vs,hok,hV,h=>by
  obtain ⟨v,vs',rfl,h1,h2⟩:=h;simp only [yx,xA] at hok
  exact ⟨v,vs',rfl,zxk hold hk1 hD hok.1 (fun c hc=>hV c (by simp only [xN,xD];exact .inl hc)) h1,
   zsZ hold hk1 hD l vs' hok.2 (fun c hc=>hV c (by simp only [xN,xD];exact .inr hc)) h2⟩
theorem zuO (hold:zwi γ γc n K D) (hk1:1∈K) (hD:D≠[])
  (hok:zxm K D s a=true) (hV:∀c∈zkd s a,c∈V) (h:a.rel γc w' v):(zvs D s a).rel (zgQ γ γc n D s V) w' v:=by
 have key:zvs D s a=zuN D s a->zxm K D s a=zor K D s a->zkd s a=zlk s a->(zvs D s a).rel (zgQ γ γc n D s V) w' v:=fun e1 e2 e3=>by
  rw [e1];exact zxk hold hk1 hD (e2▸hok) (e3▸hV) h
 cases a with
 | ag l=>obtain ⟨vs,hv,hL,h1⟩:=h;exact ⟨vs,hv,zsZ hold hk1 hD l vs hok hV hL,h1⟩
 | fv g l=>obtain ⟨vs,hv,hL⟩:=h;exact ⟨vs,hv,zsZ hold hk1 hD l vs hok hV hL⟩
 | bp r t ℓ C x=>exact key rfl rfl rfl
 | it=>exact key rfl rfl rfl
 | bs=>exact key rfl rfl rfl
 | tl=>exact key rfl rfl rfl
 | qp=>exact key rfl rfl rfl
 | em=>exact key rfl rfl rfl
 | mo=>exact key rfl rfl rfl
 | cu=>exact key rfl rfl rfl
 | any=>exact key rfl rfl rfl
 | lf l=>exact key rfl rfl rfl
 | sl r C xs=>exact key rfl rfl rfl
 | own r e ℓ C xs=>exact key rfl rfl rfl
 | rc r C x=>exact key rfl rfl rfl
 | ep r C x off=>exact key rfl rfl rfl
 | ptr ℓ off=>exact key rfl rfl rfl
 | mp rk rv C m=>exact key rfl rfl rfl
 | om rk rv ℓ C m=>exact key rfl rfl rfl
 | tup l=>exact key rfl rfl rfl
def zzf:List AV->AV
 | [a]=>a
 | l=> .tup l
theorem ztX (h:AV.relL γ w l vs) (hf:∀a∈l,∀v,a.rel γ w v->(f a).rel γ' w' v):AV.relL γ' w' (l.map f) vs:=by
 induction l generalizing vs with
 | nil=>exact h
 | cons a l ih=>
  obtain ⟨v,vs',rfl,h1,h2⟩:=h;exact ⟨v,vs',rfl,hf a xx v h1,ih h2 fun b hb=>hf b (xy _ hb)⟩
theorem zuV (h:AV.relL γ w l us):(zzf l).rel γ w (zlV us):=by
 match l,us,h with
 | [],us,h=>cases h;exact ⟨[],rfl,rfl⟩
 | [a],us,h=>obtain ⟨v,vs',rfl,h1,h2⟩:=h;cases h2;exact h1
 | a::b::l,us,h=>
  have h':=h;obtain ⟨v,vs',rfl,h1,v2,vs2,rfl,h2,h3⟩:=h;exact ⟨_,rfl,h'⟩
theorem zQ {P:Program} {o:Oper} {f:FuncId} {args:List Operand} {ts:Array TypeId} {ins outs:List AV} (xs:List AV) (D:List Nat) (s:Nat)
  (ho:o.op= .call ⟨.value (.func f),args.toArray,ts⟩) (hc:∀as w,(callFunc f as).run P w= .ok (.enter f as) w) (ok:FnOk P f ins outs)
  (hin:xs.map inAV=ins) (hlen:xs.length=args.length) (hD:(xs.all fun a=>subN (zzM a) D)=true) (hD0:D.isEmpty=false) (hout:(outs.all (zxm [1] D s))=true):
  zA P o (args.zip xs) [] [] (outs.flatMap (zkd s)) (zzf (outs.map (zvs D s))) []:=by
 intro γ a w hi hb next Q hk;have hvs:AV.relL (gh0 (γ.F D)) w ins (args.map a.eval):=by
  subst hin;clear hb hk hout ok ho;simp only [xJ] at hD
  induction xs generalizing args with
  | nil=>cases args<;>first| rfl| (simp at hlen)
  | cons x xs ih=>
   cases args with
   | nil=>simp at hlen
   | cons y args=>
    exact ⟨_,_,rfl,zBf (hi (y,x) (by simp)) (zaq (hD x xx)),
     ih (by simpa using hlen) (fun p hp=>hi p (xy _ hp)) (fun b hb=>hD b (xy _ hb))⟩
 have hcall:=ok w (γ.F D) _ hvs;have hrun:(execOp a.eval o).run P w= .ok (.enter f (args.map a.eval).toArray) w:=by
  simp [execOp,ho,resolve,Act.eval,Deferred.ofValue,invoke,hc]
 unfold Oper.wp;rw [hrun,qw];refine hcall.mono fun e w' ⟨γc,us,he,hB,⟨hold,hfr⟩,hr⟩=>?_
 subst he;have hDne:D≠[]:=fun e=>by rw [e] at hD0;cases hD0
 simp only [xJ] at hout;refine hk (zgQ γ γc w.heap.size D s (outs.flatMap (zkd s))) w' _ ⟨hB.os,hB.tape,hB.output,hB.size,fun b hb _=>hB.block b hb,fun b hb=>?_,fun ℓ hℓ=>?_,fun b h1 h2 h0=>?_⟩ (zuV (ztX hr fun x hx v hv=>?_)) (fun b hb=>by cases hb)
 ·show (if b<w.heap.size then γ.col b else _)=_;rw [xw hb]
 ·show (if ℓ∈outs.flatMap (zkd s) then _ else γ.box ℓ)=_;rw [xu hℓ]
 ·exfalso;have hne:=hfr b h1 h2;have h0':(if b<w.heap.size then γ.col b else if γc.col b=0 then D.headD 1 else if γc.col b=1 then 1 else γc.col b+s)=0:=h0;rw [xu (qh.2 h1),xu hne] at h0';split at h0'<;>omega
 ·exact zuO (K:=[1]) (fun b hb=>(hold b hb).imp id fun h=>by simp [h]) (by simp) hDne (hout x hx) (fun c hc=>qB.2 ⟨x,hx,hc⟩) hv
structure ElT (P:Program) (t e:TypeId) (size bytes:Nat):Prop where
 u:P.underlying t=some (.slice e)
 ex:∃i z,P.info? e=some i/\i.zero=some z/\i.size=size/\i.bytes=bytes/\z.cells.size=size
theorem ElT.size {P:Program} {t e:TypeId} {size bytes:Nat} (h:ElT P t e size bytes) (w:World):(sizeOf e).run P w= .ok size w:=by
 obtain ⟨i,z,h1,h2,h3,h4,h5⟩:=h.ex;simp [sizeOf,typeInfo,h1,h3]
section
variable {γ:Gh} {w:World} {α:Type} {r:Rp α} {C:List Nat} {xs:List α} {v:Value} {D:List Nat}
theorem zpM (h:zbk (γ.F D) w (.sl xs.length r.size (xs.flatMap r.lv)) v):∃A c cs,v= .slice A xs.length c/\xs.length<=c/\c<=maxLen/\zW (γ.F D) w (xs.flatMap r.lv) cs/\cs.length=xs.length*r.size/\
  (0<xs.length->∃b off,A=some ⟨b,off,none⟩/\γ.F D b/\b<w.heap.size/\∀i,i<xs.length*r.size->w.cell? ⟨b,off+i,none⟩=cs[i]?):=by
 cases h with
 | sl _ _ _ A c cs hl hcs hc hm hA hr=>exact ⟨A,c,cs,rfl,hc,hm,⟨by rw [hl,hcs],hr⟩,hcs,hA⟩
theorem zlA {α:Type} {xs:List α} {i:Int} {x:α} (h:idx xs i=some x):0<=i/\i<xs.length/\xs[i.toNat]? =some x:=by
 unfold idx at h;split at h
 ·rename_i h0;have:=(xZ.1 h).1;exact ⟨h0,by omega,h⟩
 ·cases h
theorem zIC (h:zbk (γ.F D) w (.sl xs.length r.size (xs.flatMap r.lv)) v) {i:Int} {x:α} (hx:idx xs i=some x):∃b off cs c,v= .slice (some ⟨b,off,none⟩) xs.length c/\γ.F D b/\b<w.heap.size/\
  zW (γ.F D) w (r.lv x) cs/\∀j,j<cs.length->w.cell? ⟨b,off+i.toNat*r.size+j,none⟩=cs[j]? :=by
 obtain ⟨h0,h1,h2⟩:=zlA hx;obtain ⟨A,c,cs,rfl,hc,hm,hA,hcs,hcell⟩:=zpM h;obtain ⟨b,off,rfl,hF,hb,hcell⟩:=hcell (by omega);have hA':=(hA.drop (i.toNat*r.size)).take r.size;rw [r.flat_at xs _ x h2] at hA';refine ⟨b,off,_,c,rfl,hF,hb,hA',fun j hj=>?_⟩;have hj':j<r.size:=by rw [<-hA'.1,r.len] at hj;exact hj
 have hle:(i.toNat+1)*r.size<=xs.length*r.size:=yg _ (by omega);rw [yy] at hle;rw [yk,xw hj',yG,qS];exact hcell _ (by omega)
end
def isSl {α:Type} (r:Rp α) (xs:List α) (D:List Nat) (a:AV):Prop:=∀γ w v,a.rel γ w v->zbk (γ.F D) w (.sl xs.length r.size (xs.flatMap r.lv)) v
theorem zC {α:Type} (r:Rp α) (xs:List α) (C:List Nat):isSl r xs C (.sl r C xs):=fun _ _ _ h=>h
theorem zfL {α:Type} (r:Rp α) (xs:List α) (e:TypeId) (ℓ:Nat) (C:List Nat):isSl r xs (ℓ::C) (.own r e ℓ C xs):=fun _ _ _ h=>zta h
theorem zBm {α:Type} (r:Rp α) (C:List Nat):isSl r [] C (.lf (.val (.slice none 0 0))):=fun γ w v h=>by
 rw [zsM h];exact .sl 0 _ [] none 0 [] (by simp) (by simp) (xB _) (xI _) (fun h=>absurd h (by omega)) (fun i l u h=>by simp at h)
theorem znL {P:Program} {t e:TypeId} {size bytes:Nat} (hT:ElT P t e size bytes) (w:World) (b off n c:Nat) (k:IntKind) (i:Int) (h0:0<=i) (h1:i<n):
  (Instr.indexAt t (.slice (some ⟨b,off,none⟩) n c) (.int k i)).run P w= .ok (.pointer (some ⟨b,off+i.toNat*size,none⟩)) w:=by
 simp [Instr.indexAt,asIntOf,run_underlying hT.u,hT.size,h0,h1,zlo]
theorem zai {P:Program} {o:Oper} {α:Type} {r:Rp α} {xs:List α} {D:List Nat} {a:AV} {k:IntKind} {i:Int} {x:α} {t e:TypeId} {y z:Operand} {bytes:Nat}
  (ho:o.op= .indexAddr t y z) (hT:ElT P t e r.size bytes) (hs:isSl r xs D a) (hx:idx xs i=some x):zA P o [(y,a),(z,.lf (.int k i))] [] [] [] (.ep r D x 0) []:=by
 refine zS fun γ ev w hi _=>?_
 have h1:=hs γ w _ (hi (y,a) (by simp));have h2:=zfA (hi (z,.lf (.int k i)) (by simp));simp only at h1 h2;obtain ⟨b,off,cs,c,hv,hF,hb,hA,hc⟩:=zIC h1 hx;obtain ⟨i0,i1,_⟩:=zlA hx;exact ⟨_,w,γ,by simp [execOp,ho,hv,h2,znL hT w b off _ c k i i0 i1],Tr.refl _ _ _ _,⟨b,off+i.toNat*r.size,cs,rfl,hF,hb,hA,hc⟩,fun b hb=>by cases hb⟩
theorem zcr {P:Program} {o:Oper} {α:Type} {r:Rp α} {D:List Nat} {x:α} {t:TypeId} {y:Operand}
  (ho:o.op= .load t y) (hT:AggT P t r.size):zA P o [(y,.ep r D x 0)] [] [] [] (.rc r D x) []:=by
 refine zS fun γ ev w hi _=>?_
 obtain ⟨b,off,cs,hv,hF,hb,hA,hc⟩:=hi (y,.ep r D x 0) (by simp);simp only at hv;have hl:=zfl hT (w:=w) (b:=b) (o:=off) (cs:=cs) (by rw [<-hA.1];exact r.len x) hc;exact ⟨_,w,γ,by simp [execOp,ho,hv,Instr.loadAt,Instr.sureAddr,hl],Tr.refl _ _ _ _,⟨cs,rfl,hA⟩,fun b hb=>by cases hb⟩
theorem zgf {P:Program} {o:Oper} {α β:Type} {r:Rp α} {D:List Nat} {x:α} {t:TypeId} {y:Operand} {off:Nat} (r':Rp β) (xs:List β)
  (ho:o.op= .load t y) (hT:zfk P t=true) (hs:(r.lv x)[off]? =some (.sl xs.length r'.size (xs.flatMap r'.lv))):zA P o [(y,.ep r D x off)] [] [] [] (.sl r' D xs) []:=by
 refine zS fun γ ev w hi _=>?_
 obtain ⟨b,o',cs,hv,hF,hb,hA,hc⟩:=hi (y,.ep r D x off) (by simp);simp only at hv;have hlen:off<cs.length:=by rw [<-hA.1];exact (xZ.1 hs).1
 have hr:=hA.2 off _ _ hs (xH hlen);have hcell:=hc off hlen;rw [xH hlen] at hcell;exact ⟨_,w,γ,by simp [execOp,ho,hv,ziY hT hcell],Tr.refl _ _ _ _,hr,fun b hb=>by cases hb⟩
theorem ztv {α:Type} {xs ys:List α} {i j:Int} (h:cut xs i j=some ys):0<=i/\i<=j/\j<=xs.length/\ys=(xs.drop i.toNat).take (j.toNat - i.toNat):=by
 unfold cut at h;split at h
 ·rename_i hh;cases h;exact ⟨hh.1,hh.2.1,hh.2.2,rfl⟩
 ·cases h
theorem zDS {α:Type} {xs ys:List α} {i j:Int} (h:cut xs i j=some ys):ys.length=j.toNat - i.toNat:=by
 obtain ⟨h0,h1,h2,rfl⟩:=ztv h;simp;omega
theorem zkb (w:World) (k:IntKind) (i:Int) (y:Nat) (code:BoundsCode) (h0:0<=i) (h1:i<=y):(Instr.sliceBound (.int k i) y code).run P w= .ok i.toNat w:=by
 simp [Instr.sliceBound,asIntOf,h0,h1]
def loOf:Option AV->Option Int
 | none=>some 0
 | some (.lf (.int _ i))=>some i
 | _=>none
def hiOf (n:Int):Option AV->Option Int
 | none=>some n
 | some (.lf (.int _ i))=>some i
 | _=>none
def zEA:Option Operand->Option AV->List (Operand×AV)
 | some x,some a=>[(x,a)]
 | _,_=>[]
theorem zAl {P:Program} {t e:TypeId} {size bytes:Nat} (hT:ElT P t e size bytes) (w:World) (A:Option Addr) (n c:Nat) (hc:n<=c) (lo hi:Option Value) (i j:Int)
  (hlo:(lo=none/\i=0)\/∃k,lo=some (.int k i)) (hhi:(hi=none/\j=n)\/∃k,hi=some (.int k j)) (h0:0<=i) (h1:i<=j) (h2:j<=n):
  (Instr.sliceAt t (.slice A n c) lo hi none).run P w= .ok (.slice (if c=i.toNat then A else A.map (·.add (i.toNat*size))) (j.toNat - i.toNat) (c - i.toNat)) w:=by
 have key:(Instr.sliceBounds true n c lo hi none).run P w= .ok (i.toNat,j.toNat,c) w:=by
  rcases hlo with ⟨rfl,rfl⟩| ⟨k,rfl⟩<;>rcases hhi with ⟨rfl,rfl⟩| ⟨k',rfl⟩
  ·simp [Instr.sliceBounds]
  ·simp [Instr.sliceBounds,zkb w k' j c _ (by omega) (by omega)]
  ·simp [Instr.sliceBounds,zkb w k i n _ h0 h1]
  ·have:=zkb (P:=P) w k i j.toNat .sliceB h0 (by omega);simp [Instr.sliceBounds,zkb w k' j c _ (by omega) (by omega),this]
 simp [Instr.sliceAt,Instr.slice,run_underlying hT.u,key,hT.size]
theorem zII {γ:Gh} {w:World} {α:Type} {r:Rp α} {xs ys:List α} {D:List Nat} {A:Option Addr} {c:Nat} (h:zbk (γ.F D) w (.sl xs.length r.size (xs.flatMap r.lv)) (.slice A xs.length c)) {i j:Int} (hy:cut xs i j=some ys):
  zbk (γ.F D) w (.sl ys.length r.size (ys.flatMap r.lv)) (.slice (if c=i.toNat then A else A.map (·.add (i.toNat*r.size))) (j.toNat - i.toNat) (c - i.toNat)):=by
 obtain ⟨A',c',cs,hv,hc,hm,hA,hcs,hcell⟩:=zpM h;injection hv with e1 _ e3;subst e1 e3;obtain ⟨h0,h1,h2,e⟩:=ztv hy;have hl:=zDS hy;rw [hl];have hf:ys.flatMap r.lv=((xs.flatMap r.lv).drop (i.toNat*r.size)).take ((j.toNat - i.toNat)*r.size):=by rw [e,r.flat_take,r.flat_drop]
 have hA':=(hA.drop (i.toNat*r.size)).take ((j.toNat - i.toNat)*r.size);rw [<-hf] at hA';have hlen:(ys.flatMap r.lv).length=(j.toNat - i.toNat)*r.size:=by rw [r.flat,hl]
 refine .sl _ _ _ _ _ _ hlen (by rw [<-hA'.1,hlen]) (by omega) (by omega) (fun hn=>?_) hA'.2;have hpos:0<xs.length:=by omega
 have hne:¬c=i.toNat:=by omega
 obtain ⟨b,off,rfl,hF,hb,hcell⟩:=hcell hpos;rw [xu hne];refine ⟨b,off+i.toNat*r.size,by simp [zlo],hF,hb,fun k hk=>?_⟩;have hle:j.toNat*r.size<=xs.length*r.size:=yg _ (by omega);have hji:(j.toNat - i.toNat)*r.size=j.toNat*r.size - i.toNat*r.size:=Nat.sub_mul ..;have hij:i.toNat*r.size<=j.toNat*r.size:=yg _ (by omega);rw [yk,xw hk,yG,qS];exact hcell _ (by omega)
theorem zqV {P:Program} {o:Oper} {α:Type} {r:Rp α} {xs ys:List α} {D:List Nat} {a:AV} {i j:Int} {t e:TypeId} {x:Operand} {lo hi:Option Operand} (lov hiv:Option AV) {bytes:Nat}
  (ho:o.op= .slice t x lo hi none) (hT:ElT P t e r.size bytes) (hs:isSl r xs D a) (hlo:lo.isSome=lov.isSome/\loOf lov=some i) (hhi:hi.isSome=hiv.isSome/\hiOf xs.length hiv=some j) (hy:cut xs i j=some ys):
  zA P o ((x,a)::(zEA lo lov++zEA hi hiv)) [] [] [] (.sl r D ys) []:=by
 refine zS fun γ ev w hin _=>?_
 have h1:=hs γ w _ (hin (x,a) (by simp));simp only at h1;obtain ⟨A,c,cs,hv,hc,hm,_⟩:=zpM h1;obtain ⟨c0,c1,c2,_⟩:=ztv hy;have hlo':(lo.map ev=none/\i=0)\/∃k,lo.map ev=some (.int k i):=by
  cases lo with
  | none=>
   cases lov with
   | none=>left;exact ⟨rfl,by simpa [loOf] using hlo.2.symm⟩
   | some a=>simp at hlo
  | some y=>
   cases lov with
   | none=>simp at hlo
   | some b=>
    have hb:=hin (y,b) (by simp [zEA]);have h2:=hlo.2;unfold loOf at h2;split at h2
    ·rename_i heq;cases heq
    ·rename_i k i' heq;cases heq;cases h2;right;exact ⟨k,by simp [zfA hb]⟩
    ·cases h2
 have hhi':(hi.map ev=none/\j=(xs.length:Int))\/∃k,hi.map ev=some (.int k j):=by
  cases hi with
  | none=>
   cases hiv with
   | none=>left;exact ⟨rfl,by simpa [hiOf] using hhi.2.symm⟩
   | some a=>simp at hhi
  | some y=>
   cases hiv with
   | none=>simp at hhi
   | some b=>
    have hb:=hin (y,b) (by simp [zEA]);have h2:=hhi.2;unfold hiOf at h2;split at h2
    ·rename_i heq;cases heq
    ·rename_i k i' heq;cases heq;cases h2;right;exact ⟨k,by simp [zfA hb]⟩
    ·cases h2
 rw [hv] at h1;exact ⟨_,w,γ,by simp [execOp,ho,hv,zAl hT w A _ c hc _ _ i j hlo' hhi' c0 c1 c2],Tr.refl _ _ _ _,zII h1 hy,fun b hb=>by cases hb⟩
def Rp.Plain {α:Type} (r:Rp α):Prop:=∀x l,l∈r.lv x->l.plain=true
theorem zW.plain (h:zW F w ls cs) (hp:∀l∈ls,l.plain=true):zW G w' ls cs:=
 ⟨h.1,fun i l u h1 h2=>(h.2 i l u h1 h2).plain (hp l (yR h1))⟩
theorem Rp.Plain.flat {α:Type} {r:Rp α} (h:r.Plain) (xs:List α):∀l∈xs.flatMap r.lv,l.plain=true:=by
 intro l hl;obtain ⟨x,_,hx⟩:=qB.1 hl;exact h x l hx
def zGU {α:Type} (r:Rp α) (e:TypeId) (ℓ:Nat) (C:List Nat) (xs:List α) (a:AV):Prop:=∀γ w v,a.rel γ w v->AV.rel γ w (.own r e ℓ C xs) v
theorem zbu {α:Type} (r:Rp α) (e:TypeId) (ℓ:Nat) (C:List Nat) (xs:List α):zGU r e ℓ C xs (.own r e ℓ C xs):=fun _ _ _ h=>h
theorem zyJ {α:Type} (r:Rp α) (e:TypeId) (ℓ:Nat) (C:List Nat) (h:memN ℓ C=false):zGU r e ℓ C [] (.lf (.val (.slice none 0 0))):=fun γ w v hv=>by
 rw [zsM hv];refine ⟨[],pA w 0 e r.size,?_,zW.nil,fun hc=>by rw [zbt.2 hc] at h;cases h⟩;intro g hg;cases hg
theorem zaT {α:Type} (r:Rp α) (e:TypeId) (ℓ:Nat) (C:List Nat) (h:memN ℓ C=false):AV.le (.lf (.val (.slice none 0 0))) (.own r e ℓ C []):=zyJ r e ℓ C h
theorem zdX {α:Type} (r:Rp α) (C:List Nat):AV.le (.lf (.val (.slice none 0 0))) (.sl r C []):=zBm r C
theorem zmL {α:Type} (r:Rp α) (C C':List Nat) (xs:List α) (h:subN C C'=true):AV.le (.sl r C xs) (.sl r C' xs):=fun _ _ _ hv=>zbk.mono hv fun _ _ hb=>zaq h _ hb
def LIM:Nat:=140737488355328
def app {α:Type} (bytes:Nat) (xs ys:List α):Option (List α):=if (xs.length+ys.length)*bytes<=LIM then some (xs++ys) else none
theorem zAI {α:Type} {bytes:Nat} {xs ys zs:List α} (h:app bytes xs ys=some zs):(xs.length+ys.length)*bytes<=140737488355328/\zs=xs++ys:=by
 unfold app at h;split at h
 ·rename_i hl;cases h;exact ⟨hl,rfl⟩
 ·cases h
def zdL (γ:Gh) (n ℓ g:Nat):Gh:=⟨fun b=>if b<n then γ.col b else ℓ,fun k=>if k=ℓ then g else γ.box k⟩
theorem ztb {P:Program} {t e:TypeId} {size bytes:Nat} (hT:ElT P t e size bytes) (ty:TypeId) (w:World) (base:Nat) (v:Value) (n:Nat) (xs:List Value) (hown:w.ownsRow base e size v n xs) (c:Nat):
  (Builtin.append_ #[t,t] ty #[v,.slice none 0 c]).run P w= .ok v w:=by
 obtain ⟨i,z,hi,hz,hs,hb,hzs⟩:=hT.ex;rcases hown.2 with ⟨rfl,rfl⟩| ⟨g,cap,cur,rfl,_,_,hnc,_⟩
 ·simp [Builtin.append_,run_underlying hT.u,sizeOf,typeInfo,hi,Builtin.lenOf,Builtin.firstCells]
 ·simp [Builtin.append_,run_underlying hT.u,sizeOf,typeInfo,hi,Builtin.lenOf,Builtin.firstCells,hnc,storeCells]
theorem zEH {P:Program} {t e:TypeId} {size bytes:Nat} (hT:ElT P t e size bytes) (hpos:0<size) (hbp:0<bytes) (ty:TypeId) (w:World) (v:Value) (n:Nat) (xs:List Value) (hown:w.ownsRow 0 e size v n xs)
  (A:Option Addr) (m c:Nat) (news:List Value) (hl:news.length=m*size) (hA:0<m->∃b off,A=some ⟨b,off,none⟩/\∀i,i<m*size->w.cell? ⟨b,off+i,none⟩=news[i]?) (h1:∀u∈news,u.oneCell'=true)
  (hlim:(n+m)*bytes<=140737488355328):
  ∃v' w',(Builtin.append_ #[t,t] ty #[v,.slice A m c]).run P w= .ok v' w'/\w'.ownsRow 0 e size v' (n+m) (xs++news)/\w.grownBy w' v.ownBlock/\(v'.ownBlock=v.ownBlock\/v'.ownBlock=some w.heap.size):=by
 obtain ⟨i,z,hi,hz,hs,hb,hzs⟩:=hT.ex;have hnm:n+m<=maxLen:=by
  have:(n+m)*1<=(n+m)*bytes:=uf _ hbp;unfold maxLen;omega
 rcases A with _| ad
 ·have hm:m=0:=by
   rcases pj m with h0| h0
   ·exact h0
   ·obtain ⟨b,off,h,_⟩:=hA h0;cases h
  subst hm;have hn:news=[]:=yw (by simpa using hl);subst hn;exact ⟨v,w,ztb hT ty w 0 v n xs hown c,by simpa using hown,⟨rfl,rfl,rfl,xB _,fun _ _ _=>rfl⟩,.inl rfl⟩
 ·have hnews:∀j u,news[j]? =some u->w.cell? (ad.add j)=some u:=by
   intro j u hu;have hj:j<m*size:=by rw [<-hl];exact (xZ.1 hu).1
   have hm:0<m:=by
    rcases pj m with h0| h0
    ·subst h0;omega
    ·exact h0
   obtain ⟨b,off,h,hc⟩:=hA hm;cases h;rw [zlo,hc j hj];exact hu
  obtain ⟨v',w',hr,ho,hg,_,hbk⟩:=run_append_own_at (P:=P) w 0 t ty e i z size bytes hT.u hi hz hs hb hzs hpos v n xs hown ad m c news hl hnews h1 hnm hlim (xI _);exact ⟨v',w',hr,ho,hg,hbk⟩
theorem zKF {γ:Gh} {w w':World} {e:TypeId} {size n:Nat} {ℓ:Nat} {v v':Value} {cs:List Value} (ho:w.ownsRow 0 e size v n cs) (hg:∀g,v.ownBlock=some g->γ.col g=ℓ/\γ.box ℓ=g) (hgr:w.grownBy w' v.ownBlock)
  (hbk:v'.ownBlock=v.ownBlock\/v'.ownBlock=some w.heap.size):
  ∃γ',Tr [ℓ] [ℓ] γ w γ' w'/\(∀g,v'.ownBlock=some g->γ'.col g=ℓ/\γ'.box ℓ=g):=by
 refine ⟨zdL γ w.heap.size ℓ (v'.ownBlock.getD (γ.box ℓ)),⟨hgr.os,hgr.tape,hgr.output,hgr.size,fun b hb hn=>hgr.block b hb fun e=>?_,fun b hb=>?_,fun k hk=>?_,fun b hb _ h=> .inr (by simp [zdL,Nat.not_lt.2 hb] at h;simp [h])⟩,fun g hgb=>⟨?_,?_⟩⟩
 ·exact hn (by rw [(hg b e.symm).1];exact xx)
 ·simp [zdL,hb]
 ·simp only [xz,xF,xG] at hk;simp [zdL,hk]
 ·rcases hbk with h| h
  ·rw [h] at hgb;have:=(ho.lt g hgb).2;simp [zdL,this,(hg g hgb).1]
  ·rw [h] at hgb;cases hgb;simp [zdL]
 ·simp [zdL,hgb]
theorem zeR {P:Program} {o:Oper} {α:Type} {r:Rp α} {xs ys zs:List α} {C D:List Nat} {a b:AV} {t e:TypeId} {x y:Operand} {bytes:Nat} (ℓ:Nat) (C2:List Nat)
  (ho:o.op= .call ⟨.builtin .append,#[x,y],#[t,t]⟩) (hT:ElT P t e r.size bytes) (hb:Nat.blt 0 bytes=true) (hx:zGU r e ℓ C xs a) (hy:isSl r ys D b) (hz:app bytes xs ys=some zs)
  (hC:r.Plain\/(subN C C2&&subN D C2)=true) (hℓ:memN ℓ C2=false):zA P o [(x,a),(y,b)] [] [ℓ] [ℓ] (.own r e ℓ C2 zs) []:=by
 refine zS fun γ ev w hi _=>?_
 obtain ⟨cs,hown,hg,hA,hnot⟩:=hx γ w _ (hi (x,a) (by simp));have h2:=hy γ w _ (hi (y,b) (by simp));simp only at hown hg h2;obtain ⟨A,c,cs',hv,hc,hm,hA',hcs',hcell⟩:=zpM h2;obtain ⟨hlim,rfl⟩:=zAI hz
 obtain ⟨v',w',hr,ho',hgr,hbk⟩:=zEH hT r.pos (qa (xW hb)) o.type w _ _ _ hown A ys.length c cs' hcs'
  (fun hm=>by obtain ⟨b,off,e,_,_,hc⟩:=hcell hm;exact ⟨b,off,e,hc⟩) hA'.one hlim
 obtain ⟨γ',ht,hg'⟩:=zKF hown hg hgr hbk;refine ⟨v',w',γ',?_,ht,⟨cs++cs',by rw [yh];exact ho',hg',?_,fun hc=>by rw [zbt.2 hc] at hℓ;cases hℓ⟩,fun b hb=>by cases hb⟩
 ·refine zdA (args:=[x,y]) (ts:=[t,t]) ho rfl rfl rfl fun consts=>?_
  simp [builtin,hv,hr]
 ·rw [pk];rcases hC with hp| hC
  ·exact (hA.plain (hp.flat xs)).append (hA'.plain (hp.flat ys))
  ·simp only [xA] at hC;have hn2:∀c∈C2,c∉[ℓ]:=fun c hc h=>by
    simp only [xz,xF,xG] at h;subst h;rw [zbt.2 hc] at hℓ;cases hℓ
   have k1:=ht.all (C:=C2) hn2 (hA.mono fun b _ hb=>zaq hC.1 _ hb);have k2:=ht.all (C:=C2) hn2 (hA'.mono fun b _ hb=>zaq hC.2 _ hb);exact k1.append k2
def zok:LV->Value->Bool
 | .int k n,.int k' n'=>ztF k k'&&decide (n=n')
 | .bool b,.bool b'=>(b&&b')|| (!b&& !b')
 | .str l,.string s=>l.isEmpty&&Nat.beq s.data.toList.length 0
 | .sl n _ ls,.slice none 0 0=>Nat.beq n 0&&ls.isEmpty
 | .val (.slice none 0 0),.slice none 0 0=>true
 | .val (.pointer none),.pointer none=>true
 | .val (.map none),.map none=>true
 | .val .nilFunc,.nilFunc=>true
 | .val .nilIface,.nilIface=>true
 | _,_=>false
theorem zEQ (h:zok l v=true) (F:Fp) (w:World):zbk F w l v:=by
 unfold zok at h;split at h
 ·simp only [xA,xS] at h;have:=ztG h.1;rw [this,h.2];exact .int _ _
 ·rename_i b b';cases b<;>cases b'<;>first| exact .bool _| cases h
 ·rename_i l s;simp only [xA,pl] at h;obtain ⟨rfl,h2⟩:=h;have h3:s.data.toList=[]:=yw (xL h2);have:s=⟨([]:List UInt8).toArray⟩:=by
   obtain ⟨d⟩:=s;congr 1;exact Array.toList_inj.1 (by simpa using h3)
  rw [this];exact .str []
 ·simp only [xA,pl] at h;obtain ⟨h1,rfl⟩:=h;have:=xL h1;subst this;exact .sl 0 _ [] none 0 [] (by simp) (by simp) (xB _) (xI _) (fun h=>absurd h (by omega)) (fun i l u h=>by simp at h)
 ·exact .val _ rfl
 ·exact .val _ rfl
 ·exact .val _ rfl
 ·exact .val _ rfl
 ·exact .val _ rfl
 ·cases h
def zokL:List LV->List Value->Bool
 | [],[]=>true
 | l::ls,v::vs=>zok l v&&zokL ls vs
 | _,_=>false
theorem zuq (h:zokL ls vs=true) (F:Fp) (w:World):zW F w ls vs:=by
 induction ls generalizing vs with
 | nil=>cases vs<;>first| exact .nil| cases h
 | cons l ls ih=>
  cases vs with
  | nil=>cases h
  | cons v vs=>
   simp only [zokL,xA] at h;exact .cons (zEQ h.1 F w) (ih h.2)
structure ZeT (P:Program) {α:Type} (t e:TypeId) (r:Rp α) (bytes:Nat) (x0:α):Prop where
 u:P.underlying t=some (.slice e)
 ex:∃i z,P.info? e=some i/\i.zero=some z/\i.size=r.size/\i.bytes=bytes/\z.cells.size=r.size/\zokL (r.lv x0) z.cells.toList=true
theorem ZeT.el {P:Program} {α:Type} {t e:TypeId} {r:Rp α} {bytes:Nat} {x0:α} (h:ZeT P t e r bytes x0):ElT P t e r.size bytes:=by
 obtain ⟨i,z,h1,h2,h3,h4,h5,_⟩:=h.ex;exact ⟨h.u,i,z,h1,h2,h3,h4,h5⟩
def zeB (P:Program) {α:Type} (e:TypeId) (r:Rp α) (bytes:Nat) (x0:α):Bool:=match P.info? e with
 | some i=>match i.zero with
  | some z=>Nat.beq i.size r.size&&Nat.beq i.bytes bytes&&Nat.beq z.cells.size r.size&&zokL (r.lv x0) z.cells.toList
  | none=>false
 | none=>false
theorem ZeT.ofB {P:Program} {α:Type} {t e:TypeId} {r:Rp α} {bytes:Nat} {x0:α} (hu:P.underlying t=some (.slice e)) (h:zeB P e r bytes x0=true):ZeT P t e r bytes x0:=by
 unfold zeB at h;split at h
 ·rename_i i hi;split at h
  ·rename_i z hz;simp only [xA] at h;exact ⟨hu,i,z,hi,hz,xL h.1.1.1,xL h.1.1.2,xL h.1.2,h.2⟩
  ·cases h
 ·cases h
theorem zJj {β:Type} (l:List β) (n i:Nat) (h:i<n*l.length):((List.replicate n l).flatten)[i]? =l[i%l.length]? :=by
 induction n generalizing i with
 | zero=>omega
 | succ n ih=>
  rw [List.replicate_succ,List.flatten_cons,pC];split
  ·rename_i hi;rw [Nat.mod_eq_of_lt hi]
  ·rename_i hi;rw [yy] at h;rw [ih _ (by omega)];congr 1;rw [<-Nat.mod_eq_sub_mod (by omega)]
theorem zwW {α:Type} {r:Rp α} {x0:α} {z:Value} (hs:z.cells.size=r.size) (hz:zokL (r.lv x0) z.cells.toList=true) (F:Fp) (w:World) (n m:Nat) (hnm:n<=m):
  zW F w ((List.replicate n x0).flatMap r.lv) ((madeCells z.cells (m*r.size)).toList.take (n*r.size)):=by
 have hr:=zuq hz F w;have hl:(madeCells z.cells (m*r.size)).toList.length=m*r.size:=by rw [yF,pm]
 have hle:n*r.size<=m*r.size:=yg _ hnm;refine ⟨by rw [r.flat,pn,xK,hl];omega,fun i l u h1 h2=>?_⟩;have hi:i<n*r.size:=by have:=(xZ.1 h1).1;rw [r.flat,pn] at this;exact this
 have e1:(List.replicate n x0).flatMap r.lv=(List.replicate n (r.lv x0)).flatten:=by rw [List.flatMap_def,List.map_replicate]
 rw [e1,zJj _ _ _ (by rw [r.len];exact hi),r.len] at h1;rw [yk,xw hi] at h2;have hmod:i%r.size<z.cells.size:=by rw [hs];exact Nat.mod_lt _ r.pos
 have e2:(madeCells z.cells (m*r.size)).toList[i]? =z.cells.toList[i%r.size]? :=by
  have him:i<m*r.size:=by omega
  simp only [madeCells,Array.toList_map,Array.toList_range,yB,List.getElem?_range him,pG,hs];rw [qT,qi hmod,yV z.cells _ hmod]
 rw [e2] at h2;exact hr.2 _ l u h1 h2
def mkO {α:Type} (bytes:Nat) (x0:α) (n m:Int):Option (List α):=if 0<=n/\n<=m/\m*bytes<=LIM then some (List.replicate n.toNat x0) else none
theorem zEq {P:Program} {o:Oper} {α:Type} {r:Rp α} {t e:TypeId} {x y:Operand} {bytes:Nat} {x0:α} {k k':IntKind} {n m:Int} {xs:List α} (ℓ:Nat)
  (ho:o.op= .makeSlice t x y) (hT:ZeT P t e r bytes x0) (hb:Nat.blt 0 bytes=true) (hm:mkO bytes x0 n m=some xs):zA P o [(x,.lf (.int k n)),(y,.lf (.int k' m))] [] [] [ℓ] (.own r e ℓ [] xs) []:=by
 refine zS fun γ ev w hi _=>?_
 have h1:=zfA (hi (x,.lf (.int k n)) (by simp));have h2:=zfA (hi (y,.lf (.int k' m)) (by simp));simp only at h1 h2;unfold mkO at hm;split at hm
 case isFalse=>cases hm
 rename_i hh;obtain ⟨h0,hnm,hlim⟩:=hh;cases hm;obtain ⟨i,z,hi',hz,hs,hby,hzs,hzo⟩:=hT.ex;have hbp:0<bytes:=qa (xW hb);have hmb:m<=m*bytes:=by
  have:m*1<=m*(bytes:Int):=Int.mul_le_mul_of_nonneg_left (by omega) (by omega);omega
 have hL:(LIM:Int)=140737488355328:=rfl;have hr:=run_make (P:=P) w t e i z hT.u hi' hz k k' n m h0 hnm (by rw [hby,Int.mul_comm];omega) (by omega);rw [hs] at hr;have hnew:=yO w (.cells (madeCells z.cells (m.toNat*r.size)) e)
 refine ⟨.slice (some ⟨w.heap.size,0,none⟩) n.toNat m.toNat,w.alloc (.cells (madeCells z.cells (m.toNat*r.size)) e),zdL γ w.heap.size ℓ w.heap.size,by simp [execOp,ho,h1,h2,hr],⟨rfl,rfl,rfl,by simp,fun b hb _=>Below.heap_alloc w _ b hb,fun b hb=>by simp [zdL,hb],fun k hk=>?_,fun b hb _ h=> .inr (by simp [zdL,Nat.not_lt.2 hb] at h;simp [h])⟩,
  ⟨(madeCells z.cells (m.toNat*r.size)).toList.take (n.toNat*r.size),?_,fun g hg=>?_,?_,by simp⟩,fun b hb=>by cases hb⟩
 ·simp only [xz,xF,xG] at hk;simp [zdL,hk]
 ·rw [pn];have hle:n.toNat*r.size<=m.toNat*r.size:=yg _ (by omega);have hml:m.toNat<=maxLen:=by unfold maxLen;omega
  refine ⟨by rw [xK,yF,pm];omega,.inr ⟨w.heap.size,m.toNat,_,rfl,xI _,hnew,by omega,hml,by rw [pm],rfl⟩⟩
 ·cases hg;simp [zdL]
 ·exact zwW hzs hzo _ _ _ _ (by omega)
def zxF {β:Type} (cs:List β) (off:Nat) (vs:List β):List β:=cs.take off++vs++cs.drop (off+vs.length)
theorem zwI (off:Nat):∀(vs:List Value) (k:Nat) (cs:Array Value),off+k+vs.length<=cs.size->
  ((vs.zipIdx k).foldl (fun (cs:Array Value) (p:Value×Nat)=>cs.setIfInBounds (off+p.2) p.1) cs).toList=cs.toList.take (off+k)++vs++cs.toList.drop (off+k+vs.length)
 | [],k,cs,_=>by simp
 | v::vs,k,cs,h=>by
  simp only [yn] at h;rw [List.zipIdx_cons,ug,zwI off vs (k+1) _ (by simp;omega)];have:=list_seg_step cs.toList (off+k) v vs (by simp;omega);simp only [uF,yn];rw [<-this,qS off k 1]
def zfC:AV->Option (List LV)
 | .rc r _ x=>some (r.lv x)
 | .ag l=>zjc l
 | a=>match a.toLV with
  | some l=>some [l]
  | none=>none
theorem zpH (h:zfC a=some ls) (hr:a.rel γ w v) (hC:subN a.cols C=true):zW (γ.F C) w ls v.cells.toList:=by
 have leaf:∀l,a.toLV=some l->zW (γ.F C) w [l] v.cells.toList:=fun l hl=>by
  have h1:=zCh hl hr (zaq hC);have:v.cells=#[v]:=by
   have h1c:=h1.one;cases v<;>first| rfl| cases h1c
  rw [this];exact .cons h1 .nil
 cases a with
 | rc r C' x=>
  cases h;obtain ⟨cs,rfl,hA⟩:=hr;exact hA.mono fun b _ hb=>zaq hC _ hb
 | ag l=>
  obtain ⟨vs,rfl,hL,_⟩:=hr;exact zkx h hL (zaq hC)
 | any=>cases h
 | lf l=>cases h;exact leaf _ rfl
 | sl=>cases h;exact leaf _ rfl
 | own=>cases h;exact leaf _ rfl
 | ep=>cases h
 | ptr=>cases h
 | bs=>cases h
 | tl=>cases h
 | qp=>cases h
 | em=>cases h
 | mo=>cases h
 | cu=>cases h
 | mp=>cases h
 | om=>cases h
 | tup=>cases h
 | fv=>cases h
 | bp=>cases h
 | it=>cases h
def zBa (place:Nat->Option (Nat×Nat)) (cs:List LV):List (Nat×List LV)->Option (List LV)
 | []=>some cs
 | (i,vs)::rest=>match place i with
  | none=>none
  | some (off,size)=>match Nat.beq vs.length size&&Nat.ble (off+vs.length) cs.length with
   | true=>zBa place (zxF cs off vs) rest
   | false=>none
theorem zrM :∀(ps:List (Nat×List LV)) (vs:List (Nat×Value)) (cs:List LV) (cells:Array Value) (out:List LV),zBa place cs ps=some out->
  zW F w cs cells.toList->ps.length=vs.length->(∀(k:Nat) (p:Nat×List LV) (v:Nat×Value),ps[k]? =some p->vs[k]? =some v->p.1=v.1/\zW F w p.2 v.2.cells.toList)->
  ∃cells',Instr.fill place cells vs=some cells'/\zW F w out cells'.toList
 | [],vs,cs,cells,out,h,hA,hl,_=>by
  cases h;cases vs with
  | nil=>exact ⟨cells,rfl,hA⟩
  | cons=>simp at hl
 | (i,ls)::ps,vs,cs,cells,out,h,hA,hl,hp=>by
  cases vs with
  | nil=>simp at hl
  | cons v vs=>
   obtain ⟨j,v⟩:=v;obtain ⟨hij,hv⟩:=hp 0 (i,ls) (j,v) rfl rfl;simp only at hij hv;subst hij;rw [zBa] at h;split at h
   ·cases h
   ·rename_i off size hpl;split at h
    ·rename_i hb;simp only [xA] at hb;have e1:=xL hb.1;have e2:=xW hb.2;have hsz:v.cells.size=ls.length:=by rw [hv.1];simp
     have hcl:cells.size=cs.length:=by rw [hA.1];simp
     have hset:=zwI off v.cells.toList 0 cells (by simp;omega);simp only [yL] at hset;have hA2:zW F w (zxF cs off ls) (v.cells.toList.zipIdx.foldl (fun (cs:Array Value) (p:Value×Nat)=>cs.setIfInBounds (off+p.2) p.1) cells).toList:=by
      rw [hset];unfold zxF;rw [hv.1];exact ((hA.take off).append hv).append (hA.drop _)
     obtain ⟨cells',hf,hr⟩:=zrM ps vs _ _ out h hA2 (by simpa using hl) (fun k p u h1 h2=>hp (k+1) p u h1 h2);refine ⟨cells',?_,hr⟩;rw [Instr.fill,hpl];simp only;rw [xu (by simp;omega)];rw [<-hf];congr 1;rw [<-uh];simp
    ·cases h
def zeJ:List (Nat×Operand)->List AV->Option (List (Nat×List LV))
 | [],[]=>some []
 | (i,_)::l,a::as=>match zfC a,zeJ l as with
  | some ls,some r=>some ((i,ls)::r)
  | _,_=>none
 | _,_=>none
theorem znG {γ:Gh} {w:World} {ev:Operand->Value} {C:List Nat}:∀(l:List (Nat×Operand)) (as:List AV) (ps:List (Nat×List LV)),zeJ l as=some ps->(∀p∈(l.map (·.2)).zip as,p.2.rel γ w (ev p.1))->
  subN (AV.colsL as) C=true->ps.length=(l.map fun p=>(p.1,ev p.2)).length/\∀(k:Nat) (p:Nat×List LV) (v:Nat×Value),ps[k]? =some p->(l.map fun p=>(p.1,ev p.2))[k]? =some v->p.1=v.1/\zW (γ.F C) w p.2 v.2.cells.toList
 | [],[],ps,h,_,_=>by cases h;exact ⟨rfl,fun k p v h=>by simp at h⟩
 | (i,x)::l,a::as,ps,h,hr,hC=>by
  rw [zeJ] at h;split at h
  ·rename_i ls r h1 h2;cases h;have hC1:subN a.cols C=true:=by
    simp only [subN,xJ,AV.colsL] at hC|-;exact fun c hc=>hC c (xU _ hc)
   have hC2:subN (AV.colsL as) C=true:=by
    simp only [subN,xJ,AV.colsL] at hC|-;exact fun c hc=>hC c (xV _ hc)
   obtain ⟨g1,g2⟩:=znG l as r h2 (fun p hp=>hr p (by simp [hp])) hC2;refine ⟨by simp [g1],fun k p v hp hv=>?_⟩;cases k with
   | zero=>
    simp at hp hv;subst hp hv;exact ⟨rfl,zpH h1 (hr (x,a) (by simp)) hC1⟩
   | succ k=>exact g2 k p v (by simpa using hp) (by simpa using hv)
  ·cases h
 | [],_::_,ps,h,_,_=>by cases h
 | _::_,[],ps,h,_,_=>by cases h
def ziL (place:Nat->Option (Nat×Nat)) (zl:List LV) (parts:List (Nat×Operand)) (as:List AV):Option (List LV):=match zeJ parts as with
 | some ps=>zBa place zl ps
 | none=>none
theorem zsK (h:ziL place zl parts as=some out):∃ps,zeJ parts as=some ps/\zBa place zl ps=some out:=by
 unfold ziL at h;split at h
 ·rename_i ps hp;exact ⟨ps,hp,h⟩
 ·cases h
structure StT (P:Program) (t:TypeId) (places:List (Nat×Nat)) (zl:List LV):Prop where
 ex:∃fs z,P.underlying t=some (.struct fs)/\(∀w,(zeroValue t).run P w= .ok z w)/\(∀w,(fs.mapM (m:=Sem) fun (f:Field)=>do pure (f.offset,<-sizeOf f.type)).run P w= .ok places.toArray w)/\zokL zl z.cells.toList=true
theorem zaO {P:Program} {o:Oper} {α:Type} {r:Rp α} {t:TypeId} {parts:List (Nat×Operand)} {places:List (Nat×Nat)} {zl:List LV} (as:List AV) (C:List Nat) (x:α)
  (ho:o.op= .build t parts.toArray) (hT:StT P t places zl) (hC:subN (AV.colsL as) C=true) (hf:ziL (fun i=>places[i]?) zl parts as=some (r.lv x)):
  zA P o ((parts.map (·.2)).zip as) [] [] [] (.rc r C x) []:=by
 refine zS fun γ ev w hi _=>?_
 obtain ⟨ps,hp,hf⟩:=zsK hf;obtain ⟨fs,z,hu,hz,hpl,hzo⟩:=hT.ex;obtain ⟨g1,g2⟩:=znG parts as ps hp hi hC;obtain ⟨cells',hfill,hA⟩:=zrM ps _ zl z.cells _ hf (zuq hzo _ w) g1 g2;have hfill':Instr.fill (fun i=>places.toArray[i]?) z.cells (parts.map fun p=>(p.1,ev p.2))=some cells':=by
  rw [<-hfill];congr 1;funext i;simp
 refine ⟨.agg cells',w,γ,?_,Tr.refl _ _ _ _,⟨cells'.toList,by simp,hA⟩,fun b hb=>by cases hb⟩;simp only [execOp,ho,Instr.build,xO,hz,yM hu,xM,hpl,pi];have e:(List.map (fun (x:Nat×Operand)=>(x.1,ev x.2)) parts)=parts.map fun p=>(p.1,ev p.2):=rfl
 simp only [hfill',yl,xM]
theorem zHT {α:Type} {r:Rp α} {x0:α} {z:Value} (hs:z.cells.size=r.size) (hz:zokL (r.lv x0) z.cells.toList=true) (F:Fp) (w:World) (n:Nat):
  zW F w ((List.replicate n x0).flatMap r.lv) (madeCells z.cells (n*r.size)).toList:=by
 have:=zwW hs hz F w n n (xB _)
 rwa [yP (by rw [yF,pm];exact xB _)] at this
theorem zbX {P:Program} {o:Oper} {α:Type} {r:Rp α} {t e:TypeId} {n:Nat} {parts:List (Nat×Operand)} {bytes:Nat} {x0:α} (as:List AV) (ℓ:Nat) (C:List Nat) (xs:List α)
  (ho:o.op= .buildSlice t n parts.toArray) (hT:ZeT P t e r bytes x0) (hn:(Nat.beq n xs.length&&Nat.ble (n*r.size) 16777216)=true) (hC:subN (AV.colsL as) C=true) (hℓ:memN ℓ C=false)
  (hf:ziL (fun i=>some (i*r.size,r.size)) ((List.replicate n x0).flatMap r.lv) parts as=some (xs.flatMap r.lv)):zA P o ((parts.map (·.2)).zip as) [] [] [ℓ] (.own r e ℓ C xs) []:=by
 refine zS fun γ ev w hi _=>?_
 obtain ⟨ps,hp,hf⟩:=zsK hf;obtain ⟨i,z,hi',hz,hs,hby,hzs,hzo⟩:=hT.ex;simp only [xA] at hn;have e1:=xL hn.1;have e2:=xW hn.2;obtain ⟨g1,g2⟩:=znG parts as ps hp hi hC;obtain ⟨cells',hfill,hA⟩:=zrM ps _ _ (madeCells z.cells (n*r.size)) _ hf (zHT hzs hzo _ w n) g1 g2;have hsz:(sizeOf e).run P w= .ok r.size w:=hT.el.size w;have hcs:cells'.size=n*r.size:=by rw [<-yF,<-hA.1,r.flat,e1]
 have hzero:(zeroValue e).run P w= .ok z w:=by simp [zeroValue,typeInfo,hi',hz]
 have ht:Tr [] [ℓ] γ w (zdL γ w.heap.size ℓ w.heap.size) (w.alloc (.cells cells' e)):=⟨rfl,rfl,rfl,by simp,fun b hb _=>Below.heap_alloc w _ b hb,fun b hb=>by simp [zdL,hb],fun k hk=>by
  simp only [xz,xF,xG] at hk;simp [zdL,hk],fun b hb _ h=> .inr (by simp [zdL,Nat.not_lt.2 hb] at h;simp [h])⟩
 refine ⟨.slice (some ⟨w.heap.size,0,none⟩) n n,w.alloc (.cells cells' e),_,?_,ht,
  ⟨cells'.toList,?_,fun g hg=>?_,?_,fun hc=>by rw [zbt.2 hc] at hℓ;cases hℓ⟩,fun b hb=>by cases hb⟩
 ·have hgt:¬(n*r.size>2^24):=by omega
  simp only [execOp,ho,Instr.buildSlice,xO,yM hT.u,xM,hsz,xu hgt,yl,pi];by_cases h0:n*r.size=0
  ·have:n=0:=by rcases Nat.mul_eq_zero.1 h0 with h| h;exact h;exact absurd h (by have:=r.pos;omega)
   have hm0:madeCells z.cells (n*r.size)=#[]:=by rw [h0];simp [madeCells]
   rw [hm0] at hfill;rw [xw h0];have hr0:Array.range 0=#[]:=rfl;simp only [h0,hr0,Array.map_empty,hfill];simp [newRow]
  ·have hm0:madeCells z.cells (n*r.size)=(Array.range (n*r.size)).map (fun x=>z.cells[x%z.cells.size]!):=rfl;rw [hm0] at hfill;simp only [xu h0,xO,hzero,yl,xM,hfill];simp [newRow]
 ·rw [<-e1];refine World.ownsRow_lit w cells' n (xI _) ?_ hcs;have:n*1<=n*r.size:=uf _ r.pos;unfold maxLen;omega
 ·cases hg;simp [zdL]
 ·exact ht.all (fun c _ h=>by cases h) hA
def zokA:AV->Value->Bool
 | .lf l,v=>l.plain&&zok l v
 | .sl _ _ xs,.slice none 0 0=>xs.isEmpty
 | .own _ _ ℓ C xs,.slice none 0 0=>xs.isEmpty&& !memN ℓ C
 | _,_=>false
theorem zIv (h:zokA a v=true) (γ:Gh) (w:World):a.rel γ w v/\v.oneCell'=true:=by
 unfold zokA at h;split at h
 ·simp only [xA] at h;have:=zEQ h.2 (fun _=>False) w;exact ⟨⟨h.1,this⟩,this.one⟩
 ·rename_i α r C xs;have hx:xs=[]:=pl.1 h;subst hx;exact ⟨zBm r C γ w _ ⟨rfl,.val _ rfl⟩,rfl⟩
 ·rename_i α r e ℓ C xs;simp only [xA,ym] at h;have hx:xs=[]:=pl.1 h.1;subst hx;exact ⟨zyJ r e ℓ C h.2 γ w _ ⟨rfl,.val _ rfl⟩,rfl⟩
 ·cases h
def zzr:List AV->List Value->Bool
 | [],[]=>true
 | a::l,v::vs=>zokA a v&&zzr l vs
 | _,_=>false
theorem zzs (h:zzr l vs=true) (γ:Gh) (w:World):AV.relL γ w l vs/\∀u∈vs,u.oneCell'=true:=by
 induction l generalizing vs with
 | nil=>cases vs<;>first| exact ⟨rfl,fun u hu=>by cases hu⟩| cases h
 | cons a l ih=>
  cases vs with
  | nil=>cases h
  | cons v vs=>
   simp only [zzr,xA] at h;obtain ⟨h1,h2⟩:=zIv h.1 γ w;obtain ⟨h3,h4⟩:=ih h.2;refine ⟨⟨v,vs,rfl,h1,h3⟩,fun u hu=>?_⟩;cases hu with
   | head=>exact h2
   | tail _ hu=>exact h4 u hu
theorem zpN (γ:Gh) (w:World) (ℓ:Nat) (o:Obj):Tr [] [ℓ] γ w (zdL γ w.heap.size ℓ w.heap.size) (w.alloc o):=
 ⟨rfl,rfl,rfl,by simp,fun b hb _=>Below.heap_alloc w _ b hb,fun b hb=>by simp [zdL,hb],fun k hk=>by
  simp only [xz,xF,xG] at hk;simp [zdL,hk],fun b hb _ h=> .inr (by simp [zdL,Nat.not_lt.2 hb] at h;simp [h])⟩
theorem zfy (γ:Gh) (n ℓ g:Nat):(zdL γ n ℓ g).box ℓ=g:=by simp [zdL]
theorem zkr (γ:Gh) (n ℓ g:Nat):(zdL γ n ℓ g).col n=ℓ:=by simp [zdL]
theorem ziW (ℓ:Nat) (as:List AV) (ho:o.op= .alloc t) (hz:∀w,(zeroValue t).run P w= .ok z w) (hs:zzr as z.cells.toList=true):
  zA P o [] [] [] [ℓ] (.ptr ℓ 0) [⟨ℓ,t,as⟩]:=by
 refine zS fun γ ev w hi _=>?_
 refine ⟨.pointer (some ⟨w.heap.size,0,none⟩),w.alloc (.cells z.cells t),_,?_,zpN γ w ℓ _,?_,fun b hb=>?_⟩
 ·simp [execOp,ho,Instr.alloc,Sem.run_bind,hz,newVar,newRow]
 ·show _=_;rw [zfy]
 ·simp only [xz,xF,xG] at hb;subst hb;have h:=zzs hs (zdL γ w.heap.size ℓ w.heap.size) (w.alloc (.cells z.cells t));refine ⟨by rw [zfy,zkr],z.cells.toList,?_,h.1,h.2⟩;rw [zfy,qz];exact yO w _
theorem zbc (ℓ:Nat) (as:List AV) (C:List Nat) (ho:o.op= .box t x) (hp:zfC a=some ls) (hC:subN a.cols C=true) (ha:zjc as=some ls) (hl:as.all (ztJ C)=true):
  zA P o [(x,a)] [] [] [ℓ] (.ptr ℓ 0) [⟨ℓ,t,as⟩]:=by
 refine zS fun γ ev w hi _=>?_
 have hA:=zpH hp (hi (x,a) (by simp)) hC;refine ⟨.pointer (some ⟨w.heap.size,0,none⟩),w.alloc (.cells (ev x).cells t),_,?_,zpN γ w ℓ _,?_,fun b hb=>?_⟩
 ·simp [execOp,ho,Instr.box,newVar,newRow]
 ·show _=_;rw [zfy]
 ·simp only [xz,xF,xG] at hb;subst hb;have hA':=(zpN γ w ℓ (.cells (ev x).cells t)).all (fun c _ h=>by cases h) hA;refine ⟨by rw [zfy,zkr],(ev x).cells.toList,?_,zll ha hA' hl,hA.one⟩;rw [zfy,qz];exact yO w _
theorem zKj {P:Program} {o:Oper} {α:Type} {r:Rp α} {t:TypeId} {y:Operand} {b:Bx} {off:Nat} (x:α) (C:List Nat) (ho:o.op= .load t y) (hT:AggT P t r.size) (hs:zjc ((b.avs.drop off).take r.size)=some (r.lv x))
  (hC:subN (AV.colsL ((b.avs.drop off).take r.size)) C=true):zA P o [(y,.ptr b.lab off)] [b] [] [] (.rc r C x) []:=by
 refine zS fun γ ev w hi hb=>?_
 have h1:ev y=_:=hi (y,.ptr b.lab off) (by simp);obtain ⟨hcol,cs,hh,hL,hone⟩:=hb b (by simp);have sub:∀(l:List AV) (vs:List Value) (k:Nat),AV.relL γ w l vs->AV.relL γ w (l.drop k) (vs.drop k):=by
  intro l
  induction l with
  | nil=>intro vs k h;cases h;cases k<;>rfl
  | cons a l ih=>
   intro vs k h;cases k with
   | zero=>exact h
   | succ k=>obtain ⟨v,vs',rfl,h1,h2⟩:=h;exact ih vs' k h2
 have tak:∀(l:List AV) (vs:List Value) (k:Nat),AV.relL γ w l vs->AV.relL γ w (l.take k) (vs.take k):=by
  intro l
  induction l with
  | nil=>intro vs k h;cases h;cases k<;>rfl
  | cons a l ih=>
   intro vs k h;obtain ⟨v,vs',rfl,h1,h2⟩:=h;cases k with
   | zero=>rfl
   | succ k=>exact ⟨v,_,rfl,h1,ih vs' k h2⟩
 have hL':=tak _ _ r.size (sub _ _ off hL);have hA:=zkx hs hL' (zaq hC);have hlen:((cs.drop off).take r.size).length=r.size:=by rw [<-hA.1];exact r.len x
 have hl:=zfl hT (w:=w) (b:=γ.box b.lab) (o:=off) (cs:=(cs.drop off).take r.size) hlen fun i hi=>by
  rw [hlen] at hi;rw [yv w _ _ _ _ _ hh,yk,xw hi,yG];simp
 exact ⟨_,w,γ,by simp [execOp,ho,h1,Instr.loadAt,Instr.sureAddr,hl],Tr.refl _ _ _ _,⟨_,rfl,hA⟩,fun b hb=>by cases hb⟩
theorem zBS (h:AV.relL γ w l vs) (k:Nat) (ha:a.rel γ w v):AV.relL γ w (l.set k a) (vs.set k v):=by
 induction l generalizing vs k with
 | nil=>cases h;exact rfl
 | cons b l ih=>
  obtain ⟨u,vs',rfl,h1,h2⟩:=h;cases k with
  | zero=>exact ⟨v,vs',rfl,ha,h2⟩
  | succ k=>exact ⟨u,_,rfl,h1,ih h2 k⟩
theorem zuY (hcol:γ.col (γ.box ℓ)=ℓ) (cs:Array Value):Tr [ℓ] [] γ w γ (w.setRow (γ.box ℓ) cs):=
 ⟨rfl,rfl,rfl,by simp,fun b hb hn=>pH w _ b cs (fun e=>hn (by rw [e,hcol];exact xx)),fun _ _=>rfl,fun _ _=>rfl,fun b h1 h2=>absurd h2 (by simp;omega)⟩
def zpB:AV->Bool
 | .lf _| .sl ..| .own ..| .ptr ..| .bs ..| .qp ..| .ep ..| .em ..| .mp ..| .om ..| .fv ..| .cu ..=>true
 | _=>false
theorem ztK (h:zpB a=true) (hr:a.rel γ w v):v.oneCell'=true/\v.cells=#[v]:=by
 have key:v.oneCell'=true:=by
  cases a with
  | lf l=>exact hr.2.one
  | sl r C xs=>exact zbk.one hr
  | own r e ℓ C xs=>exact (zta hr).one
  | ptr ℓ off=>have:v=_:=hr;rw [this];rfl
  | bs ℓ n=>have:v=_:=hr;rw [this];rfl
  | tl=>cases h
  | qp r C o=>
   cases o with
   | none=>have:v=_:=hr;rw [this];rfl
   | some x=>obtain ⟨b,cs,hv,_⟩:=hr;rw [hv];rfl
  | ep r C x off=>obtain ⟨b,o,cs,hv,_⟩:=hr;rw [hv];rfl
  | em rk rv C m=>obtain ⟨a,b,es,cl,hv,_⟩:=hr;rw [hv];rfl
  | mo=>cases h
  | cu c ℓ C1 C2=>exact c.one hr
  | any=>cases h
  | rc=>cases h
  | mp rk rv C m=>obtain ⟨b,es,cl,hv,_⟩:=hr;rw [hv];rfl
  | om rk rv ℓ C m=>obtain ⟨b,es,cl,hv,_⟩:=hr;rw [hv];rfl
  | tup=>cases h
  | ag=>cases h
  | fv g l=>obtain ⟨vs,hv,_⟩:=hr;rw [hv];rfl
  | bp=>cases h
  | it=>cases h
 refine ⟨key,?_⟩;cases v<;>first| rfl| cases key
theorem zsO (ho:o.op= .store t y z) (hsz:∀w,(sizeOf t).run P w= .ok 1 w) (hoff:Nat.blt off b.avs.length=true) (ha:zpB a=true)
  (hf:a.free [b.lab] []=true):zA P o [(y,.ptr b.lab off),(z,a)] [b] [b.lab] [] .any [⟨b.lab,b.typ,(b.avs.map (AV.clear [b.lab] [])).set off a⟩]:=by
 intro γ av w hi hb next Q hk;have h1:av.eval y=_:=hi (y,.ptr b.lab off) (by simp);have h2:=hi (z,a) (by simp);simp only at h2;obtain ⟨hone',hcells⟩:=ztK ha h2;obtain ⟨hcol,cs,hh,hL,hone⟩:=hb b (by simp);have hoff':off<cs.length:=by rw [zdc hL];exact qa (xW hoff)
 have hst:=qC P (γ.box b.lab) off b.typ [av.eval z] 0 cs.toArray w hh (by simp;omega) (by simpa using hone');simp only [yL,qc] at hst;have hrun:(execOp av.eval o).run P w= .ok .skip (w.setRow (γ.box b.lab) (cs.set off (av.eval z)).toArray):=by
  have e:cs.take off++[av.eval z]++cs.drop (off+1)=cs.set off (av.eval z):=by
   rw [ui,xw hoff',yS];rfl
  rw [e] at hst;simp [execOp,ho,h1,Instr.storeAt,Instr.sureAddr,storeVar,hsz,hcells,hst]
 unfold Oper.wp;rw [hrun,ul];have ht:=zuY (w:=w) hcol (cs.set off (av.eval z)).toArray;obtain ⟨f1,f2⟩:=AV.free_spec hf;refine hk γ _ undef ht trivial fun b' hb'=>?_
 simp only [xz,xF,xG] at hb';subst hb';refine ⟨hcol,cs.set off (av.eval z),qf w _ _ _ _ _ hh,zBS (zmS hL ht) off (a.keep ht f1 f2 h2),fun u hu=>?_⟩;rcases List.mem_or_eq_of_mem_set hu with h| h
 ·exact hone u h
 ·rw [h];exact hone'
theorem zkw (h:AV.relL γ w l vs) (k:AV.relL γ w m us):AV.relL γ w (l++m) (vs++us):=by
 induction l generalizing vs with
 | nil=>cases h;exact k
 | cons a l ih=>obtain ⟨v,vs',rfl,h1,h2⟩:=h;exact ⟨v,_,rfl,h1,ih h2⟩
theorem zoU :∀(l:List AV) (vs:List Value) (k:Nat),AV.relL γ w l vs->AV.relL γ w (l.drop k) (vs.drop k)
 | [],vs,k,h=>by cases h;cases k<;>rfl
 | a::l,vs,0,h=>h
 | a::l,vs,k+1,h=>by obtain ⟨v,vs',rfl,h1,h2⟩:=h;exact zoU l vs' k h2
theorem zoV :∀(l:List AV) (vs:List Value) (k:Nat),AV.relL γ w l vs->AV.relL γ w (l.take k) (vs.take k)
 | [],vs,k,h=>by cases h;cases k<;>rfl
 | a::l,vs,0,h=>rfl
 | a::l,vs,k+1,h=>by obtain ⟨v,vs',rfl,h1,h2⟩:=h;exact ⟨v,_,rfl,h1,zoV l vs' k h2⟩
theorem zgU {P:Program} {o:Oper} {α:Type} {r:Rp α} {t:TypeId} {y z:Operand} {b:Bx} {off:Nat} {x:α} {C:List Nat} (as:List AV) (ho:o.op= .store t y z) (hsz:∀w,(sizeOf t).run P w= .ok r.size w)
  (hoff:Nat.ble (off+r.size) b.avs.length=true) (hC:memN b.lab C=false) (ha:zjc as=some (r.lv x)) (hl:as.all (ztJ C)=true):
  zA P o [(y,.ptr b.lab off),(z,.rc r C x)] [b] [b.lab] [] .any [⟨b.lab,b.typ,(b.avs.map (AV.clear [b.lab] [])).take off++as++(b.avs.map (AV.clear [b.lab] [])).drop (off+r.size)⟩]:=by
 intro γ av w hi hb next Q hk;have h1:av.eval y=_:=hi (y,.ptr b.lab off) (by simp);obtain ⟨us,hv,hA⟩:=hi (z,.rc r C x) (by simp);simp only at hv;obtain ⟨hcol,cs,hh,hL,hone⟩:=hb b (by simp);have hus:us.length=r.size:=by rw [<-hA.1];exact r.len x
 have hoff':off+r.size<=cs.length:=by rw [zdc hL];exact xW hoff
 have hst:=qC P (γ.box b.lab) off b.typ us 0 cs.toArray w hh (by simp;omega) hA.one;simp only [yL,hus] at hst;have hrun:(execOp av.eval o).run P w= .ok .skip (w.setRow (γ.box b.lab) (cs.take off++us++cs.drop (off+r.size)).toArray):=by
  simp [execOp,ho,h1,hv,Instr.storeAt,Instr.sureAddr,storeVar,hsz,Value.cells,hus,hst]
 unfold Oper.wp;rw [hrun,ul];have ht:=zuY (w:=w) hcol (cs.take off++us++cs.drop (off+r.size)).toArray;have hA':=ht.all (C:=C) (fun c hc h=>by
  simp only [xz,xF,xG] at h;subst h;rw [zbt.2 hc] at hC;cases hC) hA
 have hL':=zmS hL ht;refine hk γ _ undef ht trivial fun b' hb'=>?_
 simp only [xz,xF,xG] at hb';subst hb';refine ⟨hcol,cs.take off++us++cs.drop (off+r.size),qf w _ _ _ _ _ hh,zkw (zkw (zoV _ _ _ hL') (zll ha hA' hl)) (zoU _ _ _ hL'),fun u hu=>?_⟩;simp only [xD] at hu;rcases hu with (h| h)| h
 ·exact hone u (pI h)
 ·exact hA.one u h
 ·exact hone u (pJ h)
theorem zyu (l:List UInt8):l.flatMap Rp.byte.lv=l.map fun c=>LV.int .u8 c.toNat:=by
 induction l with
 | nil=>rfl
 | cons c l ih=>rw [xN,ih];rfl
theorem zHv (ho:o.op= .convert src dst x) (hs:P.underlying src=some (.slice e)) (he:P.underlying e=some (.int .u8)) (hd:P.underlying dst=some .string)
  (hx:isSl Rp.byte l D a):zA P o [(x,a)] [] [] [] (.lf (.str l)) []:=by
 refine zS fun γ ev w hi _=>?_
 have h:=hx γ w _ (hi (x,a) (by simp));simp only at h;obtain ⟨A,c,cs,hv,hc,hm,hA,hcs,hcell⟩:=zpM h;rw [zyu] at hA;have hget:∀j (hj:j<l.length),cs[j]? =some (.int .u8 (l[j].toNat:Int)):=fun j hj=>by
  have hj':j<cs.length:=by rw [hcs];simpa [Rp.byte] using hj
  have:=hA.2 j (.int .u8 (l[j].toNat:Int)) cs[j] (by simp [hj]) (xH hj');rw [xH hj']
  generalize cs[j]=u at this
  cases this;rfl
 have hrun:(convert src dst (.slice A l.length c)).run P w= .ok (.string ⟨l.toArray⟩) w:=by
  rcases pj l.length with h0| h0
  ·have:l=[]:=yw h0;subst this;rcases A with _| ad
   ·exact run_convert_bytes_nil w src e hs he 0 c dst hd
   ·exact run_convert_bytes_back w src dst e ad c [] hs he hd (fun j hj=>absurd hj (by simp))
  ·obtain ⟨b,off,rfl,_,_,hc'⟩:=hcell h0;refine run_convert_bytes_back w src dst e _ c l hs he hd fun j hj=>?_
   rw [zlo,hc' j (by simpa [Rp.byte] using hj)];exact hget j hj
 exact ⟨_,w,γ,by simp [execOp,ho,hv,hrun],Tr.refl _ _ _ _,zHC _ _ _,fun b hb=>by cases hb⟩
theorem zKl (ℓ:Nat) (ho:o.op= .convert src dst x) (hs:P.underlying src=some .string) (hd:P.underlying dst=some (.slice e)) (he:P.underlying e=some (.int .u8)) (hl:Nat.ble l.length 9223372036854775807=true):
  zA P o [(x,.lf (.str l))] [] [] [ℓ] (.sl Rp.byte [ℓ] l) []:=by
 refine zS fun γ ev w hi _=>?_
 have h:=zuF (hi (x,.lf (.str l)) (by simp));simp only at h;have hsz:(⟨l.toArray⟩:ByteArray).size=l.length:=by simp [ByteArray.size_mk']
 have hr:=run_bytes_of_string (P:=P) w src dst e ⟨l.toArray⟩ hs hd he;rw [hsz] at hr
 generalize hcap:grownCap w l.length 0 e=cap at hr
 have hll:l.length<=maxLen:=by unfold maxLen;exact xW hl
 have hc1:l.length<=cap:=by rw [<-hcap];exact grownCap_ge _ _ _ _
 have hc2:cap<=maxLen:=by rw [<-hcap];exact grownCap_le_maxLen _ _ _ _ hll
 generalize hrow:bytesRow ⟨l.toArray⟩ cap=row at hr
 have hnew:(w.drew.alloc (.cells row e (row.size,row.size+1))).heap[w.heap.size]? =some (.cells row e (row.size,row.size+1)):=yO w.drew _
 have ht:Tr [] [ℓ] γ w (zdL γ w.heap.size ℓ w.heap.size) (w.drew.alloc (.cells row e (row.size,row.size+1))):=
  ⟨rfl,rfl,rfl,by simp,fun b hb _=>Below.heap_alloc w.drew _ b hb,fun b hb=>by simp [zdL,hb],fun k hk=>by
   simp only [xz,xF,xG] at hk;simp [zdL,hk],fun b hb _ h=> .inr (by simp [zdL,Nat.not_lt.2 hb] at h;simp [h])⟩
 refine ⟨.slice (some ⟨w.heap.size,0,none⟩) l.length cap,w.drew.alloc (.cells row e (row.size,row.size+1)),_,by simp [execOp,ho,h,hr],ht,?_,fun b hb=>by cases hb⟩;show zbk _ _ (.sl l.length 1 (l.flatMap Rp.byte.lv)) _;rw [zyu];refine .sl _ _ _ _ _ (l.map fun c=>Value.int .u8 c.toNat) (by simp) (by simp) hc1 hc2 (fun h0=>⟨w.heap.size,0,rfl,?_,by simp,fun i hi=>?_⟩) (fun i lv u h1 h2=>?_)
 ·show (zdL γ w.heap.size ℓ w.heap.size).col w.heap.size∈[ℓ];rw [zkr];exact xx
 ·rw [yv _ _ _ _ _ _ hnew,<-hrow];have hi':i<l.length:=by omega
  rw [xE,bytesRow_at ⟨l.toArray⟩ cap i (by simpa using hi')];simp [hi']
 ·simp only [yB,Option.map_eq_some_iff] at h1 h2;obtain ⟨c,hc,rfl⟩:=h1;obtain ⟨c',hc',rfl⟩:=h2;rw [hc] at hc';cases hc';exact .int _ _
theorem zzZ {P:Program} {o:Oper} {t:TypeId} {x y:Operand} {l:List UInt8} {k:IntKind} {i:Int} {c:UInt8} (ho:o.op= .index t x y) (ht:P.underlying t=some .string) (hx:idx l i=some c):
  zA P o [(x,.lf (.str l)),(y,.lf (.int k i))] [] [] [] (.lf (.int .u8 c.toNat)) []:=by
 refine zS fun γ ev w hi _=>?_
 have h1:=zuF (hi (x,.lf (.str l)) (by simp));have h2:=zfA (hi (y,.lf (.int k i)) (by simp));simp only at h1 h2;obtain ⟨i0,i1,i2⟩:=zlA hx;have hb:(⟨l.toArray⟩:ByteArray)[i.toNat]? =some c:=by
  have hlt:i.toNat<(⟨l.toArray⟩:ByteArray).size:=by simp [ByteArray.size_mk'];omega
  rw [ByteArray.getElem?_lt' _ _ hlt];congr 1;have:=(xZ.1 i2).2;rw [<-this];rfl
 exact ⟨_,w,γ,by simp [execOp,ho,h1,h2,Instr.index,asIntOf,run_underlying ht,i0,hb],Tr.refl _ _ _ _,zkF _ _ _ _,fun b hb=>by cases hb⟩
def remI (x y:Int):Option Int:=if y=0 then none else some (x.tmod y)
def shlO (k:IntKind) (x y:Int):Option Int:=if y<0 then none else some (shlI k x y)
def shrO (k:IntKind) (x y:Int):Option Int:=if y<0 then none else some (shrI k x y)
theorem zKk (ho:o.op= .binOp .rem t x y t') (hz:remI m n=some z):zA P o [(x,.lf (.int k m)),(y,.lf (.int k n))] [] [] [] (.lf (.int k z)) []:=by
 refine zS fun γ ev w hi _=>?_
 have h1:=zfA (hi (x,.lf (.int k m)) (by simp));have h2:=zfA (hi (y,.lf (.int k n)) (by simp));simp only at h1 h2;unfold remI at hz;split at hz
 ·cases hz
 ·rename_i hn;cases hz;have hk:¬(k≠k):=fun h=>h rfl
  exact ⟨_,w,γ,by simp only [execOp,ho,h1,h2,xO,zrK,xM,binOp,xu hk,Op.intDiv,xu hn,yl],Tr.refl _ _ _ _,zkF _ _ _ _,fun b hb=>by cases hb⟩
theorem zHy (ho:o.op= .binOp .shl t x y t') (hz:shlO k m n=some z):zA P o [(x,.lf (.int k m)),(y,.lf (.int j n))] [] [] [] (.lf (.int k z)) []:=by
 refine zS fun γ ev w hi _=>?_
 have h1:=zfA (hi (x,.lf (.int k m)) (by simp));have h2:=zfA (hi (y,.lf (.int j n)) (by simp));simp only at h1 h2;unfold shlO at hz;split at hz
 ·cases hz
 ·rename_i hn;cases hz;exact ⟨_,w,γ,by simp only [execOp,ho,h1,h2,xO,zrK,xM,binOp,Op.shift,xu hn,yl];rfl,Tr.refl _ _ _ _,zkF _ _ _ _,fun b hb=>by cases hb⟩
theorem zoo (ho:o.op= .binOp .shr t x y t') (hz:shrO k m n=some z):zA P o [(x,.lf (.int k m)),(y,.lf (.int j n))] [] [] [] (.lf (.int k z)) []:=by
 refine zS fun γ ev w hi _=>?_
 have h1:=zfA (hi (x,.lf (.int k m)) (by simp));have h2:=zfA (hi (y,.lf (.int j n)) (by simp));simp only at h1 h2;unfold shrO at hz;split at hz
 ·cases hz
 ·rename_i hn;cases hz;exact ⟨_,w,γ,by simp only [execOp,ho,h1,h2,xO,zrK,xM,binOp,Op.shift,xu hn,yl];rfl,Tr.refl _ _ _ _,zkF _ _ _ _,fun b hb=>by cases hb⟩
inductive It where
 | c (x:Code)
 | e (id:Nat)
def znB:Code->List It->List It
 | .seq a b,l=>znB a (znB b l)
 | .skip,l=>l
 | x,l=> .c x::l
def ztz (id:Nat):List It->Option (List It)
 | []=>none
 | .c _::l=>ztz id l
 | .e k::l=>match Nat.beq k id with
  | true=>some l
  | false=>ztz id l
structure Sem2 where
 n:Act->World->Prop
 x:Nat->Act->World->Prop
def semI (m:Bool) (P:Program) (Q:Exit->Act->World->Prop):List It->Sem2
 | []=>⟨Q .normal,fun id=>Q (.exit id)⟩
 | .c x::l=>⟨wq m P x fun e a w=>match e with
  | .normal=>(semI m P Q l).n a w
  | .exit id=>(semI m P Q l).x id a w
  | e=>Q e a w,(semI m P Q l).x⟩
 | .e k::l=>⟨(semI m P Q l).n,fun id a w=>if k=id then (semI m P Q l).n a w else (semI m P Q l).x id a w⟩
def wpI (m:Bool) (P:Program) (Q:Exit->Act->World->Prop) (l:List It) (a:Act) (w:World):Prop:=(semI m P Q l).n a w
def wpX (m:Bool) (P:Program) (Q:Exit->Act->World->Prop) (id:Nat) (l:List It) (a:Act) (w:World):Prop:=(semI m P Q l).x id a w
def zjC (m:Bool) (P:Program) (Q:Exit->Act->World->Prop) (l:List It):Exit->Act->World->Prop:=fun e a w=>match e with
 | .normal=>wpI m P Q l a w
 | .exit id=>wpX m P Q id l a w
 | e=>Q e a w
def JI (m:Bool) (P:Program) (l:List It) (S:Act->World->Prop) (Q:Exit->Act->World->Prop):Prop:=∀a w,S a w->wpI m P Q l a w
section
variable {m:Bool} {P:Program} {Q Q':Exit->Act->World->Prop} {S:Act->World->Prop} {l:List It} {x y c:Code}
theorem zrG :wpI m P Q (.c x::l) a w=wq m P x (zjC m P Q l) a w:=rfl
theorem zIt {a:Act} {w:World} {id k:Nat}:wpX m P Q id (.e k::l) a w=if k=id then wpI m P Q l a w else wpX m P Q id l a w:=rfl
theorem zxV {id:Nat} {a:Act} {w:World}:∀{l l':List It},ztz id l=some l'->wpI m P Q l' a w->wpX m P Q id l a w
 | [],_,h,_=>by cases h
 | .c _::l,_,h,k=>zxV (l:=l) h k
 | .e _::l,_,h,k=>by
  rw [zIt];rw [ztz] at h;split at h
  ·rename_i hb;cases h;rw [xw (xL hb)];exact k
  ·rename_i hb;rw [xu (fun e=>by rw [e] at hb;simp at hb)];exact zxV h k
theorem zGH:∀(x:Code) (l:List It) (id:Nat) (a:Act) (w:World),wpX m P Q id (znB x l) a w->wpX m P Q id l a w
 | .seq p q,l,id,a,w,h=>zGH q l id a w (zGH p (znB q l) id a w h)
 | .skip,_,_,_,_,h=>h
 | .region _ _ _,_,_,_,_,h=>h
 | .cond _ _ _,_,_,_,_,h=>h
 | .block _ _,_,_,_,_,h=>h
 | .loop _,_,_,_,_,h=>h
 | .rangeFunc _ _ _ _,_,_,_,_,h=>h
 | .exit _,_,_,_,_,h=>h
 | .scope _,_,_,_,_,h=>h
 | .label _,_,_,_,_,h=>h
 | .goto _,_,_,_,_,h=>h
 | .ret,_,_,_,_,h=>h
 | .refuse _,_,_,_,_,h=>h
theorem zkY:∀(x:Code) (l:List It) (a:Act) (w:World),wpI m P Q (znB x l) a w->wq m P x (zjC m P Q l) a w
 | .seq p q,l,a,w,h=>by
  have h1:=zkY p (znB q l) a w h;refine zjG (zln h1 fun e a' w' hq=>?_);cases e with
  | normal=>exact zkY q l a' w' hq
  | exit id=>exact zGH q l id a' w' hq
  | goto l=>exact hq
  | ret=>exact hq
  | panic ch=>exact hq
  | outgrown=>exact hq
 | .skip,_,_,_,h=>zAz h
 | .region _ _ _,_,_,_,h=>h
 | .cond _ _ _,_,_,_,h=>h
 | .block _ _,_,_,_,h=>h
 | .loop _,_,_,_,h=>h
 | .rangeFunc _ _ _ _,_,_,_,h=>h
 | .exit _,_,_,_,h=>h
 | .scope _,_,_,_,h=>h
 | .label _,_,_,_,h=>h
 | .goto _,_,_,_,h=>h
 | .ret,_,_,_,h=>h
 | .refuse _,_,_,_,h=>h
theorem zm (h:JI m P (znB c []) S Q):J m P c S Q:=fun a w hs=>zln (zkY c [] a w (h a w hs)) fun e a w hq=>by
 cases e with
 | normal=>exact hq
 | exit id=>exact hq
 | goto l=>exact hq
 | ret=>exact hq
 | panic ch=>exact hq
 | outgrown=>exact hq
theorem zCY (h:∀a w,S a w->Q .normal a w):JI m P [] S Q:=fun a w hs=>h a w hs
theorem zX {id:Nat} (h:JI m P l S Q):JI m P (.e id::l) S Q:=fun a w hs=>h a w hs
theorem zab {cx:Cx} {E:Env} {id:Nat} {ops:List Oper} (E':Env) (h:zcM P cx.n ops.toArray ops E E') (k:JI m P l (Sx cx E') Q):JI m P (.c (.region id ops.toArray false)::l) (Sx cx E) Q:=
 fun a w hs=>by rw [zrG];exact zcA (h cx a w _ rfl hs fun a' w' hs'=>k a' w' hs')
theorem zHa (hl:E.opd o=some (.lf (.bool b))) (hb:b=true) (k:JI m P (znB x l) (Sx cx E) Q):JI m P (.c (.cond o x y)::l) (Sx cx E) Q:=fun a w hs=>by
 rw [zrG];obtain ⟨γ,hB,hS,hX⟩:=hs;subst hb;exact zpP (zml (Env.opd_rel hl hS)) (zkY x l a w (k a w ⟨γ,hB,hS,hX⟩))
theorem zGZ (hl:E.opd o=some (.lf (.bool b))) (hb:b=false) (k:JI m P (znB y l) (Sx cx E) Q):JI m P (.c (.cond o x y)::l) (Sx cx E) Q:=fun a w hs=>by
 rw [zrG];obtain ⟨γ,hB,hS,hX⟩:=hs;subst hb;exact zow (zml (Env.opd_rel hl hS)) (zkY y l a w (k a w ⟨γ,hB,hS,hX⟩))
theorem zCZ (h:∀a w,S a w->Q .ret a w):JI m P (.c .ret::l) S Q:=fun a w hs=>by rw [zrG];exact zKG (h a w hs)
theorem zlT {id:Nat} {a:Act} {w:World}:∀{l:List It},ztz id l=none->Q (.exit id) a w->wpX m P Q id l a w
 | [],_,k=>k
 | .c _::l,h,k=>zlT (l:=l) h k
 | .e _::l,h,k=>by
  rw [ztz] at h;split at h
  ·cases h
  ·rename_i hb;rw [zIt,xu (fun e=>by rw [e] at hb;simp at hb)];exact zlT h k
theorem zHb {id:Nat} (he:ztz id l=none) (h:∀a w,S a w->Q (.exit id) a w):JI m P (.c (.exit id)::l) S Q:=fun a w hs=>by
 rw [zrG];exact zAy (zlT he (h a w hs))
theorem zv {id:Nat} (k:JI m P (znB c (.e id::l)) S Q):JI m P (.c (.block id c)::l) S Q:=fun a w hs=>by
 rw [zrG];refine zuo (zln (zkY c (.e id::l) a w (k a w hs)) fun e a' w' hq=>?_);cases e with
 | normal=>exact hq
 | exit j=>
  have hq':wpX m P Q j (.e id::l) a' w':=hq;rw [zIt] at hq';by_cases hj:j=id
  ·rw [xw hj.symm] at hq';simp only [Exit.inBlock,xw hj];exact hq'
  ·rw [xu (fun e=>hj e.symm)] at hq';simp only [Exit.inBlock,xu hj];exact hq'
 | goto l=>exact hq
 | ret=>exact hq
 | panic ch=>exact hq
 | outgrown=>exact hq
end
def zfi (E E':Env):Prop:=∀cx a w,Sx cx E a w->Sx cx E' a w
theorem zvR (ks bs:List Nat) (h:E.pick ks bs=some E'):zfi E E':=fun _ _ _ hs=>hs.pick h
theorem zfi.go (h:zfi E E') (hs:Sx cx E a w):Sx cx E' a w:=h cx a w hs
theorem zfi.trans (h:zfi E E1) (k:zfi E1 E'):zfi E E':=fun cx a w hs=>k cx a w (h cx a w hs)
theorem zKS (t:Nat) (av':AV) (hl:lookup E.sl t=some av) (hle:av.le av'):zfi E ⟨zif (some t) av' E.sl,E.bx⟩:=fun cx a w hs=>by
 obtain ⟨γ,hB,hS,hX⟩:=hs;refine ⟨γ,hB,fun p hp=>?_,hX⟩;simp only [zif,xz] at hp;rcases hp with rfl| hp
 ·exact hle γ w _ (hS _ (zeS hl))
 ·exact hS p (yE.1 hp).1
theorem zBo (h:zfi E E') (k:JI m P l (Sx cx E') Q):JI m P l (Sx cx E) Q:=fun a w hs=>k a w (h cx a w hs)
section
variable {P:Program} {N:Lim} {ops:Array Oper} {rest:List Oper} {E E1 E':Env}
theorem zLi (h:zfi E E1) (k:zcM P N ops rest E1 E'):zcM P N ops rest E E':=fun cx a w Q hn hs hQ=>k cx a w Q hn (h cx a w hs) hQ
end
inductive Fact where
 | sl (k:Nat) (a:AV)
 | bx (b:Bx)
 | rs (k ℓ n:Nat)
 | ms (k ℓ:Nat)
 | lk {κ α:Type} [DecidableEq κ] (k:Nat) (rk:Rp κ) (r:Rp α) (e:TypeId) (ℓ:Nat) (C:List Nat) (m:List (κ×List α)) (q:κ)
 | ap {κ α:Type} [DecidableEq κ] (k:Nat) (rk:Rp κ) (r:Rp α) (e:TypeId) (ℓ:Nat) (C:List Nat) (m:List (κ×List α)) (q:κ) (ys:List α)
def Fact.rel (γ:Gh) (a:Act) (w:World):Fact->Prop
 | .sl k v=>v.rel γ w (a.tmps.getD k undef)
 | .bx b=>b.rel γ w
 | .rs k ℓ n=>0<n->∃c,a.tmps.getD k undef= .slice (some ⟨γ.box ℓ,0,none⟩) n c
 | .ms k ℓ=>a.tmps.getD k undef= .map (some (γ.box ℓ))
 | @Fact.lk _ _ _ k rk r e ℓ C m q=>∃b n,MoIn γ w rk r e ℓ C (fun _=>True) m b n/\a.tmps.getD k undef=(mget n q).getD (.slice none 0 0)
 | @Fact.ap _ _ _ k rk r e ℓ C m q ys=>∃b n,MoIn γ w rk r e ℓ C (fun j=>j≠q) m b n/\znv γ w r e ℓ C ys (a.tmps.getD k undef)/\∀j u,j≠q->mget n j=some u->zCA u (a.tmps.getD k undef)
structure OpD where
 want:Bool
 req:List Fact
 W:List Nat
 V:List Nat
 dst:Option Nat
 prod:List Fact
def ztR (d:Option Nat) (k:Nat):Bool:=match d with
 | some x=>Nat.beq x k
 | none=>false
def OpD.kills (d:OpD):Fact->Bool
 | .sl k a=>ztR d.dst k|| !a.free d.W d.V
 | .bx b=>memN b.lab d.W|| memN b.lab d.V|| !(b.avs.all fun a=>a.free d.W d.V)
 | .rs k ℓ _=>ztR d.dst k|| memN ℓ d.V
 | .ms k ℓ=>ztR d.dst k|| memN ℓ d.V
 | @Fact.lk _ _ _ k _ _ _ ℓ C _ _=>ztR d.dst k|| !((ℓ::C).all fun c=> !memN c d.W)|| memN ℓ d.V
 | @Fact.ap _ _ _ k _ _ _ ℓ C _ _ _=>ztR d.dst k|| !((ℓ::C).all fun c=> !memN c d.W)|| memN ℓ d.V
def zxf (d:OpD) (L:List Fact):List Fact:=d.prod++L.filter fun f=> !d.kills f
theorem zzd (h:AV.relL γ w l vs) (t:Tr W V γ w γ' w') (hf:(l.all fun a=>a.free W V)=true):AV.relL γ' w' l vs:=by
 induction l generalizing vs with
 | nil=>exact h
 | cons a l ih=>
  obtain ⟨v,vs',rfl,h1,h2⟩:=h;simp only [yx,xA] at hf;obtain ⟨f1,f2⟩:=AV.free_spec hf.1;exact ⟨v,vs',rfl,a.keep t f1 f2 h1,ih h2 hf.2⟩
theorem zwc {d:Option Nat} {k:Nat} {a:Act} {v:Value} (h:ztR d k=false):(a.put d v).tmps.getD k undef=a.tmps.getD k undef:=by
 cases d with
 | none=>rfl
 | some x=>exact zly (fun e=>by rw [e] at h;simp [ztR] at h)
theorem offW {l W:List Nat} (h:(l.all fun c=> !memN c W)=true):∀c∈l,c∉W:=fun c hc hw=>by
 simp only [xJ,ym] at h;have:=h c hc;rw [zbt.2 hw] at this;cases this
theorem Fact.keep {d:OpD} {f:Fact} {γ γ':Gh} {a:Act} {w w':World} (h:f.rel γ a w) (t:Tr d.W d.V γ w γ' w') (hk:d.kills f=false) (v:Value):f.rel γ' (a.put d.dst v) w':=by
 cases f with
 | sl k av=>
  simp only [OpD.kills,qj,po] at hk;obtain ⟨f1,f2⟩:=AV.free_spec hk.2;have hr:=av.keep t f1 f2 h;show av.rel γ' w' ((a.put d.dst v).tmps.getD k undef);cases hd:d.dst with
  | none=>exact hr
  | some x=>
   rw [hd] at hk;rw [zly (fun e=>by rw [e] at hk;simp [ztR] at hk)];exact hr
 | bx b=>
  simp only [OpD.kills,qj,po] at hk;obtain ⟨⟨h1,h2⟩,h3⟩:=hk;obtain ⟨hc,cs,hh,hL,hone⟩:=h;have hlt:γ.box b.lab<w.heap.size:=(xY.1 hh).1;have n1:b.lab∉d.W:=fun hm=>by rw [zbt.2 hm] at h1;cases h1
  have n2:b.lab∉d.V:=fun hm=>by rw [zbt.2 hm] at h2;cases h2
  refine ⟨by rw [t.box _ n2,t.col _ hlt];exact hc,cs,?_,zzd hL t h3,hone⟩;rw [t.box _ n2,t.block _ hlt (by rw [hc];exact n1)];exact hh
 | rs k ℓ n=>
  simp only [OpD.kills,qj] at hk;intro hn;obtain ⟨c,hc⟩:=h hn;have n2:ℓ∉d.V:=fun hm=>by have:=hk.2;rw [zbt.2 hm] at this;cases this
  refine ⟨c,?_⟩;rw [t.box _ n2,<-hc];cases hd:d.dst with
  | none=>rfl
  | some x=>rw [zly (fun e=>by have:=hk.1;rw [hd,e] at this;simp [ztR] at this)]
 | ms k ℓ=>
  simp only [OpD.kills,qj] at hk;have n2:ℓ∉d.V:=fun hm=>by have:=hk.2;rw [zbt.2 hm] at this;cases this
  show _=_;rw [t.box _ n2,zwc hk.1];exact h
 | lk k rk r e ℓ C m q=>
  simp only [OpD.kills,qj,po] at hk;obtain ⟨b,n,hm,hv⟩:=h;have hW:=offW hk.1.2;exact ⟨b,n,hm.keep t (hW ℓ xx) (fun c hc=>hW c (xy _ hc)) (fun hc=>by have:=hk.2;rw [zbt.2 hc] at this;cases this),by rw [zwc hk.1.1];exact hv⟩
 | ap k rk r e ℓ C m q ys=>
  simp only [OpD.kills,qj,po] at hk;obtain ⟨b,n,hm,hr,ha⟩:=h;have hW:=offW hk.1.2;have h1:=hW ℓ xx;have h2:=fun c (hc:c∈C)=>hW c (xy _ hc)
  refine ⟨b,n,hm.keep t h1 h2 (fun hc=>by have:=hk.2;rw [zbt.2 hc] at this;cases this),?_,?_⟩
  ·rw [zwc hk.1.1];exact hr.keep t h1 h2
  ·rw [zwc hk.1.1];exact ha
structure Does (P:Program) (ops:Array Oper) (cx:Cx) (i:Nat) (d:OpD):Prop where
 oper:∃o,ops[i]? =some o/\o.dst=d.dst/\∀(γ:Gh) (a:Act) (w:World),Base cx γ a w->(∀f∈d.req,f.rel γ a w)->Region.wanted o (yielded ops a.tmps)=d.want/\
  (d.want=true->∀(next:Act->World->Prop) (Q:Exit->Act->World->Prop),(∀γ' w' v,Tr d.W d.V γ w γ' w'->(∀f∈d.prod,f.rel γ' (a.put d.dst v) w')->next (a.put d.dst v) w')->opq P o a w next Q)/\
  (d.want=false->∀f∈d.prod,f.rel γ (a.put d.dst undef) w)
 okW:okW d.W=true
 okV:YtekgmimingolbaaGreat.okW d.V=true
 kept:∀k,d.dst=some k->k∉cx.n.keep
 none_:d.want=false->d.W=[]/\d.V=[]
def zuJ (acc:List Nat):List Edge->Nat
 | []=>0
 | e::l=>match Region.binds .any e with
  | true=>2^e.on||| acc.getD e.on 0||| zuJ acc l
  | false=>zuJ acc l
def zxb:List Oper->List Nat->List Nat
 | [],acc=>acc
 | o::l,acc=>zxb l (acc++[zuJ acc o.after.toList])
def zqv (ops:Array Oper) (D:Nat->Prop):Prop:=∀(j:Nat) (o:Oper),ops[j]? =some o->D j->∀e∈o.after,Region.binds .any e=true->D e.on
theorem zqZ {D:Nat->Prop} {acc:List Nat} (hacc:∀k m,acc[k]? =some m->D k->∀i,m.testBit i=true->D i):∀(l:List Edge),(∀e∈l,Region.binds .any e=true->D e.on)->∀i,(zuJ acc l).testBit i=true->D i
 | [],_,i,h=>by simp [zuJ] at h
 | e::l,hl,i,h=>by
  rw [zuJ] at h;split at h
  ·rename_i hb;have he:=hl e xx hb;rw [Nat.testBit_or,Nat.testBit_or,qk,qk] at h;rcases h with (h| h)| h
   ·rw [Nat.testBit_two_pow] at h;simp at h;rw [<-h];exact he
   ·cases hk:acc[e.on]? with
    | none=>simp [List.getD,hk] at h
    | some m=>simp [List.getD,hk] at h;exact hacc _ _ hk he i h
   ·exact zqZ hacc l (fun x hx=>hl x (xy _ hx)) i h
  ·exact zqZ hacc l (fun x hx=>hl x (xy _ hx)) i h
theorem zsU {ops:Array Oper} {D:Nat->Prop} (hD:zqv ops D):∀(l:List Oper) (acc:List Nat),(∀j,l[j]? =ops[acc.length+j]?)->(∀k m,acc[k]? =some m->D k->∀i,m.testBit i=true->D i)->
  ∀k m,(zxb l acc)[k]? =some m->D k->∀i,m.testBit i=true->D i
 | [],acc,_,h=>h
 | o::l,acc,hl,h=>by
  have ho:ops[acc.length]? =some o:=by have:=hl 0;simpa using this.symm
  refine zsU hD l _ (fun j=>by have:=hl (j+1);simp at this;rw [this];congr 1;simp;omega) fun k m hk hDk=>?_
  rw [pC] at hk;split at hk
  ·exact h k m hk hDk
  ·rename_i hkl;have hk0:k - acc.length=0:=by
    have:=(xZ.1 hk).1;simp at this;omega
   rw [hk0] at hk;simp at hk;have hke:k=acc.length:=by omega
   subst hke hk;exact zqZ h _ fun e he hb=>hD _ o ho hDk e (by simpa using he) hb
def zkk (di dj:OpD):Bool:=(di.req++di.prod).any dj.kills|| (dj.req++dj.prod).any di.kills
def zqD:List OpD->List Fact->List (List Fact)
 | [],_=>[]
 | d::ds,L=>L::zqD ds (zxf d L)
def endF:List OpD->List Fact->List Fact
 | [],L=>L
 | d::ds,L=>endF ds (zxf d L)
def From (ds:List OpD) (L0:List Fact) (n:Nat) (f:Fact):Prop:=
 (f∈L0/\∀j d,j<n->ds[j]? =some d->d.kills f=false)\/∃p dp,p<n/\ds[p]? =some dp/\f∈dp.prod/\∀j d,p<j->j<n->ds[j]? =some d->d.kills f=false
theorem zFf (hd:ds[n]? =some d) (h:∀f∈L,From ds L0 n f):∀f∈zxf d L,From ds L0 (n+1) f:=by
 intro f hf;simp only [zxf,xD,yE,ym] at hf;rcases hf with hf| ⟨hf,hk⟩
 ·exact .inr ⟨n,d,by omega,hd,hf,fun j dj h1 h2=>by omega⟩
 ·rcases h f hf with ⟨h0,hn⟩| ⟨p,dp,hp,hdp,hfp,hn⟩
  ·refine .inl ⟨h0,fun j dj hj hdj=>?_⟩;by_cases hjn:j=n
   ·subst hjn;rw [hd] at hdj;cases hdj;exact hk
   ·exact hn j dj (by omega) hdj
  ·refine .inr ⟨p,dp,by omega,hdp,hfp,fun j dj h1 h2 hdj=>?_⟩;by_cases hjn:j=n
   ·subst hjn;rw [hd] at hdj;cases hdj;exact hk
   ·exact hn j dj h1 (by omega) hdj
theorem zwJ :∀(ds:List OpD) (n:Nat) (L:List Fact),(∀j,ds[j]? =ds0[n+j]?)->(∀f∈L,From ds0 L0 n f)->
  (∀j Lj,(zqD ds L)[j]? =some Lj->∀f∈Lj,From ds0 L0 (n+j) f)/\∀f∈endF ds L,From ds0 L0 (n+ds.length) f
 | [],n,L,_,h=>⟨fun j Lj hj=>by simp [zqD] at hj,fun f hf=>h f hf⟩
 | d::ds,n,L,hds,h=>by
  have hd:ds0[n]? =some d:=by have:=hds 0;simpa using this.symm
  obtain ⟨g1,g2⟩:=zwJ ds (n+1) (zxf d L) (fun j=>by have:=hds (j+1);simp at this;rw [this];congr 1;omega) (zFf hd h);refine ⟨fun j Lj hj=>?_,fun f hf=>?_⟩
  ·cases j with
   | zero=>simp [zqD] at hj;subst hj;exact h
   | succ j=>
    have:=g1 j Lj (by simpa [zqD] using hj)
    rwa [show n+(j+1)=n+1+j by omega]
  ·have:=g2 f hf
   rwa [show n+(d::ds).length=n+1+ds.length by simp;omega]
def zvZ (ms:List Nat):Nat->OpD->Nat->List OpD->Bool
 | _,_,_,[]=>true
 | i,di,j,dj::l=>(match zkk di dj with
  | true=>(ms.getD j 0).testBit i
  | false=>true)&&zvZ ms i di (j+1) l
def zrf (ms:List Nat):Nat->List OpD->Bool
 | _,[]=>true
 | i,d::l=>zvZ ms i d (i+1) l&&zrf ms (i+1) l
theorem ztS :∀(l:List OpD) (j:Nat),zvZ ms i di j l=true->∀k dk,l[k]? =some dk->zkk di dk=true->(ms.getD (j+k) 0).testBit i=true
 | [],j,_,k,dk,hk,_=>by simp at hk
 | d::l,j,h,k,dk,hk,hc=>by
  simp only [zvZ,xA] at h;cases k with
  | zero=>
   simp at hk;subst hk;have:=h.1;rw [hc] at this;exact this
  | succ k=>
   have:=ztS l (j+1) h.2 k dk (by simpa using hk) hc
   rwa [show j+(k+1)=j+1+k by omega]
theorem zrg :∀(l:List OpD) (n:Nat),zrf ms n l=true->∀i k di dk,i<k->l[i]? =some di->l[k]? =some dk->zkk di dk=true->(ms.getD (n+k) 0).testBit (n+i)=true
 | [],n,_,i,k,di,dk,_,hi,_,_=>by simp at hi
 | d::l,n,h,i,k,di,dk,hik,hi,hk,hc=>by
  simp only [zrf,xA] at h;cases k with
  | zero=>omega
  | succ k=>
   cases i with
   | zero=>
    simp at hi;subst hi;have:=ztS l (n+1) h.1 k dk (by simpa using hk) hc
    rwa [show n+(k+1)=n+1+k by omega]
   | succ i=>
    have:=zrg l (n+1) h.2 i k di dk (by omega) (by simpa using hi) (by simpa using hk) hc
    rwa [show n+(k+1)=n+1+k by omega,show n+(i+1)=n+1+i by omega]
def Holds (ds:List OpD) (L0:List Fact) (D:Nat->Prop) (γ:Gh) (a:Act) (w:World):Prop:=
 (∀f∈L0,(∀j d,D j->ds[j]? =some d->d.kills f=false)->f.rel γ a w)/\
 ∀i di,D i->ds[i]? =some di->∀f∈di.prod,(∀j d,D j->i<j->ds[j]? =some d->d.kills f=false)->f.rel γ a w
theorem zon (hf:f∈di.req\/f∈di.prod) (hk:dj.kills f=true):zkk di dj=true/\zkk dj di=true:=by
 have:f∈di.req++di.prod:=by simpa using hf
 have h1:(di.req++di.prod).any dj.kills=true:=pK.2 ⟨f,this,hk⟩;exact ⟨by rw [zkk,h1];rfl,by rw [zkk,h1,qV]⟩
section
variable {P:Program} {ops:Array Oper} {ds:List OpD} {L0:List Fact} {D:Nat->Prop} {cx:Cx}
theorem zBG (hms:ms=zxb ops.toList []) (ho:zrf ms 0 ds=true) (hD:zqv ops D) (hij:i<j) (hi:ds[i]? =some di) (hj:ds[j]? =some dj) (hc:zkk di dj=true) (hDj:D j):D i:=by
 have hb:=zrg ds 0 ho i j di dj hij hi hj hc;simp only [xE] at hb;cases hm:ms[j]? with
 | none=>simp [List.getD,hm] at hb
 | some m=>
  simp [List.getD,hm] at hb;subst hms;exact zsU hD ops.toList [] (fun j=>by simp) (fun k m hk=>by simp at hk) j m hm hDj i hb
theorem zFi (hms:ms=zxb ops.toList []) (ho:zrf ms 0 ds=true) (hD:zqv ops D) (hi:ds[i]? =some di) (hDi:¬D i) (hpre:∀j,j<i->(ms.getD i 0).testBit j=true->D j)
  (hfrom:∀f∈di.req,From ds L0 i f) (hprod:∀(j:Nat) (d:OpD) (f:Fact),ds[j]? =some d->f∈d.prod->d.kills f=true) (h:Holds ds L0 D γ a w):∀f∈di.req,f.rel γ a w:=by
 intro f hf;have later:∀j d,D j->ds[j]? =some d->d.kills f=true->j<i:=fun j d hDj hj hk=>by
  rcases uo j i with h| h| h
  ·exact h
  ·subst h;exact absurd hDj hDi
  ·exact absurd (zBG hms ho hD h hi hj (zon (.inl hf) hk).1 hDj) hDi
 rcases hfrom f hf with ⟨h0,hn⟩| ⟨p,dp,hp,hdp,hfp,hn⟩
 ·refine h.1 f h0 fun j d hDj hj=>?_
  cases hk:d.kills f with
  | false=>rfl
  | true=>rw [hn j d (later j d hDj hj hk) hj] at hk;cases hk
 ·have hk:=hprod p dp f hdp hfp;have hb:=zrg ds 0 ho p i dp di hp hdp hi (zon (.inl hf) hk).2;simp only [xE] at hb;have hDp:D p:=hpre p hp hb;refine h.2 p dp hDp hdp f hfp fun j d hDj hpj hj=>?_
  cases hk:d.kills f with
  | false=>rfl
  | true=>rw [hn j d hpj (later j d hDj hj hk) hj] at hk;cases hk
theorem zCW (hms:ms=zxb ops.toList []) (ho:zrf ms 0 ds=true) (hD:zqv ops D) (hi:ds[i]? =some di) (hDi:¬D i) (h:Holds ds L0 D γ a w)
  (ht:Tr di.W di.V γ w γ' w') (hp:∀f∈di.prod,f.rel γ' (a.put di.dst v) w'):Holds ds L0 (fun j=>D j\/j=i) γ' (a.put di.dst v) w':=by
 refine ⟨fun f hf hk=>?_,fun p dp hDp hdp f hf hk=>?_⟩
 ·exact Fact.keep (h.1 f hf fun j d hDj hj=>hk j d (.inl hDj) hj) ht (hk i di (.inr rfl) hi) v
 ·by_cases hpi:p=i
  ·subst hpi;rw [hi] at hdp;cases hdp;exact hp f hf
  ·have hDp':D p:=hDp.resolve_right hpi;refine Fact.keep (h.2 p dp hDp' hdp f hf fun j d hDj hpj hj=>hk j d (.inl hDj) hpj hj) ht ?_ v;rcases qd p i with hlt| hge
   ·exact hk i di (.inr rfl) hlt hi
   ·cases hkk:di.kills f with
    | false=>rfl
    | true=>exact absurd (zBG hms ho hD (by omega) hi hdp (zon (.inr hf) hkk).2 hDp') hDi
def zjA (listed:Array Bool):Nat->Prop:=fun i=>listed.getD i false=true
theorem ztu (hD:zqv ops (zjA listed)) (hr:i∈Region.ready .any ops listed):zqv ops fun j=>zjA listed j\/j=i:=by
 intro j o hj hDj e he hb;rcases hDj with hDj| rfl
 ·exact .inl (hD j o hj hDj e he hb)
 ·obtain ⟨_,o',ho',hall⟩:=mem_ready.1 hr;rw [hj] at ho';cases ho';exact .inl (hall e he hb)
theorem zDj (hi:i<listed.size) (j:Nat):zjA (listed.setIfInBounds i true) j↔zjA listed j\/j=i:=by
 unfold zjA;simp only [yD];by_cases hji:j=i
 ·subst hji;rw [uE hi];simp
 ·rw [pE (Ne.symm hji)];simp [hji]
theorem zCz (hs:listed.size=ops.size) (hdown:∀(i:Nat) (o:Oper),ops[i]? =some o->∀e∈o.after,Region.binds .any e=true->e.on<i) (hr:Region.ready .any ops listed=[]):∀i,i<ops.size->zjA listed i:=by
 intro i
 induction i using Nat.strongRecOn with
 | _ i ih=>
  intro hi;cases hl:listed.getD i false with
  | true=>exact hl
  | false=>
   exfalso;have:i∈Region.ready .any ops listed:=by
    refine mem_ready.2 ⟨?_,ops[i],qi hi,fun e he hb=>?_⟩
    ·have hi':i<listed.size:=by omega
     simp only [yD,qi hi',yH] at hl|-;exact hl
    ·have:=hdown i ops[i] (qi hi) e he hb;exact ih e.on this (by omega)
   rw [hr] at this;cases this
theorem zzw (hms:ms=zxb ops.toList []) (ho:zrf ms 0 ds=true) (hlen:ds.length=ops.size) (hdoes:∀i di,ds[i]? =some di->Does P ops cx i di)
  (hfrom:∀i di,ds[i]? =some di->∀f∈di.req,From ds L0 i f) (hprod:∀(j:Nat) (d:OpD) (f:Fact),ds[j]? =some d->f∈d.prod->d.kills f=true)
  (hdown:∀(i:Nat) (o:Oper),ops[i]? =some o->∀e∈o.after,Region.binds .any e=true->e.on<i) 
  (hQ:∀γ a w,Base cx γ a w->Holds ds L0 (fun j=>j<ops.size) γ a w->Q .normal a w):
  ∀(fuel:Nat) (listed:Array Bool) (γ:Gh) (a:Act) (w:World),listed.size=ops.size->zqv ops (zjA listed)->(listed.toList.filter (·==false)).length<=fuel->
   Base cx γ a w->Holds ds L0 (zjA listed) γ a w->anyq P ops Q fuel listed a w:=by
 have fin:∀(listed:Array Bool) (γ:Gh) (a:Act) (w:World),listed.size=ops.size->Region.ready .any ops listed=[]->Base cx γ a w->Holds ds L0 (zjA listed) γ a w->Q .normal a w:=by
  intro listed γ a w hs hr hB hH;have hall:=zCz hs hdown hr;have hlt:∀j d,ds[j]? =some d->j<ops.size:=fun j d hj=>by rw [<-hlen];exact (xZ.1 hj).1
  exact hQ γ a w hB ⟨fun f hf hk=>hH.1 f hf fun j d _ hj=>hk j d (hlt j d hj) hj,fun i di _ hdi f hf hk=>hH.2 i di (hall i (hlt i di hdi)) hdi f hf fun j d _ hij hj=>hk j d (hlt j d hj) hij hj⟩
 intro fuel
 induction fuel with
 | zero=>
  intro listed γ a w hs hD hcnt hB hH;have hr:Region.ready .any ops listed=[]:=by
   cases hre:Region.ready .any ops listed with
   | nil=>rfl
   | cons i l=>
    exfalso;have hi:i∈Region.ready .any ops listed:=by rw [hre];exact xx
    obtain ⟨hun,o,hoi,_⟩:=mem_ready.1 hi;have hil:i<listed.size:=by rw [hs];exact (xY.1 hoi).1
    have hm:false∈listed.toList:=by
     simp only [yD,qi hil,yH] at hun;rw [<-hun];simp
    have:false∈listed.toList.filter (·==false):=yE.2 ⟨hm,rfl⟩;rw [yw (Nat.le_zero.1 hcnt)] at this;cases this
  exact fun _=>⟨hr,fin listed γ a w hs hr hB hH⟩
 | succ fuel ih=>
  intro listed γ a w hs hD hcnt hB hH;refine fun ro=>⟨fun hr=>fin listed γ a w hs hr hB hH,fun i hi=>?_⟩
  obtain ⟨hun,o,hoi,hall⟩:=mem_ready.1 hi;have hilt:i<ops.size:=(xY.1 hoi).1;have hil:i<listed.size:=by omega
  have hid:i<ds.length:=by omega
  have hdi:ds[i]? =some ds[i]:=xH hid;have hnot:¬zjA listed i:=by
   unfold zjA;simp only [yD,qi hil,yH] at hun|-;rw [hun];exact pF
  obtain ⟨o',ho',hdst,hdo⟩:=(hdoes i _ hdi).oper;rw [hoi] at ho';cases ho';have hreq:=zFi hms ho hD hdi hnot (fun j hj hb=>by
   have hm:=zsU (ztu hD hi) ops.toList [] (fun j=>by simp) (fun k m hk=>by simp at hk);cases hk:ms[i]? with
   | none=>simp [List.getD,hk] at hb
   | some m=>
    simp [List.getD,hk] at hb;subst hms;rcases hm i m hk (.inr rfl) j hb with h| h
    ·exact h
    ·omega) (hfrom i _ hdi) hprod hH
  obtain ⟨hw,hT,hF⟩:=hdo γ a w hB hreq;have next:∀(γ':Gh) (w':World) (v:Value),Tr (ds[i]).W (ds[i]).V γ w γ' w'->(∀f∈(ds[i]).prod,f.rel γ' (a.put (ds[i]).dst v) w')->anyq P ops Q fuel (listed.setIfInBounds i true) (a.put o.dst v) w':=by
   intro γ' w' v ht hp;have hcnt':((listed.setIfInBounds i true).toList.filter (·==false)).length<=fuel:=by
    have hli:listed.toList[i]? =some false:=by
     rw [qT,qi hil];simp only [yD,qi hil,yH] at hun;rw [hun]
    have key:∀(l:List Bool) (i:Nat),l[i]? =some false->((l.set i true).filter (·==false)).length+1=(l.filter (·==false)).length:=by
     intro l
     induction l with
     | nil=>intro i h;simp at h
     | cons x l ihl=>
      intro i h;cases i with
      | zero=>simp at h;subst h;simp
      | succ i=>
       have:=ihl i (by simpa using h);cases x<;>simp at this|-<;>omega
    have:=key listed.toList i hli;rw [uF];omega
   rw [hdst];have hB':=(hB.tr ht (hdoes i _ hdi).okW (hdoes i _ hdi).okV).put (ds[i]).dst v (hdoes i _ hdi).kept;have hH':=zCW hms ho hD hdi hnot hH ht hp;have hset:∀j,zjA (listed.setIfInBounds i true) j↔zjA listed j\/j=i:=zDj hil;have hD':zqv ops (zjA (listed.setIfInBounds i true)):=fun j o hj hDj e he hb=>(hset _).2 (ztu hD hi j o hj ((hset j).1 hDj) e he hb)
   exact ih _ γ' _ w' (by simp [hs]) hD' hcnt' hB' ⟨fun f hf hk=>hH'.1 f hf fun j d hDj hj=>hk j d ((hset j).2 hDj) hj,fun p dp hDp hdp f hf hk=>hH'.2 p dp ((hset p).1 hDp) hdp f hf fun j d hDj hpj hj=>hk j d ((hset j).2 hDj) hpj hj⟩
  unfold wpOpIn;rw [hoi];simp only;cases hwant:(ds[i]).want with
  | true=>
   rw [xw (by rw [hw,hwant])];refine ud (fun a w h=>h ro) (hT hwant (anyq P ops Q fuel (listed.setIfInBounds i true)) Q (fun γ' w' v ht hp=>?_) ro);rw [<-hdst];exact next γ' w' v ht hp
  | false=>
   rw [xu (by rw [hw,hwant];exact pF)];obtain ⟨e1,e2⟩:=(hdoes i _ hdi).none_ hwant;exact ⟨fun _ _=>trivial,next γ w undef (by rw [e1,e2];exact Tr.refl _ _ _ _) (hF hwant) ro⟩
end
def rsOf:List (Nat×AV)->List Fact
 | []=>[]
 | (k,.own _ _ ℓ _ xs)::l=> .rs k ℓ xs.length::rsOf l
 | (k,@AV.mo _ _ _ _ _ _ ℓ _ _)::l=> .ms k ℓ::rsOf l
 | _::l=>rsOf l
def zrL (E:Env):List Fact:=E.sl.map (fun p=>Fact.sl p.1 p.2)++E.bx.map Fact.bx++rsOf E.sl
theorem zsf:∀{l:List (Nat×AV)} {f:Fact},f∈rsOf l->(∃k ℓ n,f= .rs k ℓ n)\/∃k ℓ,f= .ms k ℓ
 | [],f,h=>by cases h
 | (k,x)::l,f,h=>by
  cases x with
  | own r e ℓ C xs=>
   simp only [rsOf,xz] at h;rcases h with rfl| h
   ·exact .inl ⟨_,_,_,rfl⟩
   ·exact zsf h
  | mo rk r e ℓ C m=>
   simp only [rsOf,xz] at h;rcases h with rfl| h
   ·exact .inr ⟨_,_,rfl⟩
   ·exact zsf h
  | _=>exact zsf (l:=l) h
theorem zBW :∀{l:List (Nat×AV)},Sl γ w a l->∀f∈rsOf l,f.rel γ a w
 | [],_,f,hf=>by cases hf
 | (k,x)::l,h,f,hf=>by
  have hx:x.rel γ w (a.tmps.getD k undef):=h (k,x) xx;have ht:=fun f hf=>zBW (l:=l) (fun p hp=>h p (xy _ hp)) f hf
  cases x with
  | own r e ℓ C xs=>
   simp only [rsOf,xz] at hf;rcases hf with rfl| hf
   ·intro hn;obtain ⟨cs,ho,hg,_⟩:=hx;rcases ho.2 with ⟨_,h0⟩| ⟨g,cap,cur,hv,_⟩
    ·omega
    ·exact ⟨cap,by rw [hv,(hg g (by rw [hv];rfl)).2]⟩
   ·exact ht f hf
  | mo rk r e ℓ C m=>
   simp only [rsOf,xz] at hf;rcases hf with rfl| hf
   ·obtain ⟨b,n,hv,es,cl,⟨g1,g2⟩,_⟩:=hx;show _=_;rw [g2];exact hv
   ·exact ht f hf
  | _=>exact ht f hf
def zhj:List Fact->Env
 | []=>⟨[],[]⟩
 | .sl k a::l=>⟨(k,a)::(zhj l).sl,(zhj l).bx⟩
 | .bx b::l=>⟨(zhj l).sl,b::(zhj l).bx⟩
 | .rs _ _ _::l=>zhj l
 | .ms _ _::l=>zhj l
 | @Fact.lk _ _ _ _ _ _ _ _ _ _ _::l=>zhj l
 | @Fact.ap _ _ _ _ _ _ _ _ _ _ _ _::l=>zhj l
theorem zmr :(∀p∈(zhj L).sl,Fact.sl p.1 p.2∈L)/\∀b∈(zhj L).bx,Fact.bx b∈L:=by
 induction L with
 | nil=>
  refine ⟨?_,?_⟩
  ·intro p hp;cases hp
  ·intro b hb;cases hb
 | cons f L ih=>
  cases f with
  | sl k a=>
   refine ⟨fun p hp=>?_,fun b hb=>xy _ (ih.2 b hb)⟩;cases hp with
   | head=>exact xx
   | tail _ hp=>exact xy _ (ih.1 p hp)
  | bx b=>
   refine ⟨fun p hp=>xy _ (ih.1 p hp),fun c hc=>?_⟩;cases hc with
   | head=>exact xx
   | tail _ hc=>exact xy _ (ih.2 c hc)
  | rs k ℓ n=>exact ⟨fun p hp=>xy _ (ih.1 p hp),fun b hb=>xy _ (ih.2 b hb)⟩
  | ms k ℓ=>exact ⟨fun p hp=>xy _ (ih.1 p hp),fun b hb=>xy _ (ih.2 b hb)⟩
  | lk=>exact ⟨fun p hp=>xy _ (ih.1 p hp),fun b hb=>xy _ (ih.2 b hb)⟩
  | ap=>exact ⟨fun p hp=>xy _ (ih.1 p hp),fun b hb=>xy _ (ih.2 b hb)⟩
inductive zmx where
 | ev
 | ex (bl:List Nat) (W V:List Nat) (av:AV) (bs:List Bx)
 | raw (ix W V:List Nat) (prod:List Fact)
structure DIn where
 ins:List (Operand×AV)
 bxs:List Bx
 rq:List Fact
def nthF:List Fact->Nat->Option Fact
 | [],_=>none
 | f::_,0=>some f
 | _::l,n+1=>nthF l n
theorem zBD:∀{l:List Fact} {n:Nat} {f:Fact},nthF l n=some f->f∈l
 | [],_,_,h=>by cases h
 | _::_,0,_,h=>by cases h;exact xx
 | _::l,n+1,f,h=>xy _ (zBD (l:=l) (n:=n) h)
def zEx (L:List Fact):List Nat->Option (List Fact)
 | []=>some []
 | n::l=>match nthF L n,zEx L l with
  | some f,some r=>some (f::r)
  | _,_=>none
theorem zyW :∀{ix:List Nat} {r:List Fact},zEx L ix=some r->∀f∈r,f∈L
 | [],r,h,f,hf=>by cases h;cases hf
 | n::ix,r,h,f,hf=>by
  rw [zEx] at h;split at h
  ·rename_i x r' hx hr;cases h;cases hf with
   | head=>exact zBD hx
   | tail _ hf=>exact zyW hr f hf
  ·cases h
def ztq (P:Program) (o:Oper) (rq:List Fact) (W V:List Nat) (prod:List Fact):Prop:=
 ∀(γ:Gh) (a:Act) (w:World),(∀k,o.dst=some k->k<a.tmps.size)->(∀f∈rq,f.rel γ a w)->∀(next:Act->World->Prop) (Q:Exit->Act->World->Prop),
  (∀γ' w' v,Tr W V γ w γ' w'->(∀f∈prod,f.rel γ' (a.put o.dst v) w')->next (a.put o.dst v) w')->opq P o a w next Q
def zlH:List (Operand×AV)->List Fact
 | []=>[]
 | (.tmp k,a)::l=> .sl k a::zlH l
 | _::l=>zlH l
def slOf (d:Option Nat) (a:AV):List Fact:=match d with
 | some k=>[.sl k a]
 | none=>[]
def zlz (ops:Array Oper) (E:Env) (o:Oper):List Fact:=match o.guard with
 | none=>[]
 | some (j,_)=>match ops.toList[j]? with
  | some g=>match g.dst with
   | some t=>match lookup E.sl t with
    | some a=>[.sl t a]
    | none=>[]
   | none=>[]
  | none=>[]
def znC (E:Env):List Operand->List (Operand×AV)
 | []=>[]
 | x::l=>match E.opd x with
  | some a=>(x,a)::znC E l
  | none=>znC E l
def zyt (E:Env):Op->List Bx
 | .load _ x=>match E.opd x with
  | some (.ptr ℓ _)=>match zik E.bx ℓ with
   | some b=>[b]
   | none=>[]
  | _=>[]
 | _=>[]
def zyX (P:Program) (ops:Array Oper) (L:List Fact) (o:Oper) (s:zmx):Option (OpD×List DIn):=match zgN ops (zhj L) o with
 | some true=>match s with
  | .ev=>match zuz P (zhj L).opd (zyt (zhj L) o.op) o.op with
   | some av=>some (⟨true,zlz ops (zhj L) o++(zlH (znC (zhj L) o.op.operands.toList)++(zyt (zhj L) o.op).map .bx),[],[],o.dst,slOf o.dst av⟩,[])
   | none=>none
  | .ex bl W V av bs=>match zrj (zhj L).bx bl with
   | some bxs=>some (⟨true,zlz ops (zhj L) o++(zlH (znC (zhj L) o.op.operands.toList)++bxs.map .bx),W,V,o.dst,slOf o.dst av++bs.map .bx⟩,[⟨znC (zhj L) o.op.operands.toList,bxs,[]⟩])
   | none=>none
  | .raw ix W V prod=>match zEx L ix with
   | some rq=>some (⟨true,zlz ops (zhj L) o++rq,W,V,o.dst,prod⟩,[⟨[],[],rq⟩])
   | none=>none
 | some false=>match s with
  | .ev=>some (⟨false,zlz ops (zhj L) o,[],[],o.dst,slOf o.dst (.tup [])⟩,[])
  | .ex ..=>none
  | .raw ..=>none
 | none=>none
def zvN (P:Program) (N:Lim) (ops:Array Oper):List Oper->List zmx->List Fact->Option (List OpD×List Fact×List DIn)
 | [],_,L=>some ([],L,[])
 | o::l,ss,L=>match zyX P ops L o (ss.headD .ev) with
  | some (d,i)=>match zjS N o.dst&&(okW d.W&&okW d.V)&&d.prod.all d.kills with
   | true=>match zvN P N ops l ss.tail (zxf d L) with
    | some (ds,L',is)=>some (d::ds,L',i++is)
    | none=>none
   | false=>none
  | none=>none
def zDW:Nat->List Oper->Bool
 | _,[]=>true
 | i,o::l=>(o.after.toList.all fun e=> !Region.binds .any e|| Nat.blt e.on i)&&zDW (i+1) l
def zvM (P:Program) (N:Lim) (ops:List Oper) (ss:List zmx) (E:Env) (ks bs:List Nat):Option (Env×List DIn):=
 match zvN P N ops.toArray ops ss (zrL E) with
 | some (ds,L,is)=>match zrf (zxb ops []) 0 ds&&zDW 0 ops with
  | true=>match (zhj L).pick ks bs with
   | some E'=>some (E',is)
   | none=>none
  | false=>none
 | none=>none
def zfp (P:Program):List Oper->List zmx->List DIn->Prop
 | _::l,.ev::ss,is=>zfp P l ss is
 | o::l,.ex _ W V av bs::ss,i::is=>(zA P o i.ins i.bxs W V av bs/\zfp P l ss is)
 | o::l,.raw _ W V prod::ss,i::is=>(ztq P o i.rq W V prod/\zfp P l ss is)
 | _,[],_=>True
 | _,_,[]=>True
 | [],_,_=>True
theorem zsb :∀(l:List Operand),(∀f∈zlH (znC E l),f.rel γ a w)->(∀p∈znC E l,p.2.rel γ w (a.eval p.1))/\Opds E.opd γ w a.eval l
 | [],_=>⟨fun p hp=>by simp [znC] at hp,fun x hx=>by cases hx⟩
 | x::l,h=>by
  rw [znC] at h|-;cases hx:E.opd x with
  | none=>
   rw [hx] at h;obtain ⟨h1,h2⟩:=zsb l h;refine ⟨h1,fun y hy av hav=>?_⟩;cases hy with
   | head=>rw [hx] at hav;cases hav
   | tail _ hy=>exact h2 y hy av hav
  | some av=>
   rw [hx] at h;simp only at h;have hhd:av.rel γ w (a.eval x):=by
    cases x with
    | tmp k=>exact h (.sl k av) (by simp [zlH])
    | const v=>exact znx hx γ w
    | global g=>cases hx
    | func f=>cases hx;exact ⟨rfl,.val _ rfl⟩
   obtain ⟨h1,h2⟩:=zsb (γ:=γ) (a:=a) (w:=w) (E:=E) l (fun f hf=>h f (by cases x<;>simp [zlH,hf]));refine ⟨fun p hp=>?_,fun y hy av' hav=>?_⟩
   ·cases hp with
    | head=>exact hhd
    | tail _ hp=>exact h1 p hp
   ·cases hy with
    | head=>rw [hx] at hav;cases hav;exact hhd
    | tail _ hy=>exact h2 y hy av' hav
theorem zli (h:zgN ops E o=some b) (hs:∀f∈zlz ops E o,f.rel γ a w):Region.wanted o (yielded ops a.tmps)=b:=by
 have h0:=h;unfold zgN at h;unfold zlz at hs;split at h
 ·rename_i hg;cases h;unfold Region.wanted;rw [hg]
 ·rename_i j want hg;rw [hg] at hs;simp only at hs;split at h
  ·rename_i g hj;rw [hj] at hs;simp only at hs;split at h
   ·rename_i t ht;rw [ht] at hs;simp only at hs;cases hl:lookup E.sl t with
    | none=>rw [hl] at h;cases want<;>cases h
    | some av=>
     rw [hl] at hs;have hav:av.rel γ w (a.tmps.getD t undef):=hs (.sl t av) xx;have h1:zgN ops ⟨[(t,av)],[]⟩ o=some b:=by
      unfold zgN;rw [hg];simp only;rw [hj];simp only;rw [ht];simp only;have:lookup [(t,av)] t=some av:=by simp [lookup]
      rw [this];rw [hl] at h;exact h
     exact zfG (γ:=γ) (w:=w) h1 (fun p hp=>by simp at hp;subst hp;exact hav)
   ·cases h
  ·cases h
theorem zxI (hB:Base cx γ a w) (hd:zjS cx.n d=true) (hv:av.rel γ' w' v):∀f∈slOf d av,f.rel γ' (a.put d v) w':=by
 intro f hf;cases d with
 | none=>cases hf
 | some k=>
  simp only [slOf,xz,xF,xG] at hf;subst hf;show av.rel γ' w' ((a.put (some k) v).tmps.getD k undef);rw [zfF (by rw [hB.size];exact zhu hd k rfl)];exact hv
theorem zkZ :∀(l:List Operand),f∈zlH (znC (zhj L) l)->f∈L
 | [],h=>by cases h
 | x::l,h=>by
  rw [znC] at h;cases hx:(zhj L).opd x with
  | none=>rw [hx] at h;exact zkZ l h
  | some av=>
   rw [hx] at h;cases x with
   | tmp k=>
    simp only [zlH,xz] at h;rcases h with rfl| h
    ·exact zmr.1 (k,av) (zeS hx)
    ·exact zkZ l h
   | const v=>exact zkZ l h
   | global g=>exact zkZ l h
   | func g=>exact zkZ l h
theorem zmk (h:f∈zlz ops (zhj L) o):f∈L:=by
 unfold zlz at h;split at h
 ·cases h
 ·split at h
  ·split at h
   ·split at h
    ·rename_i hl;simp only [xz,xF,xG] at h;subst h;exact zmr.1 (_,_) (zeS hl)
    ·cases h
   ·cases h
  ·cases h
theorem zEW (h:b∈zyt (zhj L) op):Fact.bx b∈L:=by
 unfold zyt at h;split at h
 ·split at h
  ·split at h
   ·rename_i b' hb;simp only [xz,xF,xG] at h;subst h;exact zmr.2 _ (zfj hb).1
   ·cases h
  ·cases h
 ·cases h
theorem zDq (h:zyX P ops L o s=some (d,i)) (hn:ops[n]? =some o) (hd:zjS cx.n o.dst=true)
  (hl:∀bl W V av bs,s= .ex bl W V av bs->∀x,i=[x]->zA P o x.ins x.bxs W V av bs) (hl2:∀ix W V prod,s= .raw ix W V prod->∀x,i=[x]->ztq P o x.rq W V prod) (hW:okW d.W=true) (hV:okW d.V=true):Does P ops cx n d/\∀f∈d.req,f∈L:=by
 unfold zyX at h;split at h
 ·rename_i hg;split at h
  ·split at h
   ·rename_i av he;cases h;refine ⟨⟨⟨o,hn,rfl,fun γ a w hB hreq=>⟨zli hg fun f hf=>hreq f (xU _ hf),fun _ next Q hk=>?_,fun h=>by cases h⟩⟩,hW,hV,zeU hd,fun h=>by cases h⟩,fun f hf=>?_⟩
    ·obtain ⟨h1,h2⟩:=zsb (γ:=γ) (a:=a) (w:=w) (E:=zhj L) o.op.operands.toList fun f hf=>hreq f (xV _ (xU _ hf))
     obtain ⟨v,hr,hv⟩:=zpw he h2 (fun b hb=>hreq (.bx b) (xV _ (xV _ (ql hb))));refine zkv hr ?_;exact hk γ w v (Tr.refl _ _ _ _) (zxI hB hd hv)
    ·simp only [xD] at hf;rcases hf with hf| hf| hf
     ·exact zmk hf
     ·exact zkZ _ hf
     ·obtain ⟨b,hb,rfl⟩:=xP.1 hf;exact zEW hb
   ·cases h
  ·rename_i bl W V av bs;split at h
   ·rename_i bxs hbx;cases h;have hlaw:=hl bl W V av bs rfl _ rfl;refine ⟨⟨⟨o,hn,rfl,fun γ a w hB hreq=>⟨zli hg fun f hf=>hreq f (xU _ hf),fun _ next Q hk=>?_,fun h=>by cases h⟩⟩,hW,hV,zeU hd,fun h=>by cases h⟩,fun f hf=>?_⟩
    ·obtain ⟨h1,h2⟩:=zsb (γ:=γ) (a:=a) (w:=w) (E:=zhj L) o.op.operands.toList fun f hf=>hreq f (xV _ (xU _ hf))
     have hbb:Bxs γ w bxs:=fun b hb=>hreq (.bx b) (xV _ (xV _ (ql hb)))
     refine zre (zvX (P:=P) (a:=a) (w:=w) fun nx Qx hn=>hlaw γ a w h1 hbb nx Qx fun _ w' v _ _ _=>hn v w') (hlaw γ a w h1 hbb next Q fun γ' w' v ht hv hbs=>hk γ' w' v ht fun f hf=>?_);simp only [xD] at hf;rcases hf with hf| hf
     ·exact zxI hB hd hv f hf
     ·obtain ⟨b,hb,rfl⟩:=xP.1 hf;exact hbs b hb
    ·simp only [xD] at hf;rcases hf with hf| hf| hf
     ·exact zmk hf
     ·exact zkZ _ hf
     ·obtain ⟨b,hb,rfl⟩:=xP.1 hf;exact zmr.2 _ (zpI _ _ hbx b hb)
   ·cases h
  ·rename_i ix W V prod;split at h
   ·rename_i rq hrq;cases h;have hlaw:=hl2 ix W V prod rfl _ rfl;refine ⟨⟨⟨o,hn,rfl,fun γ a w hB hreq=>⟨zli hg fun f hf=>hreq f (xU _ hf),fun _ next Q hk=>?_,fun h=>by cases h⟩⟩,hW,hV,zeU hd,fun h=>by cases h⟩,fun f hf=>?_⟩
    ·exact hlaw γ a w (fun k hk=>by rw [hB.size];exact zhu hd k hk) (fun f hf=>hreq f (xV _ hf)) next Q hk
    ·rcases xD.1 hf with hf| hf
     ·exact zmk hf
     ·exact zyW hrq f hf
   ·cases h
 ·rename_i hg;split at h
  ·cases h;refine ⟨⟨⟨o,hn,rfl,fun γ a w hB hreq=>⟨zli hg hreq,fun h=>(by cases h),fun _=>zxI hB hd ⟨[],rfl,rfl⟩⟩⟩,hW,hV,zeU hd,fun _=>⟨rfl,rfl⟩⟩,fun f hf=>zmk hf⟩
  ·cases h
  ·cases h
 ·cases h
theorem ztw :∀(l:List Oper) (ss:List zmx) (L:List Fact) (n:Nat) (ds:List OpD) (L':List Fact) (is:List DIn),zvN P cx.n ops l ss L=some (ds,L',is)->
  (∀j,l[j]? =ops[n+j]?)->zfp P l ss is->
  ds.length=l.length/\L'=endF ds L/\∀k d,ds[k]? =some d->Does P ops cx (n+k) d/\(∀f∈d.prod,d.kills f=true)/\∃Lk,(zqD ds L)[k]? =some Lk/\∀f∈d.req,f∈Lk
 | [],ss,L,n,ds,L',is,h,_,_=>by
  cases h;exact ⟨rfl,rfl,fun k d hk=>by simp at hk⟩
 | o::l,ss,L,n,ds,L',is,h,hl,hlaw=>by
  have hn:ops[n]? =some o:=by have:=hl 0;simpa using this.symm
  rw [zvN] at h;split at h
  ·rename_i d i hd;split at h
   ·rename_i hc;simp only [xA] at hc;obtain ⟨⟨hc1,hc2⟩,hc3⟩:=hc;split at h
    ·rename_i ds' L2 is' hr;cases h;have hsplit:(∀bl W V av bs,ss.headD .ev= .ex bl W V av bs->∀x,i=[x]->zA P o x.ins x.bxs W V av bs)/\(∀ix W V prod,ss.headD .ev= .raw ix W V prod->∀x,i=[x]->ztq P o x.rq W V prod)/\zfp P l ss.tail is':=by
      cases ss with
      | nil=>
       refine ⟨fun bl W V av bs he=>by simp at he,fun ix W V prod he=>by simp at he,?_⟩;cases l<;>cases is'<;>trivial
      | cons s ss=>
       cases s with
       | ev=>
        have hi:i=[]:=by
         simp only [pp,zyX] at hd;split at hd
         ·split at hd
          ·cases hd;rfl
          ·cases hd
         ·cases hd;rfl
         ·cases hd
        subst hi;refine ⟨fun bl W V av bs he=>by simp at he,fun ix W V prod he=>by simp at he,?_⟩;simpa [zfp] using hlaw
       | ex bl W V av bs=>
        simp only [pp,zyX] at hd;split at hd
        ·split at hd
         ·cases hd;simp only [yz,yc,zfp] at hlaw;refine ⟨fun bl' W' V' av' bs' he x hi=>?_,fun ix W V prod he=>by simp at he,hlaw.2⟩;simp at he;obtain ⟨rfl,rfl,rfl,rfl,rfl⟩:=he;simp at hi;subst hi;exact hlaw.1
         ·cases hd
        ·cases hd
        ·cases hd
       | raw ix W V prod=>
        simp only [pp,zyX] at hd;split at hd
        ·split at hd
         ·cases hd;simp only [yz,yc,zfp] at hlaw;refine ⟨fun bl' W' V' av' bs' he=>by simp at he,fun ix' W' V' prod' he x hi=>?_,hlaw.2⟩;simp at he;obtain ⟨rfl,rfl,rfl,rfl⟩:=he;simp at hi;subst hi;exact hlaw.1
         ·cases hd
        ·cases hd
        ·cases hd
     obtain ⟨g1,g2,g3⟩:=ztw l ss.tail (zxf d L) (n+1) ds' L' is' hr (fun j=>by have:=hl (j+1);simp at this;rw [this];congr 1;omega) hsplit.2.2;obtain ⟨e1,e2⟩:=zDq hd hn hc1 hsplit.1 hsplit.2.1 hc2.1 hc2.2;refine ⟨by simp [g1],g2,fun k d' hk=>?_⟩;cases k with
     | zero=>
      simp at hk;subst hk;exact ⟨e1,fun f hf=>by simp only [xJ] at hc3;exact hc3 f hf,L,by simp [zqD],e2⟩
     | succ k=>
      have:=g3 k d' (by simpa using hk);rw [show n+(k+1)=n+1+k by omega];exact ⟨this.1,this.2.1,by simpa [zqD] using this.2.2⟩
    ·cases h
   ·cases h
  ·cases h
theorem zwz:∀(l:List Oper) (n:Nat),zDW n l=true->∀k o,l[k]? =some o->∀e∈o.after,Region.binds .any e=true->e.on<n+k
 | [],n,_,k,o,hk=>by simp at hk
 | x::l,n,h,k,o,hk=>by
  simp only [zDW,xA,xJ] at h;cases k with
  | zero=>
   simp at hk;subst hk;intro e he hb;have:=h.1 e (by simpa using he);rw [hb] at this;exact qa (xW this)
  | succ k=>
   have:=zwz l (n+1) h.2 k o (by simpa using hk)
   rwa [show n+(k+1)=n+1+k by omega]
theorem zrQ {m:Bool} {P:Program} {cx:Cx} {E:Env} {id:Nat} {ops:List Oper} {l:List It} {Q:Exit->Act->World->Prop} (E':Env) (ss:List zmx) (is:List DIn) (ks bs:List Nat)
  (hm:P.follows .mixedOrders=true) (h:zvM P cx.n ops ss E ks bs=some (E',is)) (hl:zfp P ops ss is) (k:JI m P l (Sx cx E') Q):JI m P (.c (.region id ops.toArray true)::l) (Sx cx E) Q:=by
 intro a w hs;rw [zrG];obtain ⟨γ,hB,hS,hX⟩:=hs;unfold zvM at h;split at h
 ·rename_i ds L is' hrun;split at h
  ·rename_i hc;split at h
   ·rename_i E2 hp;cases h;simp only [xA] at hc;obtain ⟨g1,g2,g3⟩:=ztw ops ss (zrL E) 0 ds L is hrun (fun j=>by simp) hl;have hfc:=zwJ (ds0:=ds) (L0:=zrL E) ds 0 (zrL E) (fun j=>by simp) (fun f hf=> .inl ⟨hf,fun j d hj=>by omega⟩)
    refine zyo hm (zzw (cx:=cx) (L0:=zrL E) rfl (by simpa using hc.1) (by simpa using g1) (fun i di hi=>by have:=(g3 i di hi).1;rwa [xE] at this) (fun i di hi f hf=>?_) (fun j d f hj hf=>(g3 j d hj).2.1 f hf)
     (fun i o ho e he hb=>by have:=zwz ops 0 hc.2 i o (by simpa using ho) e he hb;omega) (fun γ' a' w' hB' hH=>?_) _ _ γ a {w with drawn:=w.drawn+1} (by simp) (fun j o hj hD=>?_) ?_ ?_ ?_)
    ·obtain ⟨_,_,Lk,hLk,hin⟩:=g3 i di hi;have:=hfc.1 i Lk hLk f (hin f hf)
     rwa [xE] at this
    ·-- what the walk's end knows
     have hend:∀f∈L,f.rel γ' a' w':=fun f hf=>by
      rw [g2] at hf;rcases hfc.2 f hf with ⟨h0,hn⟩| ⟨p,dp,hp',hdp,hfp,hn⟩
      ·exact hH.1 f h0 fun j d hj hjd=>hn j d (by simp only [qD] at hj;omega) hjd
      ·exact hH.2 p dp (by simp only [qD];omega) hdp f hfp fun j d hj hpj hjd=>hn j d hpj (by simp only [qD] at hj;omega) hjd
     refine k a' w' (Sx.pick hp ⟨γ',hB',fun p hp'=>?_,fun b hb=>?_⟩)
     ·exact hend _ (zmr.1 p hp')
     ·exact hend _ (zmr.2 b hb)
    ·unfold zjA at hD;simp only [yD] at hD;by_cases hj':j<ops.length<;>simp [hj'] at hD
    ·simp only [Array.toList_replicate];exact yi (List.length_filter_le _ _) (by simp)
    ·exact ⟨hB.defers,hB.clean,hB.size,hB.kept,cx.X.tr hB.ext (⟨rfl,rfl,rfl,xB _,fun _ _ _=>rfl,fun _ _=>rfl,fun _ _=>rfl,fun b h1 h2=>absurd h2 (qh.2 h1)⟩:Tr [] [] γ w γ w.drew) (fun c hc=>by cases hc) (fun c hc=>by cases hc)⟩
    ·refine ⟨fun f hf _=>?_,fun i di hD=>?_⟩
     ·simp only [zrL,xD,xP] at hf;rcases hf with (⟨p,hp',rfl⟩| ⟨b,hb,rfl⟩)| hf
      ·have ht:Tr [] [] γ w γ w.drew:=⟨rfl,rfl,rfl,xB _,fun _ _ _=>rfl,fun _ _=>rfl,fun _ _=>rfl,fun b h1 h2=>absurd h2 (qh.2 h1)⟩;exact p.2.keep ht (fun c _ h=>by cases h) (fun c _ h=>by cases h) (hS p hp')
      ·have ht:Tr [] [] γ w γ w.drew:=⟨rfl,rfl,rfl,xB _,fun _ _ _=>rfl,fun _ _=>rfl,fun _ _=>rfl,fun b h1 h2=>absurd h2 (qh.2 h1)⟩;obtain ⟨hcol,cs,hh,hL,hone⟩:=hX b hb;refine ⟨hcol,cs,hh,zzd hL ht ?_,hone⟩;simp only [xJ];intro x _;simp [AV.free,memN]
      ·have hf0:=zBW hS f hf;rcases zsf hf with ⟨k,ℓ,n,rfl⟩| ⟨k,ℓ,rfl⟩<;>exact hf0
     ·exfalso;unfold zjA at hD;simp only [yD] at hD;by_cases hj':i<ops.length<;>simp [hj'] at hD
   ·cases h
  ·cases h
 ·cases h
theorem zA.cons (p:Operand×AV) (h:zA P o ins bxs W V av bs):zA P o (p::ins) bxs W V av bs:=
 fun γ a w hi hb=>h γ a w (fun q hq=>hi q (xy _ hq)) hb
def renN (x o c:Nat):Nat:=match Nat.beq c x with
 | true=>o
 | false=>c
theorem zhM (x o:Nat):renN x o x=o:=by simp [renN]
theorem ziq (h:c≠x):renN x o c=c:=by
 unfold renN;cases hb:Nat.beq c x with
 | true=>exact absurd (xL hb) h
 | false=>rfl
def zmc (γ:Gh) (x o:Nat):Gh:=⟨fun b=>renN x o (γ.col b),fun k=>match Nat.beq k o with
 | true=>γ.box x
 | false=>γ.box k⟩
theorem zgr (γ:Gh) (x o:Nat):(zmc γ x o).box o=γ.box x:=by simp [zmc]
theorem zeQ (γ:Gh) (h:k≠o):(zmc γ x o).box k=γ.box k:=by
 show (match Nat.beq k o with
 | true=>γ.box x
 | false=>γ.box k)=_
 cases hb:Nat.beq k o with
 | true=>exact absurd (xL hb) h
 | false=>rfl
mutual
def AV.ren (x o:Nat):AV->AV
 | .any=> .any
 | .lf l=> .lf l
 | .sl r C xs=> .sl r (C.map (renN x o)) xs
 | .own r e ℓ C xs=>match Nat.beq ℓ x,Nat.beq ℓ o with
  | true,_=>match memN o (C.map (renN x o)) with
   | true=> .any
   | false=> .own r e o (C.map (renN x o)) xs
  | false,true=> .any
  | false,false=> .own r e ℓ (C.map (renN x o)) xs
 | .rc r C y=> .rc r (C.map (renN x o)) y
 | .ep r C y off=> .ep r (C.map (renN x o)) y off
 | .ptr ℓ off=>match Nat.beq ℓ x,Nat.beq ℓ o with
  | true,_=> .ptr o off
  | false,true=> .any
  | false,false=> .ptr ℓ off
 | .bs ℓ n=>match Nat.beq ℓ x,Nat.beq ℓ o with
  | true,_=> .bs o n
  | false,true=> .any
  | false,false=> .bs ℓ n
 | .tl ℓ off n=>match Nat.beq ℓ x,Nat.beq ℓ o with
  | true,_=> .tl o off n
  | false,true=> .any
  | false,false=> .tl ℓ off n
 | .qp r C y=> .qp r (C.map (renN x o)) y
 | .em rk rv C m=> .em rk rv (C.map (renN x o)) m
 | .mp rk rv C m=> .mp rk rv (C.map (renN x o)) m
 | .om rk rv ℓ C m=>match Nat.beq ℓ x,Nat.beq ℓ o with
  | true,_=>match memN o (C.map (renN x o)) with
   | true=> .any
   | false=> .om rk rv o (C.map (renN x o)) m
  | false,true=> .any
  | false,false=> .om rk rv ℓ (C.map (renN x o)) m
 | @AV.mo _ _ _ rk r e ℓ C m=>match Nat.beq ℓ x,Nat.beq ℓ o with
  | true,_=>match memN o (C.map (renN x o)) with
   | true=> .any
   | false=> .mo rk r e o (C.map (renN x o)) m
  | false,true=> .any
  | false,false=> .mo rk r e ℓ (C.map (renN x o)) m
 | .cu c ℓ C1 C2=>match Nat.beq ℓ x,Nat.beq ℓ o with
  | true,_=> .cu c o (C1.map (renN x o)) (C2.map (renN x o))
  | false,true=> .any
  | false,false=> .cu c ℓ (C1.map (renN x o)) (C2.map (renN x o))
 | .tup l=> .tup (AV.renL x o l)
 | .ag l=> .ag (AV.renL x o l)
 | .fv g l=> .fv g (AV.renL x o l)
 | .bp r t ℓ C y=>match Nat.beq ℓ x,Nat.beq ℓ o with
  | true,_=> .bp r t o (C.map (renN x o)) y
  | false,true=> .any
  | false,false=> .bp r t ℓ (C.map (renN x o)) y
 | .it rk rv ℓ C last left=>match Nat.beq ℓ x,Nat.beq ℓ o with
  | true,_=> .any
  | false,true=> .any
  | false,false=> .it rk rv ℓ (C.map (renN x o)) last left
def AV.renL (x o:Nat):List AV->List AV
 | []=>[]
 | a::l=>a.ren x o::AV.renL x o l
end
theorem zeP (h:γ.F C b):(zmc γ x o).F (C.map (renN x o)) b:=ql (f:=renN x o) h
mutual
theorem AV.ren_rel (a:AV) (h:a.rel γ w v):(a.ren x o).rel (zmc γ x o) w v:=by
 match a with
 | .any=>trivial
 | .lf l=>exact h
 | .sl r C xs=>exact zbk.mono h fun b _ hb=>zeP hb
 | .rc r C y=>obtain ⟨cs,hv,hA⟩:=h;exact ⟨cs,hv,hA.mono fun b _ hb=>zeP hb⟩
 | .ep r C y off=>obtain ⟨b,o',cs,hv,hF,hb,hA,hc⟩:=h;exact ⟨b,o',cs,hv,zeP hF,hb,hA.mono fun b _ hb=>zeP hb,hc⟩
 | .qp r C none=>exact h
 | .em rk rv C m=>obtain ⟨a,b,es,cl,hv,hFa,ha,hc1,hF,hb,hh,hE⟩:=h;exact ⟨a,b,es,cl,hv,zeP hFa,ha,hc1,zeP hF,hb,hh,hE.mono fun b _ hb=>zeP hb⟩
 | .qp r C (some y)=>obtain ⟨b,cs,hv,hF,hb,hA,hc⟩:=h;exact ⟨b,cs,hv,zeP hF,hb,hA.mono fun b _ hb=>zeP hb,hc⟩
 | @AV.mo _ _ _ rk r e ℓ C m=>
  obtain ⟨b,n,hv,hm⟩:=h;rw [AV.ren];cases h1:Nat.beq ℓ x with
  | true=>
   have:=xL h1;subst this;cases hmm:memN o (C.map (renN ℓ o)) with
   | true=>trivial
   | false=>exact ⟨b,n,hv,hm.regh (fun b _ hc=>by show renN ℓ o (γ.col b)=o;rw [hc,zhM]) (fun b _ hb=>zeP hb) (zgr γ _ _) fun hc=>by rw [zbt.2 hc] at hmm;cases hmm⟩
  | false=>
   have hx:ℓ≠x:=fun e=>by rw [e] at h1;simp at h1
   cases h2:Nat.beq ℓ o with
   | true=>trivial
   | false=>
    have hlo:ℓ≠o:=fun e=>by rw [e] at h2;simp at h2
    refine ⟨b,n,hv,hm.regh (fun b _ hc=>by show renN x o (γ.col b)=ℓ;rw [hc,ziq hx]) (fun b _ hb=>zeP hb) (zeQ γ hlo) fun hc=>?_⟩;obtain ⟨c,hc,he⟩:=xP.1 hc;by_cases hcx:c=x
    ·rw [hcx,zhM] at he;exact hlo he.symm
    ·rw [ziq hcx] at he;rw [he] at hc;exact hm.off hc
 | .cu c ℓ C1 C2=>
  rw [AV.ren];cases h1:Nat.beq ℓ x with
  | true=>
   have:=xL h1;subst this;exact c.move (xB _) (fun _ _ _=>rfl) (fun b _ hc=>by show renN ℓ o (γ.col b)=o;rw [hc,zhM]) (fun b _ hb=>zeP hb) (fun b _ hb=>zeP hb) (zgr γ _ _) h
  | false=>
   have hx:ℓ≠x:=fun e=>by rw [e] at h1;simp at h1
   cases h2:Nat.beq ℓ o with
   | true=>trivial
   | false=>
    have hlo:ℓ≠o:=fun e=>by rw [e] at h2;simp at h2
    exact c.move (xB _) (fun _ _ _=>rfl) (fun b _ hc=>by show renN x o (γ.col b)=ℓ;rw [hc,ziq hx]) (fun b _ hb=>zeP hb) (fun b _ hb=>zeP hb) (zeQ γ hlo) h
 | .tup l=>obtain ⟨vs,hv,hL⟩:=h;exact ⟨vs,hv,AV.renL_rel l hL⟩
 | .ag l=>obtain ⟨vs,hv,hL,h1⟩:=h;exact ⟨vs,hv,AV.renL_rel l hL,h1⟩
 | .fv g l=>obtain ⟨vs,hv,hL⟩:=h;exact ⟨vs,hv,AV.renL_rel l hL⟩
 | .bp r t ℓ C y=>
  obtain ⟨b,cs,hv,⟨g1,g2⟩,hb,hh,h1c,hA⟩:=h;have hA':zW ((zmc γ x o).F (C.map (renN x o))) w (r.lv y) cs.toList:=hA.mono fun b _ hb=>zeP hb
  rw [AV.ren];cases h1:Nat.beq ℓ x with
  | true=>
   have:=xL h1;subst this;refine ⟨b,cs,hv,⟨?_,?_⟩,hb,hh,h1c,hA'⟩
   ·show renN ℓ o (γ.col b)=o;rw [g1,zhM]
   ·rw [zgr];exact g2
  | false=>
   have hx:ℓ≠x:=fun e=>by rw [e] at h1;simp at h1
   cases h2:Nat.beq ℓ o with
   | true=>trivial
   | false=>
    have hlo:ℓ≠o:=fun e=>by rw [e] at h2;simp at h2
    refine ⟨b,cs,hv,⟨?_,?_⟩,hb,hh,h1c,hA'⟩
    ·show renN x o (γ.col b)=ℓ;rw [g1,ziq hx]
    ·rw [zeQ γ hlo];exact g2
 | .it rk rv ℓ C last left=>
  obtain ⟨r,b,hv,⟨g1,g2⟩,hr',hF,hlt,⟨es,cl,seen,since,c0,ls,la,i1,i2,i3,i4,i5,i6,i7,i8,i9,i10⟩,hn⟩:=h;rw [AV.ren];cases h1:Nat.beq ℓ x with
  | true=>trivial
  | false=>
   have hx:ℓ≠x:=fun e=>by rw [e] at h1;simp at h1
   cases h2:Nat.beq ℓ o with
   | true=>trivial
   | false=>
    have hlo:ℓ≠o:=fun e=>by rw [e] at h2;simp at h2
    refine ⟨r,b,hv,⟨?_,?_⟩,hr',zeP hF,hlt,⟨es,cl,seen,since,c0,ls,la,i1,i2,i3,i4,i5,i6,i7,i8.mono fun b _ hb=>zeP hb,i9.mono fun b _ hb=>zeP hb,i10⟩,fun hc=>?_⟩
    ·show renN x o (γ.col r)=ℓ;rw [g1,ziq hx]
    ·rw [zeQ γ hlo];exact g2
    ·obtain ⟨c,hc,he⟩:=xP.1 hc;by_cases hcx:c=x
     ·rw [hcx,zhM] at he;exact hlo he.symm
     ·rw [ziq hcx] at he;rw [he] at hc;exact hn hc
 | .mp rk rv C m=>obtain ⟨b,es,cl,hv,hF,hb,hh,hE⟩:=h;exact ⟨b,es,cl,hv,zeP hF,hb,hh,hE.mono fun b _ hb=>zeP hb⟩
 | .om rk rv ℓ C m=>
  obtain ⟨b,es,cl,hv,⟨g1,g2⟩,hb,hh,hE,hn⟩:=h;have hE':zdY ((zmc γ x o).F (C.map (renN x o))) w rk rv m es.toList:=hE.mono fun b _ hb=>zeP hb
  rw [AV.ren];cases h1:Nat.beq ℓ x with
  | true=>
   have:=xL h1;subst this;cases hm:memN o (C.map (renN ℓ o)) with
   | true=>trivial
   | false=>
    refine ⟨b,es,cl,hv,⟨?_,?_⟩,hb,hh,hE',fun hc=>by rw [zbt.2 hc] at hm;cases hm⟩
    ·show renN ℓ o (γ.col b)=o;rw [g1,zhM]
    ·rw [zgr];exact g2
  | false=>
   have hx:ℓ≠x:=fun e=>by rw [e] at h1;simp at h1
   cases h2:Nat.beq ℓ o with
   | true=>trivial
   | false=>
    have hlo:ℓ≠o:=fun e=>by rw [e] at h2;simp at h2
    refine ⟨b,es,cl,hv,⟨?_,?_⟩,hb,hh,hE',fun hc=>?_⟩
    ·show renN x o (γ.col b)=ℓ;rw [g1,ziq hx]
    ·rw [zeQ γ hlo];exact g2
    ·obtain ⟨c,hc,he⟩:=xP.1 hc;by_cases hcx:c=x
     ·rw [hcx,zhM] at he;exact hlo he.symm
     ·rw [ziq hcx] at he;rw [he] at hc;exact hn hc
 | .ptr ℓ off=>
  have hv:v= .pointer (some ⟨γ.box ℓ,off,none⟩):=h;rw [AV.ren];cases h1:Nat.beq ℓ x with
  | true=>
   have:=xL h1;subst this;show v=_;rw [zgr];exact hv
  | false=>
   cases h2:Nat.beq ℓ o with
   | true=>trivial
   | false=>
    show v=_;rw [zeQ γ (fun e=>by rw [e] at h2;simp at h2)];exact hv
 | .tl ℓ off n=>
  obtain ⟨A,c,hv,hA⟩:=h;rw [AV.ren];cases h1:Nat.beq ℓ x with
  | true=>
   have:=xL h1;subst this;exact ⟨A,c,hv,fun hn=>by rw [zgr];exact hA hn⟩
  | false=>
   cases h2:Nat.beq ℓ o with
   | true=>trivial
   | false=>exact ⟨A,c,hv,fun hn=>by rw [zeQ γ (fun e=>by rw [e] at h2;simp at h2)];exact hA hn⟩
 | .bs ℓ n=>
  have hv:v= .slice (some ⟨γ.box ℓ,0,none⟩) n n:=h;rw [AV.ren];cases h1:Nat.beq ℓ x with
  | true=>
   have:=xL h1;subst this;show v=_;rw [zgr];exact hv
  | false=>
   cases h2:Nat.beq ℓ o with
   | true=>trivial
   | false=>
    show v=_;rw [zeQ γ (fun e=>by rw [e] at h2;simp at h2)];exact hv
 | .own r e ℓ C xs=>
  obtain ⟨cs,ho,hg,hA,hn⟩:=h;have hA':zW ((zmc γ x o).F (C.map (renN x o))) w (xs.flatMap r.lv) cs:=hA.mono fun b _ hb=>zeP hb
  rw [AV.ren];cases h1:Nat.beq ℓ x with
  | true=>
   have:=xL h1;subst this;cases hm:memN o (C.map (renN ℓ o)) with
   | true=>trivial
   | false=>
    refine ⟨cs,ho,fun g hgb=>⟨?_,?_⟩,hA',fun hc=>by rw [zbt.2 hc] at hm;cases hm⟩
    ·show renN ℓ o (γ.col g)=o;rw [(hg g hgb).1,zhM]
    ·rw [zgr];exact (hg g hgb).2
  | false=>
   have hx:ℓ≠x:=fun e=>by rw [e] at h1;simp at h1
   cases h2:Nat.beq ℓ o with
   | true=>trivial
   | false=>
    have hlo:ℓ≠o:=fun e=>by rw [e] at h2;simp at h2
    refine ⟨cs,ho,fun g hgb=>⟨?_,?_⟩,hA',fun hc=>?_⟩
    ·show renN x o (γ.col g)=ℓ;rw [(hg g hgb).1,ziq hx]
    ·rw [zeQ γ hlo];exact (hg g hgb).2
    ·obtain ⟨c,hc,he⟩:=xP.1 hc;by_cases hcx:c=x
     ·rw [hcx,zhM] at he;exact hlo he.symm
     ·rw [ziq hcx] at he;rw [he] at hc;exact hn hc
theorem AV.renL_rel (l:List AV) (h:AV.relL γ w l vs):AV.relL (zmc γ x o) w (AV.renL x o l) vs:=by
 match l with
 | []=>exact h
 | a::l=>
  obtain ⟨v,vs',rfl,h1,h2⟩:=h;exact ⟨v,vs',rfl,AV.ren_rel a h1,AV.renL_rel l h2⟩
end
def zze (x o:Nat):List Bx->List Bx
 | []=>[]
 | b::l=>match Nat.beq b.lab x,Nat.beq b.lab o with
  | true,_=>⟨o,b.typ,AV.renL x o b.avs⟩::zze x o l
  | false,true=>zze x o l
  | false,false=>⟨b.lab,b.typ,AV.renL x o b.avs⟩::zze x o l
def Env.ren (x o:Nat) (E:Env):Env:=⟨E.sl.map fun p=>(p.1,p.2.ren x o),zze x o E.bx⟩
theorem zKh (x o:Nat) (h:(Nat.ble 2 x&&Nat.ble 2 o&& !spB x)=true):zfi E (E.ren x o):=fun cx a w hs=>by
 obtain ⟨γ,hB,hS,hX⟩:=hs;simp only [xA] at h;have hx:=xW h.1.1;have ho:=xW h.1.2;have hal:zwh γ (zmc γ x o):=by
  refine ⟨fun b hb=>?_,fun b hb=>?_,fun b (hb:renN x o (γ.col b)=0)=>?_,fun b hb=>?_⟩
  ·show renN x o (γ.col b)=0;rw [ziq (by omega)];exact hb
  ·show renN x o (γ.col b)=1;rw [ziq (by omega)];exact hb
  ·by_cases e:γ.col b=x
   ·rw [e,zhM] at hb;omega
   ·rw [ziq e] at hb;exact hb
  ·show renN x o (γ.col b)=_;refine ziq fun e=>?_
   rw [e] at hb;rw [hb] at h;simp at h
 refine ⟨zmc γ x o,⟨hB.defers.ren hal,hB.clean,hB.size,hB.kept,cx.X.ren hB.ext hal⟩,fun p hp=>?_,?_⟩
 ·obtain ⟨q,hq,rfl⟩:=xP.1 hp;exact AV.ren_rel q.2 (hS q hq)
 ·have key:∀l,Bxs γ w l->Bxs (zmc γ x o) w (zze x o l):=by
   intro l
   induction l with
   | nil=>intro _ b hb;cases hb
   | cons c l ih=>
    intro hl b hb;have ih':=ih fun d hd=>hl d (xy _ hd)
    obtain ⟨hc,cs,hh,hL,hone⟩:=hl c xx;rw [zze] at hb;cases h1:Nat.beq c.lab x with
    | true=>
     rw [h1] at hb;simp only [xz] at hb;rcases hb with rfl| hb
     ·have e1:=xL h1;refine ⟨?_,cs,?_,AV.renL_rel _ hL,hone⟩
      ·show renN x o (γ.col ((zmc γ x o).box o))=o;rw [zgr,<-e1,hc,e1,zhM]
      ·show w.heap[(zmc γ x o).box o]? =_;rw [zgr,<-e1];exact hh
     ·exact ih' b hb
    | false=>
     rw [h1] at hb;have hnx:c.lab≠x:=fun e=>by rw [e] at h1;simp at h1
     cases h2:Nat.beq c.lab o with
     | true=>rw [h2] at hb;exact ih' b hb
     | false=>
      rw [h2] at hb;have hno:c.lab≠o:=fun e=>by rw [e] at h2;simp at h2
      simp only [xz] at hb;rcases hb with rfl| hb
      ·refine ⟨?_,cs,?_,AV.renL_rel _ hL,hone⟩
       ·show renN x o (γ.col ((zmc γ x o).box c.lab))=c.lab;rw [zeQ γ hno,hc,ziq hnx]
       ·show w.heap[(zmc γ x o).box c.lab]? =_;rw [zeQ γ hno];exact hh
      ·exact ih' b hb
  exact key E.bx hX
def zcE:LV->Value
 | .int k n=> .int k n
 | .bool b=> .bool b
 | .str l=> .string ⟨l.toArray⟩
 | .val v=>v
 | .sl ..=>undef
theorem zws (h:zbk F w l v) (hp:l.plain=true):v=zcE l:=by
 cases h<;>first| rfl| cases hp
theorem zAP (h:zW F w ls vs) (hp:ls.all LV.plain=true):vs=ls.map zcE:=by
 induction ls generalizing vs with
 | nil=>exact yw h.1.symm
 | cons l ls ih=>
  obtain ⟨v,vs',rfl,h1,h2⟩:=h.head;simp only [yx,xA] at hp;rw [zws h1 hp.1,ih h2 hp.2];rfl
def leI:List (Operand×AV)->List (Operand×AV)->Prop
 | [],[]=>True
 | p::l,q::m=>(p.1=q.1/\AV.le p.2 q.2)/\leI l m
 | _,_=>False
theorem zzS {γ:Gh} {w:World} {a:Act}:∀(l m:List (Operand×AV)),leI l m->(∀p∈l,p.2.rel γ w (a.eval p.1))->∀p∈m,p.2.rel γ w (a.eval p.1)
 | [],[],_,_,p,hp=>by cases hp
 | q::l,x::m,h,hr,p,hp=>by
  obtain ⟨⟨h1,h2⟩,h3⟩:=h;cases hp with
  | head=>rw [<-h1];exact h2 γ w _ (hr q xx)
  | tail _ hp=>exact zzS l m h3 (fun y hy=>hr y (xy _ hy)) p hp
 | [],_::_,h,_,_,_=>h.elim
 | _::_,[],h,_,_,_=>h.elim
theorem zA.le (h:zA P o ins bxs W V av bs) (hl:leI ins' ins):zA P o ins' bxs W V av bs:=
 fun γ a w hi hb=>h γ a w (zzS _ _ hl hi) hb
def zma (x:Int):Option UInt8:=if 0<=x/\x<256 then some (UInt8.ofNat x.toNat) else none
theorem zGl (h:zma x=some c):x=(c.toNat:Int):=by
 unfold zma at h;split at h
 ·rename_i hx;cases h;simp;omega
 ·cases h
theorem zlj (h:zma x=some c):AV.le (.lf (.int .u8 x)) (.lf (.int .u8 (c.toNat:Int))):=by rw [zGl h];exact fun _ _ _ hv=>hv
def lenO (l:List UInt8):Option (List UInt8):=if l.length<=9223372036854775807 then some l else none
theorem zvT (ℓ:Nat) (ho:o.op= .convert src dst x) (hs:P.underlying src=some .string) (hd:P.underlying dst=some (.slice e)) (he:P.underlying e=some (.int .u8)) (hl:lenO l=some l'):
  zA P o [(x,.lf (.str l))] [] [] [ℓ] (.sl Rp.byte [ℓ] l') []:=by
 unfold lenO at hl;split at hl
 ·rename_i h;cases hl;exact zKl ℓ ho hs hd he (Nat.ble_eq_true_of_le h)
 ·cases hl
theorem zoT (k:IntKind):(Rp.int k).Plain:=fun x l h=>by simp [Rp.int] at h;subst h;rfl
theorem zlb:Rp.str.Plain:=fun x l h=>by simp [Rp.str] at h;subst h;rfl
theorem iteT {α:Type} {c:Bool} {x y:Option α} {r:α} (h:(if c then x else y)=some r) (hc:c=true):x=some r:=by rw [hc] at h;exact h
theorem iteF {α:Type} {c:Bool} {x y:Option α} {r:α} (h:(if c then x else y)=some r) (hc:c=false):y=some r:=by rw [hc] at h;exact h
theorem AV.le_refl (a:AV):a.le a:=fun _ _ _ h=>h
theorem zdz {α:Type} (r:Rp α) (e:TypeId) (ℓ:Nat) (C C':List Nat) (xs:List α) (h:subN C C'=true) (hn:memN ℓ C'=false):AV.le (.own r e ℓ C xs) (.own r e ℓ C' xs):=fun _ _ _ ⟨cs,ho,hg,hA,_⟩=>
 ⟨cs,ho,hg,hA.mono fun _ _ hb=>zaq h _ hb,fun hc=>by rw [zbt.2 hc] at hn;cases hn⟩
theorem zqU {α:Type} (r:Rp α) (e:TypeId) (ℓ:Nat) (C C':List Nat) (xs:List α) (h:subN (ℓ::C) C'=true):AV.le (.own r e ℓ C xs) (.sl r C' xs):=fun _ _ _ hv=>zbk.mono (zta hv) fun _ _ hb=>zaq h _ hb
theorem zgq (a:AV):AV.le a .any:=fun _ _ _ _=>trivial
def leL:List AV->List AV->Prop
 | [],[]=>True
 | a::l,b::m=>a.le b/\leL l m
 | _,_=>False
theorem ztH (h:leL l m) (hr:AV.relL γ w l vs):AV.relL γ w m vs:=by
 induction l generalizing m vs with
 | nil=>cases m<;>first| exact hr| exact h.elim
 | cons a l ih=>
  cases m with
  | nil=>exact h.elim
  | cons b m=>obtain ⟨v,vs',rfl,h1,h2⟩:=hr;exact ⟨v,vs',rfl,h.1 γ w v h1,ih h.2 h2⟩
theorem FnOk.le (h:FnOk P f ins outs) (hl:leL ins' ins):FnOk P f ins' outs:=fun w F vs hr=>h w F vs (ztH hl hr)
theorem zKf (ℓ i:Nat) (av':AV) (hb:zik E.bx ℓ=some b) (hi:b.avs[i]? =some av) (hle:av.le av'):zfi E ⟨E.sl,⟨b.lab,b.typ,b.avs.set i av'⟩::E.bx.filter fun c=> !Nat.beq c.lab ℓ⟩:=fun cx a w hs=>by
 obtain ⟨γ,hB,hS,hX⟩:=hs;refine ⟨γ,hB,hS,fun c hc=>?_⟩;simp only [xz] at hc;rcases hc with rfl| hc
 ·obtain ⟨hcol,cs,hh,hL,hone⟩:=hX b (zfj hb).1;obtain ⟨v,hv,hr⟩:=ztW hL hi;refine ⟨hcol,cs,hh,?_,hone⟩;have:=zBS hL i (hle γ w v hr);have e:cs.set i v=cs:=by
   apply pL;intro j;rw [List.getElem?_set];split
   ·rename_i hij;subst hij;split
    ·exact hv.symm
    ·rename_i hlt;rw [List.getElem?_eq_none (by omega)]
   ·rfl
  rwa [e] at this
 ·exact hX c (yE.1 hc).1
theorem zbE (E:Env) (h:zuz P E.opd (zyt E o.op) o.op=some (.lf (.bool c))) (hc:c=b):zA P o (znC E o.op.operands.toList) (zyt E o.op) [] [] (.lf (.bool b)) []:=by
 subst hc;refine zS fun γ ev w hi hb=>?_
 have key:∀(l:List Operand),(∀p∈znC E l,p.2.rel γ w (ev p.1))->Opds E.opd γ w ev l:=by
  intro l
  induction l with
  | nil=>intro _ x hx;cases hx
  | cons x l ih=>
   intro h y hy av hav;rw [znC] at h;cases hx:E.opd x with
   | none=>
    rw [hx] at h;cases hy with
    | head=>rw [hx] at hav;cases hav
    | tail _ hy=>exact ih h y hy av hav
   | some a=>
    rw [hx] at h;cases hy with
    | head=>rw [hx] at hav;cases hav;exact h (x,_) xx
    | tail _ hy=>exact ih (fun p hp=>h p (xy _ hp)) y hy av hav
 obtain ⟨v,hr,hv⟩:=zpw h (key _ hi) hb;exact ⟨v,w,γ,hr,Tr.refl _ _ _ _,hv,fun b hb=>by cases hb⟩
section
variable {m:Bool} {P:Program} {Q:Exit->Act->World->Prop} {S M:Act->World->Prop} {l:List It} {c:Code}
theorem zeg (h:J m P c S R) (k:∀e a w,R e a w->zjC m P Q l e a w):JI m P (.c c::l) S Q:=fun a w hs=>by
 rw [zrG];exact zln (h a w hs) k
theorem zEi {σ ρ:Type} (body:σ->Option (σ⊕ρ)) (Es:σ->Act->World->Prop) (R:ρ->Exit->Act->World->Prop)
  (hb:∀s o,body s=some o->J m P c (Es s) (match o with
   | .inl s'=>fun e a w=>e= .normal/\Es s' a w
   | .inr r=>fun e a w=>e≠ .normal/\R r e a w))
  {s:σ} {r:ρ} (h:zaj body s=some r) (hS:∀a w,S a w->Es s a w) (k:∀e a w,R r e a w->zjC m P Q l e a w):JI m P (.c (.loop c)::l) S Q:=
 zeg (zKb body Es R hb h hS (fun _ _ _ hr=>hr)) k
theorem zgp (k:JI m P l M Q):∀e a w,(e= .normal/\M a w)->zjC m P Q l e a w:=by
 rintro e a w ⟨rfl,h⟩;exact k a w h
theorem zas {id:Nat} (l':List It) (he:ztz id l=some l') (k:JI m P l' M Q):∀e a w,(e= .exit id/\M a w)->zjC m P Q l e a w:=by
 rintro e a w ⟨rfl,h⟩;exact zxV he (k a w h)
theorem zHg (k:∀a w,M a w->Q .ret a w):∀e a w,(e= .ret/\M a w)->zjC m P Q l e a w:=by
 rintro e a w ⟨rfl,h⟩;exact k a w h
end
theorem zy (N:Nat) (hf:P.funcs[f]? =some fn) (hb:fn.body=some c) (hN:fn.ntmps=N) (hlen:Nat.ble ins.length N=true) (hres:zox P E fn.results.toList outs)
  (hj:∀X:Ext,J true P c (Sx ⟨⟨N,[]⟩,X,false,#[]⟩ ⟨zsH 0 ins,[]⟩) fun e a w=>e= .ret/\Sx ⟨⟨N,[]⟩,X,false,#[]⟩ E a w):FnOk P f ins outs:=by
 subst hN;exact zGI hf hb (xW hlen) hres hj
open Go.ChangeShapes Go.WideShapes
abbrev allF:Fp:=fun _=>True
def SzOk (P:Program) {H:Type} (t:TypeId) (d:DataW H):Prop:=∀m∈d.weights P t,m<=140737488351232
theorem zpY {H:Type} :∀{ds:List (DataW H)} {i:Nat} {d:DataW H},ds[i]? =some d->∀m∈d.weights P e,m∈DataW.weightsAll P e ds
 | d0::ds,0,d,hd,m,hm=>by
  simp only [List.getElem?_cons_zero,yj] at hd;subst hd;simp only [DataW.weightsAll,xD];exact Or.inl hm
 | d0::ds,i+1,d,hd,m,hm=>by
  simp only [uG] at hd;simp only [DataW.weightsAll,xD];exact Or.inr (zpY hd m hm)
 | [],_,_,hd,_,_=>by simp at hd
theorem SzOk.of_each {H:Type} {P:Program} {ts:List TypeId} {ds:List (DataW H)} (h:(DataW.weightsEach P ts ds).all (·<=reachBytes)=true) (j:Nat) {t:TypeId} {d:DataW H} (ht:ts[j]? =some t) (hd:ds[j]? =some d):SzOk P t d:=fun m hm=>by
 have:=xJ.1 h _ (DataW.weights_mem_each ht hd m hm);exact qm this
section
variable {P:Program} {n:Nat} {t e:TypeId}
theorem zmC (h:zbk F w l v):zW F w [l] [v]:= .cons h .nil
theorem zDk {w:World} {a:Addr} {v:Value} (h:w.cell? a=some v):a.block<w.heap.size/\a.spot=none:=by
 unfold World.cell? at h;split at h
 ·rename_i c e f hh;refine ⟨(xY.1 hh).1,?_⟩;split at h
  ·cases h
  ·rename_i hs;cases hsp:a.spot with
   | none=>rfl
   | some x=>rw [hsp] at hs;exact absurd rfl hs
 ·cases h
theorem zzu (a:Addr) (m k:Nat):(a.add m).add k=a.add (m+k):=by
 unfold Addr.add;by_cases h1:m=0
 ·subst h1;simp
 ·by_cases h2:k=0
  ·subst h2;simp
  ·have h3:¬(m+k=0):=by omega
   simp only [xu h1,xu h2,xu h3];congr 1;omega
theorem zxZ {a:Addr} (h:a.spot=none) (i:Nat):a.add i=⟨a.block,a.off+i,none⟩:=by
 obtain ⟨b,o,s⟩:=a;simp only at h;subst h;unfold Addr.add;split
 ·rename_i h0;subst h0;rfl
 ·rfl
end
section
variable {P:Program} {H:Type} {enc:TypeId×Value->H} {w:World} {t e:TypeId} {v:Value} {d:DataW H} {ps:List MemPlace}
theorem zIx (h:zbk allF w l v):zbk ((gh0 allF).F [0]) w l v:=zbk.mono h fun b _ _=>by
 show (gh0 allF).col b∈[0];rw [zzK allF b trivial];exact xx
end
theorem zFm (h:FnOk P f ins [.lf (.bool b)]) (hb:b=true) (hr:AV.relL (gh0 allF) w ins vs):
  Calls P f vs.toArray w fun e w'=>e= .returned (.bool true)/\Below w.heap.size w w':=by
 subst hb;refine (h w allF vs hr).mono ?_;rintro e w' ⟨γ,us,rfl,hbel,_,v,us',rfl,hv,hu⟩;have hu':us'=[]:=hu;subst hu';exact ⟨by rw [zml hv];rfl,hbel⟩
theorem zme (h:zA P o ins' bx W V av bs) (e:ins'=ins):zA P o ins bx W V av bs:=e▸h
theorem lw_0 :zfp P l [] is:=by cases l<;>simp [zfp]
theorem lw_e (h:zfp P l ss is):zfp P (o::l) (.ev::ss) is:=by simpa [zfp] using h
theorem lw_x (h:zA P o ins bxs W V av bs) (h2:zfp P l ss is):
  zfp P (o::l) (.ex bl W V av bs::ss) (⟨ins,bxs,[]⟩::is):=by simp only [zfp];exact ⟨h,h2⟩
theorem lw_r (h:ztq P o rq W V prod) (h2:zfp P l ss is):
  zfp P (o::l) (.raw ix W V prod::ss) (⟨[],[],rq⟩::is):=by simp only [zfp];exact ⟨h,h2⟩
def zxH (P:Program):List Field->List (Nat×Nat)->Bool
 | [],[]=>true
 | f::fs,(o,s)::ps=>Nat.beq f.offset o&&(match P.info? f.type with| some i=>Nat.beq i.size s| none=>false)&&zxH P fs ps
 | _,_=>false
theorem ztf :∀(fs:List Field) (ps:List (Nat×Nat)),zxH P fs ps=true->∀w,(fs.mapM (m:=Sem) fun (f:Field)=>do pure (f.offset,<-sizeOf f.type)).run P w= .ok ps w
 | [],[],_,w=>rfl
 | f::fs,(o,s)::ps,h,w=>by
  simp only [zxH,xA] at h;obtain ⟨⟨h1,h2⟩,h3⟩:=h;have h1:=xL h1;split at h2
  ·rename_i i hi;have h2:=xL h2;subst h1 h2;have hs:(sizeOf f.type).run P w= .ok i.size w:=by simp [sizeOf,typeInfo,hi]
   simp only [qy,xO,hs,xM,yl,ztf fs ps h3 w]
  ·cases h2
 | [],_::_,h,_=>by cases h
 | _::_,[],h,_=>by cases h
def stB (P:Program) (t:TypeId) (fs:Array Field) (places:List (Nat×Nat)) (zl:List LV):Bool:=zxH P fs.toList places&&match P.info? t with
 | some i=>match i.zero with
  | some z=>zokL zl z.cells.toList
  | none=>false
 | none=>false
theorem StT.ofB (hu:P.underlying t=some (.struct fs)) (h:stB P t fs places zl=true):StT P t places zl:=by
 simp only [stB,xA] at h;obtain ⟨h1,h2⟩:=h;split at h2
 ·rename_i i hi;split at h2
  ·rename_i z hz;refine ⟨fs,z,hu,fun w=>by simp [zeroValue,typeInfo,hi,hz],fun w=>?_,h2⟩;have:=ztf fs.toList places h1 w;rw [<-qz (xs:=fs),ue,Sem.run_map];rw [this];rfl
  ·cases h2
 ·cases h2
def zpy:Option TypeDesc->LV->Bool
 | some (.int k),.int k' _=>decide (k=k')
 | some .bool,.bool _=>true
 | some .string,.str _=>true
 | _,_=>false
def zpR (P:Program):Nat->List Field->List LV->Bool
 | _,[],[]=>true
 | off, f :: fs, l :: ls => (f.name != "_" && Nat.beq f.offset off && P.plainKey f.type && zpy (P.underlying f.type) l) && zpR P (off + 1) fs ls
 | _,_,_=>false
def leq:LV->LV->Bool
 | .int _ a,.int _ b=>a==b
 | .bool a,.bool b=>a==b
 | .str a,.str b=>a==b
 | _,_=>false
def eqL:List LV->List LV->Bool
 | [],[]=>true
 | l::ls,m::ms=>leq l m&&eqL ls ms
 | _,_=>false
theorem zEn (h1:zpy (P.underlying t) l=true) (h2:zpy (P.underlying t) m=true) (d:Nat) (w:World):
  (Op.equalIn (d+1) t (zcE l) (zcE m)).run P w= .ok (leq l m) w:=by
 generalize hu:P.underlying t=u at h1 h2
 unfold zpy at h1;split at h1
 ·rename_i k k' a;have:=qm h1;subst this;cases m<;>first| cases h2| skip
  rename_i k2 b;have:=qm h2;subst this;exact run_equalIn_int w d t k k a b hu
 ·cases m<;>first| cases h2| skip
  exact run_equalIn_bool' w d t _ _ hu
 ·cases m<;>first| cases h2| skip
  have:=run_equalIn_string w d t ⟨(‹List UInt8›:List UInt8).toArray⟩ ⟨(‹List UInt8›:List UInt8).toArray⟩ hu;rename_i a b;have:=run_equalIn_string w d t ⟨a.toArray⟩ ⟨b.toArray⟩ hu;simp only [zcE,leq];rw [this];simp [ByteArray.toList_eq]
 ·cases h1
theorem ztx (d:Nat) (w:World):∀(fs:List Field) (ls ms:List LV) (off:Nat),zpR P off fs ls=true->zpR P off fs ms=true->
  (∀i,i<ls.length->xs[off+i]? =(ls.map zcE)[i]?)->(∀i,i<ms.length->ys[off+i]? =(ms.map zcE)[i]?)->(Op.eqFields (d+1) xs ys fs).run P w= .ok (eqL ls ms) w
 | [],[],[],_,_,_,_,_=>rfl
 | f::fs,l::ls,m::ms,off,h1,h2,hx,hy=>by
  simp only [zpR,xA] at h1 h2;obtain ⟨⟨⟨⟨a1,a2⟩,a3⟩,a4⟩,a5⟩:=h1;obtain ⟨⟨_,b4⟩,b5⟩:=h2;have hn : f.name ≠ "_" := by simpa using a1
  have ho:=xL a2;have p1:=qW a3 (xs:=xs) (off:=f.offset) (v:=zcE l) (w:=w) (by rw [ho];simpa using hx 0 (by simp));have p2:=qW a3 (xs:=ys) (off:=f.offset) (v:=zcE m) (w:=w) (by rw [ho];simpa using hy 0 (by simp));have ih:=ztx d w fs ls ms (off+1) a5 b5 (fun i hi=>by have:=hx (i+1) (by simpa using hi);simpa [Nat.add_assoc,Nat.add_comm 1 i] using this) (fun i hi=>by have:=hy (i+1) (by simpa using hi);simpa [Nat.add_assoc,Nat.add_comm 1 i] using this);simp only [Op.eqFields,hn,ne_eq,not_false_eq_true,yI,xO,p1,p2,xM,zEn a4 b4 d w,eqL];cases leq l m
  ·rfl
  ·simpa using ih
 | [],[],_::_,_,_,h,_,_=>by cases h
 | [],_::_,_,_,h,_,_,_=>by cases h
 | _::_,[],_,_,h,_,_,_=>by cases h
 | _::_,_::_,[],_,_,h,_,_=>by cases h
theorem eqT (hu:P.underlying t=some (.struct fs)) (hp:P.stoodInHeld t=false) (h1:zpR P 0 fs.toList ls=true) (h2:zpR P 0 fs.toList ms=true) (he:eqL ls ms=b):
  ∀w,(Op.equalIn 10000 t (.agg (ls.map zcE).toArray) (.agg (ms.map zcE).toArray)).run P w= .ok b w:=fun w=>by
 have hf:P.fieldsOf t=fs:=by unfold Program.fieldsOf;rw [hu]
 rw [run_equalIn_struct w 9999 t _ _ (by rw [hf];exact hu) hp,hf,ztx 9998 w fs.toList ls ms 0 h1 h2 (fun i _=>by simp) (fun i _=>by simp),he]
end Go.Proofs.YtekgmimingolbaaGreat

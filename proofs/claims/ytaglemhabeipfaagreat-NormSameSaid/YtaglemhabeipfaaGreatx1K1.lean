/-
  What every proof here stands on. No condition.
-/
import Derived.WalkKit
import Derived.Laws.OwnMore
import Derived.Maps.AppendAt
import Derived.LoopN
import Derived.Maps.RangeRun
import Derived.CallsIn
import Derived.LoopNIn
import Derived.TacticsIn
import Derived.OrdersIn
import Derived.Laws.IdiomStrings
import Derived.Laws.StructEq
import Derived.Orders
import Derived.ProofKit
import Derived.OpenShut
import Derived.ShutString
import Derived.ChangeOld
import Derived.Below
import Derived.SizedLaws
import Derived.ChangeKeysEq
set_option autoImplicit true
set_option relaxedAutoImplicit true
namespace Go.Proofs.YtaglemhabeipfaaGreat
open Go Go.RowKit
abbrev ue:=@Array.foldl_toList
abbrev yB:=@Array.getD_eq_getD_getElem?
abbrev pv:=@Array.getElem?_append_left
abbrev pu:=@Array.getElem?_eq_getElem
abbrev ya:=@Array.getElem?_eq_some_iff
abbrev pZ:=@Array.getElem?_toList
abbrev yD:=@Array.length_toList
abbrev qT:=@Array.toArray_toList
abbrev ui:=@Array.toList_push
abbrev xu:=@Bool.and_eq_true
abbrev q7:=@Bool.and_false
abbrev qY:=@Bool.and_true
abbrev yI:=@Bool.eq_iff_iff
abbrev yS:=@Bool.false_and
abbrev yZ:=@Bool.false_eq_true
abbrev q9:=@Bool.false_or
abbrev pG:=@Bool.not_eq_false'
abbrev pW:=@Bool.not_eq_true
abbrev xU:=@Bool.not_eq_true'
abbrev ur:=@Bool.or_assoc
abbrev qE:=@Bool.or_eq_false_iff
abbrev qV:=@Bool.or_eq_true
abbrev pp:=@Bool.or_false
abbrev pi:=@Bool.or_true
abbrev xZ:=@Bool.true_and
abbrev ul:=@Classical.byContradiction
abbrev yL:=@Int.emod_eq_of_lt
abbrev uD:=@Int.tdiv_eq_ediv_of_nonneg
abbrev qK:=@Int.tmod_eq_emod_of_nonneg
abbrev xD:=@Int.toNat_natCast
abbrev pM:=@IntKind.wrap_u64
abbrev yK:=@List.all_cons
abbrev xF:=@List.all_eq_true
abbrev uA:=@List.any_append
abbrev qX:=@List.any_cons
abbrev yk:=@List.append_assoc
abbrev xY:=@List.append_nil
abbrev yG:=@List.cons.injEq
abbrev yj:=@List.cons_append
abbrev pI:=@List.drop_append_of_le_length
abbrev yh:=@List.drop_drop
abbrev yl:=@List.drop_eq_getElem_cons
abbrev yy:=@List.drop_eq_nil_of_le
abbrev pN:=@List.drop_left
abbrev pr:=@List.drop_length
abbrev qI:=@List.drop_take
abbrev yd:=@List.drop_zero
abbrev yA:=@List.eq_nil_of_length_eq_zero
abbrev uB:=@List.exists_cons_of_ne_nil
abbrev yJ:=@List.filter_cons
abbrev uF:=@List.findIdx?_eq_none_iff
abbrev pO:=@List.findIdx?_eq_some_iff_getElem
abbrev uv:=@List.findSome?_cons
abbrev yE:=@List.flatMap_append
abbrev xI:=@List.flatMap_cons
abbrev q6:=@List.flatMap_map
abbrev qm:=@List.flatMap_nil
abbrev pS:=@List.flatMap_singleton
abbrev qi:=@List.flatten_cons
abbrev yc:=@List.foldl_cons
abbrev pU:=@List.foldl_nil
abbrev pQ:=@List.getD_eq_getElem?_getD
abbrev pA:=@List.getElem?_append
abbrev uC:=@List.getElem?_cons_succ
abbrev qu:=@List.getElem?_drop
abbrev xM:=@List.getElem?_eq_getElem
abbrev yx:=@List.getElem?_eq_some_iff
abbrev qD:=@List.getElem?_map
abbrev yP:=@List.getElem?_take
abbrev uy:=@List.getElem_cons_succ
abbrev uz:=@List.getElem_cons_zero
abbrev xB:=@List.getElem_mem
abbrev qv:=@List.getElem_of_mem
abbrev pk:=@List.headD_cons
abbrev pg:=@List.isEmpty_iff
abbrev xy:=@List.length_append
abbrev ye:=@List.length_cons
abbrev xW:=@List.length_drop
abbrev pR:=@List.length_eq_one_iff
abbrev uw:=@List.length_filter_le
abbrev po:=@List.length_map
abbrev yz:=@List.length_nil
abbrev qr:=@List.length_pos_iff
abbrev pE:=@List.length_replicate
abbrev qk:=@List.length_singleton
abbrev xO:=@List.length_take
abbrev qB:=@List.mapM_cons
abbrev uc:=@List.mapM_toArray
abbrev qG:=@List.map_append
abbrev qa:=@List.map_congr_left
abbrev xH:=@List.map_cons
abbrev yU:=@List.map_map
abbrev yF:=@List.map_nil
abbrev qZ:=@List.map_singleton
abbrev pB:=@List.map_toArray
abbrev xA:=@List.mem_append
abbrev ym:=@List.mem_append_left
abbrev yf:=@List.mem_append_right
abbrev xx:=@List.mem_cons
abbrev xt:=@List.mem_cons_of_mem
abbrev xr:=@List.mem_cons_self
abbrev yb:=@List.mem_filter
abbrev qh:=@List.mem_flatMap
abbrev xz:=@List.mem_map
abbrev qF:=@List.mem_map_of_mem
abbrev qN:=@List.mem_of_getElem?
abbrev pt:=@List.mem_of_mem_drop
abbrev pX:=@List.mem_of_mem_take
abbrev yg:=@List.mem_singleton
abbrev xG:=@List.nil_append
abbrev pH:=@List.nodup_cons
abbrev qg:=@List.nodup_nil
abbrev xJ:=@List.not_mem_nil
abbrev xX:=@List.pairwise_cons
abbrev uf:=@List.set_eq_take_append_cons_drop
abbrev uq:=@List.singleton_append
abbrev yW:=@List.size_toArray
abbrev qL:=@List.sum_cons
abbrev pn:=@List.takeWhile_append_dropWhile
abbrev uu:=@List.takeWhile_cons
abbrev up:=@List.take_add_one
abbrev qQ:=@List.take_append
abbrev qc:=@List.take_append_drop
abbrev p9:=@List.take_append_of_le_length
abbrev uo:=@List.take_eq_take_iff
abbrev qf:=@List.take_left
abbrev pV:=@List.take_length
abbrev yM:=@List.take_of_length_le
abbrev yQ:=@List.take_succ_cons
abbrev pP:=@List.take_succ_eq_append_getElem
abbrev qd:=@List.take_take
abbrev qq:=@List.take_zero
abbrev qR:=@Nat.add_assoc
abbrev pK:=@Nat.add_comm
abbrev pC:=@Nat.add_sub_cancel
abbrev uk:=@Nat.add_sub_cancel_left
abbrev yw:=@Nat.add_zero
abbrev uE:=@Nat.and_two_pow_sub_one_eq_mod
abbrev xE:=@Nat.eq_of_beq_eq_true
abbrev q8:=@Nat.eq_zero_or_pos
abbrev xN:=@Nat.le_of_ble_eq_true
abbrev yY:=@Nat.le_of_not_lt
abbrev xw:=@Nat.le_refl
abbrev yi:=@Nat.le_trans
abbrev pY:=@Nat.lt_irrefl
abbrev xR:=@Nat.lt_of_lt_of_le
abbrev qC:=@Nat.lt_of_succ_le
abbrev yv:=@Nat.lt_or_ge
abbrev yO:=@Nat.min_eq_left
abbrev qj:=@Nat.mod_eq_of_lt
abbrev qW:=@Nat.mul_assoc
abbrev yT:=@Nat.mul_comm
abbrev pL:=@Nat.mul_le_mul
abbrev ud:=@Nat.mul_le_mul_left
abbrev yC:=@Nat.mul_le_mul_right
abbrev yN:=@Nat.mul_one
abbrev ql:=@Nat.not_lt
abbrev qy:=@Nat.one_pos
abbrev pJ:=@Nat.or_comm
abbrev pl:=@Nat.pow_le_pow_right
abbrev yH:=@Nat.pow_succ
abbrev qw:=@Nat.sub_zero
abbrev qz:=@Nat.succ_mul
abbrev xL:=@Nat.zero_add
abbrev xC:=@Nat.zero_le
abbrev qx:=@Oper.upon_enter
abbrev ug:=@Oper.upon_skip
abbrev qP:=@Oper.wpIn_mono
abbrev pd:=@Option.getD_some
abbrev uj:=@Option.map_none
abbrev qU:=@Option.map_some
abbrev qH:=@Option.some.inj
abbrev yn:=@Option.some.injEq
abbrev pm:=@Prod.ext
abbrev yr:=@Prod.mk.injEq
abbrev xV:=@Result.andThen_ok
abbrev xS:=@Sem.run_bind
abbrev yp:=@Sem.run_pure
abbrev pz:=@World.cell?_of_block
abbrev pD:=@World.ownsRow_nil
abbrev qn:=@and_true
abbrev qJ:=@beq_iff_eq
abbrev qA:=@callsIn_wide
abbrev pf:=@calls_of_wp
abbrev yX:=@cell_of_row
abbrev qt:=@decide_eq_decide
abbrev xT:=@decide_eq_false
abbrev ut:=@decide_eq_false_iff_not
abbrev xQ:=@decide_eq_true
abbrev xP:=@decide_eq_true_eq
abbrev pq:=@eq_false_of_ne_true
abbrev yV:=@heap_alloc_new
abbrev yu:=@if_false
abbrev xp:=@if_neg
abbrev xq:=@if_pos
abbrev yo:=@if_true
abbrev qO:=@mem_ready
abbrev qb:=@not_true_eq_false
abbrev pT:=@of_decide_eq_false
abbrev yq:=@of_decide_eq_true
abbrev xK:=@or_false
abbrev uh:=@run_part_plain
abbrev pF:=@run_storeCells_at
abbrev yR:=@run_underlying
abbrev qe:=@setRow_heap
abbrev qM:=@setRow_other
abbrev ph:=@size_madeCells
abbrev pw:=@size_zeroCells
abbrev qo:=@true_and
abbrev qS:=@wpIn_mono
def zil {σ ρ:Type} (body:σ->Option (σ⊕ρ)):Nat->σ->Option ρ
 | 0,_=>none
 | n+1,s=>match body s with
  | none=>none
  | some (.inl s')=>zil body n s'
  | some (.inr r)=>some r
open Classical in
noncomputable def zX {σ ρ:Type} (body:σ->Option (σ⊕ρ)) (s:σ):Option ρ:=
 match zil body 9999 s with
 | some r=>some r
 | none=>if h:∃n r,zil body n s=some r then zil body h.choose s else none
theorem zEz {σ ρ:Type} {body:σ->Option (σ⊕ρ)} {n:Nat} {s:σ} {r:ρ} (h:zil body n s=some r):zil body (n+1) s=some r:=by
 induction n generalizing s with
 | zero=>simp [zil] at h
 | succ n ih=>
  rw [zil] at h|-
  grind
theorem zCq {σ ρ:Type} {body:σ->Option (σ⊕ρ)} {n m:Nat} {s:σ} {r:ρ} (h:zil body n s=some r) (hm:n<=m):zil body m s=some r:=by
 obtain ⟨k,rfl⟩:=Nat.exists_eq_add_of_le hm;clear hm
 induction k with
 | zero=>exact h
 | succ k ih=>exact zEz ih
theorem zus {σ ρ:Type} {body:σ->Option (σ⊕ρ)} {n:Nat} {s:σ} {r:ρ} (h:zil body n s=some r):zX body s=some r:=by
 have one:∀{m:Nat} {q:ρ},zil body m s=some q->q=r:=fun {m q} hm=>by
  have h1:=zCq hm (Nat.le_max_left m n);have h2:=zCq h (Nat.le_max_right m n)
  grind
 have hex:∃n r,zil body n s=some r:=⟨n,r,h⟩;obtain ⟨q,hq⟩:=hex.choose_spec;unfold zX;split
 ·rename_i hm;rw [one hm]
 ·rw [dif_pos hex,hq,one hq]
theorem zwN {σ ρ:Type} {body:σ->Option (σ⊕ρ)} {s:σ} {r:ρ} (h:zX body s=some r):∃n,zil body n s=some r:=by
 unfold zX at h;split at h
 ·rename_i hm;exact ⟨_,hm.trans h⟩
 ·split at h
  ·exact ⟨_,h⟩
  ·cases h
theorem zB {σ ρ:Type} {body:σ->Option (σ⊕ρ)} {s s':σ} (h:body s=some (.inl s')):zX body s=zX body s':=by
 cases hw:zX body s' with
 | some r=>
  obtain ⟨n,hn⟩:=zwN hw;exact zus (n:=n+1) (by rw [zil,h];exact hn)
 | none=>
  cases hw':zX body s with
  | none=>rfl
  | some r=>
   obtain ⟨n,hn⟩:=zwN hw';cases n with
   | zero=>simp [zil] at hn
   | succ n=>rw [zil,h] at hn;rw [zus hn] at hw;cases hw
theorem zC {σ ρ:Type} {body:σ->Option (σ⊕ρ)} {s:σ} {r:ρ} (h:body s=some (.inr r)):zX body s=some r:=
 zus (n:=1) (by rw [zil,h])
def upB {α:Type} (le:α->α->Bool):List α->Bool
 | []=>true
 | a::l=>l.all (le a)&&upB le l
def srt {α:Type} (le:α->α->Bool) (l:List α):List α:=if upB le l then l else l.mergeSort le
theorem zKC {α:Type} {le:α->α->Bool}:∀{l:List α},upB le l=true->l.Pairwise fun a b=>le a b=true
 | [],_=> .nil
 | a::l,h=>by
  rw [upB,xu,xF] at h;exact .cons h.1 (zKC h.2)
theorem zFk {α:Type} (le:α->α->Bool) (l:List α):srt le l=l.mergeSort le:=by
 unfold srt;split
 ·rw [List.mergeSort_of_pairwise (zKC (by assumption))]
 ·rfl
def znt {ν:Type} (m:List (Int×ν)):Option (List Int):=
 if (m.all fun p=>(Lit.int .i64 p.1).wf)=true/\m.length*8<=140737488355328 then some (srt (fun x y=>decide (x<=y)) (m.map Prod.fst)) else none
abbrev Rnd (σ χ:Type):=σ->χ->Option (Bool×σ)
def rnd {σ ρ χ:Type} (kb:σ->χ->Option (σ⊕ρ)):Rnd (σ⊕ρ) χ
 | .inl s,x=>match kb s x with
  | some (.inl s')=>some (true,.inl s')
  | some (.inr r)=>some (false,.inr r)
  | none=>none
 | .inr _,_=>none
theorem zEh {α β:Type} {x:Option α} {f:α->Option β} {r:β} (h:(x>>=f)=some r):∃a,x=some a/\f a=some r:=by
 cases x with
 | none=>cases h
 | some a=>exact ⟨a,rfl,h⟩
theorem znr {α:Type} {c:Bool} {x y:Option α} {r:α} (h:(if c then x else y)=some r):(c=true/\x=some r)\/(c=false/\y=some r):=by
 grind
def idx {α:Type} (xs:List α) (i:Int):Option α:=if 0<=i then xs[i.toNat]? else none
def cut {α:Type} (xs:List α) (i j:Int):Option (List α):=if 0<=i/\i<=j/\j<=xs.length then some ((xs.drop i.toNat).take (j.toNat - i.toNat)) else none
def insO (xs:List UInt8) (i:Int) (ys:List UInt8):Option (List UInt8):=if 0<=i/\i<=xs.length/\xs.length+ys.length<=140737488355328 then some (xs.take i.toNat++ys++xs.drop i.toNat) else none
inductive LV where
 | int (k:IntKind) (n:Int)
 | bool (b:Bool)
 | str (l:List UInt8)
 | sl (n size:Nat) (ls:List LV)
 | val (v:Value)
abbrev Fp:=Nat->Prop
inductive zat (F:Fp) (w:World):LV->Value->Prop
 | int (k:IntKind) (n:Int):zat F w (.int k n) (.int k n)
 | bool (b:Bool):zat F w (.bool b) (.bool b)
 | str (l:List UInt8):zat F w (.str l) (.string ⟨l.toArray⟩)
 | val (v:Value) (h:v.oneCell'=true):zat F w (.val v) v
 | sl (n size:Nat) (ls:List LV) (A:Option Addr) (c:Nat) (cs:List Value) (hl:ls.length=n*size) (hcs:cs.length=n*size) (hc:n<=c) (hm:c<=maxLen)
   (hA:0<n->∃b off,A=some ⟨b,off,none⟩/\F b/\b<w.heap.size/\∀i,i<n*size->w.cell? ⟨b,off+i,none⟩=cs[i]?)
   (hr:∀(i:Nat) (l:LV) (u:Value),ls[i]? =some l->cs[i]? =some u->zat F w l u):
   zat F w (.sl n size ls) (.slice A n c)
def zT (F:Fp) (w:World) (ls:List LV) (cs:List Value):Prop:=ls.length=cs.length/\∀(i:Nat) (l:LV) (u:Value),ls[i]? =some l->cs[i]? =some u->zat F w l u
structure zwa (F:Fp) (w w':World):Prop where
 size:w.heap.size<=w'.heap.size
 block:∀b,b<w.heap.size->F b->w'.heap[b]? =w.heap[b]?
section
variable {F G:Fp} {w w':World}
theorem zwa.cell (h:zwa F w w') (hb:a.block<w.heap.size) (hF:F a.block):w'.cell? a=w.cell? a:=pz (h.block _ hb hF)
theorem zat.keep (h:zat F w l v) (hk:zwa F w w'):zat F w' l v:=by
 induction h with
 | int k n=>exact .int k n
 | bool b=>exact .bool b
 | str l=>exact .str l
 | val v h=>exact .val v h
 | sl n size ls A c cs hl hcs hc hm hA hr ih=>
  refine .sl n size ls A c cs hl hcs hc hm (fun hn=>?_) ih;obtain ⟨b,off,e,hF,hb,hcell⟩:=hA hn;exact ⟨b,off,e,hF,xR hb hk.size,fun i hi=>(hk.cell (a:=⟨b,off+i,none⟩) hb hF).trans (hcell i hi)⟩
theorem zat.mono (h:zat F w l v) (hG:∀b,b<w.heap.size->F b->G b):zat G w l v:=by
 induction h with
 | int k n=>exact .int k n
 | bool b=>exact .bool b
 | str l=>exact .str l
 | val v h=>exact .val v h
 | sl n size ls A c cs hl hcs hc hm hA hr ih=>
  refine .sl n size ls A c cs hl hcs hc hm (fun hn=>?_) ih
  grind
theorem zat.one (h:zat F w l v):v.oneCell'=true:=by
 cases h<;>first| rfl| assumption
theorem zT.keep (h:zT F w ls cs) (hk:zwa F w w'):zT F w' ls cs:=⟨h.1,fun i l u h1 h2=>(h.2 i l u h1 h2).keep hk⟩
theorem zT.mono (h:zT F w ls cs) (hG:∀b,b<w.heap.size->F b->G b):zT G w ls cs:=⟨h.1,fun i l u h1 h2=>(h.2 i l u h1 h2).mono hG⟩
theorem zT.nil:zT F w [] []:=⟨rfl,fun i l u h1=>by simp at h1⟩
theorem zT.append (h:zT F w ls cs) (k:zT F w ms ds):zT F w (ls++ms) (cs++ds):=by
 refine ⟨by rw [xy,xy,h.1,k.1],fun i l u h1 h2=>?_⟩;rw [pA] at h1 h2;rw [h.1] at h1;split at h1
 ·rename_i hi;rw [xq hi] at h2;exact h.2 i l u h1 h2
 ·rename_i hi;rw [xp hi] at h2;exact k.2 _ l u h1 h2
theorem zT.drop (h:zT F w ls cs) (k:Nat):zT F w (ls.drop k) (cs.drop k):=
 ⟨by simp [h.1],fun i l u h1 h2=>h.2 (k+i) l u (by simpa using h1) (by simpa using h2)⟩
theorem zT.take (h:zT F w ls cs) (k:Nat):zT F w (ls.take k) (cs.take k):=by
 refine ⟨by simp [h.1],fun i l u h1 h2=>?_⟩;rw [yP] at h1 h2;split at h1
 ·rename_i hi;rw [xq hi] at h2;exact h.2 i l u h1 h2
 ·cases h1
theorem zT.cons (h:zat F w l v) (k:zT F w ls cs):zT F w (l::ls) (v::cs):=
 zT.append (ls:=[l]) (cs:=[v]) ⟨rfl,fun i l' u h1 h2=>by
  cases i with
  | zero=>simp at h1 h2;subst h1 h2;exact h
  | succ i=>simp at h1⟩ k
theorem zT.one (h:zT F w ls cs):∀u∈cs,u.oneCell'=true:=by
 intro u hu;obtain ⟨i,hi,rfl⟩:=qv hu;exact (h.2 i _ _ (xM (by rw [h.1];exact hi)) (xM hi)).one
theorem zT.head (h:zT F w (l::ls) cs):∃v cs',cs=v::cs'/\zat F w l v/\zT F w ls cs':=by
 cases cs with
 | nil=>have:=h.1;simp at this
 | cons v cs'=>exact ⟨v,cs',rfl,h.2 0 l v rfl rfl,h.drop 1⟩
theorem zT.single (h:zT F w [l] cs):∃v,cs=[v]/\zat F w l v:=by
 obtain ⟨v,cs',rfl,h1,h2⟩:=h.head;have:=h2.1;cases cs' with
 | nil=>exact ⟨v,rfl,h1⟩
 | cons=>simp at this
end
structure Rp (α:Type) where
 size:Nat
 agg:Bool
 lv:α->List LV
 len:∀x,(lv x).length=size
 pos:0<size
theorem Rp.flat {α:Type} (r:Rp α) (xs:List α):(xs.flatMap r.lv).length=xs.length*r.size:=by
 induction xs with
 | nil=>simp
 | cons x xs ih=>simp only [xI,xy,ih,r.len,ye,qz];omega
theorem Rp.flat_drop {α:Type} (r:Rp α) (xs:List α) (k:Nat):(xs.drop k).flatMap r.lv=(xs.flatMap r.lv).drop (k*r.size):=by
 induction k generalizing xs with
 | zero=>simp
 | succ k ih=>
  cases xs with
  | nil=>simp
  | cons x xs=>
   have hx:=r.len x;rw [List.drop_succ_cons,ih,xI,List.drop_append,hx,qz];simp_all
theorem Rp.flat_take {α:Type} (r:Rp α) (xs:List α) (k:Nat):(xs.take k).flatMap r.lv=(xs.flatMap r.lv).take (k*r.size):=by
 induction k generalizing xs with
 | zero=>simp
 | succ k ih=>
  cases xs with
  | nil=>simp
  | cons x xs=>
   have hx:=r.len x;rw [yQ,xI,ih,xI,qQ,hx,qz]
   grind
theorem Rp.flat_at {α:Type} (r:Rp α) (xs:List α) (k:Nat) (x:α) (h:xs[k]? =some x):((xs.flatMap r.lv).drop (k*r.size)).take r.size=r.lv x:=by
 rw [<-r.flat_drop];have hk:k<xs.length:=(yx.1 h).1;have e:xs.drop k=x::xs.drop (k+1):=by
  rw [yl hk]
  grind
 have hx:=r.len x
 grind
def Rp.byte:Rp UInt8:=⟨1,false,fun c=>[.int .u8 c.toNat],fun _=>rfl,qy⟩
def Rp.int (k:IntKind):Rp Int:=⟨1,false,fun n=>[.int k n],fun _=>rfl,qy⟩
def Rp.bool:Rp Bool:=⟨1,false,fun n=>[.bool n],fun _=>rfl,qy⟩
def Rp.str:Rp (List UInt8):=⟨1,false,fun n=>[.str n],fun _=>rfl,qy⟩
def Rp.list {α:Type} (r:Rp α):Rp (List α):=⟨1,false,fun xs=>[.sl xs.length r.size (xs.flatMap r.lv)],fun _=>rfl,qy⟩
structure Gh where
 col:Nat->Nat
 box:Nat->Nat
def Gh.F (γ:Gh) (C:List Nat):Fp:=fun b=>γ.col b∈C
structure Cu where
 R:List Nat->List Nat->Nat->Gh->World->Value->Prop
 one:∀{C1 C2:List Nat} {ℓ:Nat} {γ:Gh} {w:World} {v:Value},R C1 C2 ℓ γ w v->v.oneCell'=true
 move:∀{C1 C2 C1' C2':List Nat} {ℓ ℓ':Nat} {γ γ':Gh} {w w':World} {v:Value},w.heap.size<=w'.heap.size->(∀b,b<w.heap.size->γ.col b∈ℓ::(C1++C2)->w'.heap[b]? =w.heap[b]?)->(∀b,b<w.heap.size->γ.col b=ℓ->γ'.col b=ℓ')->
  (∀b,b<w.heap.size->γ.F C1 b->γ'.F C1' b)->(∀b,b<w.heap.size->γ.F C2 b->γ'.F C2' b)->γ'.box ℓ'=γ.box ℓ->R C1 C2 ℓ γ w v->R C1' C2' ℓ' γ' w' v
inductive AV:Type 1 where
 | any
 | lf (l:LV)
 | sl {α:Type} (r:Rp α) (C:List Nat) (xs:List α)
 | own {α:Type} (r:Rp α) (e:TypeId) (ℓ:Nat) (C:List Nat) (xs:List α)
 | rc {α:Type} (r:Rp α) (C:List Nat) (x:α)
 | ep {α:Type} (r:Rp α) (C:List Nat) (x:α) (off:Nat)
 | ptr (ℓ off:Nat)
 | mp {κ ν:Type} (rk:Rp κ) (rv:Rp ν) (C:List Nat) (m:List (κ×ν))
 | om {κ ν:Type} (rk:Rp κ) (rv:Rp ν) (ℓ:Nat) (C:List Nat) (m:List (κ×ν))
 | tup (l:List AV)
 | ag (l:List AV)
 | fv (g:Nat) (l:List AV)
 | bp {α:Type} (r:Rp α) (t:TypeId) (ℓ:Nat) (C:List Nat) (x:α)
 | it {κ ν:Type} (rk:Rp κ) (rv:Rp ν) (ℓ:Nat) (C:List Nat) (last left:List (κ×ν))
 | bs (ℓ n:Nat)
 | tl (ℓ off n:Nat)
 | qp {α:Type} (r:Rp α) (C:List Nat) (o:Option α)
 | em {κ ν:Type} (rk:Rp κ) (rv:Rp ν) (C:List Nat) (m:List (κ×ν))
 | mo {κ α:Type} [DecidableEq κ] (rk:Rp κ) (r:Rp α) (e:TypeId) (ℓ:Nat) (C:List Nat) (m:List (κ×List α))
 | cu (c:Cu) (ℓ:Nat) (C1 C2:List Nat)
def LV.plain:LV->Bool
 | .sl ..=>false
 | _=>true
theorem zat.plain (h:zat F w l v) (hp:l.plain=true):zat G w' l v:=by
 cases h with
 | int k n=>exact .int k n
 | bool b=>exact .bool b
 | str l=>exact .str l
 | val v h=>exact .val v h
 | sl=>cases hp
def VRel {α:Type} (F:Fp) (w:World) (r:Rp α) (x:α) (v:Value):Prop:=zT F w (r.lv x) v.cells.toList/\(r.agg=true->∃cs:List Value,v= .agg cs.toArray)/\(r.agg=false->v.cells=#[v])
theorem VRel.mono {α:Type} {F G:Fp} {w:World} {r:Rp α} {x:α} {v:Value} (h:VRel F w r x v) (hG:∀b,b<w.heap.size->F b->G b):VRel G w r x v:=⟨h.1.mono hG,h.2⟩
theorem VRel.keep {α:Type} {F:Fp} {w w':World} {r:Rp α} {x:α} {v:Value} (h:VRel F w r x v) (hk:zwa F w w'):VRel F w' r x v:=⟨h.1.keep hk,h.2⟩
inductive zcI {κ ν:Type} (F:Fp) (w:World) (rk:Rp κ) (rv:Rp ν):List (κ×ν)->List MapEntry->Prop
 | nil:zcI F w rk rv [] []
 | cons {p:κ×ν} {m:List (κ×ν)} {e:MapEntry} {es:List MapEntry} (h1:VRel F w rk p.1 e.key) (h2:VRel F w rv p.2 e.val) (h:zcI F w rk rv m es):zcI F w rk rv (p::m) (e::es)
theorem zcI.mono {κ ν:Type} {F G:Fp} {w:World} {rk:Rp κ} {rv:Rp ν} {m:List (κ×ν)} {es:List MapEntry} (h:zcI F w rk rv m es) (hG:∀b,b<w.heap.size->F b->G b):zcI G w rk rv m es:=by
 induction h with
 | nil=>exact .nil
 | cons h1 h2 _ ih=>exact .cons (h1.mono hG) (h2.mono hG) ih
theorem zcI.keep {κ ν:Type} {F:Fp} {w w':World} {rk:Rp κ} {rv:Rp ν} {m:List (κ×ν)} {es:List MapEntry} (h:zcI F w rk rv m es) (hk:zwa F w w'):zcI F w' rk rv m es:=by
 induction h with
 | nil=>exact .nil
 | cons h1 h2 _ ih=>exact .cons (h1.keep hk) (h2.keep hk) ih
def StOk {κ ν:Type} (m:List (κ×ν)) (es:Array MapEntry) (cl:Nat):Prop:=(∀x∈es.toList,x.born<cl)/\(es.toList.map (·.born)).Nodup/\(m.map Prod.fst).Nodup
def mget {κ ν:Type} [DecidableEq κ]:List (κ×ν)->κ->Option ν
 | [],_=>none
 | p::m,k=>if k=p.1 then some p.2 else mget m k
def mput {κ ν:Type} [DecidableEq κ]:List (κ×ν)->κ->ν->List (κ×ν)
 | [],k,x=>[(k,x)]
 | p::m,k,x=>if k=p.1 then (k,x)::m else p::mput m k x
def Rp.valR:Rp Value:=⟨1,false,fun v=>[.val v],fun _=>rfl,by decide⟩
def zrl {α:Type} (γ:Gh) (w:World) (r:Rp α) (e:TypeId) (ℓ:Nat) (C:List Nat) (xs:List α) (v:Value):Prop:=
 ∃cs,w.ownsRow 0 e r.size v xs.length cs/\(∀g,v.ownBlock=some g->γ.col g=ℓ)/\zT (γ.F C) w (xs.flatMap r.lv) cs
def zKR {α:Type} (γ:Gh) (w:World) (r:Rp α) (C:List Nat) (xs:List α) (v:Value):Prop:=
 (∃A,v= .slice A xs.length xs.length)/\zat (γ.F C) w (.sl xs.length r.size (xs.flatMap r.lv)) v
def RowX {α:Type} (γ:Gh) (w:World) (r:Rp α) (e:TypeId) (ℓ:Nat) (C:List Nat) (o:Prop) (xs:List α) (v:Value):Prop:=
 (o/\zrl γ w r e ℓ C xs v)\/(¬o/\zKR γ w r C xs v)
def zAd (u v:Value):Prop:=∀g,u.ownBlock=some g->v.ownBlock≠some g
structure zMT {κ α:Type} [DecidableEq κ] (γ:Gh) (w:World) (r:Rp α) (e:TypeId) (ℓ:Nat) (C:List Nat) (S O:κ->Prop) (m:List (κ×List α)) (n:List (κ×Value)):Prop where
 keys:m.map Prod.fst=n.map Prod.fst
 row:∀k xs u,mget m k=some xs->mget n k=some u->S k->RowX γ w r e ℓ C (O k) xs u
 apart:∀j k u v,j≠k->mget n j=some u->mget n k=some v->S j->S k->O j->O k->zAd u v
def MoIn {κ α:Type} [DecidableEq κ] (γ:Gh) (w:World) (rk:Rp κ) (r:Rp α) (e:TypeId) (ℓ:Nat) (C:List Nat) (S O:κ->Prop) (m:List (κ×List α)) (b:Nat) (n:List (κ×Value)):Prop:=
 ∃es cl,(γ.col b=ℓ/\γ.box ℓ=b)/\b<w.heap.size/\w.heap[b]? =some (.map es cl)/\StOk n es cl/\zcI (γ.F C) w rk Rp.valR n es.toList/\zMT γ w r e ℓ C S O m n/\ℓ∉C
def zOf {κ ν:Type} (F:Fp) (w:World) (rk:Rp κ) (rv:Rp ν) (last left:List (κ×ν)) (b r:Nat):Prop:=
 ∃es cl seen since c0 ls la,w.heap[r]? =some (.mapIter (some b) since seen c0)/\w.heap[b]? =some (.map es cl)/\(∀x∈es.toList,x.born<since)/\(es.toList.map (·.born)).Nodup/\since<=c0/\since<=cl/\
  ls.Perm (leftOf es seen).toList/\zcI F w rk rv left ls/\zcI F w rk rv last la/\∀e∈la,e∈es.toList/\(∃se:Array Nat,seen=se.push e.born)/\c0=cl
mutual
def AV.rel (γ:Gh) (w:World):AV->Value->Prop
 | .any,_=>True
 | .lf l,v=>l.plain=true/\zat (fun _=>False) w l v
 | .sl r C xs,v=>zat (γ.F C) w (.sl xs.length r.size (xs.flatMap r.lv)) v
 | .own r e ℓ C xs,v=>∃cs,w.ownsRow 0 e r.size v xs.length cs/\(∀g,v.ownBlock=some g->γ.col g=ℓ/\γ.box ℓ=g)/\zT (γ.F C) w (xs.flatMap r.lv) cs/\ℓ∉C
 | .rc r C x,v=>∃cs,v= .agg cs.toArray/\zT (γ.F C) w (r.lv x) cs
 | .ep r C x off,v=>∃b o cs,v= .pointer (some ⟨b,o+off,none⟩)/\γ.col b∈C/\b<w.heap.size/\zT (γ.F C) w (r.lv x) cs/\∀i,i<cs.length->w.cell? ⟨b,o+i,none⟩=cs[i]?
 | .ptr ℓ off,v=>v= .pointer (some ⟨γ.box ℓ,off,none⟩)
 | .bs ℓ n,v=>v= .slice (some ⟨γ.box ℓ,0,none⟩) n n
 | .tl ℓ off n,v=>∃A c,v= .slice A n c/\(0<n->A=some ⟨γ.box ℓ,off,none⟩)
 | .qp r C o,v=>match o with
  | none=>v= .pointer none
  | some x=>∃b cs,v= .pointer (some ⟨b,0,none⟩)/\γ.col b∈C/\b<w.heap.size/\zT (γ.F C) w (r.lv x) cs/\∀i,i<cs.length->w.cell? ⟨b,0+i,none⟩=cs[i]?
 | .mp rk rv C m,v=>∃b es cl,v= .map (some b)/\γ.col b∈C/\b<w.heap.size/\(w.heap[b]? =some (.map es cl)/\StOk m es cl)/\zcI (γ.F C) w rk rv m es.toList
 | .em rk rv C m,v=>∃a b es cl,v= .pointer (some ⟨a,0,none⟩)/\γ.col a∈C/\a<w.heap.size/\w.cell? ⟨a,0,none⟩=some (.map (some b))/\γ.col b∈C/\b<w.heap.size/\(w.heap[b]? =some (.map es cl)/\StOk m es cl)/\zcI (γ.F C) w rk rv m es.toList
 | .om rk rv ℓ C m,v=>∃b es cl,v= .map (some b)/\(γ.col b=ℓ/\γ.box ℓ=b)/\b<w.heap.size/\(w.heap[b]? =some (.map es cl)/\StOk m es cl)/\zcI (γ.F C) w rk rv m es.toList/\ℓ∉C
 | @AV.mo _ _ _ rk r e ℓ C m,v=>∃b n O,v= .map (some b)/\MoIn γ w rk r e ℓ C (fun _=>True) O m b n
 | .cu c ℓ C1 C2,v=>c.R C1 C2 ℓ γ w v
 | .tup l,v=>∃vs:List Value,v= .tuple vs.toArray/\AV.relL γ w l vs
 | .ag l,v=>∃vs:List Value,v= .agg vs.toArray/\AV.relL γ w l vs/\∀u∈vs,u.oneCell'=true
 | .fv g l,v=>∃vs:List Value,v= .func (.func g) #[] vs.toArray/\AV.relL γ w l vs
 | .bp r t ℓ C x,v=>∃b cs,v= .pointer (some ⟨b,0,none⟩)/\(γ.col b=ℓ/\γ.box ℓ=b)/\b<w.heap.size/\w.heap[b]? =some (.cells cs t (0,0))/\(∀u∈cs.toList,u.oneCell'=true)/\zT (γ.F C) w (r.lv x) cs.toList
 | .it rk rv ℓ C last left,v=>∃r b,v= .pointer (some ⟨r,0,none⟩)/\(γ.col r=ℓ/\γ.box ℓ=r)/\r<w.heap.size/\γ.col b∈C/\b<w.heap.size/\zOf (γ.F C) w rk rv last left b r/\ℓ∉C
def AV.relL (γ:Gh) (w:World):List AV->List Value->Prop
 | [],vs=>vs=[]
 | a::l,vs=>∃v vs',vs=v::vs'/\AV.rel γ w a v/\AV.relL γ w l vs'
end
mutual
/-- The colors that a reading looks at. -/
def AV.cols:AV->List Nat
 | .any| .lf _| .ptr _ _| .bs _ _| .tl _ _ _=>[]
 | .sl _ C _| .rc _ C _| .ep _ C _ _| .qp _ C _=>C
 | .own _ _ ℓ C _=>ℓ::C
 | .mp _ _ C _| .em _ _ C _=>C
 | .om _ _ ℓ C _=>ℓ::C
 | @AV.mo _ _ _ _ _ _ ℓ C _=>ℓ::C
 | .cu _ ℓ C1 C2=>ℓ::(C1++C2)
 | .tup l=>AV.colsL l
 | .ag l=>AV.colsL l
 | .fv _ l=>AV.colsL l
 | .bp _ _ ℓ C _=>ℓ::C
 | .it _ _ ℓ C _ _=>ℓ::C
def AV.colsL:List AV->List Nat
 | []=>[]
 | a::l=>AV.cols a++AV.colsL l
end
mutual
/-- The boxes that it points into. -/
def AV.labs:AV->List Nat
 | .ptr ℓ _=>[ℓ]
 | .bs ℓ _=>[ℓ]
 | .tl ℓ _ _=>[ℓ]
 | .own _ _ ℓ _ _=>[ℓ]
 | .om _ _ ℓ _ _=>[ℓ]
 | @AV.mo _ _ _ _ _ _ ℓ _ _=>[ℓ]
 | .cu _ ℓ _ _=>[ℓ]
 | .tup l=>AV.labsL l
 | .ag l=>AV.labsL l
 | .fv _ l=>AV.labsL l
 | .bp _ _ ℓ _ _=>[ℓ]
 | .it _ _ ℓ _ _ _=>[ℓ]
 | _=>[]
def AV.labsL:List AV->List Nat
 | []=>[]
 | a::l=>AV.labs a++AV.labsL l
end
structure Tr (W V:List Nat) (γ:Gh) (w:World) (γ':Gh) (w':World):Prop where
 os:w'.os=w.os
 tape:w'.tape=w.tape
 output:w'.output=w.output
 size:w.heap.size<=w'.heap.size
 block:∀b,b<w.heap.size->γ.col b∉W->w'.heap[b]? =w.heap[b]?
 col:∀b,b<w.heap.size->γ'.col b=γ.col b
 box:∀ℓ,ℓ∉V->γ'.box ℓ=γ.box ℓ
 fresh:∀b,w.heap.size<=b->b<w'.heap.size->γ'.col b=0->0∈W\/0∈V
section
variable {W V:List Nat} {γ γ':Gh} {w w':World}
theorem Tr.refl (W V:List Nat) (γ:Gh) (w:World):Tr W V γ w γ w:=⟨rfl,rfl,rfl,xw _,fun _ _ _=>rfl,fun _ _=>rfl,fun _ _=>rfl,fun b h1 h2=>by omega⟩
theorem Tr.lv (h:Tr W V γ w γ' w') (hC:∀c∈C,c∉W) (hl:zat (γ.F C) w l v):zat (γ'.F C) w' l v:=by
 have h1:zat (fun b=>γ.F C b/\b<w.heap.size) w l v:=hl.mono fun b hb hF=>⟨hF,hb⟩
 refine (h1.keep (w':=w') ⟨h.size,fun b hb hF=>h.block b hb (hC _ hF.1)⟩).mono fun b hb hF=>?_
 show γ'.col b∈C;rw [h.col b hF.2];exact hF.1
theorem Tr.all (h:Tr W V γ w γ' w') (hC:∀c∈C,c∉W) (hl:zT (γ.F C) w ls cs):zT (γ'.F C) w' ls cs:=
 ⟨hl.1,fun i l u h1 h2=>h.lv hC (hl.2 i l u h1 h2)⟩
theorem Tr.es (h:Tr W V γ w γ' w') {C:List Nat} (hC:∀c∈C,c∉W) {κ ν:Type} {rk:Rp κ} {rv:Rp ν} {m:List (κ×ν)} {es:List MapEntry} (hl:zcI (γ.F C) w rk rv m es):zcI (γ'.F C) w' rk rv m es:=by
 induction hl with
 | nil=>exact .nil
 | cons h1 h2 _ ih=>exact .cons ⟨h.all hC h1.1,h1.2⟩ ⟨h.all hC h2.1,h2.2⟩ ih
theorem ziO (ho:w.ownsRow base e size v n cs) (hb:∀g,v.ownBlock=some g->w'.heap[g]? =w.heap[g]?):w'.ownsRow base e size v n cs:=by
 refine ⟨ho.1,?_⟩;rcases ho.2 with hn| ⟨g,w9,kj,rfl,hg,hh,wR⟩
 ·exact .inl hn
 ·exact .inr ⟨g,w9,kj,rfl,hg,(hb g rfl).trans hh,wR⟩
theorem MoIn.off {κ α:Type} [DecidableEq κ] {γ:Gh} {w:World} {rk:Rp κ} {r:Rp α} {e:TypeId} {ℓ:Nat} {C:List Nat} {S O:κ->Prop} {m:List (κ×List α)} {b:Nat} {n:List (κ×Value)} (h:MoIn γ w rk r e ℓ C S O m b n):ℓ∉C:=by
 obtain ⟨es,cl,_,_,_,_,_,_,hn⟩:=h;exact hn
theorem RowX.regh {α:Type} {γ γ':Gh} {w:World} {r:Rp α} {e:TypeId} {ℓ ℓ':Nat} {C C':List Nat} {o:Prop} {xs:List α} {v:Value} (h1:∀b,b<w.heap.size->γ.col b=ℓ->γ'.col b=ℓ')
  (h2:∀b,b<w.heap.size->γ.col b∈C->γ'.col b∈C') (h:RowX γ w r e ℓ C o xs v):RowX γ' w r e ℓ' C' o xs v:=by
 rcases h with ⟨ho,cs,hw,hg,hA⟩| ⟨ho,hv,hL⟩
 ·exact .inl ⟨ho,cs,hw,fun g kd=>h1 g (hw.lt g kd).2 (hg g kd),hA.mono h2⟩
 ·exact .inr ⟨ho,hv,hL.mono h2⟩
theorem MoIn.regh {κ α:Type} [DecidableEq κ] {γ γ':Gh} {w:World} {rk:Rp κ} {r:Rp α} {e:TypeId} {ℓ ℓ':Nat} {C C':List Nat} {S O:κ->Prop} {m:List (κ×List α)} {b:Nat} {n:List (κ×Value)} (h1:∀b,b<w.heap.size->γ.col b=ℓ->γ'.col b=ℓ')
  (h2:∀b,b<w.heap.size->γ.col b∈C->γ'.col b∈C') (h3:γ'.box ℓ'=γ.box ℓ) (h4:ℓ'∉C') (h:MoIn γ w rk r e ℓ C S O m b n):MoIn γ' w rk r e ℓ' C' S O m b n:=by
 obtain ⟨es,cl,⟨g1,g2⟩,hb,hh,hO,hE,hR,_⟩:=h;exact ⟨es,cl,⟨h1 b hb g1,h3.trans g2⟩,hb,hh,hO,hE.mono h2,⟨hR.keys,fun k xs u a1 a2 a3=>(hR.row k xs u a1 a2 a3).regh h1 h2,hR.apart⟩,h4⟩
theorem zrl.keep (h:Tr W V γ w γ' w') {α:Type} {r:Rp α} {e:TypeId} {ℓ:Nat} {C:List Nat} {xs:List α} {v:Value} (h1:ℓ∉W) (h2:∀c∈C,c∉W) (hr:zrl γ w r e ℓ C xs v):zrl γ' w' r e ℓ C xs v:=by
 obtain ⟨cs,ho,hg,hA⟩:=hr;have wS:=ho.lt;exact ⟨cs,ziO ho fun g kd=>h.block g (wS g kd).2 (by rw [hg g kd];exact h1),fun g kd=>by rw [h.col g (wS g kd).2];exact hg g kd,h.all h2 hA⟩
theorem RowX.keep (h:Tr W V γ w γ' w') {α:Type} {r:Rp α} {e:TypeId} {ℓ:Nat} {C:List Nat} {o:Prop} {xs:List α} {v:Value} (h1:ℓ∉W) (h2:∀c∈C,c∉W) (hr:RowX γ w r e ℓ C o xs v):RowX γ' w' r e ℓ C o xs v:=by
 rcases hr with ⟨ho,hr⟩| ⟨ho,hv,hL⟩
 ·exact .inl ⟨ho,hr.keep h h1 h2⟩
 ·exact .inr ⟨ho,hv,h.lv h2 hL⟩
theorem MoIn.keep (h:Tr W V γ w γ' w') {κ α:Type} [DecidableEq κ] {rk:Rp κ} {r:Rp α} {e:TypeId} {ℓ:Nat} {C:List Nat} {S O:κ->Prop} {m:List (κ×List α)} {b:Nat} {n:List (κ×Value)} (h1:ℓ∉W) (h2:∀c∈C,c∉W) (h3:ℓ∉V)
  (hr:MoIn γ w rk r e ℓ C S O m b n):MoIn γ' w' rk r e ℓ C S O m b n:=by
 obtain ⟨es,cl,⟨g1,g2⟩,hb,hh,hO,hE,hR,hn⟩:=hr;exact ⟨es,cl,⟨by rw [h.col b hb];exact g1,by rw [h.box ℓ h3];exact g2⟩,xR hb h.size,(h.block b hb (by rw [g1];exact h1)).trans hh,hO,h.es h2 hE,⟨hR.keys,fun k xs u a1 a2 a3=>(hR.row k xs u a1 a2 a3).keep h h1 h2,hR.apart⟩,hn⟩
mutual
theorem AV.keep (a:AV) {v:Value} (h:Tr W V γ w γ' w') (hc:∀c∈a.cols,c∉W) (hl:∀c∈a.labs,c∉V) (hr:a.rel γ w v):a.rel γ' w' v:=by
 match a with
 | .any=>trivial
 | .lf l=>exact ⟨hr.1,hr.2.plain hr.1⟩
 | .sl r C xs=>exact h.lv hc hr
 | .own r e ℓ C xs=>
  obtain ⟨cs,ho,hg,hA,hn⟩:=hr;have wS:=ho.lt;refine ⟨cs,ziO ho fun g kd=>h.block g (wS g kd).2 ?_,fun g kd=>?_,h.all (fun c hC=>hc c (xt _ hC)) hA,hn⟩
  ·rw [(hg g kd).1];exact hc ℓ xr
  ·rw [h.col g (wS g kd).2,h.box ℓ (hl ℓ xr)];exact hg g kd
 | .rc r C x=>
  obtain ⟨cs,hv,hA⟩:=hr;exact ⟨cs,hv,h.all hc hA⟩
 | .ep r C x off=>
  obtain ⟨b,o,cs,hv,hF,hb,hA,hcell⟩:=hr;refine ⟨b,o,cs,hv,by rw [h.col b hb];exact hF,xR hb h.size,h.all hc hA,fun i hi=>?_⟩;rw [<-hcell i hi];exact pz (h.block b hb (hc _ hF))
 | .ptr ℓ off=>
  show v=_;rw [h.box ℓ (hl ℓ xr)];exact hr
 | .bs ℓ n=>
  show v=_;rw [h.box ℓ (hl ℓ xr)];exact hr
 | .tl ℓ off n=>
  obtain ⟨A,c,hv,hA⟩:=hr;exact ⟨A,c,hv,fun hn=>by rw [h.box ℓ (hl ℓ xr)];exact hA hn⟩
 | .qp r C o=>
  cases o with
  | none=>exact hr
  | some x=>
   obtain ⟨b,cs,hv,hF,hb,hA,hcell⟩:=hr;refine ⟨b,cs,hv,by rw [h.col b hb];exact hF,xR hb h.size,h.all hc hA,fun i hi=>?_⟩;rw [<-hcell i hi];exact pz (h.block b hb (hc _ hF))
 | .mp rk rv C m=>
  obtain ⟨b,es,cl,hv,hF,hb,hh,hE⟩:=hr;exact ⟨b,es,cl,hv,by rw [h.col b hb];exact hF,xR hb h.size,⟨(h.block b hb (hc _ hF)).trans hh.1,hh.2⟩,h.es hc hE⟩
 | .em rk rv C m=>
  obtain ⟨a,b,es,cl,hv,hFa,ha,hc1,hF,hb,hh,hE⟩:=hr;exact ⟨a,b,es,cl,hv,by rw [h.col a ha];exact hFa,xR ha h.size,(pz (h.block a ha (hc _ hFa))).trans hc1,by rw [h.col b hb];exact hF,xR hb h.size,⟨(h.block b hb (hc _ hF)).trans hh.1,hh.2⟩,h.es hc hE⟩
 | .om rk rv ℓ C m=>
  obtain ⟨b,es,cl,hv,⟨hF,hbx⟩,hb,hh,hE,hn⟩:=hr;exact ⟨b,es,cl,hv,⟨by rw [h.col b hb];exact hF,by rw [h.box ℓ (hl ℓ xr)];exact hbx⟩,xR hb h.size,⟨(h.block b hb (by rw [hF];exact hc ℓ xr)).trans hh.1,hh.2⟩,h.es (fun c hC=>hc c (xt _ hC)) hE,hn⟩
 | @AV.mo _ _ _ rk r e ℓ C m=>
  obtain ⟨b,n,O,hv,hm⟩:=hr;exact ⟨b,n,O,hv,hm.keep h (hc ℓ xr) (fun c hC=>hc c (xt _ hC)) (hl ℓ xr)⟩
 | .cu c ℓ C1 C2=>
  refine c.move h.size (fun b hb hc'=>h.block b hb (hc _ hc')) (fun b hb e=>by rw [h.col b hb];exact e) (fun b hb hF=>?_) (fun b hb hF=>?_) (h.box ℓ (hl ℓ xr)) hr
  ·show γ'.col b∈C1;rw [h.col b hb];exact hF
  ·show γ'.col b∈C2;rw [h.col b hb];exact hF
 | .tup l=>
  obtain ⟨vs,hv,hL⟩:=hr;exact ⟨vs,hv,AV.keepL l h hc hl hL⟩
 | .ag l=>
  obtain ⟨vs,hv,hL,h1⟩:=hr;exact ⟨vs,hv,AV.keepL l h hc hl hL,h1⟩
 | .fv g l=>
  obtain ⟨vs,hv,hL⟩:=hr;exact ⟨vs,hv,AV.keepL l h hc hl hL⟩
 | .bp r t ℓ C x=>
  obtain ⟨b,cs,hv,⟨hF,hbx⟩,hb,hh,h1,hA⟩:=hr;exact ⟨b,cs,hv,⟨by rw [h.col b hb];exact hF,by rw [h.box ℓ (hl ℓ xr)];exact hbx⟩,xR hb h.size,(h.block b hb (by rw [hF];exact hc ℓ xr)).trans hh,h1,h.all (fun c hC=>hc c (xt _ hC)) hA⟩
 | .it rk rv ℓ C last left=>
  obtain ⟨r,b,hv,⟨g1,g2⟩,hr',hF,hb,⟨es,cl,seen,since,c0,ls,la,i1,i2,i3,i4,i5,i6,i7,i8,i9,i10⟩,hn⟩:=hr;have hC:∀c∈C,c∉W:=fun c h1=>hc c (xt _ h1)
  exact ⟨r,b,hv,⟨by rw [h.col r hr'];exact g1,by rw [h.box ℓ (hl ℓ xr)];exact g2⟩,xR hr' h.size,by rw [h.col b hb];exact hF,xR hb h.size,
   ⟨es,cl,seen,since,c0,ls,la,(h.block r hr' (by rw [g1];exact hc ℓ xr)).trans i1,(h.block b hb (hC _ hF)).trans i2,i3,i4,i5,i6,i7,h.es hC i8,h.es hC i9,i10⟩,hn⟩
theorem AV.keepL (l:List AV) (h:Tr W V γ w γ' w') (hc:∀c∈AV.colsL l,c∉W) (hl:∀c∈AV.labsL l,c∉V) (hr:AV.relL γ w l vs):AV.relL γ' w' l vs:=by
 match l with
 | []=>exact hr
 | a::l=>
  obtain ⟨v,vs',rfl,h1,h2⟩:=hr
  exact ⟨v,vs',rfl,AV.keep a h (fun c hC=>hc c (ym _ hC)) (fun c hC=>hl c (ym _ hC)) h1,
   AV.keepL l h (fun c hC=>hc c (yf _ hC)) (fun c hC=>hl c (yf _ hC)) h2⟩
end
theorem Tr.trans (h:Tr W V γ w γ' w') (k:Tr W' V' γ' w' γ'' w''):Tr (W++W') (V++V') γ w γ'' w'':=by
 refine ⟨k.os.trans h.os,k.tape.trans h.tape,k.output.trans h.output,yi h.size k.size,fun b hb hn=>?_,fun b hb=>?_,fun ℓ hn=>?_,fun b h1 h2 h0=>?_⟩
 ·simp only [xA,not_or] at hn;rw [k.block b (xR hb h.size) (by rw [h.col b hb];exact hn.2),h.block b hb hn.1]
 ·rw [k.col b (xR hb h.size),h.col b hb]
 ·simp only [xA,not_or] at hn;rw [k.box ℓ hn.2,h.box ℓ hn.1]
 ·simp only [xA];by_cases hb:b<w'.heap.size
  ·rcases h.fresh b h1 hb (by rw [<-k.col b hb];exact h0) with e| e
   ·grind
   grind
  ·rcases k.fresh b (yY hb) h2 h0 with e| e
   ·grind
   grind
end
structure Bx where
 lab:Nat
 typ:TypeId
 avs:List AV
def Bx.rel (γ:Gh) (w:World) (b:Bx):Prop:=
 γ.col (γ.box b.lab)=b.lab/\∃cs:List Value,w.heap[γ.box b.lab]? =some (.cells cs.toArray b.typ (0,0))/\AV.relL γ w b.avs cs/\∀u∈cs,u.oneCell'=true
structure Env where
 sl:List (Nat×AV)
 bx:List Bx
def memN (c:Nat):List Nat->Bool
 | []=>false
 | x::l=>Nat.beq c x|| memN c l
theorem zab :memN c l=true↔c∈l:=by
 induction l with
 | nil=>simp [memN]
 | cons x l ih=>simp [memN,ih]
def AV.free (W V:List Nat) (a:AV):Bool:=a.cols.all (fun c=> !memN c W)&&a.labs.all (fun c=> !memN c V)
theorem AV.free_spec {W V:List Nat} {a:AV} (h:a.free W V=true):(∀c∈a.cols,c∉W)/\∀c∈a.labs,c∉V:=by
 unfold AV.free at h;simp only [xu,xF,xU] at h;refine ⟨fun c hc hw=>?_,fun c hc hw=>?_⟩
 ·have:=h.1 c hc;rw [zab.2 hw] at this;cases this
 ·have:=h.2 c hc;rw [zab.2 hw] at this;cases this
def lookup:List (Nat×AV)->Nat->Option AV
 | [],_=>none
 | p::l,k=>match Nat.beq p.1 k with
  | true=>some p.2
  | false=>lookup l k
theorem zdm (h:lookup l k=some a):(k,a)∈l:=by
 induction l with
 | nil=>cases h
 | cons p l ih=>
  rw [lookup] at h;split at h
  ·rename_i hb;have:=xE hb
   grind
  grind
def zqx:Value->Option AV
 | .int k n=>some (.lf (.int k n))
 | .bool b=>some (.lf (.bool b))
 | .string s=>some (.lf (.str s.data.toList))
 | .slice none n c=>some (.lf (.val (.slice none n c)))
 | .nilFunc=>some (.lf (.val .nilFunc))
 | .pointer none=>some (.lf (.val (.pointer none)))
 | .map none=>some (.lf (.val (.map none)))
 | .nilIface=>some (.lf (.val .nilIface))
 | _=>none
theorem zmj (h:zqx v=some a) (γ:Gh) (w:World):a.rel γ w v:=by
 unfold zqx at h;split at h
 all_goals cases h
 ·exact ⟨rfl,.int _ _⟩
 ·exact ⟨rfl,.bool _⟩
 ·rename_i s;refine ⟨rfl,?_⟩;have:=zat.str (F:=fun _=>False) (w:=w) s.data.toList;simpa using this
 all_goals exact ⟨rfl,.val _ rfl⟩
def Env.opd (E:Env):Operand->Option AV
 | .tmp t=>lookup E.sl t
 | .const v=>zqx v
 | .func f=>some (.lf (.val (.func (.func f) #[] #[])))
 | .global _=>none
def spB (c:Nat):Bool:=Nat.ble 800000 c&&Nat.ble c 899999
theorem zGE {c:Nat}:spB c=true↔800000<=c/\c<=899999:=by simp [spB]
structure zvX (γ γ':Gh):Prop where
 zero:∀b,γ.col b=0->γ'.col b=0
 one:∀b,γ.col b=1->γ'.col b=1
 back:∀b,γ'.col b=0->γ.col b=0
 old:∀b,spB (γ.col b)=true->γ'.col b=γ.col b
structure Ext where
 X:Gh->World->Prop
 tr:∀{γ γ':Gh} {w w':World} {W V:List Nat},X γ w->Tr W V γ w γ' w'->(∀c∈W,2<=c)->(∀c∈V,2<=c)->X γ' w'
 ren:∀{γ γ':Gh} {w:World},X γ w->zvX γ γ'->X γ' w
 base:Nat
 le:∀{γ:Gh} {w:World},X γ w->base<=w.heap.size
def fnX (w0:World) (F:Fp):Ext where
 X γ w:=Below w0.heap.size w0 w/\(∀b,b<w0.heap.size->(γ.col b=0/\F b)\/γ.col b=1)/\∀b,w0.heap.size<=b->b<w.heap.size->γ.col b≠0
 tr:=fun {γ γ' w w' W V} h t hW hV=>by
  have wS:∀b,b<w0.heap.size->b<w.heap.size:=fun b hb=>xR hb h.1.size
  have hn:∀b,b<w0.heap.size->γ.col b∉W:=fun b hb hc=>by
   have:=hW _ hc;rcases h.2.1 b hb with ⟨h0,_⟩| h0<;>omega
  refine ⟨⟨t.os.trans h.1.os,t.tape.trans h.1.tape,t.output.trans h.1.output,yi h.1.size t.size,fun b hb=>?_⟩,fun b hb=>?_,fun b h1 h2 h0=>?_⟩
  ·rw [t.block b (wS b hb) (hn b hb)];exact h.1.block b hb
  ·rw [t.col b (wS b hb)];exact h.2.1 b hb
  ·by_cases hb:b<w.heap.size
   ·exact h.2.2 b h1 hb (by rw [<-t.col b hb];exact h0)
   ·rcases t.fresh b (yY hb) h2 h0 with e| e
    ·have:=hW _ e;omega
    ·have:=hV _ e;omega
 ren:=fun {γ γ' w} h k=>⟨h.1,fun b hb=>(h.2.1 b hb).imp (fun ⟨h0,hF⟩=>⟨k.zero b h0,hF⟩) (k.one b),fun b h1 h2 h0=>h.2.2 b h1 h2 (k.back b h0)⟩
 base:=w0.heap.size
 le:=fun h=>h.1.size
def zsk (n0:Nat) (γ:Gh) (w:World) (ds:List Deferred):Prop:=
 ∃Ds:List Nat,ds=Ds.map (fun D=>{target:= .collected D,args:=#[]})/\Ds.Nodup/\∀D∈Ds,n0<=D/\w.heap[D]? =some (.deferred (some []))/\γ.col D=1
theorem zsk.tr (h:zsk n0 γ w ds) (t:Tr W V γ w γ' w') (hW:∀c∈W,2<=c):zsk n0 γ' w' ds:=by
 obtain ⟨Ds,e,hn,h⟩:=h;refine ⟨Ds,e,hn,fun D hD=>?_⟩;obtain ⟨h0,h1,h2⟩:=h D hD;have wS:=(ya.1 h1).1;refine ⟨h0,?_,(t.col D wS).trans h2⟩;rw [t.block D wS (fun hc=>by have:=hW _ hc;omega)];exact h1
theorem zsk.ren (h:zsk n0 γ w ds) (k:zvX γ γ'):zsk n0 γ' w ds:=by
 obtain ⟨Ds,e,hn,h⟩:=h;exact ⟨Ds,e,hn,fun D hD=>⟨(h D hD).1,(h D hD).2.1,k.one D (h D hD).2.2⟩⟩
structure Lim where
 n:Nat
 keep:List Nat
structure Cx where
 n:Lim
 X:Ext
 marked:Bool
 old:Array Value
structure Base (cx:Cx) (γ:Gh) (a:Act) (w:World):Prop where
 defers:zsk cx.X.base γ w a.defers
 clean:cx.marked=false->a.defers=[]
 size:a.tmps.size=cx.n.n
 kept:∀k∈cx.n.keep,a.tmps.getD k undef=cx.old.getD k undef
 ext:cx.X.X γ w
def Sl (γ:Gh) (w:World) (a:Act) (l:List (Nat×AV)):Prop:=∀p∈l,p.2.rel γ w (a.tmps.getD p.1 undef)
def Bxs (γ:Gh) (w:World) (l:List Bx):Prop:=∀b∈l,b.rel γ w
def Sx (cx:Cx) (E:Env) (a:Act) (w:World):Prop:=∃γ,Base cx γ a w/\Sl γ w a E.sl/\Bxs γ w E.bx
theorem Env.opd_rel {E:Env} {x:Operand} {av:AV} (h:E.opd x=some av) {γ:Gh} {w:World} {a:Act} (hs:Sl γ w a E.sl):av.rel γ w (a.eval x):=by
 cases x with
 | tmp t=>exact hs _ (zdm h)
 | const v=>exact zmj h γ w
 | global g=>cases h
 | func f=>cases h;exact ⟨rfl,.val _ rfl⟩
def ziq (d:Option Nat) (av:AV) (l:List (Nat×AV)):List (Nat×AV):=
 match d with
 | none=>l
 | some d=>(d,av)::l.filter fun p=> !Nat.beq p.1 d
def zEs (d:Option Nat) (l:List (Nat×AV)):List (Nat×AV):=
 match d with
 | none=>l
 | some d=>l.filter fun p=> !Nat.beq p.1 d
theorem ziJ {a:Act} {d k:Nat} {v:Value} (h:k≠d):(a.put (some d) v).tmps.getD k undef=a.tmps.getD k undef:=by
 simp only [Act.put,yB]
 grind
theorem zde {a:Act} {d:Nat} {v:Value} (h:d<a.tmps.size):(a.put (some d) v).tmps.getD d undef=v:=by
 simp only [Act.put,yB]
 grind
theorem zhi (a:Act) (d:Option Nat) (v:Value):(a.put d v).defers=a.defers:=by cases d<;>rfl
theorem znB (a:Act) (d:Option Nat) (v:Value):(a.put d v).tmps.size=a.tmps.size:=by cases d<;>simp [Act.put]
theorem Base.put {cx:Cx} {γ:Gh} {a:Act} {w:World} (h:Base cx γ a w) (d:Option Nat) (v:Value) (hk:∀k,d=some k->k∉cx.n.keep):Base cx γ (a.put d v) w:=
 ⟨by rw [zhi];exact h.defers,fun e=>by rw [zhi];exact h.clean e,(znB a d v).trans h.size,fun k hm=>by
  cases d with
  | none=>exact h.kept k hm
  | some d=>
   have kl:k≠d:=fun e=>hk d rfl (by rw [<-e];exact hm)
   rw [ziJ kl];exact h.kept k hm,h.ext⟩
theorem Sl.drop {γ:Gh} {w:World} {a:Act} {l:List (Nat×AV)} (h:Sl γ w a l) (d:Option Nat) (v:Value):Sl γ w (a.put d v) (zEs d l):=by
 cases d with
 | none=>exact h
 | some d=>
  intro p hp;simp only [zEs,yb,xU] at hp;rw [ziJ (fun e=>by rw [e] at hp;simp at hp)];exact h p hp.1
theorem Sl.put {γ:Gh} {w:World} {a:Act} {l:List (Nat×AV)} (h:Sl γ w a l) {d:Option Nat} {v:Value} {av:AV} (hd:∀k,d=some k->k<a.tmps.size) (hv:av.rel γ w v):Sl γ w (a.put d v) (ziq d av l):=by
 cases d with
 | none=>exact h
 | some d=>
  intro p hp;simp only [ziq,xx] at hp;rcases hp with rfl| hp
  ·simp only;rw [zde (hd d rfl)];exact hv
  ·exact h.drop (some d) v p hp
def zsF (j k:IntKind):Bool:=match j,k with
 | .i8,.i8| .i16,.i16| .i32,.i32| .i64,.i64| .u8,.u8| .u16,.u16| .u32,.u32| .u64,.u64=>true
 | _,_=>false
theorem zsG (h:zsF j k=true):j=k:=by cases j<;>cases k<;>first| rfl| cases h
def andI (k:IntKind) (x y:Int):Int:=k.wrap (BitVec.ofInt k.bits x&&&BitVec.ofInt k.bits y).toNat
def orI (k:IntKind) (x y:Int):Int:=k.wrap (BitVec.ofInt k.bits x||| BitVec.ofInt k.bits y).toNat
def xorI (k:IntKind) (x y:Int):Int:=k.wrap (BitVec.ofInt k.bits x^^^BitVec.ofInt k.bits y).toNat
def zKU (k:IntKind) (x y:Int):Int:=k.wrap (BitVec.ofInt k.bits x&&&~~~BitVec.ofInt k.bits y).toNat
def shlI (k:IntKind) (x y:Int):Int:=k.wrap (x*2^(min y.toNat k.bits))
def shrI (k:IntKind) (x y:Int):Int:=x.fdiv (2^(min y.toNat k.bits))
def zAf (op:BinOp) (k:IntKind) (x y:Int):Option LV:=
 match op with
 | .add=>some (.int k (k.wrap (x+y)))
 | .sub=>some (.int k (k.wrap (x - y)))
 | .mul=>some (.int k (k.wrap (x*y)))
 | .and=>some (.int k (andI k x y))
 | .or=>some (.int k (orI k x y))
 | .xor=>some (.int k (xorI k x y))
 | .andNot=>some (.int k (zKU k x y))
 | .eql=>some (.bool (x==y))
 | .neq=>some (.bool (x !=y))
 | .lss=>some (.bool (decide (x<y)))
 | .leq=>some (.bool (decide (x<=y)))
 | .gtr=>some (.bool (decide (x>y)))
 | .geq=>some (.bool (decide (x>=y)))
 | .quo=>match y with
  | .ofNat (n+1)=>some (.int k (k.wrap (x.tdiv (.ofNat (n+1)))))
  | _=>none
 | .rem=>match y with
  | .ofNat (n+1)=>some (.int k (x.tmod (.ofNat (n+1))))
  | _=>none
 | .shl| .shr=>none
theorem zEf (h:zAf op k x y=some l) (P:Program) (w:World) (t:TypeId):
  ∃v,(binOp op t (.int k x) (.int k y)).run P w= .ok v w/\l.plain=true/\zat (fun _=>False) w l v:=by
 have hk:¬(k≠k):=fun h=>h rfl
 unfold zAf at h;split at h
 case h_14=>
  split at h
  ·rename_i n;cases h;have hn:¬(Int.ofNat (n+1)=0):=by simp;omega
   exact ⟨_,by simp only [binOp,Op.intDiv];rw [xp hk,xp hn];rfl,rfl,.int _ _⟩
  ·cases h
 case h_15=>
  split at h
  ·rename_i n;cases h;have hn:¬(Int.ofNat (n+1)=0):=by simp;omega
   exact ⟨_,by simp only [binOp,Op.intDiv];rw [xp hk,xp hn];rfl,rfl,.int _ _⟩
  ·cases h
 all_goals first
  | (cases h;done)
  | (cases h;exact ⟨_,by simp only [binOp];rw [xp hk];rfl,rfl,.int _ _⟩)
  | (cases h;exact ⟨_,by simp only [binOp];rw [xp hk];rfl,rfl,.bool _⟩)
  | (cases h;exact ⟨_,by simp only [binOp,Op.intBits];rw [xp hk];rfl,rfl,.int _ _⟩)
def zgx:List Bx->Nat->Option Bx
 | [],_=>none
 | b::l,k=>match Nat.beq b.lab k with
  | true=>some b
  | false=>zgx l k
theorem zdv (h:zgx l k=some b):b∈l/\b.lab=k:=by
 induction l with
 | nil=>cases h
 | cons c l ih=>
  rw [zgx] at h;split at h
  ·simp_all
  grind
def zAg (op:BinOp) (x y:List UInt8):Option LV:=
 match op with
 | .eql=>some (.bool (x==y))
 | .neq=>some (.bool (!(x==y)))
 | .lss=>some (.bool (Op.bytesLess x y))
 | .leq=>some (.bool (Op.bytesLess x y|| x==y))
 | .gtr=>some (.bool (!(Op.bytesLess x y|| x==y)))
 | .geq=>some (.bool (!(Op.bytesLess x y)))
 | _=>none
def zvx (op:BinOp) (d:Option TypeDesc) (x y:Bool):Option LV:=
 match op,d with
 | .eql,some .bool=>some (.bool (x==y))
 | .neq,some .bool=>some (.bool (!(x==y)))
 | _,_=>none
def zsw (P:Program) (s:TypeId) (f:Nat):Option Nat:=
 match P.underlying s with
 | some (.struct fs)=>match fs[f]? with
  | some fd=>match P.info? fd.type with
   | some i=>match Nat.beq i.size 0 with
    | true=>none
    | false=>some fd.offset
   | none=>none
  | none=>none
 | _=>none
def zee (P:Program) (t:TypeId):Bool:=
 match P.underlying t with
 | some (.struct _)| some (.array _ _)| none=>false
 | some _=>true
def zJm (d:Option TypeDesc) (x:AV):Option AV:=
 match d,x with
 | some (.slice _),.sl _ _ xs=>some (.lf (.int .i64 xs.length))
 | some (.slice _),.own _ _ _ _ xs=>some (.lf (.int .i64 xs.length))
 | some (.slice _),.lf (.val (.slice _ n _))=>some (.lf (.int .i64 n))
 | some .string,.lf (.str l)=>some (.lf (.int .i64 l.length))
 | _,_=>none
def zEk (P:Program) (ρ:Operand->Option AV) (c:Callee) (args:List Operand) (ts:List TypeId):Option AV:=
 match c,args,ts with
 | .builtin .len,[x],[t]=>match ρ x with
  | some av=>zJm (P.underlying t) av
  | none=>none
 | .builtin .min,[x,y],_=>match ρ x,ρ y with
  | some (.lf (.int k m)),some (.lf (.int j n))=>match zsF k j with
   | true=>some (.lf (.int k (if n<m then n else m)))
   | false=>none
  | _,_=>none
 | .builtin .max,[x,y],_=>match ρ x,ρ y with
  | some (.lf (.int k m)),some (.lf (.int j n))=>match zsF k j with
   | true=>some (.lf (.int k (if m<n then n else m)))
   | false=>none
  | _,_=>none
 | _,_,_=>none
def ztN (P:Program) (ρ:Operand->Option AV) (bx:List Bx):Op->Option AV
 | .move x| .assign x=>ρ x
 | .pick c a b=>match ρ c with
  | some (.lf (.bool true))=>ρ a
  | some (.lf (.bool false))=>ρ b
  | _=>none
 | .binOp op t x y _=>match ρ x,ρ y with
  | some (.lf (.int k m)),some (.lf (.int j n))=>match zsF k j with
   | true=>(zAf op k m n).map .lf
   | false=>none
  | some (.lf (.str l)),some (.lf (.str m))=>(zAg op l m).map .lf
  | some (.lf (.bool a)),some (.lf (.bool b))=>(zvx op (P.underlying t) a b).map .lf
  | _,_=>none
 | .unOp op _ x=>match op,ρ x with
  | .not,some (.lf (.bool b))=>some (.lf (.bool (!b)))
  | .neg,some (.lf (.int k n))=>some (.lf (.int k (k.wrap (0 - n))))
  | _,_=>none
 | .convert s d x=>match P.underlying s,P.underlying d,ρ x with
  | some _,some (.int k),some (.lf (.int _ n))=>some (.lf (.int k (k.wrap n)))
  | some .string,some .string,some (.lf (.str l))=>some (.lf (.str l))
  | _,_,_=>none
 | .extract x i=>match ρ x with
  | some (.tup l)=>l[i]?
  | _=>none
 | .call c=>zEk P ρ c.callee c.args.toList c.argTypes.toList
 | .fieldAddr s x f=>match zsw P s f,ρ x with
  | some o,some (.ptr ℓ off)=>some (.ptr ℓ (off+o))
  | some o,some (.ep r C y off)=>some (.ep r C y (off+o))
  | _,_=>none
 | .load t x=>match zee P t,ρ x with
  | true,some (.ptr ℓ off)=>match zgx bx ℓ with
   | some b=>b.avs[off]?
   | none=>none
  | true,some (.ep r _ y off)=>match (r.lv y)[off]? with
   | some l=>match l.plain with
    | true=>some (.lf l)
    | false=>none
   | none=>none
  | _,_=>none
 | .nilCheck x=>match ρ x with
  | some (.ptr ℓ off)=>some (.ptr ℓ off)
  | some (.ep r C y off)=>some (.ep r C y off)
  | _=>none
 | _=>none
theorem zDl {γ:Gh} {w:World} {l:List AV} {vs:List Value} (h:AV.relL γ w l vs) {i:Nat} {a:AV} (hi:l[i]? =some a):∃v,vs[i]? =some v/\a.rel γ w v:=by
 induction l generalizing vs i with
 | nil=>cases hi
 | cons b l ih=>
  obtain ⟨v,vs',rfl,h1,h2⟩:=h;cases i with
  | zero=>cases hi;exact ⟨v,rfl,h1⟩
  | succ i=>exact ih h2 hi
theorem zbn (h:AV.relL γ w l vs):vs.length=l.length:=by
 induction l generalizing vs with
 | nil=>cases h;rfl
 | cons b l ih=>obtain ⟨v,vs',rfl,h1,h2⟩:=h;simp [ih h2]
theorem zdB (h:AV.rel γ w (.lf (.int k n)) v):v= .int k n:=by cases h.2;rfl
theorem zkM (h:AV.rel γ w (.lf (.bool b)) v):v= .bool b:=by cases h.2;rfl
theorem zwT (h:AV.rel γ w (.lf (.str l)) v):v= .string ⟨l.toArray⟩:=by cases h.2;rfl
theorem zpJ (h:AV.rel γ w (.lf (.val u)) v):v=u:=by cases h.2;rfl
theorem ziM (γ:Gh) (w:World) (k:IntKind) (n:Int):AV.rel γ w (.lf (.int k n)) (.int k n):=⟨rfl,.int _ _⟩
theorem zGl (γ:Gh) (w:World) (b:Bool):AV.rel γ w (.lf (.bool b)) (.bool b):=⟨rfl,.bool _⟩
theorem zJy (γ:Gh) (w:World) (l:List UInt8):AV.rel γ w (.lf (.str l)) (.string ⟨l.toArray⟩):=⟨rfl,.str _⟩
theorem zMa {γ:Gh} {w:World} {α:Type} {r:Rp α} {C:List Nat} {xs:List α} {v:Value} (h:AV.rel γ w (.sl r C xs) v):∃A c,v= .slice A xs.length c/\xs.length<=c/\c<=maxLen:=by
 have h':zat (γ.F C) w (.sl xs.length r.size (xs.flatMap r.lv)) v:=h;cases h' with
 | sl _ _ _ A c cs _ _ hc hm=>exact ⟨A,c,rfl,hc,hm⟩
theorem zzv {γ:Gh} {w:World} {α:Type} {r:Rp α} {e:TypeId} {ℓ:Nat} {C:List Nat} {xs:List α} {v:Value} (h:AV.rel γ w (.own r e ℓ C xs) v):∃A c,v= .slice A xs.length c/\xs.length<=c/\c<=maxLen:=by
 obtain ⟨cs,ho,_⟩:=h;rcases ho.2 with ⟨rfl,h0⟩| ⟨g,w9,kj,rfl,_,_,hc,hm,_⟩
 ·grind
 grind
theorem zEg (h:zAg op x y=some l) (P:Program) (w:World) (t:TypeId):
  ∃v,(binOp op t (.string ⟨x.toArray⟩) (.string ⟨y.toArray⟩)).run P w= .ok v w/\l.plain=true/\zat (fun _=>False) w l v:=by
 unfold zAg at h;split at h
 all_goals first
  | (cases h;done)
  | (cases h;exact ⟨_,by simp only [binOp,Op.stringOp,ByteArray.toList_mk];rfl,rfl,.bool _⟩)
theorem zBK (h:zvx op (P.underlying t) x y=some l) (w:World):
    ∃v,(binOp op t (.bool x) (.bool y)).run P w= .ok v w/\l.plain=true/\zat (fun _=>False) w l v:=by
  unfold zvx at h;split at h
  all_goals first
    | (cases h;done)
    | (rename_i hu;cases h
       have hd:∀d:Nat,(Op.equalIn (d+1) t (.bool x) (.bool y)).run P w= .ok (x==y) w:=fun d=>by simp [Op.equalIn,run_underlying hu]
       exact ⟨_,by simp only [binOp];simp [Op.equal,Op.maxDepth,hd 9999],rfl,.bool _⟩)
theorem zHt {P:Program} {t:TypeId} {x av:AV} (h:zJm (P.underlying t) x=some av) {γ:Gh} {w:World} {v:Value} (hx:x.rel γ w v) (ty:TypeId):
  ∃u,(Builtin.len_ #[t] ty #[v]).run P w= .ok u w/\av.rel γ w u:=by
 unfold zJm at h;split at h
 ·rename_i hu;cases h;obtain ⟨A,c,rfl,_⟩:=zMa hx;exact ⟨_,by simp [Builtin.len_,run_underlying hu,goInt],ziM _ _ _ _⟩
 ·rename_i hu;cases h;obtain ⟨A,c,rfl,_⟩:=zzv hx;exact ⟨_,by simp [Builtin.len_,run_underlying hu,goInt],ziM _ _ _ _⟩
 ·rename_i hu;cases h;rw [zpJ hx];exact ⟨_,by simp [Builtin.len_,run_underlying hu,goInt],ziM _ _ _ _⟩
 ·rename_i hu;cases h;rw [zwT hx];exact ⟨_,by simp [Builtin.len_,run_underlying hu,goInt,ByteArray.size_mk'],ziM _ _ _ _⟩
 ·cases h
def Opds (ρ:Operand->Option AV) (γ:Gh) (w:World) (ev:Operand->Value) (l:List Operand):Prop:=∀x∈l,∀av,ρ x=some av->av.rel γ w (ev x)
theorem zml (P:Program) (op:BinOp) (t:TypeId) (x y:Operand) (k:IntKind) (n:Int) (b:Value) (w:World):(eqGuard op t x y (.int k n) b).run P w= .ok () w:=by
 unfold eqGuard;split<;>rfl
theorem zLd (P:Program) (op:BinOp) (t:TypeId) (x y:Operand) (s:ByteArray) (b:Value) (w:World):(eqGuard op t x y (.string s) b).run P w= .ok () w:=by
 unfold eqGuard;split<;>rfl
theorem zIE (P:Program) (op:BinOp) (t:TypeId) (x y:Operand) (s:Bool) (b:Value) (w:World):(eqGuard op t x y (.bool s) b).run P w= .ok () w:=by
 unfold eqGuard;split<;>rfl
theorem zyq (h:zsw P s f=some o):∃fs fd i,P.underlying s=some (.struct fs)/\fs[f]? =some fd/\P.info? fd.type=some i/\i.size≠0/\fd.offset=o:=by
 unfold zsw at h;split at h
 ·rename_i fs hs;split at h
  ·rename_i fd hf;split at h
   ·rename_i i hi;split at h
    ·cases h
    ·rename_i hb;cases h;exact ⟨fs,fd,i,hs,hf,hi,fun e=>by rw [e] at hb;simp at hb,rfl⟩
   ·cases h
  ·cases h
 ·cases h
theorem zfw (b o n:Nat):(⟨b,o,none⟩:Addr).add n=⟨b,o+n,none⟩:=by unfold Addr.add;split<;>simp_all
theorem zuW (h:zsw P s f=some o) (b off:Nat) (w:World):(Instr.fieldAt s (.pointer (some ⟨b,off,none⟩)) f).run P w= .ok (.pointer (some ⟨b,off+o,none⟩)) w:=by
 obtain ⟨fs,fd,i,hs,hf,hi,hn,rfl⟩:=zyq h;simp [Instr.fieldAt,run_underlying hs,hf,Instr.sureAddr,fieldPlace,sizeOf,typeInfo,hi,hn,zfw]
theorem zlF (h:zee P t=true) (hc:w.cell? ⟨b,off,none⟩=some v):(Instr.loadAt t (.pointer (some ⟨b,off,none⟩))).run P w= .ok v w:=by
 unfold zee at h;split at h
 ·cases h
 ·cases h
 ·cases h
 ·rename_i d h1 h2 hu;have hi:(isAgg t).run P w= .ok false w:=by
   cases d<;>simp [isAgg,run_underlying hu]<;>first| (exact h1 _ rfl)| (exact h2 _ _ rfl)| rfl
  simp [Instr.loadAt,Instr.sureAddr,loadVar,hi,load,Sem.run,hc]
theorem zvm (h:zee P t=true) (hc:w.cell? ⟨b,off,none⟩=some v):(loadVar t ⟨b,off,none⟩).run P w= .ok v w:=by
 unfold zee at h;split at h
 ·cases h
 ·cases h
 ·cases h
 ·rename_i d h1 h2 hu;have hi:(isAgg t).run P w= .ok false w:=by
   cases d<;>simp [isAgg,run_underlying hu]<;>first| (exact h1 _ rfl)| (exact h2 _ _ rfl)| rfl
  simp [loadVar,hi,load,Sem.run,hc]
theorem Bx.cell {γ:Gh} {w:World} {b:Bx} (h:b.rel γ w) {off:Nat} {a:AV} (ha:b.avs[off]? =some a):∃v,w.cell? ⟨γ.box b.lab,off,none⟩=some v/\a.rel γ w v:=by
 obtain ⟨_,cs,hh,hr,_⟩:=h;obtain ⟨v,hv,ha⟩:=zDl hr ha;exact ⟨v,by rw [yX w _ off _ _ _ hh];simpa using hv,ha⟩
theorem zKb (P:Program) (w:World) (k j:IntKind) (m n:Int) (ts:Array TypeId) (ty:TypeId):(Builtin.min_ ts ty #[.int k m,.int j n]).run P w= .ok (.int k (if n<m then n else m)) w:=by
 rfl
theorem zKa (P:Program) (w:World) (k j:IntKind) (m n:Int) (ts:Array TypeId) (ty:TypeId):(Builtin.max_ ts ty #[.int k m,.int j n]).run P w= .ok (.int k (if m<n then n else m)) w:=by
 rfl
theorem zaS (ho:o.op= .call c) (hc:c.callee= .builtin b) (ha:c.args.toList=args) (ht:c.argTypes.toList=ts) 
  (h:∀consts,(Go.builtin b ts.toArray o.type consts (args.map ev).toArray).run P w= .ok (.value v) w'):(execOp ev o).run P w= .ok (.value v) w':=by
 obtain ⟨callee,args',ts'⟩:=c;simp only at hc ha ht;subst hc;have e1:args'=args.toArray:=by rw [<-ha]
 have e2:ts'=ts.toArray:=by rw [<-ht]
 subst e1 e2;simp only [execOp,ho,resolve,xS,yp,xV,invoke,pB];exact h _
theorem zEl (ho:o.op= .call c) (h:zEk P ρ c.callee c.args.toList c.argTypes.toList=some av)
  (hρ:Opds ρ γ w ev c.args.toList):∃v,(execOp ev o).run P w= .ok (.value v) w/\av.rel γ w v:=by
 generalize ha:c.args.toList=args at h hρ
 generalize ht:c.argTypes.toList=ts at h
 generalize hc:c.callee=cal at h
 unfold zEk at h;split at h
 ·rename_i x t;split at h
  ·rename_i a hx;obtain ⟨v,hv,hr⟩:=zHt h (hρ x xr a hx) o.type;exact ⟨v,zaS ho hc ha ht fun consts=>by simp [builtin,hv],hr⟩
  ·cases h
 ·rename_i x y;split at h
  ·rename_i k m j n hx hy;split at h
   ·rename_i hk;cases h;have h1:=zdB (hρ x xr _ hx);have h2:=zdB (hρ y (xt _ xr) _ hy);exact ⟨_,zaS ho hc ha ht fun consts=>by simp [builtin,h1,h2,zKb],ziM _ _ _ _⟩
   ·cases h
  ·cases h
 ·rename_i x y;split at h
  ·rename_i k m j n hx hy;split at h
   ·rename_i hk;cases h;have h1:=zdB (hρ x xr _ hx);have h2:=zdB (hρ y (xt _ xr) _ hy);exact ⟨_,zaS ho hc ha ht fun consts=>by simp [builtin,h1,h2,zKa],ziM _ _ _ _⟩
   ·cases h
  ·cases h
 ·cases h
theorem zrL {P:Program} {ρ:Operand->Option AV} {bx:List Bx} {o:Oper} {av:AV} (h:ztN P ρ bx o.op=some av) {γ:Gh} {w:World} {ev:Operand->Value}
  (hρ:Opds ρ γ w ev o.op.operands.toList) (hb:Bxs γ w bx):∃v,(execOp ev o).run P w= .ok (.value v) w/\av.rel γ w v:=by
 generalize hop:o.op=op at h hρ
 unfold ztN at h;split at h
 case h_1 x=>exact ⟨_,by simp [execOp,hop],hρ x (by simp [Op.operands]) _ h⟩
 case h_2 x=>exact ⟨_,by simp [execOp,hop],hρ x (by simp [Op.operands]) _ h⟩
 case h_3 c a b=>
  split at h
  ·rename_i hc;have:=zkM (hρ c (by simp [Op.operands]) _ hc);exact ⟨_,by simp [execOp,hop,this,asBool],hρ a (by simp [Op.operands]) _ h⟩
  ·rename_i hc;have:=zkM (hρ c (by simp [Op.operands]) _ hc);exact ⟨_,by simp [execOp,hop,this,asBool],hρ b (by simp [Op.operands]) _ h⟩
  ·cases h
 case h_4 bop t x y yt=>
  split at h
  ·rename_i k m j n hx hy;have h1:=zdB (hρ x (by simp [Op.operands]) _ hx);have h2:=zdB (hρ y (by simp [Op.operands]) _ hy);split at h
   ·rename_i hk;have:=zsG hk;subst this;cases hl:zAf bop k m n with
    | none=>rw [hl] at h;cases h
    | some l=>
     rw [hl] at h;cases h;obtain ⟨v,hv,hp,hr⟩:=zEf hl P w t;exact ⟨v,by simp [execOp,hop,h1,h2,zml,hv],hp,hr⟩
   ·cases h
  ·rename_i l m hx hy;have h1:=zwT (hρ x (by simp [Op.operands]) _ hx);have h2:=zwT (hρ y (by simp [Op.operands]) _ hy);cases hl:zAg bop l m with
   | none=>rw [hl] at h;cases h
   | some l'=>
    rw [hl] at h;cases h;obtain ⟨v,hv,hp,hr⟩:=zEg hl P w t;exact ⟨v,by simp [execOp,hop,h1,h2,zLd,hv],hp,hr⟩
  ·rename_i a b hx hy;have h1:=zkM (hρ x (by simp [Op.operands]) _ hx);have h2:=zkM (hρ y (by simp [Op.operands]) _ hy);cases hl:zvx bop (P.underlying t) a b with
   | none=>rw [hl] at h;cases h
   | some l'=>
    rw [hl] at h;cases h;obtain ⟨v,hv,hp,hr⟩:=zBK hl w;exact ⟨v,by simp [execOp,hop,h1,h2,zIE,hv],hp,hr⟩
  ·cases h
 case h_5 uop t x=>
  split at h
  ·rename_i b hx;cases h;have h1:=zkM (hρ x (by simp [Op.operands]) _ hx);exact ⟨_,by simp [execOp,hop,h1,Op.unary],zGl _ _ _⟩
  ·rename_i k n hx;cases h;have h1:=zdB (hρ x (by simp [Op.operands]) _ hx);exact ⟨_,by simp [execOp,hop,h1,Op.unary,Op.intArith],ziM _ _ _ _⟩
  ·cases h
 case h_6 s d x=>
  split at h
  ·rename_i k _ n hs hd hx;cases h;have h1:=zdB (hρ x (by simp [Op.operands]) _ hx);exact ⟨_,by simp [execOp,hop,h1,convert,run_underlying hs,run_underlying hd,Conv.intToInt],ziM _ _ _ _⟩
  ·rename_i l hs hd hx;cases h;have h1:=zwT (hρ x (by simp [Op.operands]) _ hx);exact ⟨_,by simp [execOp,hop,h1,convert,run_underlying hs,run_underlying hd],zJy _ _ _⟩
  ·cases h
 case h_7 x i=>
  split at h
  ·rename_i l hx;obtain ⟨vs,hv,hL⟩:=hρ x (by simp [Op.operands]) _ hx;obtain ⟨v,hv',hr⟩:=zDl hL h;exact ⟨v,by simp [execOp,hop,hv,Instr.extract,hv'],hr⟩
  ·cases h
 case h_8 c=>exact zEl hop h (fun x hx=>hρ x (by simp only [Op.operands,Call.operands];simp;exact .inr (by simpa using hx)))
 case h_9 s x f=>
  split at h
  ·rename_i n ℓ off hf hx;cases h;have h1:ev x=_:=hρ x (by simp [Op.operands]) _ hx;exact ⟨_,by simp [execOp,hop,h1,zuW hf],rfl⟩
  ·rename_i n α r C y off hf hx;cases h;obtain ⟨b,o',cs,hv,hF,wS,hA,hc⟩:=hρ x (by simp [Op.operands]) _ hx;exact ⟨_,by simp [execOp,hop,hv,zuW hf];rfl,b,o',cs,by rw [qR],hF,wS,hA,hc⟩
  ·cases h
 case h_10 t x=>
  split at h
  ·rename_i ℓ off ht hx;have h1:ev x=_:=hρ x (by simp [Op.operands]) _ hx;split at h
   ·rename_i b hfb;obtain ⟨hm,rfl⟩:=zdv hfb;obtain ⟨v,hv,hr⟩:=Bx.cell (hb b hm) h;exact ⟨v,by simp [execOp,hop,h1,zlF ht hv],hr⟩
   ·cases h
  ·rename_i α r C y off ht hx;obtain ⟨b,o',cs,hv,hF,wS,hA,hc⟩:=hρ x (by simp [Op.operands]) _ hx;split at h
   ·rename_i l hl;split at h
    ·rename_i hp;cases h;have wY:off<cs.length:=by rw [<-hA.1];exact (yx.1 hl).1
     have hr:=hA.2 off l _ hl (xM wY);have hcell:=hc off wY;rw [xM wY] at hcell;exact ⟨_,by simp [execOp,hop,hv,zlF ht hcell],hp,hr.plain hp⟩
    ·cases h
   ·cases h
  ·cases h
 case h_11 x=>
  split at h
  ·rename_i ℓ off hx;cases h;have h1:ev x= .pointer (some ⟨γ.box ℓ,off,none⟩):=hρ x (by simp [Op.operands]) _ hx;exact ⟨_,by simp [execOp,hop,h1],rfl⟩
  ·rename_i α r C y off hx;cases h;have h1:=hρ x (by simp [Op.operands]) _ hx;obtain ⟨b,o',cs,hv,hrest⟩:=h1;exact ⟨_,by simp [execOp,hop,hv],b,o',cs,rfl,hrest⟩
  ·cases h
 case h_12=>cases h
def okW:List Nat->Bool
 | []=>true
 | c::l=>Nat.ble 2 c&&okW l
theorem zsQ (h:okW W=true):∀c∈W,2<=c:=by
 induction W with
 | nil=>intro c hc;cases hc
 | cons d W ih=>
  simp only [okW,xu] at h;intro c hc;cases hc with
  | head=>exact xN h.1
  | tail _ hc=>exact ih h.2 c hc
def zjj (N:Lim):Option Nat->Bool
 | none=>true
 | some d=>Nat.blt d N.n&& !memN d N.keep
theorem zhh (h:zjj N d=true):∀k,d=some k->k<N.n:=by
 rintro k rfl;simp only [zjj,xu] at h;simp_all
theorem zfh (h:zjj N d=true):∀k,d=some k->k∉N.keep:=by
 rintro k rfl hk;simp only [zjj,xu] at h;rw [zab.2 hk] at h;cases h.2
def zpE (W V:List Nat) (l:List (Nat×AV)):List (Nat×AV):=l.filter fun p=>p.2.free W V
def AV.clear (W V:List Nat) (a:AV):AV:=match a.free W V with
 | true=>a
 | false=> .any
def Bx.clear (W V:List Nat) (b:Bx):Bx:=⟨b.lab,b.typ,b.avs.map (AV.clear W V)⟩
def zgz (W V:List Nat) (l:List Bx):List Bx:=(l.filter fun b=> !memN b.lab W&& !memN b.lab V).map (Bx.clear W V)
def Env.step (W V:List Nat) (d:Option Nat) (av:AV) (bs:List Bx) (E:Env):Env:=⟨ziq d av (zpE W V E.sl),bs++zgz W V E.bx⟩
section
variable {W V:List Nat} {γ γ':Gh} {w w':World} {cx:Cx} {a:Act}
theorem Base.tr (h:Base cx γ a w) (t:Tr W V γ w γ' w') (hW:okW W=true) (hV:okW V=true):Base cx γ' a w':=
 ⟨h.defers.tr t (zsQ hW),h.clean,h.size,h.kept,cx.X.tr h.ext t (zsQ hW) (zsQ hV)⟩
theorem Sl.tr {l:List (Nat×AV)} (h:Sl γ w a l) (t:Tr W V γ w γ' w'):Sl γ' w' a (zpE W V l):=by
 intro p hp;simp only [zpE,yb] at hp;obtain ⟨h1,h2⟩:=AV.free_spec hp.2;exact p.2.keep t h1 h2 (h p hp.1)
theorem zlC {l:List AV} {vs:List Value} (h:AV.relL γ w l vs) (t:Tr W V γ w γ' w'):AV.relL γ' w' (l.map (AV.clear W V)) vs:=by
 induction l generalizing vs with
 | nil=>exact h
 | cons b l ih=>
  obtain ⟨v,vs',rfl,h1,h2⟩:=h;refine ⟨v,vs',rfl,?_,ih h2⟩;unfold AV.clear;cases hf:b.free W V with
  | true=>obtain ⟨f1,f2⟩:=AV.free_spec hf;exact b.keep t f1 f2 h1
  | false=>trivial
theorem zdI (h:(!memN c l)=true):c∉l:=fun hc=>by rw [zab.2 hc] at h;cases h
theorem Bxs.tr (h:Bxs γ w l) (t:Tr W V γ w γ' w'):Bxs γ' w' (zgz W V l):=by
 intro b hb;simp only [zgz,xz,yb,xu] at hb;obtain ⟨b,⟨hm,h1,h2⟩,rfl⟩:=hb;obtain ⟨hc,cs,hh,hr,h1c⟩:=h b hm;have wS:γ.box b.lab<w.heap.size:=(ya.1 hh).1;refine ⟨?_,cs,?_,zlC hr t,h1c⟩
 ·show γ'.col (γ'.box b.lab)=b.lab;rw [t.box _ (zdI h2),t.col _ wS];exact hc
 ·show w'.heap[γ'.box b.lab]? =_;rw [t.box _ (zdI h2),t.block _ wS (by rw [hc];exact zdI h1)];exact hh
end
def zz (P:Program) (o:Oper) (ins:List (Operand×AV)) (bxs:List Bx) (W V:List Nat) (av:AV) (bs:List Bx):Prop:=
 ∀(γ:Gh) (a:Act) (w:World),(∀p∈ins,p.2.rel γ w (a.eval p.1))->Bxs γ w bxs->
  ∀(next:Act->World->Prop) (Q:Exit->Act->World->Prop),(∀γ' w' v,Tr W V γ w γ' w'->av.rel γ' w' v->Bxs γ' w' bs->next (a.put o.dst v) w')->o.wp P a w next Q
theorem zJ 
  (h:∀(γ:Gh) (ev:Operand->Value) (w:World),(∀p∈ins,p.2.rel γ w (ev p.1))->Bxs γ w bxs->
   ∃v w' γ',(execOp ev o).run P w= .ok (.value v) w'/\Tr W V γ w γ' w'/\av.rel γ' w' v/\Bxs γ' w' bs):zz P o ins bxs W V av bs:=by
 intro γ a w hi hb next Q hk;obtain ⟨v,w',γ',hr,ht,hv,hb'⟩:=h γ a.eval w hi hb;unfold Oper.wp;rw [hr];exact hk γ' w' v ht hv hb'
def zpi (E:Env):List (Operand×AV)->Prop
 | []=>True
 | p::l=>E.opd p.1=some p.2/\zpi E l
theorem zpi.rel (h:zpi E l) (hs:Sl γ w a E.sl):∀p∈l,p.2.rel γ w (a.eval p.1):=by
 induction l with
 | nil=>intro p hp;cases hp
 | cons q l ih=>
  intro p hp;cases hp with
  | head=>exact Env.opd_rel h.1 hs
  | tail _ hp=>exact ih h.2 p hp
def zyG (E:Env):List Bx->Prop
 | []=>True
 | b::l=>zgx E.bx b.lab=some b/\zyG E l
theorem zyG.rel (h:zyG E l) (hs:Bxs γ w E.bx):Bxs γ w l:=by
 induction l with
 | nil=>intro p hp;cases hp
 | cons q l ih=>
  intro p hp;cases hp with
  | head=>exact hs _ (zdv h.1).1
  | tail _ hp=>exact ih h.2 p hp
def zfX (ops:Array Oper) (E:Env) (o:Oper):Option Bool:=
 match o.guard with
 | none=>some true
 | some (j,want)=>match ops.toList[j]? with
  | some g=>match g.dst with
   | some t=>match lookup E.sl t,want with
    | some (.lf (.bool true)),true=>some true
    | some (.lf (.bool false)),false=>some true
    | some (.lf (.bool true)),false=>some false
    | some (.lf (.bool false)),true=>some false
    | some (.tup []),_=>some false
    | _,_=>none
   | none=>none
  | none=>none
theorem zgy (h:zfX ops E o=some b) (hs:Sl γ w a E.sl):Region.wanted o (yielded ops a.tmps)=b:=by
 unfold zfX at h;unfold Region.wanted;split at h
 ·grind
 ·rename_i j want hg;rw [hg];split at h
  ·rename_i g hj;split at h
   ·rename_i t ht;have key:∀c,lookup E.sl t=some (.lf (.bool c))->yielded ops a.tmps j=some c:=fun c hc=>by
     have hv:=zkM (hs _ (zdm hc));simp only at hv;have hj':ops[j]? =some g:=by rw [<-pZ];exact hj
     have htm:a.tmps[t]? =some (.bool c):=by
      rw [yB] at hv;cases he:a.tmps[t]? with
      | none=>rw [he] at hv;cases hv
      | some u=>rw [he] at hv;simp at hv;rw [hv]
     simp [yielded,hj',ht,htm]
    split at h
    ·grind
    ·grind
    ·grind
    ·grind
    ·rename_i hl;cases h;obtain ⟨vs,hv,hL⟩:=hs _ (zdm hl);have hL':vs=[]:=hL;subst hL';have hj':ops[j]? =some g:=by rw [<-pZ];exact hj
     have:yielded ops a.tmps j=none:=by
      rw [yB] at hv;cases he:a.tmps[t]? with
      | none=>simp [yielded,hj',ht,he]
      | some u=>rw [he] at hv;simp at hv;simp [yielded,hj',ht,he,hv]
     grind
    ·cases h
   ·cases h
  ·cases h
theorem Sl.put_undef {γ:Gh} {w:World} {a:Act} {l:List (Nat×AV)} (h:Sl γ w a l) (d:Option Nat):Sl γ w (a.put d undef) (ziq d (.tup []) l):=by
 cases d with
 | none=>exact h
 | some d=>
  intro p hp;simp only [ziq,xx] at hp;rcases hp with rfl| hp
  ·refine ⟨[],?_,rfl⟩;by_cases hd:d<a.tmps.size
   ·exact zde hd
   ·simp only [Act.put,yB];rw [Array.getElem?_eq_none (by simp;omega)];rfl
  ·have hp':=yb.1 hp;rw [ziJ (fun e=>by have:=hp'.2;rw [e] at this;simp at this)];exact h p hp'.1
def RF (ro:Option Nat):Fence:={fn:=fun _=>True,depth:=none,alive:=false,round:=ro}
theorem zrH :CallsIn (RF ro) n P f args w R↔Calls P f args w R:=qA (n:=n)
theorem zHQ :RowsIn (RF ro) n P row args w R↔Rows P row args w R:=
 ⟨fun h c cs=>let ⟨v,w',r,s⟩:=h c cs (room_wide _);⟨v,w',r,stepsIn_wide.1 s⟩,fun h c cs _=>let ⟨v,w',r,s⟩:=h c cs;⟨v,w',r,stepsIn_wide.2 s⟩⟩
def opq (P:Program) (o:Oper) (a:Act) (w:World) (next:Act->World->Prop) (Q:Exit->Act->World->Prop):Prop:=∀ro,o.wpIn (RF ro) 0 P a w next Q
def zlt (P:Program) (ops:Array Oper) (Q:Exit->Act->World->Prop) (l:List Oper) (a:Act) (w:World):Prop:=∀ro,wpListIn (RF ro) 0 P ops Q l a w
def wq (m:Bool) (P:Program) (c:Code) (Q:Exit->Act->World->Prop) (a:Act) (w:World):Prop:=∀ro,(m=true->ro=none)->c.wpIn (RF ro) 0 P Q a w
section
variable {m:Bool} {P:Program} {o:Oper} {a:Act} {w w':World} {next next':Act->World->Prop} {Q Q':Exit->Act->World->Prop} {ops:Array Oper} {l:List Oper} {x y c:Code}
theorem zvK (h:∀(next:Act->World->Prop) (Q:Exit->Act->World->Prop),(∀v w',next (a.put o.dst v) w')->o.wp P a w next Q):∀c,o.op≠ .defer c:=by
 intro c hc;have h1:=h (fun a' _=>a'.defers=a.defers) (fun _ _ _=>False) (fun v _=>zhi a o.dst v);unfold Oper.wp at h1;have e:(execOp a.eval o).run P w=((resolve a.eval c o.type).run P w).andThen fun d w=> .ok (.defer d) w:=by
  simp [execOp,hc]
 rw [e] at h1;cases hr:(resolve a.eval c o.type).run P w with
 | ok d w1=>
  rw [hr] at h1;have h2:((({a with defers:=d::a.defers}:Act).put o.dst undef).defers)=a.defers:=h1;rw [zhi] at h2;simp_all
 | halt x w1=>
  rw [hr] at h1;cases x<;>exact h1
theorem zpT (hd:∀c,o.op≠ .defer c) (h:o.wp P a w next Q):opq P o a w next Q:=by
 intro ro;refine ⟨fun _ _=>trivial,?_⟩;rw [Oper.semAt_eq _ _ _ hd];unfold Oper.wp at h
 generalize (execOp a.eval o).run P w=r at h
 cases r with
 | ok x w1=>
  cases x with
  | value v=>exact h
  | skip=>exact h
  | defer d=>exact h
  | enter f args=>exact ⟨nofun,zrH.2 (Calls.mono h (fun e w2 hq=>by cases e<;>exact hq))⟩
  | row row args=>exact ⟨nofun,zHQ.2 h⟩
  | _=>exact h.elim
 | halt x w1=>cases x<;>exact h
theorem zjB (hr:(execOp a.eval o).run P w= .ok (.value v) w') (h:next (a.put o.dst v) w'):opq P o a w next Q:=by
 refine zpT (zvK (P:=P) (a:=a) (w:=w) (fun nx Qx hn=>?_)) ?_
 ·unfold Oper.wp;rw [hr];exact hn v w'
 ·unfold Oper.wp;rw [hr];exact h
theorem zxj (hr:(execOp a.eval o).run P w= .ok .skip w') (h:next (a.put o.dst undef) w'):opq P o a w next Q:=by
 refine zpT (zvK (P:=P) (a:=a) (w:=w) (fun nx Qx hn=>?_)) ?_
 ·unfold Oper.wp;rw [hr];exact hn undef w'
 ·unfold Oper.wp;rw [hr];exact h
theorem zJF (h:opq P o a w next Q) (k:∀a w,next a w->next' a w):opq P o a w next' Q:=fun ro=>qP k (h ro)
theorem ziK (hw:Region.wanted o (yielded ops a.tmps)=true) (h:opq P o a w (zlt P ops Q l) Q):zlt P ops Q (o::l) a w:=fun ro=>by
 unfold wpListIn;rw [xq hw];exact qP (fun a w h=>h ro) (h ro)
theorem zEE (hw:Region.wanted o (yielded ops a.tmps)=false) (h:zlt P ops Q l (a.put o.dst undef) w):zlt P ops Q (o::l) a w:=fun ro=>by
 unfold wpListIn;rw [xp (by rw [hw];exact Bool.false_ne_true)];exact ⟨fun _ _=>trivial,h ro⟩
theorem zmz (h:wq m P c Q a w) (k:∀e a w,Q e a w->Q' e a w):wq m P c Q' a w:=fun ro hm=>qS (h ro hm) k
theorem zvV (h:Q .normal a w):wq m P .skip Q a w:=fun _ _=>wpIn_skip h
theorem zyi (h:Q .ret a w):wq m P .ret Q a w:=fun _ _=>wpIn_ret h
theorem zGW {id:Nat} (h:Q (.exit id) a w):wq m P (.exit id) Q a w:=fun _ _=>wpIn_exit h
theorem zfn (h:wq m P x (Exit.then (wq m P y Q) Q) a w):wq m P (.seq x y) Q a w:=fun ro hm=>wpIn_seq (qS (h ro hm) fun e a w hq=>by cases e<;>first| exact hq ro hm| exact hq)
theorem zKN {id:Nat} (h:wq m P c (Exit.inBlock id Q) a w):wq m P (.block id c) Q a w:=fun ro hm=>wpIn_block (h ro hm)
theorem zje (hc:a.eval v= .bool true) (h:wq m P x Q a w):wq m P (.cond v x y) Q a w:=fun ro hm=>wpIn_cond_true hc (h ro hm)
theorem zjQ (hc:a.eval v= .bool false) (h:wq m P y Q a w):wq m P (.cond v x y) Q a w:=fun ro hm=>wpIn_cond_false hc (h ro hm)
theorem zay {id:Nat} (h:zlt P l.toArray Q l a w):wq m P (.region id l.toArray false) Q a w:=fun ro _=>wpIn_region_lit (h ro)
def anyq (P:Program) (ops:Array Oper) (Q:Exit->Act->World->Prop) (fuel:Nat) (w8:Array Bool) (a:Act) (w:World):Prop:=∀ro,wpAnyIn (RF ro) 0 P .any ops Q fuel w8 a w
theorem zrC {id:Nat} (hm:P.follows .mixedOrders=true) (h:anyq P ops Q ops.size (Array.replicate ops.size false) a {w with drawn:=w.drawn+1}):wq m P (.region id ops true) Q a w:=fun ro _=>wpIn_region_any hm (h ro)
def zte (m:Bool) (P:Program) (c:Code) (Q:Exit->Act->World->Prop):Nat->Act->World->Prop
 | 0,_,_=>False
 | n+1,a,w=>wq m P c (Exit.then (zte m P c Q n) Q) a w
theorem zxH (hm:m=true->ro=none):∀(n:Nat) (a:Act) (w:World),zte m P c Q n a w->Code.roundsIn (RF ro) 0 P c Q n a w
 | 0,_,_,h=>h
 | n+1,a,w,h=>by
  rw [roundsIn_succ];exact qS (h ro hm) fun e a w hq=>by cases e<;>first| exact zxH hm n a w hq| exact hq
theorem zyh (n:Nat) (h:zte m P c Q n a w):wq m P (.loop c) Q a w:=fun _ hm=>wpIn_loop_rounds n (zxH hm n a w h)
theorem zDV (h:wq m P c Q a w):c.wp P Q a w:=wpIn_wide.1 (h none fun _=>rfl:c.wpIn Fence.wide 0 P Q a w)
end
def zaI (P:Program) (N:Lim) (ops:Array Oper) (wR:List Oper) (E E':Env):Prop:=
 ∀(cx:Cx) (a:Act) (w:World) (Q:Exit->Act->World->Prop),cx.n=N->Sx cx E a w->(∀a' w',Sx cx E' a' w'->Q .normal a' w')->zlt P ops Q wR a w
section
variable {P:Program} {N:Lim} {ops:Array Oper} {wR:List Oper} {E E1 E':Env} {o:Oper}
theorem zNI:zaI P N ops [] E E:=fun _ _ _ _ _ hs hQ _=>hQ _ _ hs
theorem zvS (hg:zfX ops E o=some true) (hl:zz P o ins bxs W V av bs) (hi:zpi E ins) (hb:zyG E bxs)
  (hW:okW W=true) (hV:okW V=true) (hd:zjj N o.dst=true) (k:zaI P N ops wR (E.step W V o.dst av bs) E'):zaI P N ops (o::wR) E E':=by
 intro cx a w Q hn hs hQ;obtain ⟨γ,hB,hS,hX⟩:=hs;refine ziK (zgy hg hS) (zpT (zvK (P:=P) (a:=a) (w:=w) fun nx Qx hn=>hl γ a w (hi.rel hS) (hb.rel hX) nx Qx fun _ w' v _ _ _=>hn v w') (hl γ a w (hi.rel hS) (hb.rel hX) _ Q fun γ' w' v ht hv hbs=>?_));refine k cx _ _ Q hn ⟨γ',(hB.tr ht hW hV).put _ _ (by rw [hn];exact zfh hd),?_,?_⟩ hQ
 ·exact (hS.tr ht).put (fun k hk=>by rw [hB.size,hn];exact zhh hd k hk) hv
 ·intro b hb';simp only [Env.step,xA] at hb';rcases hb' with h| h
  ·exact hbs b h
  ·exact hX.tr ht b h
theorem zLY (hg:zfX ops E o=some false) (hd:zjj N o.dst=true) (k:zaI P N ops wR ⟨ziq o.dst (.tup []) E.sl,E.bx⟩ E'):zaI P N ops (o::wR) E E':=by
 intro cx a w Q hn hs hQ;obtain ⟨γ,hB,hS,hX⟩:=hs;refine zEE (zgy hg hS) ?_;exact k cx _ _ Q hn ⟨γ,hB.put _ _ (by rw [hn];exact zfh hd),hS.put_undef _,hX⟩ hQ
theorem zJW (t:Nat) (b:Bool) (hl:lookup E.sl t=some (.lf (.bool b))) (h1:b=true->zaI P N ops wR ⟨ziq (some t) (.lf (.bool true)) E.sl,E.bx⟩ E')
  (h0:b=false->zaI P N ops wR ⟨ziq (some t) (.lf (.bool false)) E.sl,E.bx⟩ E'):zaI P N ops wR E E':=by
 intro cx a w Q hn hs hQ;obtain ⟨γ,hB,hS,hX⟩:=hs;have hv:=hS _ (zdm hl);have hput:∀c,b=c->Sl γ w a (ziq (some t) (.lf (.bool c)) E.sl):=by
  rintro c rfl p hp;simp only [ziq,xx] at hp;rcases hp with rfl| hp
  ·exact hv
  ·exact hS p (yb.1 hp).1
 cases hb:b with
 | true=>exact h1 hb cx a w Q hn ⟨γ,hB,hput _ hb,hX⟩ hQ
 | false=>exact h0 hb cx a w Q hn ⟨γ,hB,hput _ hb,hX⟩ hQ
def AV.le (a b:AV):Prop:=∀γ w v,a.rel γ w v->b.rel γ w v
def zAW (l:List (Nat×AV)):List Nat->Option (List (Nat×AV))
 | []=>some []
 | k::r=>match lookup l k,zAW l r with
  | some a,some r'=>some ((k,a)::r')
  | _,_=>none
theorem zov :∀(ks:List Nat) (r:List (Nat×AV)),zAW l ks=some r->∀p∈r,p∈l
 | [],r,h,p,hp=>by cases h;cases hp
 | k::ks,r,h,p,hp=>by
  rw [zAW] at h;split at h
  ·rename_i a r' hl hr;cases h;cases hp with
   | head=>exact zdm hl
   | tail _ hp=>exact zov ks _ hr p hp
  ·cases h
def zqb (l:List Bx):List Nat->Option (List Bx)
 | []=>some []
 | k::r=>match zgx l k,zqb l r with
  | some a,some r'=>some (a::r')
  | _,_=>none
theorem zou :∀(ks:List Nat) (r:List Bx),zqb l ks=some r->∀p∈r,p∈l
 | [],r,h,p,hp=>by cases h;cases hp
 | k::ks,r,h,p,hp=>by
  rw [zqb] at h;split at h
  ·rename_i a r' hl hr;cases h;cases hp with
   | head=>exact (zdv hl).1
   | tail _ hp=>exact zou ks _ hr p hp
  ·cases h
def Env.pick (E:Env) (ks bs:List Nat):Option Env:=
 match zAW E.sl ks,zqb E.bx bs with
 | some s,some b=>some ⟨s,b⟩
 | _,_=>none
theorem Sx.pick (h:E.pick ks bs=some E') (hs:Sx cx E a w):Sx cx E' a w:=by
 unfold Env.pick at h;split at h
 ·rename_i s b h1 h2;cases h;obtain ⟨γ,hB,hS,hX⟩:=hs;exact ⟨γ,hB,fun p hp=>hS p (zov _ _ h1 p hp),fun p hp=>hX p (zou _ _ h2 p hp)⟩
 ·cases h
theorem zNH (ks bs:List Nat) (h:E.pick ks bs=some E'):zaI P N ops [] E E':=fun _ _ _ _ _ hs hQ _=>hQ _ _ (hs.pick h)
end
def J (m:Bool) (P:Program) (c:Code) (S:Act->World->Prop) (Q:Exit->Act->World->Prop):Prop:=∀a w,S a w->wq m P c Q a w
section
variable {m:Bool} {P:Program} {S S' M:Act->World->Prop} {Q Q':Exit->Act->World->Prop} {x y c:Code}
theorem J.mono (h:J m P c S Q) (hS:∀a w,S' a w->S a w) (hQ:∀e a w,Q e a w->Q' e a w):J m P c S' Q':=fun a w hs=>zmz (h a w (hS a w hs)) hQ
theorem J.post (h:J m P c S Q) (hQ:∀e a w,Q e a w->Q' e a w):J m P c S Q':=h.mono (fun _ _ h=>h) hQ
theorem zNg {σ ρ:Type} (body:σ->Option (σ⊕ρ)) (Es:σ->Act->World->Prop) (R:ρ->Exit->Act->World->Prop)
  (hb:∀s o,body s=some o->J m P c (Es s) (match o with
   | .inl s'=>fun e a w=>e= .normal/\Es s' a w
   | .inr r=>fun e a w=>e≠ .normal/\R r e a w))
  {s:σ} {r:ρ} (h:zX body s=some r) (hS:∀a w,S a w->Es s a w) (hQ:∀e a w,R r e a w->Q e a w):J m P (.loop c) S Q:=by
 obtain ⟨n,hn⟩:=zwN h;have key:∀n s,zil body n s=some r->∀a w,Es s a w->zte m P c (R r) n a w:=by
  intro n
  induction n with
  | zero=>intro s hn;cases hn
  | succ n ih=>
   intro s hn a w hs;rw [zte];rw [zil] at hn;split at hn
   ·cases hn
   ·rename_i s' hbs;refine zmz (hb s _ hbs a w hs) fun e a' w' hq=>?_
    obtain ⟨rfl,hE⟩:=hq;exact ih s' hn a' w' hE
   ·rename_i r' hbs;cases hn;refine zmz (hb s _ hbs a w hs) fun e a' w' hq=>?_
    cases e<;>first| exact absurd rfl hq.1| exact hq.2
 exact fun a w hs=>zmz (zyh n (key n s hn a w (hS a w hs))) hQ
end
open Classical in
noncomputable def gh0 (F:Fp):Gh:=⟨fun b=>if F b then 0 else 1,fun _=>0⟩
def zib:List Value->Value
 | [u]=>u
 | us=> .tuple us.toArray
def FnOk (P:Program) (f:FuncId) (ins wX:List AV):Prop:=
 ∀(w:World) (F:Fp) (vs:List Value),AV.relL (gh0 F) w ins vs->Calls P f vs.toArray w fun e w'=>∃γ us,e= .returned (zib us)/\Below w.heap.size w w'/\
  ((∀b,b<w.heap.size->(γ.col b=0/\F b)\/γ.col b=1)/\∀b,w.heap.size<=b->b<w'.heap.size->γ.col b≠0)/\AV.relL γ w' wX us
def AV.toLV:AV->Option LV
 | .lf l=>some l
 | .sl r _ xs=>some (.sl xs.length r.size (xs.flatMap r.lv))
 | .own r _ _ _ xs=>some (.sl xs.length r.size (xs.flatMap r.lv))
 | _=>none
def subN (a b:List Nat):Bool:=a.all fun c=>memN c b
theorem zZ (h:subN a b=true):∀c∈a,c∈b:=by
 intro c hc;simp only [subN,xF] at h;exact zab.1 (h c hc)
theorem zpX {γ:Gh} {w:World} {α:Type} {r:Rp α} {e:TypeId} {ℓ:Nat} {C:List Nat} {xs:List α} {v:Value} (h:AV.rel γ w (.own r e ℓ C xs) v):zat (γ.F (ℓ::C)) w (.sl xs.length r.size (xs.flatMap r.lv)) v:=by
 obtain ⟨cs,ho,hg,hA,hn⟩:=h;have hA':zT (γ.F (ℓ::C)) w (xs.flatMap r.lv) cs:=hA.mono fun b _ hb=>xt _ hb
 have hl:=r.flat xs;obtain ⟨A,c,hv,hc,hm⟩:=zzv (γ:=γ) (w:=w) (r:=r) (e:=e) (ℓ:=ℓ) (C:=C) ⟨cs,ho,hg,hA,hn⟩;rw [hv];refine .sl _ _ _ A c cs hl (by rw [<-hA.1];exact hl) hc hm (fun h0=>?_) hA'.2;have hcells:=fun g hg=>ho.cells (g:=g) hg
 have wS:=ho.lt;rcases ho.2 with ⟨rfl,h00⟩| ⟨g,w9,kj,hv',_⟩
 ·omega
 ·rw [hv'] at hv;injection hv with e1 e2 e3;subst e1;have hob:v.ownBlock=some g:=by rw [hv'];rfl
  refine ⟨g,0,rfl,?_,(wS g hob).2,fun i hi=>?_⟩
  ·show γ.col g∈ℓ::C
   grind
  ·have wY:i<cs.length:=by rw [<-hA.1,hl];exact hi
   rw [xM wY];have:=hcells g hob i _ (xM wY);rw [zfw] at this;exact this
theorem zDC {a:AV} {l:LV} (h:a.toLV=some l) {γ:Gh} {w:World} {v:Value} (hr:a.rel γ w v) {C:List Nat} (hC:∀c∈a.cols,c∈C):zat (γ.F C) w l v:=by
 cases a with
 | lf l'=>cases h;exact hr.2.plain hr.1
 | sl r C' xs=>cases h;exact zat.mono hr fun b _ hb=>hC _ hb
 | own r e ℓ C' xs=>cases h;exact (zpX hr).mono fun b _ hb=>hC _ hb
 | any=>cases h
 | rc=>cases h
 | ep=>cases h
 | ptr=>cases h
 | bs=>cases h
 | tl=>cases h
 | qp=>cases h
 | em=>cases h
 | mo=>cases h
 | cu=>cases h
 | mp=>cases h
 | om=>cases h
 | tup=>cases h
 | ag=>cases h
 | fv=>cases h
 | bp=>cases h
 | it=>cases h
def zfW:List AV->Option (List LV)
 | []=>some []
 | a::l=>match a.toLV,zfW l with
  | some x,some r=>some (x::r)
  | _,_=>none
theorem zlc {l:List AV} {ls:List LV} (h:zfW l=some ls) {γ:Gh} {w:World} {vs:List Value} (hr:AV.relL γ w l vs) {C:List Nat} (hC:∀c∈AV.colsL l,c∈C):zT (γ.F C) w ls vs:=by
 induction l generalizing ls vs with
 | nil=>cases h;cases hr;exact .nil
 | cons a l ih=>
  obtain ⟨v,vs',rfl,h1,h2⟩:=hr;rw [zfW] at h;split at h
  ·rename_i x r hx hr';cases h;exact .cons (zDC hx h1 fun c hc=>hC c (ym _ hc)) (ih hr' h2 fun c hc=>hC c (yf _ hc))
  ·cases h
def zrs (C:List Nat):AV->Bool
 | .lf x=>x.plain
 | .sl _ C' _=>subN C C'
 | _=>false
theorem zjP (h:zfW l=some ls) (hr:zT (γ.F C) w ls vs) (hC:l.all (zrs C)=true):AV.relL γ w l vs:=by
 induction l generalizing ls vs with
 | nil=>
  cases h;have:=hr.1;simp at this;exact yA this.symm
 | cons a l ih=>
  rw [zfW] at h;simp only [yK,xu] at hC;split at h
  ·rename_i x r hx hr';cases h;obtain ⟨v,vs',rfl,h1,h2⟩:=hr.head;refine ⟨v,vs',rfl,?_,ih hr' h2 hC.2⟩;cases a with
   | lf y=>cases hx;exact ⟨hC.1,h1.plain hC.1⟩
   | sl r' C' xs=>cases hx;exact zat.mono h1 fun b _ hb=>zZ hC.1 _ hb
   | any=>cases hx
   | own=>exact absurd hC.1 (by simp [zrs])
   | rc=>cases hx
   | ep=>cases hx
   | ptr=>cases hx
   | bs=>cases hx
   | tl=>cases hx
   | qp=>cases hx
   | em=>cases hx
   | mo=>cases hx
   | cu=>cases hx
   | mp=>cases hx
   | om=>cases hx
   | tup=>cases hx
   | ag=>cases hx
   | fv=>cases hx
   | bp=>cases hx
   | it=>cases hx
  ·cases h
def zmP:Nat->List AV->List (Nat×AV)
 | _,[]=>[]
 | n,a::l=>(n,a)::zmP (n+1) l
theorem zog (h:AV.relL γ w l vs) (pre post:List Value):
  ∀p∈zmP pre.length l,p.2.rel γ w ((pre++vs++post).toArray.getD p.1 undef):=by
 induction l generalizing vs pre with
 | nil=>intro p hp;cases hp
 | cons a l ih=>
  obtain ⟨v,vs',rfl,h1,h2⟩:=h;intro p hp;cases hp with
  | head=>simpa using h1
  | tail _ hp=>
   have hp':p∈zmP (pre.length+1) l:=hp;have:=ih h2 (pre++[v]) p (by simpa using hp');simpa using this
structure AggT (P:Program) (t:TypeId) (n:Nat):Prop where
 agg:∀w,(isAgg t).run P w= .ok true w
 size:∀w,(sizeOf t).run P w= .ok n w
theorem zgJ {P:Program} {t:TypeId} {n:Nat} (h:AggT P t n) {w:World} {b o:Nat} {cs:List Value} (hn:cs.length=n) (hc:∀i,i<cs.length->w.cell? ⟨b,o+i,none⟩=cs[i]?):
  (loadVar t ⟨b,o,none⟩).run P w= .ok (.agg cs.toArray) w:=by
 have hl:(loadCells ⟨b,o,none⟩ cs.length).run P w= .ok cs.toArray w:=run_loadCells_list (P:=P) w ⟨b,o,none⟩ cs fun j v hv=>by
  rw [zfw,hc j (yx.1 hv).1];exact hv
 rw [hn] at hl;simp [loadVar,h.agg,h.size,hl]
def zlf (P:Program) (E:Env):List ResultVar->List AV->Prop
 | [],[]=>True
 | .tmp t::rs,a::l=>lookup E.sl t=some a/\zlf P E rs l
 | .cell x t::rs,.rc r C y::l=>(∃ℓ b,lookup E.sl x=some (.ptr ℓ 0)/\zgx E.bx ℓ=some b/\zfW b.avs=some (r.lv y)/\subN (AV.colsL b.avs) C=true/\AggT P t r.size)/\zlf P E rs l
 | .cell x t::rs,.ag m::l=>(∃ℓ b,lookup E.sl x=some (.ptr ℓ 0)/\zgx E.bx ℓ=some b/\b.avs=m/\AggT P t m.length)/\zlf P E rs l
 | .cell x t::rs,.lf y::l=>(∃ℓ b,lookup E.sl x=some (.ptr ℓ 0)/\zgx E.bx ℓ=some b/\b.avs=[.lf y]/\zee P t=true)/\zlf P E rs l
 | .cell x t::rs,.sl r C y::l=>(∃ℓ b,lookup E.sl x=some (.ptr ℓ 0)/\zgx E.bx ℓ=some b/\b.avs=[.sl r C y]/\zee P t=true)/\zlf P E rs l
 | .cell x t::rs,.own r e q C y::l=>(∃ℓ b,lookup E.sl x=some (.ptr ℓ 0)/\zgx E.bx ℓ=some b/\b.avs=[.own r e q C y]/\zee P t=true)/\zlf P E rs l
 | _,_=>False
def resF (tmps:Array Value):ResultVar->Sem Value
 | .tmp t=>pure (tmps.getD t undef)
 | .cell x t=>do loadVar t (<-asAddr (tmps.getD x undef))
theorem zul {P:Program} {E:Env} {γ:Gh} {w:World} {a:Act} {x:Tmp} {t:TypeId} {av:AV} (hs:Sl γ w a E.sl) (hx:Bxs γ w E.bx) (h:∃ℓ b,lookup E.sl x=some (.ptr ℓ 0)/\zgx E.bx ℓ=some b/\b.avs=[av]/\zee P t=true):
  ∃u,(resF a.tmps (.cell x t)).run P w= .ok u w/\av.rel γ w u:=by
 obtain ⟨ℓ,b,h1,h2,h3,h5⟩:=h;obtain ⟨hm,rfl⟩:=zdv h2;have hp:a.tmps.getD x undef= .pointer (some ⟨γ.box b.lab,0,none⟩):=hs _ (zdm h1);obtain ⟨u,hc,hr⟩:=Bx.cell (hx b hm) (off:=0) (a:=av) (by rw [h3];rfl);have hld:=zvm (P:=P) h5 hc;have ha:(asAddr (.pointer (some ⟨γ.box b.lab,0,none⟩))).run P w= .ok ⟨γ.box b.lab,0,none⟩ w:=rfl;exact ⟨u,by simp only [resF,xS,hp,ha,hld,xV],hr⟩
theorem zjE {P:Program} {E:Env} {γ:Gh} {w:World} {a:Act} (hs:Sl γ w a E.sl) (hx:Bxs γ w E.bx):∀(rs:List ResultVar) (l:List AV),zlf P E rs l->
  ∃us,(rs.mapM (resF a.tmps)).run P w= .ok us w/\AV.relL γ w l us
 | [],[],_=>⟨[],rfl,rfl⟩
 | .tmp t::rs,x::l,h=>by
  obtain ⟨us,hu,hr⟩:=zjE hs hx rs l h.2;refine ⟨a.tmps.getD t undef::us,?_,_,us,rfl,hs _ (zdm h.1),hr⟩;simp only [qB,resF,xS,yp,xV];rw [hu];rfl
 | .cell x t::rs,.rc r C y::l,h=>by
  obtain ⟨us,hu,hr⟩:=zjE hs hx rs l h.2;obtain ⟨ℓ,b,h1,h2,h3,h4,h5⟩:=h.1;obtain ⟨hm,rfl⟩:=zdv h2;have hp:a.tmps.getD x undef= .pointer (some ⟨γ.box b.lab,0,none⟩):=hs _ (zdm h1);obtain ⟨kp,cs,hh,hL,_⟩:=hx b hm;have hA:=zlc h3 hL (zZ h4);have hld:=zgJ h5 (w:=w) (b:=γ.box b.lab) (o:=0) (cs:=cs) (by rw [<-hA.1];exact r.len y) fun i hi=>by rw [yX w _ _ _ _ _ hh];simp
  refine ⟨.agg cs.toArray::us,?_,_,us,rfl,⟨cs,rfl,hA⟩,hr⟩;have ha:(asAddr (.pointer (some ⟨γ.box b.lab,0,none⟩))).run P w= .ok ⟨γ.box b.lab,0,none⟩ w:=rfl;simp only [qB,resF,xS,hp,ha,hld,yp,xV];rw [hu];rfl
 | .cell x t::rs,.ag m::l,h=>by
  obtain ⟨us,hu,hr⟩:=zjE hs hx rs l h.2;obtain ⟨ℓ,b,h1,h2,h3,h5⟩:=h.1;obtain ⟨hm,rfl⟩:=zdv h2;subst h3;have hp:a.tmps.getD x undef= .pointer (some ⟨γ.box b.lab,0,none⟩):=hs _ (zdm h1);obtain ⟨kp,cs,hh,hL,hone⟩:=hx b hm;have hld:=zgJ h5 (w:=w) (b:=γ.box b.lab) (o:=0) (cs:=cs) (zbn hL) fun i hi=>by rw [yX w _ _ _ _ _ hh];simp
  refine ⟨.agg cs.toArray::us,?_,_,us,rfl,⟨cs,rfl,hL,hone⟩,hr⟩;have ha:(asAddr (.pointer (some ⟨γ.box b.lab,0,none⟩))).run P w= .ok ⟨γ.box b.lab,0,none⟩ w:=rfl;simp only [qB,resF,xS,hp,ha,hld,yp,xV];rw [hu];rfl
 | .cell x t::rs,.lf y::l,h=>by
  obtain ⟨us,hu,hr⟩:=zjE hs hx rs l h.2;obtain ⟨u,h1,h2⟩:=zul hs hx h.1;exact ⟨u::us,by simp only [qB,xS,h1,xV,hu,yp],u,us,rfl,h2,hr⟩
 | .cell x t::rs,.sl r C y::l,h=>by
  obtain ⟨us,hu,hr⟩:=zjE hs hx rs l h.2;obtain ⟨u,h1,h2⟩:=zul hs hx h.1;exact ⟨u::us,by simp only [qB,xS,h1,xV,hu,yp],u,us,rfl,h2,hr⟩
 | .cell x t::rs,.own r e q C y::l,h=>by
  obtain ⟨us,hu,hr⟩:=zjE hs hx rs l h.2;obtain ⟨u,h1,h2⟩:=zul hs hx h.1;exact ⟨u::us,by simp only [qB,xS,h1,xV,hu,yp],u,us,rfl,h2,hr⟩
 | [],_::_,h=>h.elim
 | .cell _ _::_,[],h=>h.elim
 | .cell _ _::_,.any::_,h=>h.elim
 | .cell _ _::_,.ep ..::_,h=>h.elim
 | .cell _ _::_,.ptr ..::_,h=>h.elim
 | .cell _ _::_,.bs ..::_,h=>h.elim
 | .cell _ _::_,.tl ..::_,h=>h.elim
 | .cell _ _::_,.qp ..::_,h=>h.elim
 | .cell _ _::_,.em ..::_,h=>h.elim
 | .cell _ _::_,@AV.mo _ _ _ _ _ _ _ _ _::_,h=>h.elim
 | .cell _ _::_,.cu ..::_,h=>h.elim
 | .cell _ _::_,.mp ..::_,h=>h.elim
 | .cell _ _::_,.om ..::_,h=>h.elim
 | .cell _ _::_,.tup ..::_,h=>h.elim
 | .cell _ _::_,.fv ..::_,h=>h.elim
 | .cell _ _::_,.bp ..::_,h=>h.elim
 | .cell _ _::_,.it ..::_,h=>h.elim
 | .tmp _::_,[],h=>h.elim
theorem zit (hs:Sl γ w a E.sl) (hx:Bxs γ w E.bx) (h:zlf P E fn.results.toList l):
  ∃us,(results fn a.tmps).run P w= .ok (zib us) w/\AV.relL γ w l us:=by
 obtain ⟨us,hu,hr⟩:=zjE (P:=P) hs hx _ _ h;refine ⟨us,?_,hr⟩;have e:results fn a.tmps=(fn.results.mapM (resF a.tmps))>>=fun vs=>pure (if h:vs.size=1 then vs[0] else .tuple vs):=by
  rfl
 rw [e,<-qT (xs:=fn.results),uc,xS,Sem.run_map,hu];simp only [xV,yp];congr 1
 match us with
 | []=>rfl
 | [u]=>rfl
 | u::v::r=>
  rfl
theorem zIL (hf:P.funcs[f]? =some fn) (hb:fn.body=some c) (wY:ins.length<=fn.ntmps) (hres:zlf P E fn.results.toList wX)
  (hj:∀X:Ext,J true P c (Sx ⟨⟨fn.ntmps,[]⟩,X,false,#[]⟩ ⟨zmP 0 ins,[]⟩) fun e a w=>e= .ret/\Sx ⟨⟨fn.ntmps,[]⟩,X,false,#[]⟩ E a w):FnOk P f ins wX:=by
 intro w F vs hr;have hl:=zbn hr;refine pf hf hb (wp_mono (zDV (hj (fnX w F) _ w ⟨gh0 F,⟨⟨[],rfl,qg,fun D hD=>by cases hD⟩,fun _=>rfl,?_,(fun k hk=>by cases hk),Below.refl _ _,fun b _=>?_,fun b h1 h2=>by omega⟩,?_,fun b hb=>by cases hb⟩)) ?_)
 ·simp [hl];omega
 ·by_cases hF:F b<;>simp [gh0,hF]
 ·intro p hp;have:=zog hr [] (List.replicate (fn.ntmps - vs.length) undef) p hp;simp only [xG] at this;have e:(vs++List.replicate (fn.ntmps - vs.length) undef).toArray=vs.toArray++Array.replicate (fn.ntmps - vs.toArray.size) undef:=by simp
  grind
 ·rintro e a w' ⟨rfl,γ,hB,hS,hX⟩;obtain ⟨us,hu,hu'⟩:=zit (P:=P) (fn:=fn) hS hX hres;exact ⟨hB.clean rfl,zib us,hu,γ,us,rfl,hB.ext.1,hB.ext.2,hu'⟩
def zwL:AV->AV
 | .lf l=> .lf l
 | .sl r _ xs=> .sl r [0] xs
 | .own r _ _ _ xs=> .sl r [0] xs
 | .rc r _ x=> .rc r [0] x
 | .ep r _ x off=> .ep r [0] x off
 | .qp r _ o=> .qp r [0] o
 | .mp rk rv _ m=> .mp rk rv [0] m
 | .em rk rv _ m=> .em rk rv [0] m
 | .om rk rv _ _ m=> .mp rk rv [0] m
 | _=> .any
def inAV:AV->AV
 | .ag l=> .ag (l.map zwL)
 | .fv g l=> .fv g (l.map zwL)
 | a=>zwL a
def zqB:AV->List Nat
 | .sl _ C _| .rc _ C _| .ep _ C _ _| .qp _ C _=>C
 | .own _ _ ℓ C _=>ℓ::C
 | .mp _ _ C _| .em _ _ C _=>C
 | .om _ _ ℓ C _=>ℓ::C
 | _=>[]
def ztS:AV->List Nat
 | .ag l=>l.flatMap zqB
 | .fv _ l=>l.flatMap zqB
 | a=>zqB a
theorem zFQ (F:Fp) (b:Nat) (h:F b):(gh0 F).col b=0:=by simp [gh0,h]
theorem zgN {γ:Gh} {w:World} {a:AV} {v:Value} {D:List Nat} (h:a.rel γ w v) (hD:∀c∈zqB a,c∈D):(zwL a).rel (gh0 (γ.F D)) w v:=by
 have key:∀(C:List Nat),(∀c∈C,c∈D)->∀b,b<w.heap.size->γ.F C b->(gh0 (γ.F D)).F [0] b:=fun C hC b _ hb=>by
  show (gh0 (γ.F D)).col b∈[0];have hF:γ.F D b:=hC _ hb;rw [zFQ (γ.F D) b hF];exact xr
 cases a with
 | any=>trivial
 | lf l=>exact h
 | sl r C xs=>exact zat.mono h (key C hD)
 | own r e ℓ C xs=>exact (zpX h).mono (key _ hD)
 | rc r C x=>obtain ⟨cs,hv,hA⟩:=h;exact ⟨cs,hv,hA.mono (key C hD)⟩
 | mp rk rv C m=>
  obtain ⟨b,es,cl,hv,hF,hb,hh,hE⟩:=h;exact ⟨b,es,cl,hv,key C hD b hb hF,hb,hh,hE.mono (key C hD)⟩
 | em rk rv C m=>
  obtain ⟨a,b,es,cl,hv,hFa,ha,hc1,hF,hb,hh,hE⟩:=h;exact ⟨a,b,es,cl,hv,key C hD a ha hFa,ha,hc1,key C hD b hb hF,hb,hh,hE.mono (key C hD)⟩
 | mo=>trivial
 | cu=>trivial
 | om rk rv ℓ C m=>
  obtain ⟨b,es,cl,hv,⟨hF,hbx⟩,hb,hh,hE,hn⟩:=h;exact ⟨b,es,cl,hv,key (ℓ::C) hD b hb (by show γ.col b∈ℓ::C;rw [hF];exact xr),hb,hh,(hE.mono (fun b _ hb=>xt _ hb)).mono (key (ℓ::C) hD)⟩
 | ep r C x off=>
  obtain ⟨b,o,cs,hv,hF,hb,hA,hc⟩:=h;exact ⟨b,o,cs,hv,key C hD b hb hF,hb,hA.mono (key C hD),hc⟩
 | qp r C o=>
  cases o with
  | none=>exact h
  | some x=>
   obtain ⟨b,cs,hv,hF,hb,hA,hc⟩:=h;exact ⟨b,cs,hv,key C hD b hb hF,hb,hA.mono (key C hD),hc⟩
 | bs=>trivial
 | tl=>trivial
 | ptr=>trivial
 | tup=>trivial
 | ag=>trivial
 | fv=>trivial
 | bp=>trivial
 | it=>trivial
theorem zrN :∀{l:List AV} {vs:List Value},AV.relL γ w l vs->(∀c∈l.flatMap zqB,c∈D)->AV.relL (gh0 (γ.F D)) w (l.map zwL) vs
 | [],_,h,_=>h
 | a::l,_,h,hD=>by
  obtain ⟨v,vs',rfl,h1,h2⟩:=h;exact ⟨v,vs',rfl,zgN h1 (fun c hc=>hD c (by rw [xI];exact ym _ hc)),zrN h2 (fun c hc=>hD c (by rw [xI];exact yf _ hc))⟩
theorem zCh (h:a.rel γ w v) (hD:∀c∈ztS a,c∈D):(inAV a).rel (gh0 (γ.F D)) w v:=by
 cases a with
 | ag l=>obtain ⟨vs,hv,hL,h1⟩:=h;exact ⟨vs,hv,zrN hL hD,h1⟩
 | fv g l=>obtain ⟨vs,hv,hL⟩:=h;exact ⟨vs,hv,zrN hL hD⟩
 | any=>trivial
 | lf l=>exact zgN h hD
 | sl r C xs=>exact zgN h hD
 | own r e ℓ C xs=>exact zgN h hD
 | rc r C x=>exact zgN h hD
 | mp rk rv C m=>exact zgN h hD
 | om rk rv ℓ C m=>exact zgN h hD
 | ep r C x off=>exact zgN h hD
 | qp r C o=>exact zgN h hD
 | em rk rv C m=>exact zgN h hD
 | mo=>trivial
 | cu=>trivial
 | bs=>trivial
 | tl=>trivial
 | ptr=>trivial
 | tup=>trivial
 | bp=>trivial
 | it=>trivial
def outC (D:List Nat) (s:Nat):List Nat->List Nat
 | []=>[]
 | c::C=>(match c with
  | 0=>D
  | c+1=>[c+1+s])++outC D s C
def zuc (D:List Nat) (s:Nat):AV->AV
 | .lf l=> .lf l
 | .sl r C xs=> .sl r (outC D s C) xs
 | .own r e ℓ C xs=> .own r e (ℓ+s) (outC D s C) xs
 | .rc r C x=> .rc r (outC D s C) x
 | .qp r C o=> .qp r (outC D s C) o
 | .mp rk rv C m=> .mp rk rv (outC D s C) m
 | .om rk rv ℓ C m=> .om rk rv (ℓ+s) (outC D s C) m
 | .bp r t ℓ C x=> .bp r t (ℓ+s) (outC D s C) x
 | .cu c ℓ C1 C2=> .cu c (ℓ+s) (outC D s C1) (outC D s C2)
 | _=> .any
def zgY (K C:List Nat):Bool:=K.all fun k=> !memN k C
theorem zln (h:zgY K C=true):∀k∈K,k∉C:=fun k hk hc=>by
 simp only [zgY,xF] at h;have:=h k hk;rw [zab.2 hc] at this;cases this
def zmX (K D:List Nat) (s:Nat):AV->Bool
 | .sl _ C _| .rc _ C _| .qp _ C _=>zgY K C
 | .own _ _ ℓ C _=>zgY K C&&Nat.ble 2 ℓ&& !memN ℓ K&& !memN (ℓ+s) (outC D s C)
 | .mp _ _ C _=>zgY K C
 | .om _ _ ℓ C _=>zgY K C&&Nat.ble 2 ℓ&& !memN ℓ K&& !memN (ℓ+s) (outC D s C)
 | .bp _ _ ℓ C _=>zgY K C&&Nat.ble 2 ℓ&& !memN ℓ K
 | .cu _ ℓ C1 C2=>zgY K C1&&zgY K C2&&Nat.ble 2 ℓ&& !memN ℓ K
 | _=>true
def zjO (s:Nat):AV->List Nat
 | .own _ _ ℓ _ _=>[ℓ+s]
 | .om _ _ ℓ _ _=>[ℓ+s]
 | .bp _ _ ℓ _ _=>[ℓ+s]
 | .cu _ ℓ _ _=>[ℓ+s]
 | _=>[]
def zoI (D:List Nat) (s:Nat):AV->AV
 | .ag l=> .ag (l.map (zuc D s))
 | .fv g l=> .fv g (l.map (zuc D s))
 | a=>zuc D s a
def zuN (K D:List Nat) (s:Nat):AV->Bool
 | .ag l=>l.all (zmX K D s)
 | .fv _ l=>l.all (zmX K D s)
 | a=>zmX K D s a
def zgC (s:Nat):AV->List Nat
 | .ag l=>l.flatMap (zjO s)
 | .fv _ l=>l.flatMap (zjO s)
 | a=>zjO s a
theorem zxm (h:c∈C):(c=0->∀d∈D,d∈outC D s C)/\(c≠0->c+s∈outC D s C):=by
 induction C with
 | nil=>cases h
 | cons x C ih=>
  cases h with
  | head=>
   refine ⟨?_,?_⟩
   ·rintro rfl d hd;simp [outC,hd]
   ·intro hc;cases c with
    | zero=>exact absurd rfl hc
    | succ c=>simp [outC]
  | tail _ h=>
   obtain ⟨h1,h2⟩:=ih h;exact ⟨fun h0 d hd=>by simp only [outC,xA];exact .inr (h1 h0 d hd),fun h0=>by simp only [outC,xA];exact .inr (h2 h0)⟩
open Classical in
noncomputable def zfp (γ γc:Gh) (n:Nat) (D:List Nat) (s:Nat) (V:List Nat):Gh:=
 ⟨fun b=>if b<n then γ.col b else if γc.col b=0 then D.headD 1 else if γc.col b=1 then 1 else γc.col b+s,fun ℓ=>if ℓ∈V then γc.box (ℓ - s) else γ.box ℓ⟩
def zvY (γ γc:Gh) (n:Nat) (K D:List Nat):Prop:=∀b,b<n->(γc.col b=0/\γ.F D b)\/γc.col b∈K
theorem outF (hold:zvY γ γc n K D) (h1:∀k∈K,k∉C) (hk1:1∈K) (hb:γc.F C b) (hD:0∈C->D=[]->False\/b<n):
  (zfp γ γc n D s V).F (outC D s C) b:=by
 show (zfp γ γc n D s V).col b∈outC D s C;have hb':γc.col b∈C:=hb;unfold zfp;simp only;by_cases hn:b<n
 ·rw [xq hn];rcases hold b hn with ⟨h0,hF⟩| h0
  ·rw [h0] at hb';exact (zxm hb').1 rfl _ hF
  grind
 ·rw [xp hn];by_cases h0:γc.col b=0
  ·rw [xq h0];rw [h0] at hb';cases D with
   | nil=>rcases hD hb' rfl with h| h;exact h.elim;exact absurd h hn
   | cons d D=>exact (zxm hb').1 rfl d xr
  ·rw [xp h0];by_cases h2:γc.col b=1
   ·grind
   ·rw [xp h2];exact (zxm hb').2 h0
theorem zxl {γ γc:Gh} {n:Nat} {K D:List Nat} {s:Nat} {V:List Nat} {w':World} {a:AV} {v:Value} (hold:zvY γ γc n K D) (hk1:1∈K) (hD:D≠[])
  (w6:zmX K D s a=true) (hV:∀c∈zjO s a,c∈V) (h:a.rel γc w' v):(zuc D s a).rel (zfp γ γc n D s V) w' v:=by
 have hF:∀C,zgY K C=true->∀b,b<w'.heap.size->γc.F C b->(zfp γ γc n D s V).F (outC D s C) b:=fun C h1 b _ hb=>outF hold (zln h1) hk1 hb (fun _ e=>absurd e hD)
 have hnew:∀(ℓ g:Nat),2<=ℓ->memN ℓ K=false->γc.col g=ℓ->¬g<n:=fun ℓ g hℓ hm g1 wS=>by
  rcases hold g wS with ⟨h0,_⟩| h0
  ·omega
  ·rw [g1] at h0;rw [zab.2 h0] at hm;cases hm
 cases a with
 | any=>trivial
 | lf l=>exact h
 | sl r C xs=>exact zat.mono h (hF C w6)
 | rc r C x=>
  obtain ⟨cs,hv,hA⟩:=h;exact ⟨cs,hv,hA.mono (hF C w6)⟩
 | own r e ℓ C xs=>
  obtain ⟨cs,ho,hg,hA,hnot⟩:=h;simp only [zmX,xu,xU] at w6;obtain ⟨⟨⟨k1,k2⟩,k4⟩,k3⟩:=w6;have hℓ:2<=ℓ:=xN k2;refine ⟨cs,ho,fun g kd=>?_,hA.mono (hF C k1),fun hc=>by rw [zab.2 hc] at k3;cases k3⟩;obtain ⟨g1,g2⟩:=hg g kd;refine ⟨?_,?_⟩
  ·unfold zfp
   grind
  ·unfold zfp;simp only;rw [xq (hV _ (by simp [zjO])),pC];exact g2
 | mp rk rv C m=>
  obtain ⟨b,es,cl,hv,hF',hb,hh,hE⟩:=h;exact ⟨b,es,cl,hv,hF C w6 b hb hF',hb,hh,hE.mono (hF C w6)⟩
 | om rk rv ℓ C m=>
  obtain ⟨b,es,cl,hv,⟨g1,g2⟩,hb,hh,hE,hnot⟩:=h;simp only [zmX,xu,xU] at w6;obtain ⟨⟨⟨k1,k2⟩,k4⟩,k3⟩:=w6;have hℓ:2<=ℓ:=xN k2;refine ⟨b,es,cl,hv,⟨?_,?_⟩,hb,hh,hE.mono (hF C k1),fun hc=>by rw [zab.2 hc] at k3;cases k3⟩
  ·unfold zfp
   grind
  ·unfold zfp;simp only;rw [xq (hV _ (by simp [zjO])),pC];exact g2
 | ep=>trivial
 | ptr=>trivial
 | bs=>trivial
 | tl=>trivial
 | qp r C o=>
  cases o with
  | none=>exact h
  | some x=>
   obtain ⟨b,cs,hv,hF',hb,hA,hc⟩:=h;exact ⟨b,cs,hv,hF C w6 b hb hF',hb,hA.mono (hF C w6),hc⟩
 | em=>trivial
 | mo=>trivial
 | cu c ℓ C1 C2=>
  simp only [zmX,xu,xU] at w6;obtain ⟨⟨⟨k0,k1⟩,k2⟩,k4⟩:=w6;have hℓ:2<=ℓ:=xN k2;refine c.move (xw _) (fun _ _ _=>rfl) (fun b _ g1=>?_) (hF C1 k0) (hF C2 k1) ?_ h
  ·unfold zfp
   grind
  ·unfold zfp;simp only;rw [xq (hV _ (by simp [zjO])),pC]
 | tup=>trivial
 | ag=>trivial
 | fv=>trivial
 | it=>trivial
 | bp r t ℓ C x=>
  obtain ⟨b,cs,hv,⟨g1,g2⟩,hb,hh,h1c,hA⟩:=h;simp only [zmX,xu,xU] at w6;obtain ⟨⟨k1,k2⟩,k4⟩:=w6;have hℓ:2<=ℓ:=xN k2;refine ⟨b,cs,hv,⟨?_,?_⟩,hb,hh,h1c,hA.mono (hF C k1)⟩
  ·unfold zfp
   grind
  ·unfold zfp;simp only;rw [xq (hV _ (by simp [zjO])),pC];exact g2
theorem zrT (hold:zvY γ γc n K D) (hk1:1∈K) (hD:D≠[]):∀(l:List AV) (vs:List Value),
  l.all (zmX K D s)=true->(∀c∈l.flatMap (zjO s),c∈V)->AV.relL γc w' l vs->AV.relL (zfp γ γc n D s V) w' (l.map (zuc D s)) vs
 | [],vs,_,_,h=>h
 | a::l,vs,w6,hV,h=>by
  obtain ⟨v,vs',rfl,h1,h2⟩:=h;simp only [yK,xu] at w6
  exact ⟨v,vs',rfl,zxl hold hk1 hD w6.1 (fun c hc=>hV c (by simp only [xI,xA];exact .inl hc)) h1,
   zrT hold hk1 hD l vs' w6.2 (fun c hc=>hV c (by simp only [xI,xA];exact .inr hc)) h2⟩
theorem zud (hold:zvY γ γc n K D) (hk1:1∈K) (hD:D≠[])
  (w6:zuN K D s a=true) (hV:∀c∈zgC s a,c∈V) (h:a.rel γc w' v):(zoI D s a).rel (zfp γ γc n D s V) w' v:=by
 have key:zoI D s a=zuc D s a->zuN K D s a=zmX K D s a->zgC s a=zjO s a->(zoI D s a).rel (zfp γ γc n D s V) w' v:=fun e1 e2 e3=>by
  rw [e1];exact zxl hold hk1 hD (e2▸w6) (e3▸hV) h
 cases a with
 | ag l=>obtain ⟨vs,hv,hL,h1⟩:=h;exact ⟨vs,hv,zrT hold hk1 hD l vs w6 hV hL,h1⟩
 | fv g l=>obtain ⟨vs,hv,hL⟩:=h;exact ⟨vs,hv,zrT hold hk1 hD l vs w6 hV hL⟩
 | bp r t ℓ C x=>exact key rfl rfl rfl
 | it=>exact key rfl rfl rfl
 | bs=>exact key rfl rfl rfl
 | tl=>exact key rfl rfl rfl
 | qp=>exact key rfl rfl rfl
 | em=>exact key rfl rfl rfl
 | mo=>exact key rfl rfl rfl
 | cu=>exact key rfl rfl rfl
 | any=>exact key rfl rfl rfl
 | lf l=>exact key rfl rfl rfl
 | sl r C xs=>exact key rfl rfl rfl
 | own r e ℓ C xs=>exact key rfl rfl rfl
 | rc r C x=>exact key rfl rfl rfl
 | ep r C x off=>exact key rfl rfl rfl
 | ptr ℓ off=>exact key rfl rfl rfl
 | mp rk rv C m=>exact key rfl rfl rfl
 | om rk rv ℓ C m=>exact key rfl rfl rfl
 | tup l=>exact key rfl rfl rfl
def znE:List AV->AV
 | [a]=>a
 | l=> .tup l
theorem zqf (h:AV.relL γ w l vs) (hf:∀a∈l,∀v,a.rel γ w v->(f a).rel γ' w' v):AV.relL γ' w' (l.map f) vs:=by
 induction l generalizing vs with
 | nil=>exact h
 | cons a l ih=>
  obtain ⟨v,vs',rfl,h1,h2⟩:=h;exact ⟨v,vs',rfl,hf a xr v h1,ih h2 fun b hb=>hf b (xt _ hb)⟩
theorem zqO (h:AV.relL γ w l us):(znE l).rel γ w (zib us):=by
 match l,us,h with
 | [],us,h=>cases h;exact ⟨[],rfl,rfl⟩
 | [a],us,h=>obtain ⟨v,vs',rfl,h1,h2⟩:=h;cases h2;exact h1
 | a::b::l,us,h=>
  have h':=h;obtain ⟨v,vs',rfl,h1,v2,vs2,rfl,h2,h3⟩:=h;exact ⟨_,rfl,h'⟩
theorem zGe {P:Program} {o:Oper} {f:FuncId} {args:List Operand} {ts:Array TypeId} {ins wX:List AV} (xs:List AV) (D:List Nat) (s:Nat)
  (ho:o.op= .call ⟨.value (.func f),args.toArray,ts⟩) (hc:∀as w,(callFunc f as).run P w= .ok (.enter f as) w) (ok:FnOk P f ins wX)
  (hin:xs.map inAV=ins) (wY:xs.length=args.length) (hD:(xs.all fun a=>subN (ztS a) D)=true) (hD0:D.isEmpty=false) (hout:(wX.all (zuN [1] D s))=true):
  zz P o (args.zip xs) [] [] (wX.flatMap (zgC s)) (znE (wX.map (zoI D s))) []:=by
 intro γ a w hi hb next Q hk;have hvs:AV.relL (gh0 (γ.F D)) w ins (args.map a.eval):=by
  subst hin;clear hb hk hout ok ho;simp only [xF] at hD
  induction xs generalizing args with
  | nil=>cases args<;>first| rfl| (simp at wY)
  | cons x xs ih=>
   cases args with
   | nil=>simp at wY
   | cons y args=>
    exact ⟨_,_,rfl,zCh (hi (y,x) (by simp)) (zZ (hD x xr)),
     ih (by simpa using wY) (fun p hp=>hi p (xt _ hp)) (fun b hb=>hD b (xt _ hb))⟩
 have hcall:=ok w (γ.F D) _ hvs;have ka:(execOp a.eval o).run P w= .ok (.enter f (args.map a.eval).toArray) w:=by
  simp [execOp,ho,resolve,Act.eval,Deferred.ofValue,invoke,hc]
 unfold Oper.wp;rw [ka,qx];refine hcall.mono fun e w' ⟨γc,us,he,hB,⟨hold,hfr⟩,hr⟩=>?_
 subst he;have hDne:D≠[]:=fun e=>by rw [e] at hD0;cases hD0
 simp only [xF] at hout;refine hk (zfp γ γc w.heap.size D s (wX.flatMap (zgC s))) w' _ ⟨hB.os,hB.tape,hB.output,hB.size,fun b hb _=>hB.block b hb,fun b hb=>?_,fun ℓ hℓ=>?_,fun b h1 h2 h0=>?_⟩ (zqO (zqf hr fun x hx v hv=>?_)) (fun b hb=>by cases hb)
 ·show (if b<w.heap.size then γ.col b else _)=_;rw [xq hb]
 ·show (if ℓ∈wX.flatMap (zgC s) then _ else γ.box ℓ)=_;rw [xp hℓ]
 ·exfalso;have kl:=hfr b h1 h2;have h0':(if b<w.heap.size then γ.col b else if γc.col b=0 then D.headD 1 else if γc.col b=1 then 1 else γc.col b+s)=0:=h0
  grind
 ·exact zud (K:=[1]) (fun b hb=>(hold b hb).imp id fun h=>by simp [h]) (by simp) hDne (hout x hx) (fun c hc=>qh.2 ⟨x,hx,hc⟩) hv
structure ElT (P:Program) (t e:TypeId) (size bytes:Nat):Prop where
 u:P.underlying t=some (.slice e)
 ex:∃i z,P.info? e=some i/\i.zero=some z/\i.size=size/\i.bytes=bytes/\z.cells.size=size
theorem ElT.size {P:Program} {t e:TypeId} {size bytes:Nat} (h:ElT P t e size bytes) (w:World):(sizeOf e).run P w= .ok size w:=by
 obtain ⟨i,z,h1,h2,h3,h4,h5⟩:=h.ex;simp [sizeOf,typeInfo,h1,h3]
section
variable {γ:Gh} {w:World} {α:Type} {r:Rp α} {C:List Nat} {xs:List α} {v:Value} {D:List Nat}
theorem zmw (h:zat (γ.F D) w (.sl xs.length r.size (xs.flatMap r.lv)) v):∃A c cs,v= .slice A xs.length c/\xs.length<=c/\c<=maxLen/\zT (γ.F D) w (xs.flatMap r.lv) cs/\cs.length=xs.length*r.size/\
  (0<xs.length->∃b off,A=some ⟨b,off,none⟩/\γ.F D b/\b<w.heap.size/\∀i,i<xs.length*r.size->w.cell? ⟨b,off+i,none⟩=cs[i]?):=by
 cases h with
 | sl _ _ _ A c cs hl hcs hc hm hA hr=>exact ⟨A,c,cs,rfl,hc,hm,⟨by rw [hl,hcs],hr⟩,hcs,hA⟩
theorem zsC {α:Type} {xs:List α} {i:Int} {x:α} (h:idx xs i=some x):0<=i/\i<xs.length/\xs[i.toNat]? =some x:=by
 unfold idx at h
 grind
theorem zKX (h:zat (γ.F D) w (.sl xs.length r.size (xs.flatMap r.lv)) v) {i:Int} {x:α} (hx:idx xs i=some x):∃b off cs c,v= .slice (some ⟨b,off,none⟩) xs.length c/\γ.F D b/\b<w.heap.size/\
  zT (γ.F D) w (r.lv x) cs/\∀j,j<cs.length->w.cell? ⟨b,off+i.toNat*r.size+j,none⟩=cs[j]? :=by
 obtain ⟨h0,h1,h2⟩:=zsC hx;obtain ⟨A,c,cs,rfl,hc,hm,hA,hcs,hcell⟩:=zmw h;obtain ⟨b,off,rfl,hF,hb,hcell⟩:=hcell (by omega);have hA':=(hA.drop (i.toNat*r.size)).take r.size;rw [r.flat_at xs _ x h2] at hA';refine ⟨b,off,_,c,rfl,hF,hb,hA',fun j hj=>?_⟩;have hj':j<r.size:=by rw [<-hA'.1,r.len] at hj;exact hj
 have hle:(i.toNat+1)*r.size<=xs.length*r.size:=yC _ (by omega);rw [qz] at hle;rw [yP,xq hj',qu,qR];exact hcell _ (by omega)
end
def isSl {α:Type} (r:Rp α) (xs:List α) (D:List Nat) (a:AV):Prop:=∀γ w v,a.rel γ w v->zat (γ.F D) w (.sl xs.length r.size (xs.flatMap r.lv)) v
theorem zbj {α:Type} (r:Rp α) (xs:List α) (C:List Nat):isSl r xs C (.sl r C xs):=fun _ _ _ h=>h
theorem zcV {α:Type} (r:Rp α) (xs:List α) (e:TypeId) (ℓ:Nat) (C:List Nat):isSl r xs (ℓ::C) (.own r e ℓ C xs):=fun _ _ _ h=>zpX h
theorem zCo {α:Type} (r:Rp α) (C:List Nat):isSl r [] C (.lf (.val (.slice none 0 0))):=fun γ w v h=>by
 rw [zpJ h];exact .sl 0 _ [] none 0 [] (by simp) (by simp) (xw _) (xC _) (fun h=>absurd h (by omega)) (fun i l u h=>by simp at h)
theorem zuX {P:Program} {t e:TypeId} {size bytes:Nat} (hT:ElT P t e size bytes) (w:World) (b off n c:Nat) (k:IntKind) (i:Int) (h0:0<=i) (h1:i<n):
  (Instr.indexAt t (.slice (some ⟨b,off,none⟩) n c) (.int k i)).run P w= .ok (.pointer (some ⟨b,off+i.toNat*size,none⟩)) w:=by
 simp [Instr.indexAt,asIntOf,run_underlying hT.u,hT.size,h0,h1,zfw]
theorem zji {P:Program} {o:Oper} {α:Type} {r:Rp α} {xs:List α} {D:List Nat} {a:AV} {k:IntKind} {i:Int} {x:α} {t e:TypeId} {y z:Operand} {bytes:Nat}
  (ho:o.op= .indexAddr t y z) (hT:ElT P t e r.size bytes) (hs:isSl r xs D a) (hx:idx xs i=some x):zz P o [(y,a),(z,.lf (.int k i))] [] [] [] (.ep r D x 0) []:=by
 refine zJ fun γ ev w hi _=>?_
 have h1:=hs γ w _ (hi (y,a) (by simp));have h2:=zdB (hi (z,.lf (.int k i)) (by simp));simp only at h1 h2;obtain ⟨b,off,cs,c,hv,hF,hb,hA,hc⟩:=zKX h1 hx;obtain ⟨i0,i1,_⟩:=zsC hx;exact ⟨_,w,γ,by simp [execOp,ho,hv,h2,zuX hT w b off _ c k i i0 i1],Tr.refl _ _ _ _,⟨b,off+i.toNat*r.size,cs,rfl,hF,hb,hA,hc⟩,fun b hb=>by cases hb⟩
theorem zEF {P:Program} {o:Oper} {α:Type} {r:Rp α} {D:List Nat} {x:α} {t:TypeId} {y:Operand}
  (ho:o.op= .load t y) (hT:AggT P t r.size):zz P o [(y,.ep r D x 0)] [] [] [] (.rc r D x) []:=by
 refine zJ fun γ ev w hi _=>?_
 obtain ⟨b,off,cs,hv,hF,hb,hA,hc⟩:=hi (y,.ep r D x 0) (by simp);simp only at hv;have hl:=zgJ hT (w:=w) (b:=b) (o:=off) (cs:=cs) (by rw [<-hA.1];exact r.len x) hc;exact ⟨_,w,γ,by simp [execOp,ho,hv,Instr.loadAt,Instr.sureAddr,hl],Tr.refl _ _ _ _,⟨cs,rfl,hA⟩,fun b hb=>by cases hb⟩
theorem zNv {P:Program} {o:Oper} {α β:Type} {r:Rp α} {D:List Nat} {x:α} {t:TypeId} {y:Operand} {off:Nat} (r':Rp β) (xs:List β)
  (ho:o.op= .load t y) (hT:zee P t=true) (hs:(r.lv x)[off]? =some (.sl xs.length r'.size (xs.flatMap r'.lv))):zz P o [(y,.ep r D x off)] [] [] [] (.sl r' D xs) []:=by
 refine zJ fun γ ev w hi _=>?_
 obtain ⟨b,o',cs,hv,hF,hb,hA,hc⟩:=hi (y,.ep r D x off) (by simp);simp only at hv;have wY:off<cs.length:=by rw [<-hA.1];exact (yx.1 hs).1
 have hr:=hA.2 off _ _ hs (xM wY);have hcell:=hc off wY;rw [xM wY] at hcell;exact ⟨_,w,γ,by simp [execOp,ho,hv,zlF hT hcell],Tr.refl _ _ _ _,hr,fun b hb=>by cases hb⟩
theorem zpn {α:Type} {xs ys:List α} {i j:Int} (h:cut xs i j=some ys):0<=i/\i<=j/\j<=xs.length/\ys=(xs.drop i.toNat).take (j.toNat - i.toNat):=by
 unfold cut at h
 grind
theorem zAp {α:Type} {xs ys:List α} {i j:Int} (h:cut xs i j=some ys):ys.length=j.toNat - i.toNat:=by
 obtain ⟨h0,h1,h2,rfl⟩:=zpn h;simp;omega
theorem zcD (w:World) (k:IntKind) (i:Int) (y:Nat) (code:BoundsCode) (h0:0<=i) (h1:i<=y):(Instr.sliceBound (.int k i) y code).run P w= .ok i.toNat w:=by
 simp [Instr.sliceBound,asIntOf,h0,h1]
def loOf:Option AV->Option Int
 | none=>some 0
 | some (.lf (.int _ i))=>some i
 | _=>none
def hiOf (n:Int):Option AV->Option Int
 | none=>some n
 | some (.lf (.int _ i))=>some i
 | _=>none
def zGt:Option Operand->Option AV->List (Operand×AV)
 | some x,some a=>[(x,a)]
 | _,_=>[]
theorem zBg {P:Program} {t e:TypeId} {size bytes:Nat} (hT:ElT P t e size bytes) (w:World) (A:Option Addr) (n c:Nat) (hc:n<=c) (lo hi:Option Value) (i j:Int)
  (hlo:(lo=none/\i=0)\/∃k,lo=some (.int k i)) (hhi:(hi=none/\j=n)\/∃k,hi=some (.int k j)) (h0:0<=i) (h1:i<=j) (h2:j<=n):
  (Instr.sliceAt t (.slice A n c) lo hi none).run P w= .ok (.slice (if c=i.toNat then A else A.map (·.add (i.toNat*size))) (j.toNat - i.toNat) (c - i.toNat)) w:=by
 have key:(Instr.sliceBounds true n c lo hi none).run P w= .ok (i.toNat,j.toNat,c) w:=by
  rcases hlo with ⟨rfl,rfl⟩| ⟨k,rfl⟩<;>rcases hhi with ⟨rfl,rfl⟩| ⟨k',rfl⟩
  ·rfl
  ·simp [Instr.sliceBounds,zcD w k' j c _ (by omega) (by omega)]
  ·simp [Instr.sliceBounds,zcD w k i n _ h0 h1]
  ·have:=zcD (P:=P) w k i j.toNat .sliceB h0 (by omega);simp [Instr.sliceBounds,zcD w k' j c _ (by omega) (by omega),this]
 simp [Instr.sliceAt,Instr.slice,run_underlying hT.u,key,hT.size]
theorem zFH {γ:Gh} {w:World} {α:Type} {r:Rp α} {xs ys:List α} {D:List Nat} {A:Option Addr} {c:Nat} (h:zat (γ.F D) w (.sl xs.length r.size (xs.flatMap r.lv)) (.slice A xs.length c)) {i j:Int} (hy:cut xs i j=some ys):
  zat (γ.F D) w (.sl ys.length r.size (ys.flatMap r.lv)) (.slice (if c=i.toNat then A else A.map (·.add (i.toNat*r.size))) (j.toNat - i.toNat) (c - i.toNat)):=by
 obtain ⟨A',c',cs,hv,hc,hm,hA,hcs,hcell⟩:=zmw h;injection hv with e1 _ e3;subst e1 e3;obtain ⟨h0,h1,h2,e⟩:=zpn hy;have hl:=zAp hy;rw [hl];have hf:ys.flatMap r.lv=((xs.flatMap r.lv).drop (i.toNat*r.size)).take ((j.toNat - i.toNat)*r.size):=by rw [e,r.flat_take,r.flat_drop]
 have hA':=(hA.drop (i.toNat*r.size)).take ((j.toNat - i.toNat)*r.size);rw [<-hf] at hA';have wY:(ys.flatMap r.lv).length=(j.toNat - i.toNat)*r.size:=by rw [r.flat,hl]
 refine .sl _ _ _ _ _ _ wY (by rw [<-hA'.1,wY]) (by omega) (by omega) (fun hn=>?_) hA'.2;have hpos:0<xs.length:=by omega
 have kl:¬c=i.toNat:=by omega
 obtain ⟨b,off,rfl,hF,hb,hcell⟩:=hcell hpos;rw [xp kl];refine ⟨b,off+i.toNat*r.size,by simp [zfw],hF,hb,fun k hk=>?_⟩;have hle:j.toNat*r.size<=xs.length*r.size:=yC _ (by omega);have hji:(j.toNat - i.toNat)*r.size=j.toNat*r.size - i.toNat*r.size:=Nat.sub_mul ..;have hij:i.toNat*r.size<=j.toNat*r.size:=yC _ (by omega);rw [yP,xq hk,qu,qR];exact hcell _ (by omega)
theorem zgf {P:Program} {o:Oper} {α:Type} {r:Rp α} {xs ys:List α} {D:List Nat} {a:AV} {i j:Int} {t e:TypeId} {x:Operand} {lo hi:Option Operand} (lov hiv:Option AV) {bytes:Nat}
  (ho:o.op= .slice t x lo hi none) (hT:ElT P t e r.size bytes) (hs:isSl r xs D a) (hlo:lo.isSome=lov.isSome/\loOf lov=some i) (hhi:hi.isSome=hiv.isSome/\hiOf xs.length hiv=some j) (hy:cut xs i j=some ys):
  zz P o ((x,a)::(zGt lo lov++zGt hi hiv)) [] [] [] (.sl r D ys) []:=by
 refine zJ fun γ ev w hin _=>?_
 have h1:=hs γ w _ (hin (x,a) (by simp));simp only at h1;obtain ⟨A,c,cs,hv,hc,hm,_⟩:=zmw h1;obtain ⟨c0,c1,c2,_⟩:=zpn hy;have hlo':(lo.map ev=none/\i=0)\/∃k,lo.map ev=some (.int k i):=by
  cases lo with
  | none=>
   cases lov with
   | none=>left;exact ⟨rfl,by simpa [loOf] using hlo.2.symm⟩
   | some a=>simp at hlo
  | some y=>
   cases lov with
   | none=>simp at hlo
   | some b=>
    have hb:=hin (y,b) (by simp [zGt]);have h2:=hlo.2;unfold loOf at h2;split at h2
    ·grind
    ·rename_i k i' heq;cases heq;cases h2;right;exact ⟨k,by simp [zdB hb]⟩
    ·cases h2
 have hhi':(hi.map ev=none/\j=(xs.length:Int))\/∃k,hi.map ev=some (.int k j):=by
  cases hi with
  | none=>
   cases hiv with
   | none=>left;exact ⟨rfl,by simpa [hiOf] using hhi.2.symm⟩
   | some a=>simp at hhi
  | some y=>
   cases hiv with
   | none=>simp at hhi
   | some b=>
    have hb:=hin (y,b) (by simp [zGt]);have h2:=hhi.2;unfold hiOf at h2;split at h2
    ·grind
    ·rename_i k i' heq;cases heq;cases h2;right;exact ⟨k,by simp [zdB hb]⟩
    ·cases h2
 rw [hv] at h1;exact ⟨_,w,γ,by simp [execOp,ho,hv,zBg hT w A _ c hc _ _ i j hlo' hhi' c0 c1 c2],Tr.refl _ _ _ _,zFH h1 hy,fun b hb=>by cases hb⟩
def Rp.Plain {α:Type} (r:Rp α):Prop:=∀x l,l∈r.lv x->l.plain=true
theorem zT.plain (h:zT F w ls cs) (hp:∀l∈ls,l.plain=true):zT G w' ls cs:=
 ⟨h.1,fun i l u h1 h2=>(h.2 i l u h1 h2).plain (hp l (qN h1))⟩
theorem Rp.Plain.flat {α:Type} {r:Rp α} (h:r.Plain) (xs:List α):∀l∈xs.flatMap r.lv,l.plain=true:=by
 intro l hl;obtain ⟨x,_,hx⟩:=qh.1 hl;exact h x l hx
def zIV {α:Type} (r:Rp α) (e:TypeId) (ℓ:Nat) (C:List Nat) (xs:List α) (a:AV):Prop:=∀γ w v,a.rel γ w v->AV.rel γ w (.own r e ℓ C xs) v
theorem zqC {α:Type} (r:Rp α) (e:TypeId) (ℓ:Nat) (C:List Nat) (xs:List α):zIV r e ℓ C xs (.own r e ℓ C xs):=fun _ _ _ h=>h
theorem zzf {α:Type} (r:Rp α) (e:TypeId) (ℓ:Nat) (C:List Nat) (h:memN ℓ C=false):zIV r e ℓ C [] (.lf (.val (.slice none 0 0))):=fun γ w v hv=>by
 rw [zpJ hv];refine ⟨[],pD w 0 e r.size,?_,zT.nil,fun hc=>by rw [zab.2 hc] at h;cases h⟩;intro g hg;cases hg
theorem zwS {α:Type} (r:Rp α) (e:TypeId) (ℓ:Nat) (C:List Nat) (h:memN ℓ C=false):AV.le (.lf (.val (.slice none 0 0))) (.own r e ℓ C []):=zzf r e ℓ C h
theorem zin {α:Type} (r:Rp α) (C:List Nat):AV.le (.lf (.val (.slice none 0 0))) (.sl r C []):=zCo r C
theorem zOu {α:Type} (r:Rp α) (C C':List Nat) (xs:List α) (h:subN C C'=true):AV.le (.sl r C xs) (.sl r C' xs):=fun _ _ _ hv=>zat.mono hv fun _ _ hb=>zZ h _ hb
def LIM:Nat:=140737488355328
def app {α:Type} (bytes:Nat) (xs ys:List α):Option (List α):=if (xs.length+ys.length)*bytes<=LIM then some (xs++ys) else none
theorem zBG {α:Type} {bytes:Nat} {xs ys zs:List α} (h:app bytes xs ys=some zs):(xs.length+ys.length)*bytes<=140737488355328/\zs=xs++ys:=by
 unfold app at h;split at h
 ·rename_i hl;cases h;exact ⟨hl,rfl⟩
 ·cases h
def zdi (γ:Gh) (n ℓ g:Nat):Gh:=⟨fun b=>if b<n then γ.col b else ℓ,fun k=>if k=ℓ then g else γ.box k⟩
theorem zrX {P:Program} {t e:TypeId} {size bytes:Nat} (hT:ElT P t e size bytes) (ty:TypeId) (w:World) (base:Nat) (v:Value) (n:Nat) (xs:List Value) (kq:w.ownsRow base e size v n xs) (c:Nat):
  (Builtin.append_ #[t,t] ty #[v,.slice none 0 c]).run P w= .ok v w:=by
 obtain ⟨i,z,hi,hz,hs,hb,hzs⟩:=hT.ex;rcases kq.2 with ⟨rfl,rfl⟩| ⟨g,w9,kj,rfl,_,_,hnc,_⟩
 ·simp [Builtin.append_,run_underlying hT.u,sizeOf,typeInfo,hi,Builtin.lenOf,Builtin.firstCells]
 ·simp [Builtin.append_,run_underlying hT.u,sizeOf,typeInfo,hi,Builtin.lenOf,Builtin.firstCells,hnc,storeCells]
theorem zvT {P:Program} {t e:TypeId} {size bytes:Nat} (hT:ElT P t e size bytes) (hpos:0<size) (hbp:0<bytes) (ty:TypeId) (w:World) (v:Value) (n:Nat) (xs:List Value) (kq:w.ownsRow 0 e size v n xs)
  (A:Option Addr) (m c:Nat) (news:List Value) (hl:news.length=m*size) (hA:0<m->∃b off,A=some ⟨b,off,none⟩/\∀i,i<m*size->w.cell? ⟨b,off+i,none⟩=news[i]?) (h1:∀u∈news,u.oneCell'=true)
  (hlim:(n+m)*bytes<=140737488355328):
  ∃v' w',(Builtin.append_ #[t,t] ty #[v,.slice A m c]).run P w= .ok v' w'/\w'.ownsRow 0 e size v' (n+m) (xs++news)/\w.grownBy w' v.ownBlock/\(v'.ownBlock=v.ownBlock\/v'.ownBlock=some w.heap.size):=by
 obtain ⟨i,z,hi,hz,hs,hb,hzs⟩:=hT.ex;have hnm:n+m<=maxLen:=by
  have:(n+m)*1<=(n+m)*bytes:=ud _ hbp;unfold maxLen;omega
 rcases A with _| ad
 ·have hm:m=0:=by
   grind
  subst hm;have hn:news=[]:=yA (by simpa using hl);subst hn;exact ⟨v,w,zrX hT ty w 0 v n xs kq c,by simpa using kq,⟨rfl,rfl,rfl,xw _,fun _ _ _=>rfl⟩,.inl rfl⟩
 ·have hnews:∀j u,news[j]? =some u->w.cell? (ad.add j)=some u:=by
   intro j u hu;have hj:j<m*size:=by rw [<-hl];exact (yx.1 hu).1
   have hm:0<m:=by
    grind
   obtain ⟨b,off,h,hc⟩:=hA hm;cases h;rw [zfw,hc j hj];exact hu
  obtain ⟨v',w',hr,ho,hg,_,hbk⟩:=run_append_own_at (P:=P) w 0 t ty e i z size bytes hT.u hi hz hs hb hzs hpos v n xs kq ad m c news hl hnews h1 hnm hlim (xC _)
  grind
theorem zKz {γ:Gh} {w w':World} {e:TypeId} {size n:Nat} {ℓ:Nat} {v v':Value} {cs:List Value} (ho:w.ownsRow 0 e size v n cs) (hg:∀g,v.ownBlock=some g->γ.col g=ℓ/\γ.box ℓ=g) (hgr:w.grownBy w' v.ownBlock)
  (hbk:v'.ownBlock=v.ownBlock\/v'.ownBlock=some w.heap.size):
  ∃γ',Tr [ℓ] [ℓ] γ w γ' w'/\(∀g,v'.ownBlock=some g->γ'.col g=ℓ/\γ'.box ℓ=g):=by
 refine ⟨zdi γ w.heap.size ℓ (v'.ownBlock.getD (γ.box ℓ)),⟨hgr.os,hgr.tape,hgr.output,hgr.size,fun b hb hn=>hgr.block b hb fun e=>?_,fun b hb=>?_,fun k hk=>?_,fun b hb _ h=> .inr (by simp [zdi,Nat.not_lt.2 hb] at h;simp [h])⟩,fun g kd=>⟨?_,?_⟩⟩
 ·grind
 ·simp [zdi,hb]
 ·simp only [xx,xJ,xK] at hk;simp [zdi,hk]
 ·rcases hbk with h| h
  ·rw [h] at kd;have:=(ho.lt g kd).2;simp [zdi,this,(hg g kd).1]
  ·rw [h] at kd;cases kd;simp [zdi]
 ·simp [zdi,kd]
theorem zAG {P:Program} {o:Oper} {α:Type} {r:Rp α} {xs ys zs:List α} {C D:List Nat} {a b:AV} {t e:TypeId} {x y:Operand} {bytes:Nat} (ℓ:Nat) (C2:List Nat)
  (ho:o.op= .call ⟨.builtin .append,#[x,y],#[t,t]⟩) (hT:ElT P t e r.size bytes) (hb:Nat.blt 0 bytes=true) (hx:zIV r e ℓ C xs a) (hy:isSl r ys D b) (hz:app bytes xs ys=some zs)
  (hC:r.Plain\/(subN C C2&&subN D C2)=true) (hℓ:memN ℓ C2=false):zz P o [(x,a),(y,b)] [] [ℓ] [ℓ] (.own r e ℓ C2 zs) []:=by
 refine zJ fun γ ev w hi _=>?_
 obtain ⟨cs,kq,hg,hA,hnot⟩:=hx γ w _ (hi (x,a) (by simp));have h2:=hy γ w _ (hi (y,b) (by simp));simp only at kq hg h2;obtain ⟨A,c,cs',hv,hc,hm,hA',hcs',hcell⟩:=zmw h2;obtain ⟨hlim,rfl⟩:=zBG hz
 obtain ⟨v',w',hr,ho',hgr,hbk⟩:=zvT hT r.pos (qC (xN hb)) o.type w _ _ _ kq A ys.length c cs' hcs'
  (fun hm=>by obtain ⟨b,off,e,_,_,hc⟩:=hcell hm;exact ⟨b,off,e,hc⟩) hA'.one hlim
 obtain ⟨γ',ht,hg'⟩:=zKz kq hg hgr hbk;refine ⟨v',w',γ',?_,ht,⟨cs++cs',by rw [xy];exact ho',hg',?_,fun hc=>by rw [zab.2 hc] at hℓ;cases hℓ⟩,fun b hb=>by cases hb⟩
 ·refine zaS (args:=[x,y]) (ts:=[t,t]) ho rfl rfl rfl fun consts=>?_
  simp [builtin,hv,hr]
 ·rw [yE];rcases hC with hp| hC
  ·exact (hA.plain (hp.flat xs)).append (hA'.plain (hp.flat ys))
  ·simp only [xu] at hC;have hn2:∀c∈C2,c∉[ℓ]:=fun c hc h=>by
    simp only [xx,xJ,xK] at h;subst h;rw [zab.2 hc] at hℓ;cases hℓ
   have k1:=ht.all (C:=C2) hn2 (hA.mono fun b _ hb=>zZ hC.1 _ hb);have k2:=ht.all (C:=C2) hn2 (hA'.mono fun b _ hb=>zZ hC.2 _ hb);exact k1.append k2
def zok:LV->Value->Bool
 | .int k n,.int k' n'=>zsF k k'&&decide (n=n')
 | .bool b,.bool b'=>(b&&b')|| (!b&& !b')
 | .str l,.string s=>l.isEmpty&&Nat.beq s.data.toList.length 0
 | .sl n _ ls,.slice none 0 0=>Nat.beq n 0&&ls.isEmpty
 | .val (.slice none 0 0),.slice none 0 0=>true
 | .val (.pointer none),.pointer none=>true
 | .val (.map none),.map none=>true
 | .val .nilFunc,.nilFunc=>true
 | .val .nilIface,.nilIface=>true
 | _,_=>false
theorem zGY (h:zok l v=true) (F:Fp) (w:World):zat F w l v:=by
 unfold zok at h;split at h
 ·simp only [xu,xP] at h;have:=zsG h.1;rw [this,h.2];exact .int _ _
 ·rename_i b b';cases b<;>cases b'<;>first| exact .bool _| cases h
 ·rename_i l s;simp only [xu,pg] at h;obtain ⟨rfl,h2⟩:=h;have h3:s.data.toList=[]:=yA (xE h2);have:s=⟨([]:List UInt8).toArray⟩:=by
   obtain ⟨d⟩:=s
   grind
  rw [this];exact .str []
 ·simp only [xu,pg] at h;obtain ⟨h1,rfl⟩:=h;have:=xE h1;subst this;exact .sl 0 _ [] none 0 [] (by simp) (by simp) (xw _) (xC _) (fun h=>absurd h (by omega)) (fun i l u h=>by simp at h)
 ·exact .val _ rfl
 ·exact .val _ rfl
 ·exact .val _ rfl
 ·exact .val _ rfl
 ·exact .val _ rfl
 ·cases h
def zokL:List LV->List Value->Bool
 | [],[]=>true
 | l::ls,v::vs=>zok l v&&zokL ls vs
 | _,_=>false
theorem zym (h:zokL ls vs=true) (F:Fp) (w:World):zT F w ls vs:=by
 induction ls generalizing vs with
 | nil=>cases vs<;>first| exact .nil| cases h
 | cons l ls ih=>
  cases vs with
  | nil=>cases h
  | cons v vs=>
   simp only [zokL,xu] at h;exact .cons (zGY h.1 F w) (ih h.2)
structure ZeT (P:Program) {α:Type} (t e:TypeId) (r:Rp α) (bytes:Nat) (x0:α):Prop where
 u:P.underlying t=some (.slice e)
 ex:∃i z,P.info? e=some i/\i.zero=some z/\i.size=r.size/\i.bytes=bytes/\z.cells.size=r.size/\zokL (r.lv x0) z.cells.toList=true
theorem ZeT.el {P:Program} {α:Type} {t e:TypeId} {r:Rp α} {bytes:Nat} {x0:α} (h:ZeT P t e r bytes x0):ElT P t e r.size bytes:=by
 obtain ⟨i,z,h1,h2,h3,h4,h5,_⟩:=h.ex;exact ⟨h.u,i,z,h1,h2,h3,h4,h5⟩
def zeB (P:Program) {α:Type} (e:TypeId) (r:Rp α) (bytes:Nat) (x0:α):Bool:=match P.info? e with
 | some i=>match i.zero with
  | some z=>Nat.beq i.size r.size&&Nat.beq i.bytes bytes&&Nat.beq z.cells.size r.size&&zokL (r.lv x0) z.cells.toList
  | none=>false
 | none=>false
theorem ZeT.ofB {P:Program} {α:Type} {t e:TypeId} {r:Rp α} {bytes:Nat} {x0:α} (hu:P.underlying t=some (.slice e)) (h:zeB P e r bytes x0=true):ZeT P t e r bytes x0:=by
 unfold zeB at h;split at h
 ·rename_i i hi;split at h
  ·rename_i z hz;simp only [xu] at h;exact ⟨hu,i,z,hi,hz,xE h.1.1.1,xE h.1.1.2,xE h.1.2,h.2⟩
  ·cases h
 ·cases h
theorem zLW {β:Type} (l:List β) (n i:Nat) (h:i<n*l.length):((List.replicate n l).flatten)[i]? =l[i%l.length]? :=by
 induction n generalizing i with
 | zero=>omega
 | succ n ih=>
  rw [List.replicate_succ,qi,pA];split
  ·rename_i hi;rw [qj hi]
  ·rename_i hi;rw [qz] at h;rw [ih _ (by omega)];congr 1;rw [<-Nat.mod_eq_sub_mod (by omega)]
theorem zwY {α:Type} {r:Rp α} {x0:α} {z:Value} (hs:z.cells.size=r.size) (hz:zokL (r.lv x0) z.cells.toList=true) (F:Fp) (w:World) (n m:Nat) (hnm:n<=m):
  zT F w ((List.replicate n x0).flatMap r.lv) ((madeCells z.cells (m*r.size)).toList.take (n*r.size)):=by
 have hr:=zym hz F w;have hl:(madeCells z.cells (m*r.size)).toList.length=m*r.size:=by rw [yD,ph]
 have hle:n*r.size<=m*r.size:=yC _ hnm;refine ⟨by rw [r.flat,pE,xO,hl];omega,fun i l u h1 h2=>?_⟩;have hi:i<n*r.size:=by have:=(yx.1 h1).1;rw [r.flat,pE] at this;exact this
 have e1:(List.replicate n x0).flatMap r.lv=(List.replicate n (r.lv x0)).flatten:=by rw [List.flatMap_def,List.map_replicate]
 rw [e1,zLW _ _ _ (by rw [r.len];exact hi),r.len] at h1;rw [yP,xq hi] at h2;have hmod:i%r.size<z.cells.size:=by rw [hs];exact Nat.mod_lt _ r.pos
 have e2:(madeCells z.cells (m*r.size)).toList[i]? =z.cells.toList[i%r.size]? :=by
  have him:i<m*r.size:=by omega
  simp only [madeCells,Array.toList_map,Array.toList_range,qD,List.getElem?_range him,qU,hs]
  grind
 rw [e2] at h2;exact hr.2 _ l u h1 h2
def mkO {α:Type} (bytes:Nat) (x0:α) (n m:Int):Option (List α):=if 0<=n/\n<=m/\m*bytes<=LIM then some (List.replicate n.toNat x0) else none
theorem zGh {P:Program} {o:Oper} {α:Type} {r:Rp α} {t e:TypeId} {x y:Operand} {bytes:Nat} {x0:α} {k k':IntKind} {n m:Int} {xs:List α} (ℓ:Nat)
  (ho:o.op= .makeSlice t x y) (hT:ZeT P t e r bytes x0) (hb:Nat.blt 0 bytes=true) (hm:mkO bytes x0 n m=some xs):zz P o [(x,.lf (.int k n)),(y,.lf (.int k' m))] [] [] [ℓ] (.own r e ℓ [] xs) []:=by
 refine zJ fun γ ev w hi _=>?_
 have h1:=zdB (hi (x,.lf (.int k n)) (by simp));have h2:=zdB (hi (y,.lf (.int k' m)) (by simp));simp only at h1 h2;unfold mkO at hm;split at hm
 case isFalse=>cases hm
 rename_i hh;obtain ⟨h0,hnm,hlim⟩:=hh;cases hm;obtain ⟨i,z,hi',hz,hs,hby,hzs,hzo⟩:=hT.ex;have hbp:0<bytes:=qC (xN hb);have hmb:m<=m*bytes:=by
  have:m*1<=m*(bytes:Int):=Int.mul_le_mul_of_nonneg_left (by omega) (by omega);omega
 have hL:(LIM:Int)=140737488355328:=rfl;have hr:=run_make (P:=P) w t e i z hT.u hi' hz k k' n m h0 hnm (by rw [hby,Int.mul_comm];omega) (by omega);rw [hs] at hr;have hnew:=yV w (.cells (madeCells z.cells (m.toNat*r.size)) e)
 refine ⟨.slice (some ⟨w.heap.size,0,none⟩) n.toNat m.toNat,w.alloc (.cells (madeCells z.cells (m.toNat*r.size)) e),zdi γ w.heap.size ℓ w.heap.size,by simp [execOp,ho,h1,h2,hr],⟨rfl,rfl,rfl,by simp,fun b hb _=>Below.heap_alloc w _ b hb,fun b hb=>by simp [zdi,hb],fun k hk=>?_,fun b hb _ h=> .inr (by simp [zdi,Nat.not_lt.2 hb] at h;simp [h])⟩,
  ⟨(madeCells z.cells (m.toNat*r.size)).toList.take (n.toNat*r.size),?_,fun g hg=>?_,?_,by simp⟩,fun b hb=>by cases hb⟩
 ·simp only [xx,xJ,xK] at hk;simp [zdi,hk]
 ·rw [pE];have hle:n.toNat*r.size<=m.toNat*r.size:=yC _ (by omega);have hml:m.toNat<=maxLen:=by unfold maxLen;omega
  refine ⟨by rw [xO,yD,ph];omega,.inr ⟨w.heap.size,m.toNat,_,rfl,xC _,hnew,by omega,hml,by rw [ph],rfl⟩⟩
 ·cases hg;simp [zdi]
 ·exact zwY hzs hzo _ _ _ _ (by omega)
def ztj {β:Type} (cs:List β) (off:Nat) (vs:List β):List β:=cs.take off++vs++cs.drop (off+vs.length)
theorem zwF (off:Nat):∀(vs:List Value) (k:Nat) (cs:Array Value),off+k+vs.length<=cs.size->
  ((vs.zipIdx k).foldl (fun (cs:Array Value) (p:Value×Nat)=>cs.setIfInBounds (off+p.2) p.1) cs).toList=cs.toList.take (off+k)++vs++cs.toList.drop (off+k+vs.length)
 | [],k,cs,_=>by simp
 | v::vs,k,cs,h=>by
  simp only [ye] at h;rw [List.zipIdx_cons,yc,zwF off vs (k+1) _ (by simp;omega)];have:=list_seg_step cs.toList (off+k) v vs (by simp;omega)
  grind
def zpZ:AV->Option (List LV)
 | .rc r _ x=>some (r.lv x)
 | .ag l=>zfW l
 | a=>match a.toLV with
  | some l=>some [l]
  | none=>none
theorem zrU (h:zpZ a=some ls) (hr:a.rel γ w v) (hC:subN a.cols C=true):zT (γ.F C) w ls v.cells.toList:=by
 have leaf:∀l,a.toLV=some l->zT (γ.F C) w [l] v.cells.toList:=fun l hl=>by
  have h1:=zDC hl hr (zZ hC);have:v.cells=#[v]:=by
   have h1c:=h1.one;cases v<;>first| rfl| cases h1c
  rw [this];exact .cons h1 .nil
 cases a with
 | rc r C' x=>
  cases h;obtain ⟨cs,rfl,hA⟩:=hr;exact hA.mono fun b _ hb=>zZ hC _ hb
 | ag l=>
  obtain ⟨vs,rfl,hL,_⟩:=hr;exact zlc h hL (zZ hC)
 | any=>cases h
 | lf l=>cases h;exact leaf _ rfl
 | sl=>cases h;exact leaf _ rfl
 | own=>cases h;exact leaf _ rfl
 | ep=>cases h
 | ptr=>cases h
 | bs=>cases h
 | tl=>cases h
 | qp=>cases h
 | em=>cases h
 | mo=>cases h
 | cu=>cases h
 | mp=>cases h
 | om=>cases h
 | tup=>cases h
 | fv=>cases h
 | bp=>cases h
 | it=>cases h
def zyU (place:Nat->Option (Nat×Nat)) (cs:List LV):List (Nat×List LV)->Option (List LV)
 | []=>some cs
 | (i,vs)::wR=>match place i with
  | none=>none
  | some (off,size)=>match Nat.beq vs.length size&&Nat.ble (off+vs.length) cs.length with
   | true=>zyU place (ztj cs off vs) wR
   | false=>none
theorem ztO :∀(ps:List (Nat×List LV)) (vs:List (Nat×Value)) (cs:List LV) (cells:Array Value) (out:List LV),zyU place cs ps=some out->
  zT F w cs cells.toList->ps.length=vs.length->(∀(k:Nat) (p:Nat×List LV) (v:Nat×Value),ps[k]? =some p->vs[k]? =some v->p.1=v.1/\zT F w p.2 v.2.cells.toList)->
  ∃cells',Instr.fill place cells vs=some cells'/\zT F w out cells'.toList
 | [],vs,cs,cells,out,h,hA,hl,_=>by
  cases h;cases vs with
  | nil=>exact ⟨cells,rfl,hA⟩
  | cons=>simp at hl
 | (i,ls)::ps,vs,cs,cells,out,h,hA,hl,hp=>by
  cases vs with
  | nil=>simp at hl
  | cons v vs=>
   obtain ⟨j,v⟩:=v;obtain ⟨hij,hv⟩:=hp 0 (i,ls) (j,v) rfl rfl;simp only at hij hv;subst hij;rw [zyU] at h;split at h
   ·cases h
   ·rename_i off size hpl;split at h
    ·rename_i hb;simp only [xu] at hb;have e1:=xE hb.1;have e2:=xN hb.2;have kg:v.cells.size=ls.length:=by rw [hv.1];simp
     have hcl:cells.size=cs.length:=by rw [hA.1];simp
     have hset:=zwF off v.cells.toList 0 cells (by simp;omega);simp only [yw] at hset;have hA2:zT F w (ztj cs off ls) (v.cells.toList.zipIdx.foldl (fun (cs:Array Value) (p:Value×Nat)=>cs.setIfInBounds (off+p.2) p.1) cells).toList:=by
      rw [hset];unfold ztj;rw [hv.1];exact ((hA.take off).append hv).append (hA.drop _)
     obtain ⟨cells',hf,hr⟩:=ztO ps vs _ _ out h hA2 (by simpa using hl) (fun k p u h1 h2=>hp (k+1) p u h1 h2);refine ⟨cells',?_,hr⟩;rw [Instr.fill,hpl];simp only;rw [xp (by simp;omega)];rw [<-hf];congr 1;rw [<-ue];simp
    ·cases h
def zqK:List (Nat×Operand)->List AV->Option (List (Nat×List LV))
 | [],[]=>some []
 | (i,_)::l,a::as=>match zpZ a,zqK l as with
  | some ls,some r=>some ((i,ls)::r)
  | _,_=>none
 | _,_=>none
theorem zqa {γ:Gh} {w:World} {ev:Operand->Value} {C:List Nat}:∀(l:List (Nat×Operand)) (as:List AV) (ps:List (Nat×List LV)),zqK l as=some ps->(∀p∈(l.map (·.2)).zip as,p.2.rel γ w (ev p.1))->
  subN (AV.colsL as) C=true->ps.length=(l.map fun p=>(p.1,ev p.2)).length/\∀(k:Nat) (p:Nat×List LV) (v:Nat×Value),ps[k]? =some p->(l.map fun p=>(p.1,ev p.2))[k]? =some v->p.1=v.1/\zT (γ.F C) w p.2 v.2.cells.toList
 | [],[],ps,h,_,_=>by cases h;exact ⟨rfl,fun k p v h=>by simp at h⟩
 | (i,x)::l,a::as,ps,h,hr,hC=>by
  rw [zqK] at h;split at h
  ·rename_i ls r h1 h2;cases h;have hC1:subN a.cols C=true:=by
    simp only [subN,xF,AV.colsL] at hC|-
    grind
   have hC2:subN (AV.colsL as) C=true:=by
    simp only [subN,xF,AV.colsL] at hC|-
    grind
   obtain ⟨g1,g2⟩:=zqa l as r h2 (fun p hp=>hr p (by simp [hp])) hC2;refine ⟨by simp [g1],fun k p v hp hv=>?_⟩;cases k with
   | zero=>
    simp at hp hv;subst hp hv;exact ⟨rfl,zrU h1 (hr (x,a) (by simp)) hC1⟩
   | succ k=>exact g2 k p v (by simpa using hp) (by simpa using hv)
  ·cases h
 | [],_::_,ps,h,_,_=>by cases h
 | _::_,[],ps,h,_,_=>by cases h
def zBY (place:Nat->Option (Nat×Nat)) (zl:List LV) (ku:List (Nat×Operand)) (as:List AV):Option (List LV):=match zqK ku as with
 | some ps=>zyU place zl ps
 | none=>none
theorem zww {ku:List (Nat×Operand)} (h:zBY place zl ku as=some out):∃ps,zqK ku as=some ps/\zyU place zl ps=some out:=by
 unfold zBY at h
 grind
structure StT (P:Program) (t:TypeId) (places:List (Nat×Nat)) (zl:List LV):Prop where
 ex:∃fs z,P.underlying t=some (.struct fs)/\(∀w,(zeroValue t).run P w= .ok z w)/\(∀w,(fs.mapM (m:=Sem) fun (f:Field)=>do pure (f.offset,<-sizeOf f.type)).run P w= .ok places.toArray w)/\zokL zl z.cells.toList=true
theorem zL {P:Program} {o:Oper} {α:Type} {r:Rp α} {t:TypeId} {ku:List (Nat×Operand)} {places:List (Nat×Nat)} {zl:List LV} (as:List AV) (C:List Nat) (x:α)
  (ho:o.op= .build t ku.toArray) (hT:StT P t places zl) (hC:subN (AV.colsL as) C=true) (hf:zBY (fun i=>places[i]?) zl ku as=some (r.lv x)):
  zz P o ((ku.map (·.2)).zip as) [] [] [] (.rc r C x) []:=by
 refine zJ fun γ ev w hi _=>?_
 obtain ⟨ps,hp,hf⟩:=zww hf;obtain ⟨fs,z,hu,hz,hpl,hzo⟩:=hT.ex;obtain ⟨g1,g2⟩:=zqa ku as ps hp hi hC;obtain ⟨cells',hfill,hA⟩:=ztO ps _ zl z.cells _ hf (zym hzo _ w) g1 g2;have hfill':Instr.fill (fun i=>places.toArray[i]?) z.cells (ku.map fun p=>(p.1,ev p.2))=some cells':=by
  simp_all
 refine ⟨.agg cells',w,γ,?_,Tr.refl _ _ _ _,⟨cells'.toList,by simp,hA⟩,fun b hb=>by cases hb⟩;simp only [execOp,ho,Instr.build,xS,hz,yR hu,xV,hpl,pB];have e:(List.map (fun (x:Nat×Operand)=>(x.1,ev x.2)) ku)=ku.map fun p=>(p.1,ev p.2):=rfl
 simp only [hfill',yp,xV]
theorem zJS {α:Type} {r:Rp α} {x0:α} {z:Value} (hs:z.cells.size=r.size) (hz:zokL (r.lv x0) z.cells.toList=true) (F:Fp) (w:World) (n:Nat):
  zT F w ((List.replicate n x0).flatMap r.lv) (madeCells z.cells (n*r.size)).toList:=by
 have:=zwY hs hz F w n n (xw _)
 rwa [yM (by rw [yD,ph];exact xw _)] at this
theorem zfR {P:Program} {o:Oper} {α:Type} {r:Rp α} {t e:TypeId} {n:Nat} {ku:List (Nat×Operand)} {bytes:Nat} {x0:α} (as:List AV) (ℓ:Nat) (C:List Nat) (xs:List α)
  (ho:o.op= .buildSlice t n ku.toArray) (hT:ZeT P t e r bytes x0) (hn:(Nat.beq n xs.length&&Nat.ble (n*r.size) 16777216)=true) (hC:subN (AV.colsL as) C=true) (hℓ:memN ℓ C=false)
  (hf:zBY (fun i=>some (i*r.size,r.size)) ((List.replicate n x0).flatMap r.lv) ku as=some (xs.flatMap r.lv)):zz P o ((ku.map (·.2)).zip as) [] [] [ℓ] (.own r e ℓ C xs) []:=by
 refine zJ fun γ ev w hi _=>?_
 obtain ⟨ps,hp,hf⟩:=zww hf;obtain ⟨i,z,hi',hz,hs,hby,hzs,hzo⟩:=hT.ex;simp only [xu] at hn;have e1:=xE hn.1;have e2:=xN hn.2;obtain ⟨g1,g2⟩:=zqa ku as ps hp hi hC;obtain ⟨cells',hfill,hA⟩:=ztO ps _ _ (madeCells z.cells (n*r.size)) _ hf (zJS hzs hzo _ w n) g1 g2;have kg:(sizeOf e).run P w= .ok r.size w:=hT.el.size w;have hcs:cells'.size=n*r.size:=by rw [<-yD,<-hA.1,r.flat,e1]
 have hzero:(zeroValue e).run P w= .ok z w:=by simp [zeroValue,typeInfo,hi',hz]
 have ht:Tr [] [ℓ] γ w (zdi γ w.heap.size ℓ w.heap.size) (w.alloc (.cells cells' e)):=⟨rfl,rfl,rfl,by simp,fun b hb _=>Below.heap_alloc w _ b hb,fun b hb=>by simp [zdi,hb],fun k hk=>by
  simp only [xx,xJ,xK] at hk;simp [zdi,hk],fun b hb _ h=> .inr (by simp [zdi,Nat.not_lt.2 hb] at h;simp [h])⟩
 refine ⟨.slice (some ⟨w.heap.size,0,none⟩) n n,w.alloc (.cells cells' e),_,?_,ht,
  ⟨cells'.toList,?_,fun g hg=>?_,?_,fun hc=>by rw [zab.2 hc] at hℓ;cases hℓ⟩,fun b hb=>by cases hb⟩
 ·have hgt:¬(n*r.size>2^24):=by omega
  simp only [execOp,ho,Instr.buildSlice,xS,yR hT.u,xV,kg,xp hgt,yp,pB];by_cases h0:n*r.size=0
  ·have:n=0:=by rcases Nat.mul_eq_zero.1 h0 with h| h;exact h;exact absurd h (by have:=r.pos;omega)
   have hm0:madeCells z.cells (n*r.size)=#[]:=by rw [h0];simp [madeCells]
   rw [hm0] at hfill;rw [xq h0];have hr0:Array.range 0=#[]:=rfl;simp only [h0,hr0,Array.map_empty,hfill];simp [newRow]
  ·have hm0:madeCells z.cells (n*r.size)=(Array.range (n*r.size)).map (fun x=>z.cells[x%z.cells.size]!):=rfl;rw [hm0] at hfill;simp only [xp h0,xS,hzero,yp,xV,hfill];simp [newRow]
 ·rw [<-e1];refine World.ownsRow_lit w cells' n (xC _) ?_ hcs;have:n*1<=n*r.size:=ud _ r.pos;unfold maxLen;omega
 ·cases hg;simp [zdi]
 ·exact ht.all (fun c _ h=>by cases h) hA
def zokA:AV->Value->Bool
 | .lf l,v=>l.plain&&zok l v
 | .sl _ _ xs,.slice none 0 0=>xs.isEmpty
 | .own _ _ ℓ C xs,.slice none 0 0=>xs.isEmpty&& !memN ℓ C
 | _,_=>false
theorem zKP (h:zokA a v=true) (γ:Gh) (w:World):a.rel γ w v/\v.oneCell'=true:=by
 unfold zokA at h;split at h
 ·simp only [xu] at h;have:=zGY h.2 (fun _=>False) w;exact ⟨⟨h.1,this⟩,this.one⟩
 ·rename_i α r C xs;have hx:xs=[]:=pg.1 h;subst hx;exact ⟨zCo r C γ w _ ⟨rfl,.val _ rfl⟩,rfl⟩
 ·rename_i α r e ℓ C xs;simp only [xu,xU] at h;have hx:xs=[]:=pg.1 h.1;subst hx;exact ⟨zzf r e ℓ C h.2 γ w _ ⟨rfl,.val _ rfl⟩,rfl⟩
 ·cases h
def zzW:List AV->List Value->Bool
 | [],[]=>true
 | a::l,v::vs=>zokA a v&&zzW l vs
 | _,_=>false
theorem zzX (h:zzW l vs=true) (γ:Gh) (w:World):AV.relL γ w l vs/\∀u∈vs,u.oneCell'=true:=by
 induction l generalizing vs with
 | nil=>cases vs<;>first| exact ⟨rfl,fun u hu=>by cases hu⟩| cases h
 | cons a l ih=>
  cases vs with
  | nil=>cases h
  | cons v vs=>
   simp only [zzW,xu] at h;obtain ⟨h1,h2⟩:=zKP h.1 γ w;obtain ⟨h3,h4⟩:=ih h.2;refine ⟨⟨v,vs,rfl,h1,h3⟩,fun u hu=>?_⟩;cases hu with
   | head=>exact h2
   | tail _ hu=>exact h4 u hu
theorem zqo (γ:Gh) (w:World) (ℓ:Nat) (o:Obj):Tr [] [ℓ] γ w (zdi γ w.heap.size ℓ w.heap.size) (w.alloc o):=
 ⟨rfl,rfl,rfl,by simp,fun b hb _=>Below.heap_alloc w _ b hb,fun b hb=>by simp [zdi,hb],fun k hk=>by
  simp only [xx,xJ,xK] at hk;simp [zdi,hk],fun b hb _ h=> .inr (by simp [zdi,Nat.not_lt.2 hb] at h;simp [h])⟩
theorem zer (γ:Gh) (n ℓ g:Nat):(zdi γ n ℓ g).box ℓ=g:=by simp [zdi]
theorem zkR (γ:Gh) (n ℓ g:Nat):(zdi γ n ℓ g).col n=ℓ:=by simp [zdi]
theorem zpK (ℓ:Nat) (as:List AV) (ho:o.op= .alloc t) (hz:∀w,(zeroValue t).run P w= .ok z w) (hs:zzW as z.cells.toList=true):
  zz P o [] [] [] [ℓ] (.ptr ℓ 0) [⟨ℓ,t,as⟩]:=by
 refine zJ fun γ ev w hi _=>?_
 refine ⟨.pointer (some ⟨w.heap.size,0,none⟩),w.alloc (.cells z.cells t),_,?_,zqo γ w ℓ _,?_,fun b hb=>?_⟩
 ·simp [execOp,ho,Instr.alloc,Sem.run_bind,hz,newVar,newRow]
 ·show _=_;rw [zer]
 ·simp only [xx,xJ,xK] at hb;subst hb;have h:=zzX hs (zdi γ w.heap.size ℓ w.heap.size) (w.alloc (.cells z.cells t));refine ⟨by rw [zer,zkR],z.cells.toList,?_,h.1,h.2⟩;rw [zer,qT];exact yV w _
theorem zlu (ℓ:Nat) (as:List AV) (C:List Nat) (ho:o.op= .box t x) (hp:zpZ a=some ls) (hC:subN a.cols C=true) (ha:zfW as=some ls) (hl:as.all (zrs C)=true):
  zz P o [(x,a)] [] [] [ℓ] (.ptr ℓ 0) [⟨ℓ,t,as⟩]:=by
 refine zJ fun γ ev w hi _=>?_
 have hA:=zrU hp (hi (x,a) (by simp)) hC;refine ⟨.pointer (some ⟨w.heap.size,0,none⟩),w.alloc (.cells (ev x).cells t),_,?_,zqo γ w ℓ _,?_,fun b hb=>?_⟩
 ·simp [execOp,ho,Instr.box,newVar,newRow]
 ·show _=_;rw [zer]
 ·simp only [xx,xJ,xK] at hb;subst hb;have hA':=(zqo γ w ℓ (.cells (ev x).cells t)).all (fun c _ h=>by cases h) hA;refine ⟨by rw [zer,zkR],(ev x).cells.toList,?_,zjP ha hA' hl,hA.one⟩;rw [zer,qT];exact yV w _
theorem zAI {P:Program} {o:Oper} {α:Type} {r:Rp α} {t:TypeId} {y:Operand} {b:Bx} {off:Nat} (x:α) (C:List Nat) (ho:o.op= .load t y) (hT:AggT P t r.size) (hs:zfW ((b.avs.drop off).take r.size)=some (r.lv x))
  (hC:subN (AV.colsL ((b.avs.drop off).take r.size)) C=true):zz P o [(y,.ptr b.lab off)] [b] [] [] (.rc r C x) []:=by
 refine zJ fun γ ev w hi hb=>?_
 have h1:ev y=_:=hi (y,.ptr b.lab off) (by simp);obtain ⟨kp,cs,hh,hL,hone⟩:=hb b (by simp);have sub:∀(l:List AV) (vs:List Value) (k:Nat),AV.relL γ w l vs->AV.relL γ w (l.drop k) (vs.drop k):=by
  intro l
  induction l with
  | nil=>intro vs k h;cases h;cases k<;>rfl
  | cons a l ih=>
   intro vs k h;cases k with
   | zero=>exact h
   | succ k=>obtain ⟨v,vs',rfl,h1,h2⟩:=h;exact ih vs' k h2
 have tak:∀(l:List AV) (vs:List Value) (k:Nat),AV.relL γ w l vs->AV.relL γ w (l.take k) (vs.take k):=by
  intro l
  induction l with
  | nil=>intro vs k h;cases h;cases k<;>rfl
  | cons a l ih=>
   intro vs k h;obtain ⟨v,vs',rfl,h1,h2⟩:=h;cases k with
   | zero=>rfl
   | succ k=>exact ⟨v,_,rfl,h1,ih vs' k h2⟩
 have hL':=tak _ _ r.size (sub _ _ off hL);have hA:=zlc hs hL' (zZ hC);have wY:((cs.drop off).take r.size).length=r.size:=by rw [<-hA.1];exact r.len x
 have hl:=zgJ hT (w:=w) (b:=γ.box b.lab) (o:=off) (cs:=(cs.drop off).take r.size) wY fun i hi=>by
  rw [wY] at hi;rw [yX w _ _ _ _ _ hh,yP,xq hi,qu];simp
 exact ⟨_,w,γ,by simp [execOp,ho,h1,Instr.loadAt,Instr.sureAddr,hl],Tr.refl _ _ _ _,⟨_,rfl,hA⟩,fun b hb=>by cases hb⟩
theorem zJT (h:AV.relL γ w l vs) (k:Nat) (ha:a.rel γ w v):AV.relL γ w (l.set k a) (vs.set k v):=by
 induction l generalizing vs k with
 | nil=>cases h;exact rfl
 | cons b l ih=>
  obtain ⟨u,vs',rfl,h1,h2⟩:=h;cases k with
  | zero=>exact ⟨v,vs',rfl,ha,h2⟩
  | succ k=>exact ⟨u,_,rfl,h1,ih h2 k⟩
theorem zBt (kp:γ.col (γ.box ℓ)=ℓ) (cs:Array Value):Tr [ℓ] [] γ w γ (w.setRow (γ.box ℓ) cs):=
 ⟨rfl,rfl,rfl,by simp,fun b hb hn=>qM w _ b cs (fun e=>hn (by rw [e,kp];exact xr)),fun _ _=>rfl,fun _ _=>rfl,fun b h1 h2=>absurd h2 (by simp;omega)⟩
def zoj:AV->Bool
 | .lf _| .sl ..| .own ..| .ptr ..| .bs ..| .qp ..| .ep ..| .em ..| .mp ..| .om ..| .fv ..| .cu ..=>true
 | _=>false
theorem zsI (h:zoj a=true) (hr:a.rel γ w v):v.oneCell'=true/\v.cells=#[v]:=by
 have key:v.oneCell'=true:=by
  cases a with
  | lf l=>exact hr.2.one
  | sl r C xs=>exact zat.one hr
  | own r e ℓ C xs=>exact (zpX hr).one
  | ptr ℓ off=>have:v=_:=hr;rw [this];rfl
  | bs ℓ n=>have:v=_:=hr;rw [this];rfl
  | tl=>cases h
  | qp r C o=>
   cases o with
   | none=>have:v=_:=hr;rw [this];rfl
   | some x=>obtain ⟨b,cs,hv,_⟩:=hr;rw [hv];rfl
  | ep r C x off=>obtain ⟨b,o,cs,hv,_⟩:=hr;rw [hv];rfl
  | em rk rv C m=>obtain ⟨a,b,es,cl,hv,_⟩:=hr;rw [hv];rfl
  | mo=>cases h
  | cu c ℓ C1 C2=>exact c.one hr
  | any=>cases h
  | rc=>cases h
  | mp rk rv C m=>obtain ⟨b,es,cl,hv,_⟩:=hr;rw [hv];rfl
  | om rk rv ℓ C m=>obtain ⟨b,es,cl,hv,_⟩:=hr;rw [hv];rfl
  | tup=>cases h
  | ag=>cases h
  | fv g l=>obtain ⟨vs,hv,_⟩:=hr;rw [hv];rfl
  | bp=>cases h
  | it=>cases h
 refine ⟨key,?_⟩;cases v<;>first| rfl| cases key
theorem zEG (ho:o.op= .store t y z) (kg:∀w,(sizeOf t).run P w= .ok 1 w) (hoff:Nat.blt off b.avs.length=true) (ha:zoj a=true)
  (hf:a.free [b.lab] []=true):zz P o [(y,.ptr b.lab off),(z,a)] [b] [b.lab] [] .any [⟨b.lab,b.typ,(b.avs.map (AV.clear [b.lab] [])).set off a⟩]:=by
 intro γ av w hi hb next Q hk;have h1:av.eval y=_:=hi (y,.ptr b.lab off) (by simp);have h2:=hi (z,a) (by simp);simp only at h2;obtain ⟨hone',hcells⟩:=zsI ha h2;obtain ⟨kp,cs,hh,hL,hone⟩:=hb b (by simp);have hoff':off<cs.length:=by rw [zbn hL];exact qC (xN hoff)
 have hst:=pF P (γ.box b.lab) off b.typ [av.eval z] 0 cs.toArray w hh (by simp;omega) (by simpa using hone');simp only [yw,qk] at hst;have ka:(execOp av.eval o).run P w= .ok .skip (w.setRow (γ.box b.lab) (cs.set off (av.eval z)).toArray):=by
  have e:cs.take off++[av.eval z]++cs.drop (off+1)=cs.set off (av.eval z):=by
   rw [uf,xq hoff',yk];rfl
  rw [e] at hst;simp [execOp,ho,h1,Instr.storeAt,Instr.sureAddr,storeVar,kg,hcells,hst]
 unfold Oper.wp;rw [ka,ug];have ht:=zBt (w:=w) kp (cs.set off (av.eval z)).toArray;obtain ⟨f1,f2⟩:=AV.free_spec hf;refine hk γ _ undef ht trivial fun b' hb'=>?_
 simp only [xx,xJ,xK] at hb';subst hb';refine ⟨kp,cs.set off (av.eval z),qe w _ _ _ _ _ hh,zJT (zlC hL ht) off (a.keep ht f1 f2 h2),fun u hu=>?_⟩;rcases List.mem_or_eq_of_mem_set hu with h| h
 ·exact hone u h
 ·grind
theorem zis (h:AV.relL γ w l vs) (k:AV.relL γ w m us):AV.relL γ w (l++m) (vs++us):=by
 induction l generalizing vs with
 | nil=>cases h;exact k
 | cons a l ih=>obtain ⟨v,vs',rfl,h1,h2⟩:=h;exact ⟨v,_,rfl,h1,ih h2⟩
theorem znC :∀(l:List AV) (vs:List Value) (k:Nat),AV.relL γ w l vs->AV.relL γ w (l.drop k) (vs.drop k)
 | [],vs,k,h=>by cases h;cases k<;>rfl
 | a::l,vs,0,h=>h
 | a::l,vs,k+1,h=>by obtain ⟨v,vs',rfl,h1,h2⟩:=h;exact znC l vs' k h2
theorem znD :∀(l:List AV) (vs:List Value) (k:Nat),AV.relL γ w l vs->AV.relL γ w (l.take k) (vs.take k)
 | [],vs,k,h=>by cases h;cases k<;>rfl
 | a::l,vs,0,h=>rfl
 | a::l,vs,k+1,h=>by obtain ⟨v,vs',rfl,h1,h2⟩:=h;exact ⟨v,_,rfl,h1,znD l vs' k h2⟩
theorem zrP {P:Program} {o:Oper} {α:Type} {r:Rp α} {t:TypeId} {y z:Operand} {b:Bx} {off:Nat} {x:α} {C:List Nat} (as:List AV) (ho:o.op= .store t y z) (kg:∀w,(sizeOf t).run P w= .ok r.size w)
  (hoff:Nat.ble (off+r.size) b.avs.length=true) (hC:memN b.lab C=false) (ha:zfW as=some (r.lv x)) (hl:as.all (zrs C)=true):
  zz P o [(y,.ptr b.lab off),(z,.rc r C x)] [b] [b.lab] [] .any [⟨b.lab,b.typ,(b.avs.map (AV.clear [b.lab] [])).take off++as++(b.avs.map (AV.clear [b.lab] [])).drop (off+r.size)⟩]:=by
 intro γ av w hi hb next Q hk;have h1:av.eval y=_:=hi (y,.ptr b.lab off) (by simp);obtain ⟨us,hv,hA⟩:=hi (z,.rc r C x) (by simp);simp only at hv;obtain ⟨kp,cs,hh,hL,hone⟩:=hb b (by simp);have hus:us.length=r.size:=by rw [<-hA.1];exact r.len x
 have hoff':off+r.size<=cs.length:=by rw [zbn hL];exact xN hoff
 have hst:=pF P (γ.box b.lab) off b.typ us 0 cs.toArray w hh (by simp;omega) hA.one;simp only [yw,hus] at hst;have ka:(execOp av.eval o).run P w= .ok .skip (w.setRow (γ.box b.lab) (cs.take off++us++cs.drop (off+r.size)).toArray):=by
  simp [execOp,ho,h1,hv,Instr.storeAt,Instr.sureAddr,storeVar,kg,Value.cells,hus,hst]
 unfold Oper.wp;rw [ka,ug];have ht:=zBt (w:=w) kp (cs.take off++us++cs.drop (off+r.size)).toArray;have hA':=ht.all (C:=C) (fun c hc h=>by
  simp only [xx,xJ,xK] at h;subst h;rw [zab.2 hc] at hC;cases hC) hA
 have hL':=zlC hL ht;refine hk γ _ undef ht trivial fun b' hb'=>?_
 simp only [xx,xJ,xK] at hb';subst hb';refine ⟨kp,cs.take off++us++cs.drop (off+r.size),qe w _ _ _ _ _ hh,zis (zis (znD _ _ _ hL') (zjP ha hA' hl)) (znC _ _ _ hL'),fun u hu=>?_⟩;simp only [xA] at hu;rcases hu with (h| h)| h
 ·grind
 ·exact hA.one u h
 ·grind
theorem zHb (l:List UInt8):l.flatMap Rp.byte.lv=l.map fun c=>LV.int .u8 c.toNat:=by
 induction l with
 | nil=>rfl
 | cons c l ih=>rw [xI,ih];rfl
theorem zpL {src dst e:TypeId} (ho:o.op= .convert src dst x) (hs:P.underlying src=some (.slice e)) (he:P.underlying e=some (.int .u8)) (hd:P.underlying dst=some .string)
  (hx:isSl Rp.byte l D a):zz P o [(x,a)] [] [] [] (.lf (.str l)) []:=by
 refine zJ fun γ ev w hi _=>?_
 have h:=hx γ w _ (hi (x,a) (by simp));simp only at h;obtain ⟨A,c,cs,hv,hc,hm,hA,hcs,hcell⟩:=zmw h;rw [zHb] at hA;have hget:∀j (hj:j<l.length),cs[j]? =some (.int .u8 (l[j].toNat:Int)):=fun j hj=>by
  have hj':j<cs.length:=by rw [hcs];simpa [Rp.byte] using hj
  have:=hA.2 j (.int .u8 (l[j].toNat:Int)) cs[j] (by simp [hj]) (xM hj');rw [xM hj']
  generalize cs[j]=u at this
  cases this;rfl
 have ka:(convert src dst (.slice A l.length c)).run P w= .ok (.string ⟨l.toArray⟩) w:=by
  rcases q8 l.length with h0| h0
  ·have:l=[]:=yA h0;subst this;rcases A with _| ad
   ·exact run_convert_bytes_nil w src e hs he 0 c dst hd
   ·exact run_convert_bytes_back w src dst e ad c [] hs he hd (fun j hj=>absurd hj (by simp))
  ·obtain ⟨b,off,rfl,_,_,hc'⟩:=hcell h0;refine run_convert_bytes_back w src dst e _ c l hs he hd fun j hj=>?_
   rw [zfw,hc' j (by simpa [Rp.byte] using hj)];exact hget j hj
 exact ⟨_,w,γ,by simp [execOp,ho,hv,ka],Tr.refl _ _ _ _,zJy _ _ _,fun b hb=>by cases hb⟩
theorem zAH {P:Program} {o:Oper} {t:TypeId} {x y:Operand} {l:List UInt8} {k:IntKind} {i:Int} {c:UInt8} (ho:o.op= .index t x y) (ht:P.underlying t=some .string) (hx:idx l i=some c):
  zz P o [(x,.lf (.str l)),(y,.lf (.int k i))] [] [] [] (.lf (.int .u8 c.toNat)) []:=by
 refine zJ fun γ ev w hi _=>?_
 have h1:=zwT (hi (x,.lf (.str l)) (by simp));have h2:=zdB (hi (y,.lf (.int k i)) (by simp));simp only at h1 h2;obtain ⟨i0,i1,i2⟩:=zsC hx;have hb:(⟨l.toArray⟩:ByteArray)[i.toNat]? =some c:=by
  have wS:i.toNat<(⟨l.toArray⟩:ByteArray).size:=by simp [ByteArray.size_mk'];omega
  rw [ByteArray.getElem?_lt' _ _ wS];congr 1;have:=(yx.1 i2).2;rw [<-this];rfl
 exact ⟨_,w,γ,by simp [execOp,ho,h1,h2,Instr.index,asIntOf,run_underlying ht,i0,hb],Tr.refl _ _ _ _,ziM _ _ _ _,fun b hb=>by cases hb⟩
def remI (x y:Int):Option Int:=if y=0 then none else some (x.tmod y)
def shlO (k:IntKind) (x y:Int):Option Int:=if y<0 then none else some (shlI k x y)
def shrO (k:IntKind) (x y:Int):Option Int:=if y<0 then none else some (shrI k x y)
theorem zNw (ho:o.op= .binOp .rem t x y t') (hz:remI m n=some z):zz P o [(x,.lf (.int k m)),(y,.lf (.int k n))] [] [] [] (.lf (.int k z)) []:=by
 refine zJ fun γ ev w hi _=>?_
 have h1:=zdB (hi (x,.lf (.int k m)) (by simp));have h2:=zdB (hi (y,.lf (.int k n)) (by simp));simp only at h1 h2;unfold remI at hz;split at hz
 ·cases hz
 ·rename_i hn;cases hz;have hk:¬(k≠k):=fun h=>h rfl
  exact ⟨_,w,γ,by simp only [execOp,ho,h1,h2,xS,zml,xV,binOp,xp hk,Op.intDiv,xp hn,yp],Tr.refl _ _ _ _,ziM _ _ _ _,fun b hb=>by cases hb⟩
theorem zAJ (ho:o.op= .binOp .shl t x y t') (hz:shlO k m n=some z):zz P o [(x,.lf (.int k m)),(y,.lf (.int j n))] [] [] [] (.lf (.int k z)) []:=by
 refine zJ fun γ ev w hi _=>?_
 have h1:=zdB (hi (x,.lf (.int k m)) (by simp));have h2:=zdB (hi (y,.lf (.int j n)) (by simp));simp only at h1 h2;unfold shlO at hz;split at hz
 ·cases hz
 ·rename_i hn;cases hz;exact ⟨_,w,γ,by simp only [execOp,ho,h1,h2,xS,zml,xV,binOp,Op.shift,xp hn,yp];rfl,Tr.refl _ _ _ _,ziM _ _ _ _,fun b hb=>by cases hb⟩
theorem ziL (ho:o.op= .binOp .shr t x y t') (hz:shrO k m n=some z):zz P o [(x,.lf (.int k m)),(y,.lf (.int j n))] [] [] [] (.lf (.int k z)) []:=by
 refine zJ fun γ ev w hi _=>?_
 have h1:=zdB (hi (x,.lf (.int k m)) (by simp));have h2:=zdB (hi (y,.lf (.int j n)) (by simp));simp only at h1 h2;unfold shrO at hz;split at hz
 ·cases hz
 ·rename_i hn;cases hz;exact ⟨_,w,γ,by simp only [execOp,ho,h1,h2,xS,zml,xV,binOp,Op.shift,xp hn,yp];rfl,Tr.refl _ _ _ _,ziM _ _ _ _,fun b hb=>by cases hb⟩
inductive It where
 | c (x:Code)
 | e (id:Nat)
def ziH:Code->List It->List It
 | .seq a b,l=>ziH a (ziH b l)
 | .skip,l=>l
 | x,l=> .c x::l
def zrq (id:Nat):List It->Option (List It)
 | []=>none
 | .c _::l=>zrq id l
 | .e k::l=>match Nat.beq k id with
  | true=>some l
  | false=>zrq id l
structure Sem2 where
 n:Act->World->Prop
 x:Nat->Act->World->Prop
def semI (m:Bool) (P:Program) (Q:Exit->Act->World->Prop):List It->Sem2
 | []=>⟨Q .normal,fun id=>Q (.exit id)⟩
 | .c x::l=>⟨wq m P x fun e a w=>match e with
  | .normal=>(semI m P Q l).n a w
  | .exit id=>(semI m P Q l).x id a w
  | e=>Q e a w,(semI m P Q l).x⟩
 | .e k::l=>⟨(semI m P Q l).n,fun id a w=>if k=id then (semI m P Q l).n a w else (semI m P Q l).x id a w⟩
def wpI (m:Bool) (P:Program) (Q:Exit->Act->World->Prop) (l:List It) (a:Act) (w:World):Prop:=(semI m P Q l).n a w
def wpX (m:Bool) (P:Program) (Q:Exit->Act->World->Prop) (id:Nat) (l:List It) (a:Act) (w:World):Prop:=(semI m P Q l).x id a w
def zgT (m:Bool) (P:Program) (Q:Exit->Act->World->Prop) (l:List It):Exit->Act->World->Prop:=fun e a w=>match e with
 | .normal=>wpI m P Q l a w
 | .exit id=>wpX m P Q id l a w
 | e=>Q e a w
def JI (m:Bool) (P:Program) (l:List It) (S:Act->World->Prop) (Q:Exit->Act->World->Prop):Prop:=∀a w,S a w->wpI m P Q l a w
section
variable {m:Bool} {P:Program} {Q Q':Exit->Act->World->Prop} {S:Act->World->Prop} {l:List It} {x y c:Code}
theorem zqv :wpI m P Q (.c x::l) a w=wq m P x (zgT m P Q l) a w:=rfl
theorem zKM {a:Act} {w:World} {id k:Nat}:wpX m P Q id (.e k::l) a w=if k=id then wpI m P Q l a w else wpX m P Q id l a w:=rfl
theorem ztB {id:Nat} {a:Act} {w:World}:∀{l l':List It},zrq id l=some l'->wpI m P Q l' a w->wpX m P Q id l a w
 | [],_,h,_=>by cases h
 | .c _::l,_,h,k=>ztB (l:=l) h k
 | .e _::l,_,h,k=>by
  rw [zKM];rw [zrq] at h;split at h
  ·simp_all
  ·rename_i hb;rw [xp (fun e=>by rw [e] at hb;simp at hb)];exact ztB h k
theorem zIJ:∀(x:Code) (l:List It) (id:Nat) (a:Act) (w:World),wpX m P Q id (ziH x l) a w->wpX m P Q id l a w
 | .seq p q,l,id,a,w,h=>zIJ q l id a w (zIJ p (ziH q l) id a w h)
 | .skip,_,_,_,_,h=>h
 | .region _ _ _,_,_,_,_,h=>h
 | .cond _ _ _,_,_,_,_,h=>h
 | .block _ _,_,_,_,_,h=>h
 | .loop _,_,_,_,_,h=>h
 | .rangeFunc _ _ _ _,_,_,_,_,h=>h
 | .exit _,_,_,_,_,h=>h
 | .scope _,_,_,_,_,h=>h
 | .label _,_,_,_,_,h=>h
 | .goto _,_,_,_,_,h=>h
 | .ret,_,_,_,_,h=>h
 | .refuse _,_,_,_,_,h=>h
theorem zju:∀(x:Code) (l:List It) (a:Act) (w:World),wpI m P Q (ziH x l) a w->wq m P x (zgT m P Q l) a w
 | .seq p q,l,a,w,h=>by
  have h1:=zju p (ziH q l) a w h;refine zfn (zmz h1 fun e a' w' hq=>?_);cases e with
  | normal=>exact zju q l a' w' hq
  | exit id=>exact zIJ q l id a' w' hq
  | goto l=>exact hq
  | ret=>exact hq
  | panic ch=>exact hq
  | outgrown=>exact hq
 | .skip,_,_,_,h=>zvV h
 | .region _ _ _,_,_,_,h=>h
 | .cond _ _ _,_,_,_,h=>h
 | .block _ _,_,_,_,h=>h
 | .loop _,_,_,_,h=>h
 | .rangeFunc _ _ _ _,_,_,_,h=>h
 | .exit _,_,_,_,h=>h
 | .scope _,_,_,_,h=>h
 | .label _,_,_,_,h=>h
 | .goto _,_,_,_,h=>h
 | .ret,_,_,_,h=>h
 | .refuse _,_,_,_,h=>h
theorem zbw (h:JI m P (ziH c []) S Q):J m P c S Q:=fun a w hs=>zmz (zju c [] a w (h a w hs)) fun e a w hq=>by
 cases e with
 | normal=>exact hq
 | exit id=>exact hq
 | goto l=>exact hq
 | ret=>exact hq
 | panic ch=>exact hq
 | outgrown=>exact hq
theorem zJd (h:∀a w,S a w->Q .normal a w):JI m P [] S Q:=fun a w hs=>h a w hs
theorem zR {id:Nat} (h:JI m P l S Q):JI m P (.e id::l) S Q:=fun a w hs=>h a w hs
theorem zkS {cx:Cx} {E:Env} {id:Nat} {ops:List Oper} (E':Env) (h:zaI P cx.n ops.toArray ops E E') (k:JI m P l (Sx cx E') Q):JI m P (.c (.region id ops.toArray false)::l) (Sx cx E) Q:=
 fun a w hs=>by rw [zqv];exact zay (h cx a w _ rfl hs fun a' w' hs'=>k a' w' hs')
theorem zJb (hl:E.opd o=some (.lf (.bool b))) (hb:b=true) (k:JI m P (ziH x l) (Sx cx E) Q):JI m P (.c (.cond o x y)::l) (Sx cx E) Q:=fun a w hs=>by
 rw [zqv];obtain ⟨γ,hB,hS,hX⟩:=hs;subst hb;exact zje (zkM (Env.opd_rel hl hS)) (zju x l a w (k a w ⟨γ,hB,hS,hX⟩))
theorem zJa (hl:E.opd o=some (.lf (.bool b))) (hb:b=false) (k:JI m P (ziH y l) (Sx cx E) Q):JI m P (.c (.cond o x y)::l) (Sx cx E) Q:=fun a w hs=>by
 rw [zqv];obtain ⟨γ,hB,hS,hX⟩:=hs;subst hb;exact zjQ (zkM (Env.opd_rel hl hS)) (zju y l a w (k a w ⟨γ,hB,hS,hX⟩))
theorem zwO (h:∀a w,S a w->Q .ret a w):JI m P (.c .ret::l) S Q:=fun a w hs=>by rw [zqv];exact zyi (h a w hs)
theorem zLq {id:Nat} (l':List It) (he:zrq id l=some l') (k:JI m P l' S Q):JI m P (.c (.exit id)::l) S Q:=fun a w hs=>by
 rw [zqv];exact zGW (ztB he (k a w hs))
theorem zky {id:Nat} {a:Act} {w:World}:∀{l:List It},zrq id l=none->Q (.exit id) a w->wpX m P Q id l a w
 | [],_,k=>k
 | .c _::l,h,k=>zky (l:=l) h k
 | .e _::l,h,k=>by
  rw [zrq] at h;split at h
  ·cases h
  ·rename_i hb;rw [zKM,xp (fun e=>by rw [e] at hb;simp at hb)];exact zky h k
theorem zJc {id:Nat} (he:zrq id l=none) (h:∀a w,S a w->Q (.exit id) a w):JI m P (.c (.exit id)::l) S Q:=fun a w hs=>by
 rw [zqv];exact zGW (zky he (h a w hs))
theorem zu {id:Nat} (k:JI m P (ziH c (.e id::l)) S Q):JI m P (.c (.block id c)::l) S Q:=fun a w hs=>by
 rw [zqv];refine zKN (zmz (zju c (.e id::l) a w (k a w hs)) fun e a' w' hq=>?_);cases e with
 | normal=>exact hq
 | exit j=>
  have hq':wpX m P Q j (.e id::l) a' w':=hq;rw [zKM] at hq';by_cases hj:j=id
  ·rw [xq hj.symm] at hq';simp only [Exit.inBlock,xq hj];exact hq'
  ·rw [xp (fun e=>hj e.symm)] at hq';simp only [Exit.inBlock,xp hj];exact hq'
 | goto l=>exact hq
 | ret=>exact hq
 | panic ch=>exact hq
 | outgrown=>exact hq
end
def zdu (E E':Env):Prop:=∀cx a w,Sx cx E a w->Sx cx E' a w
theorem zvH (ks bs:List Nat) (h:E.pick ks bs=some E'):zdu E E':=fun _ _ _ hs=>hs.pick h
theorem zdu.go (h:zdu E E') (hs:Sx cx E a w):Sx cx E' a w:=h cx a w hs
theorem zdu.trans (h:zdu E E1) (k:zdu E1 E'):zdu E E':=fun cx a w hs=>k cx a w (h cx a w hs)
theorem zpD (h:zdu E E') (k:JI m P l (Sx cx E') Q):JI m P l (Sx cx E) Q:=fun a w hs=>k a w (h cx a w hs)
section
variable {P:Program} {N:Lim} {ops:Array Oper} {wR:List Oper} {E E1 E':Env}
theorem zOB (h:zdu E E1) (k:zaI P N ops wR E1 E'):zaI P N ops wR E E':=fun cx a w Q hn hs hQ=>k cx a w Q hn (h cx a w hs) hQ
end
inductive Fact where
 | sl (k:Nat) (a:AV)
 | bx (b:Bx)
 | rs (k ℓ n:Nat)
 | ms (k ℓ:Nat)
 | lk {κ α:Type} [DecidableEq κ] (k:Nat) (rk:Rp κ) (r:Rp α) (e:TypeId) (ℓ:Nat) (C:List Nat) (m:List (κ×List α)) (q:κ)
 | ap {κ α:Type} [DecidableEq κ] (k:Nat) (rk:Rp κ) (r:Rp α) (e:TypeId) (ℓ:Nat) (C:List Nat) (m:List (κ×List α)) (q:κ) (ys:List α)
def Fact.rel (γ:Gh) (a:Act) (w:World):Fact->Prop
 | .sl k v=>v.rel γ w (a.tmps.getD k undef)
 | .bx b=>b.rel γ w
 | .rs k ℓ n=>0<n->∃c,a.tmps.getD k undef= .slice (some ⟨γ.box ℓ,0,none⟩) n c
 | .ms k ℓ=>a.tmps.getD k undef= .map (some (γ.box ℓ))
 | @Fact.lk _ _ _ k rk r e ℓ C m q=>∃b n O,MoIn γ w rk r e ℓ C (fun _=>True) O m b n/\a.tmps.getD k undef=(mget n q).getD (.slice none 0 0)
 | @Fact.ap _ _ _ k rk r e ℓ C m q ys=>∃b n O,MoIn γ w rk r e ℓ C (fun j=>j≠q) O m b n/\RowX γ w r e ℓ C (O q) ys (a.tmps.getD k undef)/\∀j u,j≠q->O j->O q->mget n j=some u->zAd u (a.tmps.getD k undef)
structure OpD where
 want:Bool
 req:List Fact
 W:List Nat
 V:List Nat
 dst:Option Nat
 prod:List Fact
def zpU (d:Option Nat) (k:Nat):Bool:=match d with
 | some x=>Nat.beq x k
 | none=>false
def OpD.kills (d:OpD):Fact->Bool
 | .sl k a=>zpU d.dst k|| !a.free d.W d.V
 | .bx b=>memN b.lab d.W|| memN b.lab d.V|| !(b.avs.all fun a=>a.free d.W d.V)
 | .rs k ℓ _=>zpU d.dst k|| memN ℓ d.V
 | .ms k ℓ=>zpU d.dst k|| memN ℓ d.V
 | @Fact.lk _ _ _ k _ _ _ ℓ C _ _=>zpU d.dst k|| !((ℓ::C).all fun c=> !memN c d.W)|| memN ℓ d.V
 | @Fact.ap _ _ _ k _ _ _ ℓ C _ _ _=>zpU d.dst k|| !((ℓ::C).all fun c=> !memN c d.W)|| memN ℓ d.V
def zwZ (d:OpD) (L:List Fact):List Fact:=d.prod++L.filter fun f=> !d.kills f
theorem zzD (h:AV.relL γ w l vs) (t:Tr W V γ w γ' w') (hf:(l.all fun a=>a.free W V)=true):AV.relL γ' w' l vs:=by
 induction l generalizing vs with
 | nil=>exact h
 | cons a l ih=>
  obtain ⟨v,vs',rfl,h1,h2⟩:=h;simp only [yK,xu] at hf;obtain ⟨f1,f2⟩:=AV.free_spec hf.1;exact ⟨v,vs',rfl,a.keep t f1 f2 h1,ih h2 hf.2⟩
theorem zsZ {d:Option Nat} {k:Nat} {a:Act} {v:Value} (h:zpU d k=false):(a.put d v).tmps.getD k undef=a.tmps.getD k undef:=by
 cases d with
 | none=>rfl
 | some x=>exact ziJ (fun e=>by rw [e] at h;simp [zpU] at h)
theorem offW {l W:List Nat} (h:(l.all fun c=> !memN c W)=true):∀c∈l,c∉W:=fun c hc hw=>by
 simp only [xF,xU] at h;have:=h c hc;rw [zab.2 hw] at this;cases this
theorem Fact.keep {d:OpD} {f:Fact} {γ γ':Gh} {a:Act} {w w':World} (h:f.rel γ a w) (t:Tr d.W d.V γ w γ' w') (hk:d.kills f=false) (v:Value):f.rel γ' (a.put d.dst v) w':=by
 cases f with
 | sl k av=>
  simp only [OpD.kills,qE,pG] at hk;obtain ⟨f1,f2⟩:=AV.free_spec hk.2;have hr:=av.keep t f1 f2 h;show av.rel γ' w' ((a.put d.dst v).tmps.getD k undef);cases hd:d.dst with
  | none=>exact hr
  | some x=>
   rw [hd] at hk;rw [ziJ (fun e=>by rw [e] at hk;simp [zpU] at hk)];exact hr
 | bx b=>
  simp only [OpD.kills,qE,pG] at hk;obtain ⟨⟨h1,h2⟩,h3⟩:=hk;obtain ⟨hc,cs,hh,hL,hone⟩:=h;have wS:γ.box b.lab<w.heap.size:=(ya.1 hh).1;have n1:b.lab∉d.W:=fun hm=>by rw [zab.2 hm] at h1;cases h1
  have n2:b.lab∉d.V:=fun hm=>by rw [zab.2 hm] at h2;cases h2
  refine ⟨by rw [t.box _ n2,t.col _ wS];exact hc,cs,?_,zzD hL t h3,hone⟩;rw [t.box _ n2,t.block _ wS (by rw [hc];exact n1)];exact hh
 | rs k ℓ n=>
  simp only [OpD.kills,qE] at hk;intro hn;obtain ⟨c,hc⟩:=h hn;have n2:ℓ∉d.V:=fun hm=>by have:=hk.2;rw [zab.2 hm] at this;cases this
  refine ⟨c,?_⟩;rw [t.box _ n2,<-hc];cases hd:d.dst with
  | none=>rfl
  | some x=>rw [ziJ (fun e=>by have:=hk.1;rw [hd,e] at this;simp [zpU] at this)]
 | ms k ℓ=>
  simp only [OpD.kills,qE] at hk;have n2:ℓ∉d.V:=fun hm=>by have:=hk.2;rw [zab.2 hm] at this;cases this
  show _=_;rw [t.box _ n2,zsZ hk.1];exact h
 | lk k rk r e ℓ C m q=>
  simp only [OpD.kills,qE,pG] at hk;obtain ⟨b,n,O,hm,hv⟩:=h;have hW:=offW hk.1.2;exact ⟨b,n,O,hm.keep t (hW ℓ xr) (fun c hc=>hW c (xt _ hc)) (fun hc=>by have:=hk.2;rw [zab.2 hc] at this;cases this),by rw [zsZ hk.1.1];exact hv⟩
 | ap k rk r e ℓ C m q ys=>
  simp only [OpD.kills,qE,pG] at hk;obtain ⟨b,n,O,hm,hr,ha⟩:=h;have hW:=offW hk.1.2;have h1:=hW ℓ xr;have h2:=fun c (hc:c∈C)=>hW c (xt _ hc)
  refine ⟨b,n,O,hm.keep t h1 h2 (fun hc=>by have:=hk.2;rw [zab.2 hc] at this;cases this),?_,?_⟩
  ·rw [zsZ hk.1.1];exact hr.keep t h1 h2
  ·rw [zsZ hk.1.1];exact ha
structure Does (P:Program) (ops:Array Oper) (cx:Cx) (i:Nat) (d:OpD):Prop where
 oper:∃o,ops[i]? =some o/\o.dst=d.dst/\∀(γ:Gh) (a:Act) (w:World),Base cx γ a w->(∀f∈d.req,f.rel γ a w)->Region.wanted o (yielded ops a.tmps)=d.want/\
  (d.want=true->∀(next:Act->World->Prop) (Q:Exit->Act->World->Prop),(∀γ' w' v,Tr d.W d.V γ w γ' w'->(∀f∈d.prod,f.rel γ' (a.put d.dst v) w')->next (a.put d.dst v) w')->opq P o a w next Q)/\
  (d.want=false->∀f∈d.prod,f.rel γ (a.put d.dst undef) w)
 okW:okW d.W=true
 okV:YtaglemhabeipfaaGreat.okW d.V=true
 kept:∀k,d.dst=some k->k∉cx.n.keep
 none_:d.want=false->d.W=[]/\d.V=[]
def ztZ (acc:List Nat):List Edge->Nat
 | []=>0
 | e::l=>match Region.binds .any e with
  | true=>2^e.on||| acc.getD e.on 0||| ztZ acc l
  | false=>ztZ acc l
def zpO:List Oper->List Nat->List Nat
 | [],acc=>acc
 | o::l,acc=>zpO l (acc++[ztZ acc o.after.toList])
def zmA (ops:Array Oper) (D:Nat->Prop):Prop:=∀(j:Nat) (o:Oper),ops[j]? =some o->D j->∀e∈o.after,Region.binds .any e=true->D e.on
theorem zpN {D:Nat->Prop} {acc:List Nat} (hacc:∀k m,acc[k]? =some m->D k->∀i,m.testBit i=true->D i):∀(l:List Edge),(∀e∈l,Region.binds .any e=true->D e.on)->∀i,(ztZ acc l).testBit i=true->D i
 | [],_,i,h=>by simp [ztZ] at h
 | e::l,hl,i,h=>by
  rw [ztZ] at h;split at h
  ·rename_i hb;have he:=hl e xr hb;rw [Nat.testBit_or,Nat.testBit_or,qV,qV] at h;rcases h with (h| h)| h
   ·grind
   ·grind
   ·exact zpN hacc l (fun x hx=>hl x (xt _ hx)) i h
  ·exact zpN hacc l (fun x hx=>hl x (xt _ hx)) i h
theorem zom {ops:Array Oper} {D:Nat->Prop} (hD:zmA ops D):∀(l:List Oper) (acc:List Nat),(∀j,l[j]? =ops[acc.length+j]?)->(∀k m,acc[k]? =some m->D k->∀i,m.testBit i=true->D i)->
  ∀k m,(zpO l acc)[k]? =some m->D k->∀i,m.testBit i=true->D i
 | [],acc,_,h=>h
 | o::l,acc,hl,h=>by
  have ho:ops[acc.length]? =some o:=by have:=hl 0;simpa using this.symm
  refine zom hD l _ (fun j=>by have:=hl (j+1);simp at this;rw [this];congr 1;simp;omega) fun k m hk hDk=>?_
  rw [pA] at hk;split at hk
  ·grind
  ·rename_i hkl;have hk0:k - acc.length=0:=by
    grind
   rw [hk0] at hk;simp at hk;have hke:k=acc.length:=by omega
   subst hke hk;exact zpN h _ fun e he hb=>hD _ o ho hDk e (by simpa using he) hb
def zij (di dj:OpD):Bool:=(di.req++di.prod).any dj.kills|| (dj.req++dj.prod).any di.kills
def zpl:List OpD->List Fact->List (List Fact)
 | [],_=>[]
 | d::ds,L=>L::zpl ds (zwZ d L)
def endF:List OpD->List Fact->List Fact
 | [],L=>L
 | d::ds,L=>endF ds (zwZ d L)
def From (ds:List OpD) (L0:List Fact) (n:Nat) (f:Fact):Prop:=
 (f∈L0/\∀j d,j<n->ds[j]? =some d->d.kills f=false)\/∃p dp,p<n/\ds[p]? =some dp/\f∈dp.prod/\∀j d,p<j->j<n->ds[j]? =some d->d.kills f=false
theorem zHi (hd:ds[n]? =some d) (h:∀f∈L,From ds L0 n f):∀f∈zwZ d L,From ds L0 (n+1) f:=by
 intro f hf;simp only [zwZ,xA,yb,xU] at hf;rcases hf with hf| ⟨hf,hk⟩
 ·exact .inr ⟨n,d,by omega,hd,hf,fun j dj h1 h2=>by omega⟩
 ·rcases h f hf with ⟨h0,hn⟩| ⟨p,dp,hp,hdp,hfp,hn⟩
  ·refine .inl ⟨h0,fun j dj hj hdj=>?_⟩
   grind
  ·refine .inr ⟨p,dp,by omega,hdp,hfp,fun j dj h1 h2 hdj=>?_⟩
   grind
theorem zwH :∀(ds:List OpD) (n:Nat) (L:List Fact),(∀j,ds[j]? =ds0[n+j]?)->(∀f∈L,From ds0 L0 n f)->
  (∀j Lj,(zpl ds L)[j]? =some Lj->∀f∈Lj,From ds0 L0 (n+j) f)/\∀f∈endF ds L,From ds0 L0 (n+ds.length) f
 | [],n,L,_,h=>⟨fun j Lj hj=>by simp [zpl] at hj,fun f hf=>h f hf⟩
 | d::ds,n,L,hds,h=>by
  have hd:ds0[n]? =some d:=by have:=hds 0;simpa using this.symm
  obtain ⟨g1,g2⟩:=zwH ds (n+1) (zwZ d L) (fun j=>by have:=hds (j+1);simp at this;rw [this];congr 1;omega) (zHi hd h);refine ⟨fun j Lj hj=>?_,fun f hf=>?_⟩
  ·cases j with
   | zero=>simp [zpl] at hj;subst hj;exact h
   | succ j=>
    have:=g1 j Lj (by simpa [zpl] using hj)
    grind
  ·have:=g2 f hf
   grind
def zvN (ms:List Nat):Nat->OpD->Nat->List OpD->Bool
 | _,_,_,[]=>true
 | i,di,j,dj::l=>(match zij di dj with
  | true=>(ms.getD j 0).testBit i
  | false=>true)&&zvN ms i di (j+1) l
def zpV (ms:List Nat):Nat->List OpD->Bool
 | _,[]=>true
 | i,d::l=>zvN ms i d (i+1) l&&zpV ms (i+1) l
theorem zsR :∀(l:List OpD) (j:Nat),zvN ms i di j l=true->∀k dk,l[k]? =some dk->zij di dk=true->(ms.getD (j+k) 0).testBit i=true
 | [],j,_,k,dk,hk,_=>by simp at hk
 | d::l,j,h,k,dk,hk,hc=>by
  simp only [zvN,xu] at h;cases k with
  | zero=>
   grind
  | succ k=>
   have:=zsR l (j+1) h.2 k dk (by simpa using hk) hc
   grind
theorem zpW :∀(l:List OpD) (n:Nat),zpV ms n l=true->∀i k di dk,i<k->l[i]? =some di->l[k]? =some dk->zij di dk=true->(ms.getD (n+k) 0).testBit (n+i)=true
 | [],n,_,i,k,di,dk,_,hi,_,_=>by simp at hi
 | d::l,n,h,i,k,di,dk,hik,hi,hk,hc=>by
  simp only [zpV,xu] at h;cases k with
  | zero=>omega
  | succ k=>
   cases i with
   | zero=>
    simp at hi;subst hi;have:=zsR l (n+1) h.1 k dk (by simpa using hk) hc
    grind
   | succ i=>
    have:=zpW l (n+1) h.2 i k di dk (by omega) (by simpa using hi) (by simpa using hk) hc
    grind
def zyH (ds:List OpD) (L0:List Fact) (D:Nat->Prop) (γ:Gh) (a:Act) (w:World):Prop:=
 (∀f∈L0,(∀j d,D j->ds[j]? =some d->d.kills f=false)->f.rel γ a w)/\
 ∀i di,D i->ds[i]? =some di->∀f∈di.prod,(∀j d,D j->i<j->ds[j]? =some d->d.kills f=false)->f.rel γ a w
theorem zmS (hf:f∈di.req\/f∈di.prod) (hk:dj.kills f=true):zij di dj=true/\zij dj di=true:=by
 have:f∈di.req++di.prod:=by simpa using hf
 have h1:(di.req++di.prod).any dj.kills=true:=List.any_eq_true.2 ⟨f,this,hk⟩;exact ⟨by rw [zij,h1];rfl,by rw [zij,h1,pi]⟩
section
variable {P:Program} {ops:Array Oper} {ds:List OpD} {L0:List Fact} {D:Nat->Prop} {cx:Cx}
theorem zCQ (hms:ms=zpO ops.toList []) (ho:zpV ms 0 ds=true) (hD:zmA ops D) (hij:i<j) (hi:ds[i]? =some di) (hj:ds[j]? =some dj) (hc:zij di dj=true) (hDj:D j):D i:=by
 have hb:=zpW ds 0 ho i j di dj hij hi hj hc;simp only [xL] at hb;cases hm:ms[j]? with
 | none=>simp [List.getD,hm] at hb
 | some m=>
  simp [List.getD,hm] at hb;subst hms;exact zom hD ops.toList [] (fun j=>by simp) (fun k m hk=>by simp at hk) j m hm hDj i hb
theorem zHk (hms:ms=zpO ops.toList []) (ho:zpV ms 0 ds=true) (hD:zmA ops D) (hi:ds[i]? =some di) (hDi:¬D i) (hpre:∀j,j<i->(ms.getD i 0).testBit j=true->D j)
  (hfrom:∀f∈di.req,From ds L0 i f) (hprod:∀(j:Nat) (d:OpD) (f:Fact),ds[j]? =some d->f∈d.prod->d.kills f=true) (h:zyH ds L0 D γ a w):∀f∈di.req,f.rel γ a w:=by
 intro f hf;have later:∀j d,D j->ds[j]? =some d->d.kills f=true->j<i:=fun j d hDj hj hk=>by
  rcases Nat.lt_trichotomy j i with h| h| h
  ·exact h
  ·grind
  ·exact absurd (zCQ hms ho hD h hi hj (zmS (.inl hf) hk).1 hDj) hDi
 rcases hfrom f hf with ⟨h0,hn⟩| ⟨p,dp,hp,hdp,hfp,hn⟩
 ·refine h.1 f h0 fun j d hDj hj=>?_
  grind
 ·have hk:=hprod p dp f hdp hfp;have hb:=zpW ds 0 ho p i dp di hp hdp hi (zmS (.inl hf) hk).2;simp only [xL] at hb;have hDp:D p:=hpre p hp hb;refine h.2 p dp hDp hdp f hfp fun j d hDj hpj hj=>?_
  grind
theorem zEx (hms:ms=zpO ops.toList []) (ho:zpV ms 0 ds=true) (hD:zmA ops D) (hi:ds[i]? =some di) (hDi:¬D i) (h:zyH ds L0 D γ a w)
  (ht:Tr di.W di.V γ w γ' w') (hp:∀f∈di.prod,f.rel γ' (a.put di.dst v) w'):zyH ds L0 (fun j=>D j\/j=i) γ' (a.put di.dst v) w':=by
 refine ⟨fun f hf hk=>?_,fun p dp hDp hdp f hf hk=>?_⟩
 ·exact Fact.keep (h.1 f hf fun j d hDj hj=>hk j d (.inl hDj) hj) ht (hk i di (.inr rfl) hi) v
 ·by_cases hpi:p=i
  ·grind
  ·have hDp':D p:=hDp.resolve_right hpi;refine Fact.keep (h.2 p dp hDp' hdp f hf fun j d hDj hpj hj=>hk j d (.inl hDj) hpj hj) ht ?_ v;rcases yv p i with wS| hge
   ·grind
   ·cases hkk:di.kills f with
    | false=>rfl
    | true=>exact absurd (zCQ hms ho hD (by omega) hi hdp (zmS (.inr hf) hkk).2 hDp') hDi
def zca (w8:Array Bool):Nat->Prop:=fun i=>w8.getD i false=true
theorem zkK (hD:zmA ops (zca w8)) (hr:i∈Region.ready .any ops w8):zmA ops fun j=>zca w8 j\/j=i:=by
 intro j o hj hDj e he hb;rcases hDj with hDj| rfl
 ·exact .inl (hD j o hj hDj e he hb)
 ·obtain ⟨_,o',ho',hall⟩:=qO.1 hr;rw [hj] at ho';cases ho';exact .inl (hall e he hb)
theorem zwU (hi:i<w8.size) (j:Nat):zca (w8.setIfInBounds i true) j↔zca w8 j\/j=i:=by
 unfold zca;simp only [yB]
 grind
theorem zwd (hs:w8.size=ops.size) (hdown:∀(i:Nat) (o:Oper),ops[i]? =some o->∀e∈o.after,Region.binds .any e=true->e.on<i) (hr:Region.ready .any ops w8=[]):∀i,i<ops.size->zca w8 i:=by
 intro i
 induction i using Nat.strongRecOn with
 | _ i ih=>
  intro hi;cases hl:w8.getD i false with
  | true=>exact hl
  | false=>
   exfalso;have:i∈Region.ready .any ops w8:=by
    refine qO.2 ⟨?_,ops[i],pu hi,fun e he hb=>?_⟩
    ·grind
    ·have:=hdown i ops[i] (pu hi) e he hb;exact ih e.on this (by omega)
   grind
theorem zAc (hms:ms=zpO ops.toList []) (ho:zpV ms 0 ds=true) (wY:ds.length=ops.size) (hdoes:∀i di,ds[i]? =some di->Does P ops cx i di)
  (hfrom:∀i di,ds[i]? =some di->∀f∈di.req,From ds L0 i f) (hprod:∀(j:Nat) (d:OpD) (f:Fact),ds[j]? =some d->f∈d.prod->d.kills f=true)
  (hdown:∀(i:Nat) (o:Oper),ops[i]? =some o->∀e∈o.after,Region.binds .any e=true->e.on<i) 
  (hQ:∀γ a w,Base cx γ a w->zyH ds L0 (fun j=>j<ops.size) γ a w->Q .normal a w):
  ∀(fuel:Nat) (w8:Array Bool) (γ:Gh) (a:Act) (w:World),w8.size=ops.size->zmA ops (zca w8)->(w8.toList.filter (·==false)).length<=fuel->
   Base cx γ a w->zyH ds L0 (zca w8) γ a w->anyq P ops Q fuel w8 a w:=by
 have fin:∀(w8:Array Bool) (γ:Gh) (a:Act) (w:World),w8.size=ops.size->Region.ready .any ops w8=[]->Base cx γ a w->zyH ds L0 (zca w8) γ a w->Q .normal a w:=by
  intro w8 γ a w hs hr hB hH;have hall:=zwd hs hdown hr;have wS:∀j d,ds[j]? =some d->j<ops.size:=fun j d hj=>by rw [<-wY];exact (yx.1 hj).1
  exact hQ γ a w hB ⟨fun f hf hk=>hH.1 f hf fun j d _ hj=>hk j d (wS j d hj) hj,fun i di _ hdi f hf hk=>hH.2 i di (hall i (wS i di hdi)) hdi f hf fun j d _ hij hj=>hk j d (wS j d hj) hij hj⟩
 intro fuel
 induction fuel with
 | zero=>
  intro w8 γ a w hs hD hcnt hB hH;have hr:Region.ready .any ops w8=[]:=by
   cases hre:Region.ready .any ops w8 with
   | nil=>rfl
   | cons i l=>
    exfalso;have hi:i∈Region.ready .any ops w8:=by rw [hre];exact xr
    obtain ⟨hun,o,hoi,_⟩:=qO.1 hi;have hil:i<w8.size:=by rw [hs];exact (ya.1 hoi).1
    have hm:false∈w8.toList:=by
     simp only [yB,pu hil,pd] at hun
     grind
    simp_all
  exact fun _=>⟨hr,fin w8 γ a w hs hr hB hH⟩
 | succ fuel ih=>
  intro w8 γ a w hs hD hcnt hB hH;refine fun ro=>⟨fun hr=>fin w8 γ a w hs hr hB hH,fun i hi=>?_⟩
  obtain ⟨hun,o,hoi,hall⟩:=qO.1 hi;have hilt:i<ops.size:=(ya.1 hoi).1;have hil:i<w8.size:=by omega
  have hid:i<ds.length:=by omega
  have hdi:ds[i]? =some ds[i]:=xM hid;have hnot:¬zca w8 i:=by
   unfold zca
   grind
  obtain ⟨o',ho',hdst,hdo⟩:=(hdoes i _ hdi).oper;rw [hoi] at ho';cases ho';have hreq:=zHk hms ho hD hdi hnot (fun j hj hb=>by
   have hm:=zom (zkK hD hi) ops.toList [] (fun j=>by simp) (fun k m hk=>by simp at hk);cases hk:ms[i]? with
   | none=>simp [List.getD,hk] at hb
   | some m=>
    simp [List.getD,hk] at hb;subst hms;rcases hm i m hk (.inr rfl) j hb with h| h
    ·exact h
    ·omega) (hfrom i _ hdi) hprod hH
  obtain ⟨hw,hT,hF⟩:=hdo γ a w hB hreq;have next:∀(γ':Gh) (w':World) (v:Value),Tr (ds[i]).W (ds[i]).V γ w γ' w'->(∀f∈(ds[i]).prod,f.rel γ' (a.put (ds[i]).dst v) w')->anyq P ops Q fuel (w8.setIfInBounds i true) (a.put o.dst v) w':=by
   intro γ' w' v ht hp;have hcnt':((w8.setIfInBounds i true).toList.filter (·==false)).length<=fuel:=by
    have hli:w8.toList[i]? =some false:=by
     simp_all
    have key:∀(l:List Bool) (i:Nat),l[i]? =some false->((l.set i true).filter (·==false)).length+1=(l.filter (·==false)).length:=by
     intro l
     induction l with
     | nil=>intro i h;simp at h
     | cons x l ihl=>
      intro i h;cases i with
      | zero=>simp at h;subst h;simp
      | succ i=>
       grind
    grind
   rw [hdst];have hB':=(hB.tr ht (hdoes i _ hdi).okW (hdoes i _ hdi).okV).put (ds[i]).dst v (hdoes i _ hdi).kept;have hH':=zEx hms ho hD hdi hnot hH ht hp;have hset:∀j,zca (w8.setIfInBounds i true) j↔zca w8 j\/j=i:=zwU hil;have hD':zmA ops (zca (w8.setIfInBounds i true)):=fun j o hj hDj e he hb=>(hset _).2 (zkK hD hi j o hj ((hset j).1 hDj) e he hb)
   exact ih _ γ' _ w' (by simp [hs]) hD' hcnt' hB' ⟨fun f hf hk=>hH'.1 f hf fun j d hDj hj=>hk j d ((hset j).2 hDj) hj,fun p dp hDp hdp f hf hk=>hH'.2 p dp ((hset p).1 hDp) hdp f hf fun j d hDj hpj hj=>hk j d ((hset j).2 hDj) hpj hj⟩
  unfold wpOpIn;rw [hoi];simp only;cases hwant:(ds[i]).want with
  | true=>
   rw [xq (by rw [hw,hwant])];refine qP (fun a w h=>h ro) (hT hwant (anyq P ops Q fuel (w8.setIfInBounds i true)) Q (fun γ' w' v ht hp=>?_) ro)
   grind
  | false=>
   rw [xp (by rw [hw,hwant];exact Bool.false_ne_true)];obtain ⟨e1,e2⟩:=(hdoes i _ hdi).none_ hwant;exact ⟨fun _ _=>trivial,next γ w undef (by rw [e1,e2];exact Tr.refl _ _ _ _) (hF hwant) ro⟩
end
def rsOf:List (Nat×AV)->List Fact
 | []=>[]
 | (k,.own _ _ ℓ _ xs)::l=> .rs k ℓ xs.length::rsOf l
 | (k,@AV.mo _ _ _ _ _ _ ℓ _ _)::l=> .ms k ℓ::rsOf l
 | _::l=>rsOf l
def zqz (E:Env):List Fact:=E.sl.map (fun p=>Fact.sl p.1 p.2)++E.bx.map Fact.bx++rsOf E.sl
theorem zqQ:∀{l:List (Nat×AV)} {f:Fact},f∈rsOf l->(∃k ℓ n,f= .rs k ℓ n)\/∃k ℓ,f= .ms k ℓ
 | [],f,h=>by cases h
 | (k,x)::l,f,h=>by
  cases x with
  | own r e ℓ C xs=>
   simp only [rsOf,xx] at h;rcases h with rfl| h
   ·grind
   ·exact zqQ h
  | mo rk r e ℓ C m=>
   simp only [rsOf,xx] at h;rcases h with rfl| h
   ·grind
   ·exact zqQ h
  | _=>exact zqQ (l:=l) h
theorem zDo :∀{l:List (Nat×AV)},Sl γ w a l->∀f∈rsOf l,f.rel γ a w
 | [],_,f,hf=>by cases hf
 | (k,x)::l,h,f,hf=>by
  have hx:x.rel γ w (a.tmps.getD k undef):=h (k,x) xr;have ht:=fun f hf=>zDo (l:=l) (fun p hp=>h p (xt _ hp)) f hf
  cases x with
  | own r e ℓ C xs=>
   simp only [rsOf,xx] at hf;rcases hf with rfl| hf
   ·intro hn;obtain ⟨cs,ho,hg,_⟩:=hx;rcases ho.2 with ⟨_,h0⟩| ⟨g,w9,kj,hv,_⟩
    ·omega
    ·exact ⟨w9,by rw [hv,(hg g (by rw [hv];rfl)).2]⟩
   ·exact ht f hf
  | mo rk r e ℓ C m=>
   simp only [rsOf,xx] at hf;rcases hf with rfl| hf
   ·obtain ⟨b,n,O,hv,es,cl,⟨g1,g2⟩,_⟩:=hx;show _=_
    grind
   ·exact ht f hf
  | _=>exact ht f hf
def zfH:List Fact->Env
 | []=>⟨[],[]⟩
 | .sl k a::l=>⟨(k,a)::(zfH l).sl,(zfH l).bx⟩
 | .bx b::l=>⟨(zfH l).sl,b::(zfH l).bx⟩
 | .rs _ _ _::l=>zfH l
 | .ms _ _::l=>zfH l
 | @Fact.lk _ _ _ _ _ _ _ _ _ _ _::l=>zfH l
 | @Fact.ap _ _ _ _ _ _ _ _ _ _ _ _::l=>zfH l
theorem zkP :(∀p∈(zfH L).sl,Fact.sl p.1 p.2∈L)/\∀b∈(zfH L).bx,Fact.bx b∈L:=by
 induction L with
 | nil=>
  refine ⟨?_,?_⟩
  ·intro p hp;cases hp
  ·intro b hb;cases hb
 | cons f L ih=>
  cases f with
  | sl k a=>
   refine ⟨fun p hp=>?_,fun b hb=>xt _ (ih.2 b hb)⟩;cases hp with
   | head=>exact xr
   | tail _ hp=>exact xt _ (ih.1 p hp)
  | bx b=>
   refine ⟨fun p hp=>xt _ (ih.1 p hp),fun c hc=>?_⟩;cases hc with
   | head=>exact xr
   | tail _ hc=>exact xt _ (ih.2 c hc)
  | rs k ℓ n=>exact ⟨fun p hp=>xt _ (ih.1 p hp),fun b hb=>xt _ (ih.2 b hb)⟩
  | ms k ℓ=>exact ⟨fun p hp=>xt _ (ih.1 p hp),fun b hb=>xt _ (ih.2 b hb)⟩
  | lk=>exact ⟨fun p hp=>xt _ (ih.1 p hp),fun b hb=>xt _ (ih.2 b hb)⟩
  | ap=>exact ⟨fun p hp=>xt _ (ih.1 p hp),fun b hb=>xt _ (ih.2 b hb)⟩
inductive zkF where
 | ev
 | ex (bl:List Nat) (W V:List Nat) (av:AV) (bs:List Bx)
 | raw (ix W V:List Nat) (prod:List Fact)
structure DIn where
 ins:List (Operand×AV)
 bxs:List Bx
 rq:List Fact
def nthF:List Fact->Nat->Option Fact
 | [],_=>none
 | f::_,0=>some f
 | _::l,n+1=>nthF l n
theorem zCP:∀{l:List Fact} {n:Nat} {f:Fact},nthF l n=some f->f∈l
 | [],_,_,h=>by cases h
 | _::_,0,_,h=>by cases h;exact xr
 | _::l,n+1,f,h=>xt _ (zCP (l:=l) (n:=n) h)
def zGq (L:List Fact):List Nat->Option (List Fact)
 | []=>some []
 | n::l=>match nthF L n,zGq L l with
  | some f,some r=>some (f::r)
  | _,_=>none
theorem zzq :∀{ix:List Nat} {r:List Fact},zGq L ix=some r->∀f∈r,f∈L
 | [],r,h,f,hf=>by cases h;cases hf
 | n::ix,r,h,f,hf=>by
  rw [zGq] at h;split at h
  ·rename_i x r' hx hr;cases h;cases hf with
   | head=>exact zCP hx
   | tail _ hf=>exact zzq hr f hf
  ·cases h
def zsm (P:Program) (o:Oper) (rq:List Fact) (W V:List Nat) (prod:List Fact):Prop:=
 ∀(γ:Gh) (a:Act) (w:World),(∀k,o.dst=some k->k<a.tmps.size)->(∀f∈rq,f.rel γ a w)->∀(next:Act->World->Prop) (Q:Exit->Act->World->Prop),
  (∀γ' w' v,Tr W V γ w γ' w'->(∀f∈prod,f.rel γ' (a.put o.dst v) w')->next (a.put o.dst v) w')->opq P o a w next Q
def zkk:List (Operand×AV)->List Fact
 | []=>[]
 | (.tmp k,a)::l=> .sl k a::zkk l
 | _::l=>zkk l
def slOf (d:Option Nat) (a:AV):List Fact:=match d with
 | some k=>[.sl k a]
 | none=>[]
def zkf (ops:Array Oper) (E:Env) (o:Oper):List Fact:=match o.guard with
 | none=>[]
 | some (j,_)=>match ops.toList[j]? with
  | some g=>match g.dst with
   | some t=>match lookup E.sl t with
    | some a=>[.sl t a]
    | none=>[]
   | none=>[]
  | none=>[]
def zlq (E:Env):List Operand->List (Operand×AV)
 | []=>[]
 | x::l=>match E.opd x with
  | some a=>(x,a)::zlq E l
  | none=>zlq E l
def zso (E:Env):Op->List Bx
 | .load _ x=>match E.opd x with
  | some (.ptr ℓ _)=>match zgx E.bx ℓ with
   | some b=>[b]
   | none=>[]
  | _=>[]
 | _=>[]
def zzr (P:Program) (ops:Array Oper) (L:List Fact) (o:Oper) (s:zkF):Option (OpD×List DIn):=match zfX ops (zfH L) o with
 | some true=>match s with
  | .ev=>match ztN P (zfH L).opd (zso (zfH L) o.op) o.op with
   | some av=>some (⟨true,zkf ops (zfH L) o++(zkk (zlq (zfH L) o.op.operands.toList)++(zso (zfH L) o.op).map .bx),[],[],o.dst,slOf o.dst av⟩,[])
   | none=>none
  | .ex bl W V av bs=>match zqb (zfH L).bx bl with
   | some bxs=>some (⟨true,zkf ops (zfH L) o++(zkk (zlq (zfH L) o.op.operands.toList)++bxs.map .bx),W,V,o.dst,slOf o.dst av++bs.map .bx⟩,[⟨zlq (zfH L) o.op.operands.toList,bxs,[]⟩])
   | none=>none
  | .raw ix W V prod=>match zGq L ix with
   | some rq=>some (⟨true,zkf ops (zfH L) o++rq,W,V,o.dst,prod⟩,[⟨[],[],rq⟩])
   | none=>none
 | some false=>match s with
  | .ev=>some (⟨false,zkf ops (zfH L) o,[],[],o.dst,slOf o.dst (.tup [])⟩,[])
  | .ex ..=>none
  | .raw ..=>none
 | none=>none
def zvC (P:Program) (N:Lim) (ops:Array Oper):List Oper->List zkF->List Fact->Option (List OpD×List Fact×List DIn)
 | [],_,L=>some ([],L,[])
 | o::l,ss,L=>match zzr P ops L o (ss.headD .ev) with
  | some (d,i)=>match zjj N o.dst&&(okW d.W&&okW d.V)&&d.prod.all d.kills with
   | true=>match zvC P N ops l ss.tail (zwZ d L) with
    | some (ds,L',is)=>some (d::ds,L',i++is)
    | none=>none
   | false=>none
  | none=>none
def zFJ:Nat->List Oper->Bool
 | _,[]=>true
 | i,o::l=>(o.after.toList.all fun e=> !Region.binds .any e|| Nat.blt e.on i)&&zFJ (i+1) l
def zvA (P:Program) (N:Lim) (ops:List Oper) (ss:List zkF) (E:Env) (ks bs:List Nat):Option (Env×List DIn):=
 match zvC P N ops.toArray ops ss (zqz E) with
 | some (ds,L,is)=>match zpV (zpO ops []) 0 ds&&zFJ 0 ops with
  | true=>match (zfH L).pick ks bs with
   | some E'=>some (E',is)
   | none=>none
  | false=>none
 | none=>none
def zbM (P:Program):List Oper->List zkF->List DIn->Prop
 | _::l,.ev::ss,is=>zbM P l ss is
 | o::l,.ex _ W V av bs::ss,i::is=>(zz P o i.ins i.bxs W V av bs/\zbM P l ss is)
 | o::l,.raw _ W V prod::ss,i::is=>(zsm P o i.rq W V prod/\zbM P l ss is)
 | _,[],_=>True
 | _,_,[]=>True
 | [],_,_=>True
theorem zqN :∀(l:List Operand),(∀f∈zkk (zlq E l),f.rel γ a w)->(∀p∈zlq E l,p.2.rel γ w (a.eval p.1))/\Opds E.opd γ w a.eval l
 | [],_=>⟨fun p hp=>by simp [zlq] at hp,fun x hx=>by cases hx⟩
 | x::l,h=>by
  rw [zlq] at h|-;cases hx:E.opd x with
  | none=>
   rw [hx] at h;obtain ⟨h1,h2⟩:=zqN l h;refine ⟨h1,fun y hy av hav=>?_⟩;cases hy with
   | head=>rw [hx] at hav;cases hav
   | tail _ hy=>exact h2 y hy av hav
  | some av=>
   rw [hx] at h;simp only at h;have hhd:av.rel γ w (a.eval x):=by
    cases x with
    | tmp k=>exact h (.sl k av) (by simp [zkk])
    | const v=>exact zmj hx γ w
    | global g=>cases hx
    | func f=>cases hx;exact ⟨rfl,.val _ rfl⟩
   obtain ⟨h1,h2⟩:=zqN (γ:=γ) (a:=a) (w:=w) (E:=E) l (fun f hf=>h f (by cases x<;>simp [zkk,hf]));refine ⟨fun p hp=>?_,fun y hy av' hav=>?_⟩
   ·grind
   ·cases hy with
    | head=>rw [hx] at hav;cases hav;exact hhd
    | tail _ hy=>exact h2 y hy av' hav
theorem zjN (h:zfX ops E o=some b) (hs:∀f∈zkf ops E o,f.rel γ a w):Region.wanted o (yielded ops a.tmps)=b:=by
 have h0:=h;unfold zfX at h;unfold zkf at hs;split at h
 ·rename_i hg;cases h;unfold Region.wanted;rw [hg]
 ·rename_i j want hg;rw [hg] at hs;simp only at hs;split at h
  ·rename_i g hj;rw [hj] at hs;simp only at hs;split at h
   ·rename_i t ht;rw [ht] at hs;simp only at hs;cases hl:lookup E.sl t with
    | none=>rw [hl] at h;cases want<;>cases h
    | some av=>
     rw [hl] at hs;have hav:av.rel γ w (a.tmps.getD t undef):=hs (.sl t av) xr;have h1:zfX ops ⟨[(t,av)],[]⟩ o=some b:=by
      unfold zfX;rw [hg];simp only;rw [hj];simp only;rw [ht];simp only;have:lookup [(t,av)] t=some av:=by simp [lookup]
      grind
     exact zgy (γ:=γ) (w:=w) h1 (fun p hp=>by simp at hp;subst hp;exact hav)
   ·cases h
  ·cases h
theorem zxM (hB:Base cx γ a w) (hd:zjj cx.n d=true) (hv:av.rel γ' w' v):∀f∈slOf d av,f.rel γ' (a.put d v) w':=by
 intro f hf;cases d with
 | none=>cases hf
 | some k=>
  simp only [slOf,xx,xJ,xK] at hf;subst hf;show av.rel γ' w' ((a.put (some k) v).tmps.getD k undef);rw [zde (by rw [hB.size];exact zhh hd k rfl)];exact hv
theorem zjw :∀(l:List Operand),f∈zkk (zlq (zfH L) l)->f∈L
 | [],h=>by cases h
 | x::l,h=>by
  rw [zlq] at h;cases hx:(zfH L).opd x with
  | none=>rw [hx] at h;exact zjw l h
  | some av=>
   rw [hx] at h;cases x with
   | tmp k=>
    simp only [zkk,xx] at h;rcases h with rfl| h
    ·exact zkP.1 (k,av) (zdm hx)
    ·exact zjw l h
   | const v=>exact zjw l h
   | global g=>exact zjw l h
   | func g=>exact zjw l h
theorem zkL (h:f∈zkf ops (zfH L) o):f∈L:=by
 unfold zkf at h;split at h
 ·cases h
 ·split at h
  ·split at h
   ·split at h
    ·rename_i hl;simp only [xx,xJ,xK] at h;subst h;exact zkP.1 (_,_) (zdm hl)
    ·cases h
   ·cases h
  ·cases h
theorem zHa (h:b∈zso (zfH L) op):Fact.bx b∈L:=by
 unfold zso at h;split at h
 ·split at h
  ·split at h
   ·rename_i b' hb;simp only [xx,xJ,xK] at h;subst h;exact zkP.2 _ (zdv hb).1
   ·cases h
  ·cases h
 ·cases h
theorem zER (h:zzr P ops L o s=some (d,i)) (hn:ops[n]? =some o) (hd:zjj cx.n o.dst=true)
  (hl:∀bl W V av bs,s= .ex bl W V av bs->∀x,i=[x]->zz P o x.ins x.bxs W V av bs) (hl2:∀ix W V prod,s= .raw ix W V prod->∀x,i=[x]->zsm P o x.rq W V prod) (hW:okW d.W=true) (hV:okW d.V=true):Does P ops cx n d/\∀f∈d.req,f∈L:=by
 unfold zzr at h;split at h
 ·rename_i hg;split at h
  ·split at h
   ·rename_i av he;cases h;refine ⟨⟨⟨o,hn,rfl,fun γ a w hB hreq=>⟨zjN hg fun f hf=>hreq f (ym _ hf),fun _ next Q hk=>?_,fun h=>by cases h⟩⟩,hW,hV,zfh hd,fun h=>by cases h⟩,fun f hf=>?_⟩
    ·obtain ⟨h1,h2⟩:=zqN (γ:=γ) (a:=a) (w:=w) (E:=zfH L) o.op.operands.toList fun f hf=>hreq f (yf _ (ym _ hf))
     obtain ⟨v,hr,hv⟩:=zrL he h2 (fun b hb=>hreq (.bx b) (yf _ (yf _ (qF hb))));refine zjB hr ?_;exact hk γ w v (Tr.refl _ _ _ _) (zxM hB hd hv)
    ·simp only [xA] at hf;rcases hf with hf| hf| hf
     ·exact zkL hf
     ·exact zjw _ hf
     ·obtain ⟨b,hb,rfl⟩:=xz.1 hf;exact zHa hb
   ·cases h
  ·rename_i bl W V av bs;split at h
   ·rename_i bxs hbx;cases h;have hlaw:=hl bl W V av bs rfl _ rfl;refine ⟨⟨⟨o,hn,rfl,fun γ a w hB hreq=>⟨zjN hg fun f hf=>hreq f (ym _ hf),fun _ next Q hk=>?_,fun h=>by cases h⟩⟩,hW,hV,zfh hd,fun h=>by cases h⟩,fun f hf=>?_⟩
    ·obtain ⟨h1,h2⟩:=zqN (γ:=γ) (a:=a) (w:=w) (E:=zfH L) o.op.operands.toList fun f hf=>hreq f (yf _ (ym _ hf))
     have hbb:Bxs γ w bxs:=fun b hb=>hreq (.bx b) (yf _ (yf _ (qF hb)))
     refine zpT (zvK (P:=P) (a:=a) (w:=w) fun nx Qx hn=>hlaw γ a w h1 hbb nx Qx fun _ w' v _ _ _=>hn v w') (hlaw γ a w h1 hbb next Q fun γ' w' v ht hv hbs=>hk γ' w' v ht fun f hf=>?_);simp only [xA] at hf;rcases hf with hf| hf
     ·exact zxM hB hd hv f hf
     ·obtain ⟨b,hb,rfl⟩:=xz.1 hf;exact hbs b hb
    ·simp only [xA] at hf;rcases hf with hf| hf| hf
     ·exact zkL hf
     ·exact zjw _ hf
     ·obtain ⟨b,hb,rfl⟩:=xz.1 hf;exact zkP.2 _ (zou _ _ hbx b hb)
   ·cases h
  ·rename_i ix W V prod;split at h
   ·rename_i rq hrq;cases h;have hlaw:=hl2 ix W V prod rfl _ rfl;refine ⟨⟨⟨o,hn,rfl,fun γ a w hB hreq=>⟨zjN hg fun f hf=>hreq f (ym _ hf),fun _ next Q hk=>?_,fun h=>by cases h⟩⟩,hW,hV,zfh hd,fun h=>by cases h⟩,fun f hf=>?_⟩
    ·exact hlaw γ a w (fun k hk=>by rw [hB.size];exact zhh hd k hk) (fun f hf=>hreq f (yf _ hf)) next Q hk
    ·rcases xA.1 hf with hf| hf
     ·exact zkL hf
     ·exact zzq hrq f hf
   ·cases h
 ·rename_i hg;split at h
  ·cases h;refine ⟨⟨⟨o,hn,rfl,fun γ a w hB hreq=>⟨zjN hg hreq,fun h=>(by cases h),fun _=>zxM hB hd ⟨[],rfl,rfl⟩⟩⟩,hW,hV,zfh hd,fun _=>⟨rfl,rfl⟩⟩,fun f hf=>zkL hf⟩
  ·cases h
  ·cases h
 ·cases h
theorem zss :∀(l:List Oper) (ss:List zkF) (L:List Fact) (n:Nat) (ds:List OpD) (L':List Fact) (is:List DIn),zvC P cx.n ops l ss L=some (ds,L',is)->
  (∀j,l[j]? =ops[n+j]?)->zbM P l ss is->
  ds.length=l.length/\L'=endF ds L/\∀k d,ds[k]? =some d->Does P ops cx (n+k) d/\(∀f∈d.prod,d.kills f=true)/\∃Lk,(zpl ds L)[k]? =some Lk/\∀f∈d.req,f∈Lk
 | [],ss,L,n,ds,L',is,h,_,_=>by
  cases h;exact ⟨rfl,rfl,fun k d hk=>by simp at hk⟩
 | o::l,ss,L,n,ds,L',is,h,hl,hlaw=>by
  have hn:ops[n]? =some o:=by have:=hl 0;simpa using this.symm
  rw [zvC] at h;split at h
  ·rename_i d i hd;split at h
   ·rename_i hc;simp only [xu] at hc;obtain ⟨⟨hc1,hc2⟩,hc3⟩:=hc;split at h
    ·rename_i ds' L2 is' hr;cases h;have hsplit:(∀bl W V av bs,ss.headD .ev= .ex bl W V av bs->∀x,i=[x]->zz P o x.ins x.bxs W V av bs)/\(∀ix W V prod,ss.headD .ev= .raw ix W V prod->∀x,i=[x]->zsm P o x.rq W V prod)/\zbM P l ss.tail is':=by
      cases ss with
      | nil=>
       refine ⟨fun bl W V av bs he=>by simp at he,fun ix W V prod he=>by simp at he,?_⟩;cases l<;>cases is'<;>trivial
      | cons s ss=>
       cases s with
       | ev=>
        have hi:i=[]:=by
         simp only [pk,zzr] at hd
         grind
        subst hi;refine ⟨fun bl W V av bs he=>by simp at he,fun ix W V prod he=>by simp at he,?_⟩;simpa [zbM] using hlaw
       | ex bl W V av bs=>
        simp only [pk,zzr] at hd;split at hd
        ·split at hd
         ·cases hd;simp only [yj,xG,zbM] at hlaw
          grind
         ·cases hd
        ·cases hd
        ·cases hd
       | raw ix W V prod=>
        simp only [pk,zzr] at hd;split at hd
        ·split at hd
         ·cases hd;simp only [yj,xG,zbM] at hlaw
          grind
         ·cases hd
        ·cases hd
        ·cases hd
     obtain ⟨g1,g2,g3⟩:=zss l ss.tail (zwZ d L) (n+1) ds' L' is' hr (fun j=>by have:=hl (j+1);simp at this;rw [this];congr 1;omega) hsplit.2.2;obtain ⟨e1,e2⟩:=zER hd hn hc1 hsplit.1 hsplit.2.1 hc2.1 hc2.2;refine ⟨by simp [g1],g2,fun k d' hk=>?_⟩;cases k with
     | zero=>
      simp at hk;subst hk;exact ⟨e1,fun f hf=>by simp only [xF] at hc3;exact hc3 f hf,L,by simp [zpl],e2⟩
     | succ k=>
      have:=g3 k d' (by simpa using hk);rw [show n+(k+1)=n+1+k by omega];exact ⟨this.1,this.2.1,by simpa [zpl] using this.2.2⟩
    ·cases h
   ·cases h
  ·cases h
theorem zwq:∀(l:List Oper) (n:Nat),zFJ n l=true->∀k o,l[k]? =some o->∀e∈o.after,Region.binds .any e=true->e.on<n+k
 | [],n,_,k,o,hk=>by simp at hk
 | x::l,n,h,k,o,hk=>by
  simp only [zFJ,xu,xF] at h;cases k with
  | zero=>
   simp at hk;subst hk;intro e he hb;have:=h.1 e (by simpa using he);simp_all
  | succ k=>
   have:=zwq l (n+1) h.2 k o (by simpa using hk)
   grind
theorem zvG {m:Bool} {P:Program} {cx:Cx} {E:Env} {id:Nat} {ops:List Oper} {l:List It} {Q:Exit->Act->World->Prop} (E':Env) (ss:List zkF) (is:List DIn) (ks bs:List Nat)
  (hm:P.follows .mixedOrders=true) (h:zvA P cx.n ops ss E ks bs=some (E',is)) (hl:zbM P ops ss is) (k:JI m P l (Sx cx E') Q):JI m P (.c (.region id ops.toArray true)::l) (Sx cx E) Q:=by
 intro a w hs;rw [zqv];obtain ⟨γ,hB,hS,hX⟩:=hs;unfold zvA at h;split at h
 ·rename_i ds L is' ka;split at h
  ·rename_i hc;split at h
   ·rename_i E2 hp;cases h;simp only [xu] at hc;obtain ⟨g1,g2,g3⟩:=zss ops ss (zqz E) 0 ds L is ka (fun j=>by simp) hl;have hfc:=zwH (ds0:=ds) (L0:=zqz E) ds 0 (zqz E) (fun j=>by simp) (fun f hf=> .inl ⟨hf,fun j d hj=>by omega⟩)
    refine zrC hm (zAc (cx:=cx) (L0:=zqz E) rfl (by simpa using hc.1) (by simpa using g1) (fun i di hi=>by have:=(g3 i di hi).1;rwa [xL] at this) (fun i di hi f hf=>?_) (fun j d f hj hf=>(g3 j d hj).2.1 f hf)
     (fun i o ho e he hb=>by have:=zwq ops 0 hc.2 i o (by simpa using ho) e he hb;omega) (fun γ' a' w' hB' hH=>?_) _ _ γ a {w with drawn:=w.drawn+1} (by simp) (fun j o hj hD=>?_) ?_ ?_ ?_)
    ·grind
    ·-- what the walk's end knows
     have hend:∀f∈L,f.rel γ' a' w':=fun f hf=>by
      rw [g2] at hf;rcases hfc.2 f hf with ⟨h0,hn⟩| ⟨p,dp,hp',hdp,hfp,hn⟩
      ·exact hH.1 f h0 fun j d hj hjd=>hn j d (by simp only [yW] at hj;omega) hjd
      ·exact hH.2 p dp (by simp only [yW];omega) hdp f hfp fun j d hj hpj hjd=>hn j d hpj (by simp only [yW] at hj;omega) hjd
     refine k a' w' (Sx.pick hp ⟨γ',hB',fun p hp'=>?_,fun b hb=>?_⟩)
     ·exact hend _ (zkP.1 p hp')
     ·exact hend _ (zkP.2 b hb)
    ·unfold zca at hD;simp only [yB] at hD
     grind
    ·grind
    ·exact ⟨hB.defers,hB.clean,hB.size,hB.kept,cx.X.tr hB.ext (⟨rfl,rfl,rfl,xw _,fun _ _ _=>rfl,fun _ _=>rfl,fun _ _=>rfl,fun b h1 h2=>absurd h2 (ql.2 h1)⟩:Tr [] [] γ w γ w.drew) (fun c hc=>by cases hc) (fun c hc=>by cases hc)⟩
    ·refine ⟨fun f hf _=>?_,fun i di hD=>?_⟩
     ·simp only [zqz,xA,xz] at hf;rcases hf with (⟨p,hp',rfl⟩| ⟨b,hb,rfl⟩)| hf
      ·have ht:Tr [] [] γ w γ w.drew:=⟨rfl,rfl,rfl,xw _,fun _ _ _=>rfl,fun _ _=>rfl,fun _ _=>rfl,fun b h1 h2=>absurd h2 (ql.2 h1)⟩;exact p.2.keep ht (fun c _ h=>by cases h) (fun c _ h=>by cases h) (hS p hp')
      ·have ht:Tr [] [] γ w γ w.drew:=⟨rfl,rfl,rfl,xw _,fun _ _ _=>rfl,fun _ _=>rfl,fun _ _=>rfl,fun b h1 h2=>absurd h2 (ql.2 h1)⟩;obtain ⟨kp,cs,hh,hL,hone⟩:=hX b hb;refine ⟨kp,cs,hh,zzD hL ht ?_,hone⟩;simp only [xF];intro x _;simp [AV.free,memN]
      ·have hf0:=zDo hS f hf;rcases zqQ hf with ⟨k,ℓ,n,rfl⟩| ⟨k,ℓ,rfl⟩<;>exact hf0
     ·exfalso;unfold zca at hD;simp only [yB] at hD
      grind
   ·cases h
  ·cases h
 ·cases h
theorem zz.cons (p:Operand×AV) (h:zz P o ins bxs W V av bs):zz P o (p::ins) bxs W V av bs:=
 fun γ a w hi hb=>h γ a w (fun q hq=>hi q (xt _ hq)) hb
def renN (x o c:Nat):Nat:=match Nat.beq c x with
 | true=>o
 | false=>c
theorem zgg (x o:Nat):renN x o x=o:=by simp [renN]
theorem zgD (h:c≠x):renN x o c=c:=by
 unfold renN;cases hb:Nat.beq c x with
 | true=>exact absurd (xE hb) h
 | false=>rfl
def zkG (γ:Gh) (x o:Nat):Gh:=⟨fun b=>renN x o (γ.col b),fun k=>match Nat.beq k o with
 | true=>γ.box x
 | false=>γ.box k⟩
theorem zeP (γ:Gh) (x o:Nat):(zkG γ x o).box o=γ.box x:=by simp [zkG]
theorem zdk (γ:Gh) (h:k≠o):(zkG γ x o).box k=γ.box k:=by
 show (match Nat.beq k o with
 | true=>γ.box x
 | false=>γ.box k)=_
 cases hb:Nat.beq k o with
 | true=>exact absurd (xE hb) h
 | false=>rfl
mutual
def AV.ren (x o:Nat):AV->AV
 | .any=> .any
 | .lf l=> .lf l
 | .sl r C xs=> .sl r (C.map (renN x o)) xs
 | .own r e ℓ C xs=>match Nat.beq ℓ x,Nat.beq ℓ o with
  | true,_=>match memN o (C.map (renN x o)) with
   | true=> .any
   | false=> .own r e o (C.map (renN x o)) xs
  | false,true=> .any
  | false,false=> .own r e ℓ (C.map (renN x o)) xs
 | .rc r C y=> .rc r (C.map (renN x o)) y
 | .ep r C y off=> .ep r (C.map (renN x o)) y off
 | .ptr ℓ off=>match Nat.beq ℓ x,Nat.beq ℓ o with
  | true,_=> .ptr o off
  | false,true=> .any
  | false,false=> .ptr ℓ off
 | .bs ℓ n=>match Nat.beq ℓ x,Nat.beq ℓ o with
  | true,_=> .bs o n
  | false,true=> .any
  | false,false=> .bs ℓ n
 | .tl ℓ off n=>match Nat.beq ℓ x,Nat.beq ℓ o with
  | true,_=> .tl o off n
  | false,true=> .any
  | false,false=> .tl ℓ off n
 | .qp r C y=> .qp r (C.map (renN x o)) y
 | .em rk rv C m=> .em rk rv (C.map (renN x o)) m
 | .mp rk rv C m=> .mp rk rv (C.map (renN x o)) m
 | .om rk rv ℓ C m=>match Nat.beq ℓ x,Nat.beq ℓ o with
  | true,_=>match memN o (C.map (renN x o)) with
   | true=> .any
   | false=> .om rk rv o (C.map (renN x o)) m
  | false,true=> .any
  | false,false=> .om rk rv ℓ (C.map (renN x o)) m
 | @AV.mo _ _ _ rk r e ℓ C m=>match Nat.beq ℓ x,Nat.beq ℓ o with
  | true,_=>match memN o (C.map (renN x o)) with
   | true=> .any
   | false=> .mo rk r e o (C.map (renN x o)) m
  | false,true=> .any
  | false,false=> .mo rk r e ℓ (C.map (renN x o)) m
 | .cu c ℓ C1 C2=>match Nat.beq ℓ x,Nat.beq ℓ o with
  | true,_=> .cu c o (C1.map (renN x o)) (C2.map (renN x o))
  | false,true=> .any
  | false,false=> .cu c ℓ (C1.map (renN x o)) (C2.map (renN x o))
 | .tup l=> .tup (AV.renL x o l)
 | .ag l=> .ag (AV.renL x o l)
 | .fv g l=> .fv g (AV.renL x o l)
 | .bp r t ℓ C y=>match Nat.beq ℓ x,Nat.beq ℓ o with
  | true,_=> .bp r t o (C.map (renN x o)) y
  | false,true=> .any
  | false,false=> .bp r t ℓ (C.map (renN x o)) y
 | .it rk rv ℓ C last left=>match Nat.beq ℓ x,Nat.beq ℓ o with
  | true,_=> .any
  | false,true=> .any
  | false,false=> .it rk rv ℓ (C.map (renN x o)) last left
def AV.renL (x o:Nat):List AV->List AV
 | []=>[]
 | a::l=>a.ren x o::AV.renL x o l
end
theorem zdj (h:γ.F C b):(zkG γ x o).F (C.map (renN x o)) b:=qF (f:=renN x o) h
mutual
theorem AV.ren_rel (a:AV) (h:a.rel γ w v):(a.ren x o).rel (zkG γ x o) w v:=by
 match a with
 | .any=>trivial
 | .lf l=>exact h
 | .sl r C xs=>exact zat.mono h fun b _ hb=>zdj hb
 | .rc r C y=>obtain ⟨cs,hv,hA⟩:=h;exact ⟨cs,hv,hA.mono fun b _ hb=>zdj hb⟩
 | .ep r C y off=>obtain ⟨b,o',cs,hv,hF,hb,hA,hc⟩:=h;exact ⟨b,o',cs,hv,zdj hF,hb,hA.mono fun b _ hb=>zdj hb,hc⟩
 | .qp r C none=>exact h
 | .em rk rv C m=>obtain ⟨a,b,es,cl,hv,hFa,ha,hc1,hF,hb,hh,hE⟩:=h;exact ⟨a,b,es,cl,hv,zdj hFa,ha,hc1,zdj hF,hb,hh,hE.mono fun b _ hb=>zdj hb⟩
 | .qp r C (some y)=>obtain ⟨b,cs,hv,hF,hb,hA,hc⟩:=h;exact ⟨b,cs,hv,zdj hF,hb,hA.mono fun b _ hb=>zdj hb,hc⟩
 | @AV.mo _ _ _ rk r e ℓ C m=>
  obtain ⟨b,n,O,hv,hm⟩:=h;rw [AV.ren];cases h1:Nat.beq ℓ x with
  | true=>
   have:=xE h1;subst this;cases hmm:memN o (C.map (renN ℓ o)) with
   | true=>trivial
   | false=>exact ⟨b,n,O,hv,hm.regh (fun b _ hc=>by show renN ℓ o (γ.col b)=o;rw [hc,zgg]) (fun b _ hb=>zdj hb) (zeP γ _ _) fun hc=>by rw [zab.2 hc] at hmm;cases hmm⟩
  | false=>
   have hx:ℓ≠x:=fun e=>by rw [e] at h1;simp at h1
   cases h2:Nat.beq ℓ o with
   | true=>trivial
   | false=>
    have hlo:ℓ≠o:=fun e=>by rw [e] at h2;simp at h2
    refine ⟨b,n,O,hv,hm.regh (fun b _ hc=>by show renN x o (γ.col b)=ℓ;rw [hc,zgD hx]) (fun b _ hb=>zdj hb) (zdk γ hlo) fun hc=>?_⟩;obtain ⟨c,hc,he⟩:=xz.1 hc;by_cases hcx:c=x
    ·rw [hcx,zgg] at he;exact hlo he.symm
    ·rw [zgD hcx] at he;rw [he] at hc;exact hm.off hc
 | .cu c ℓ C1 C2=>
  rw [AV.ren];cases h1:Nat.beq ℓ x with
  | true=>
   have:=xE h1;subst this;exact c.move (xw _) (fun _ _ _=>rfl) (fun b _ hc=>by show renN ℓ o (γ.col b)=o;rw [hc,zgg]) (fun b _ hb=>zdj hb) (fun b _ hb=>zdj hb) (zeP γ _ _) h
  | false=>
   have hx:ℓ≠x:=fun e=>by rw [e] at h1;simp at h1
   cases h2:Nat.beq ℓ o with
   | true=>trivial
   | false=>
    have hlo:ℓ≠o:=fun e=>by rw [e] at h2;simp at h2
    exact c.move (xw _) (fun _ _ _=>rfl) (fun b _ hc=>by show renN x o (γ.col b)=ℓ;rw [hc,zgD hx]) (fun b _ hb=>zdj hb) (fun b _ hb=>zdj hb) (zdk γ hlo) h
 | .tup l=>obtain ⟨vs,hv,hL⟩:=h;exact ⟨vs,hv,AV.renL_rel l hL⟩
 | .ag l=>obtain ⟨vs,hv,hL,h1⟩:=h;exact ⟨vs,hv,AV.renL_rel l hL,h1⟩
 | .fv g l=>obtain ⟨vs,hv,hL⟩:=h;exact ⟨vs,hv,AV.renL_rel l hL⟩
 | .bp r t ℓ C y=>
  obtain ⟨b,cs,hv,⟨g1,g2⟩,hb,hh,h1c,hA⟩:=h;have hA':zT ((zkG γ x o).F (C.map (renN x o))) w (r.lv y) cs.toList:=hA.mono fun b _ hb=>zdj hb
  rw [AV.ren];cases h1:Nat.beq ℓ x with
  | true=>
   have:=xE h1;subst this;refine ⟨b,cs,hv,⟨?_,?_⟩,hb,hh,h1c,hA'⟩
   ·show renN ℓ o (γ.col b)=o;rw [g1,zgg]
   ·rw [zeP];exact g2
  | false=>
   have hx:ℓ≠x:=fun e=>by rw [e] at h1;simp at h1
   cases h2:Nat.beq ℓ o with
   | true=>trivial
   | false=>
    have hlo:ℓ≠o:=fun e=>by rw [e] at h2;simp at h2
    refine ⟨b,cs,hv,⟨?_,?_⟩,hb,hh,h1c,hA'⟩
    ·show renN x o (γ.col b)=ℓ;rw [g1,zgD hx]
    ·rw [zdk γ hlo];exact g2
 | .it rk rv ℓ C last left=>
  obtain ⟨r,b,hv,⟨g1,g2⟩,hr',hF,wS,⟨es,cl,seen,since,c0,ls,la,i1,i2,i3,i4,i5,i6,i7,i8,i9,i10⟩,hn⟩:=h;rw [AV.ren];cases h1:Nat.beq ℓ x with
  | true=>trivial
  | false=>
   have hx:ℓ≠x:=fun e=>by rw [e] at h1;simp at h1
   cases h2:Nat.beq ℓ o with
   | true=>trivial
   | false=>
    have hlo:ℓ≠o:=fun e=>by rw [e] at h2;simp at h2
    refine ⟨r,b,hv,⟨?_,?_⟩,hr',zdj hF,wS,⟨es,cl,seen,since,c0,ls,la,i1,i2,i3,i4,i5,i6,i7,i8.mono fun b _ hb=>zdj hb,i9.mono fun b _ hb=>zdj hb,i10⟩,fun hc=>?_⟩
    ·show renN x o (γ.col r)=ℓ;rw [g1,zgD hx]
    ·rw [zdk γ hlo];exact g2
    ·obtain ⟨c,hc,he⟩:=xz.1 hc;by_cases hcx:c=x
     ·rw [hcx,zgg] at he;exact hlo he.symm
     ·rw [zgD hcx] at he;rw [he] at hc;exact hn hc
 | .mp rk rv C m=>obtain ⟨b,es,cl,hv,hF,hb,hh,hE⟩:=h;exact ⟨b,es,cl,hv,zdj hF,hb,hh,hE.mono fun b _ hb=>zdj hb⟩
 | .om rk rv ℓ C m=>
  obtain ⟨b,es,cl,hv,⟨g1,g2⟩,hb,hh,hE,hn⟩:=h;have hE':zcI ((zkG γ x o).F (C.map (renN x o))) w rk rv m es.toList:=hE.mono fun b _ hb=>zdj hb
  rw [AV.ren];cases h1:Nat.beq ℓ x with
  | true=>
   have:=xE h1;subst this;cases hm:memN o (C.map (renN ℓ o)) with
   | true=>trivial
   | false=>
    refine ⟨b,es,cl,hv,⟨?_,?_⟩,hb,hh,hE',fun hc=>by rw [zab.2 hc] at hm;cases hm⟩
    ·show renN ℓ o (γ.col b)=o;rw [g1,zgg]
    ·rw [zeP];exact g2
  | false=>
   have hx:ℓ≠x:=fun e=>by rw [e] at h1;simp at h1
   cases h2:Nat.beq ℓ o with
   | true=>trivial
   | false=>
    have hlo:ℓ≠o:=fun e=>by rw [e] at h2;simp at h2
    refine ⟨b,es,cl,hv,⟨?_,?_⟩,hb,hh,hE',fun hc=>?_⟩
    ·show renN x o (γ.col b)=ℓ;rw [g1,zgD hx]
    ·rw [zdk γ hlo];exact g2
    ·obtain ⟨c,hc,he⟩:=xz.1 hc;by_cases hcx:c=x
     ·rw [hcx,zgg] at he;exact hlo he.symm
     ·rw [zgD hcx] at he;rw [he] at hc;exact hn hc
 | .ptr ℓ off=>
  have hv:v= .pointer (some ⟨γ.box ℓ,off,none⟩):=h;rw [AV.ren];cases h1:Nat.beq ℓ x with
  | true=>
   have:=xE h1;subst this;show v=_;rw [zeP];exact hv
  | false=>
   cases h2:Nat.beq ℓ o with
   | true=>trivial
   | false=>
    show v=_;rw [zdk γ (fun e=>by rw [e] at h2;simp at h2)];exact hv
 | .tl ℓ off n=>
  obtain ⟨A,c,hv,hA⟩:=h;rw [AV.ren];cases h1:Nat.beq ℓ x with
  | true=>
   have:=xE h1;subst this;exact ⟨A,c,hv,fun hn=>by rw [zeP];exact hA hn⟩
  | false=>
   cases h2:Nat.beq ℓ o with
   | true=>trivial
   | false=>exact ⟨A,c,hv,fun hn=>by rw [zdk γ (fun e=>by rw [e] at h2;simp at h2)];exact hA hn⟩
 | .bs ℓ n=>
  have hv:v= .slice (some ⟨γ.box ℓ,0,none⟩) n n:=h;rw [AV.ren];cases h1:Nat.beq ℓ x with
  | true=>
   have:=xE h1;subst this;show v=_;rw [zeP];exact hv
  | false=>
   cases h2:Nat.beq ℓ o with
   | true=>trivial
   | false=>
    show v=_;rw [zdk γ (fun e=>by rw [e] at h2;simp at h2)];exact hv
 | .own r e ℓ C xs=>
  obtain ⟨cs,ho,hg,hA,hn⟩:=h;have hA':zT ((zkG γ x o).F (C.map (renN x o))) w (xs.flatMap r.lv) cs:=hA.mono fun b _ hb=>zdj hb
  rw [AV.ren];cases h1:Nat.beq ℓ x with
  | true=>
   have:=xE h1;subst this;cases hm:memN o (C.map (renN ℓ o)) with
   | true=>trivial
   | false=>
    refine ⟨cs,ho,fun g kd=>⟨?_,?_⟩,hA',fun hc=>by rw [zab.2 hc] at hm;cases hm⟩
    ·show renN ℓ o (γ.col g)=o;rw [(hg g kd).1,zgg]
    ·rw [zeP];exact (hg g kd).2
  | false=>
   have hx:ℓ≠x:=fun e=>by rw [e] at h1;simp at h1
   cases h2:Nat.beq ℓ o with
   | true=>trivial
   | false=>
    have hlo:ℓ≠o:=fun e=>by rw [e] at h2;simp at h2
    refine ⟨cs,ho,fun g kd=>⟨?_,?_⟩,hA',fun hc=>?_⟩
    ·show renN x o (γ.col g)=ℓ;rw [(hg g kd).1,zgD hx]
    ·rw [zdk γ hlo];exact (hg g kd).2
    ·obtain ⟨c,hc,he⟩:=xz.1 hc;by_cases hcx:c=x
     ·rw [hcx,zgg] at he;exact hlo he.symm
     ·rw [zgD hcx] at he;rw [he] at hc;exact hn hc
theorem AV.renL_rel (l:List AV) (h:AV.relL γ w l vs):AV.relL (zkG γ x o) w (AV.renL x o l) vs:=by
 match l with
 | []=>exact h
 | a::l=>
  obtain ⟨v,vs',rfl,h1,h2⟩:=h;exact ⟨v,vs',rfl,AV.ren_rel a h1,AV.renL_rel l h2⟩
end
def zzE (x o:Nat):List Bx->List Bx
 | []=>[]
 | b::l=>match Nat.beq b.lab x,Nat.beq b.lab o with
  | true,_=>⟨o,b.typ,AV.renL x o b.avs⟩::zzE x o l
  | false,true=>zzE x o l
  | false,false=>⟨b.lab,b.typ,AV.renL x o b.avs⟩::zzE x o l
def Env.ren (x o:Nat) (E:Env):Env:=⟨E.sl.map fun p=>(p.1,p.2.ren x o),zzE x o E.bx⟩
theorem zNq (x o:Nat) (h:(Nat.ble 2 x&&Nat.ble 2 o&& !spB x)=true):zdu E (E.ren x o):=fun cx a w hs=>by
 obtain ⟨γ,hB,hS,hX⟩:=hs;simp only [xu] at h;have hx:=xN h.1.1;have ho:=xN h.1.2;have hal:zvX γ (zkG γ x o):=by
  refine ⟨fun b hb=>?_,fun b hb=>?_,fun b (hb:renN x o (γ.col b)=0)=>?_,fun b hb=>?_⟩
  ·show renN x o (γ.col b)=0;rw [zgD (by omega)];exact hb
  ·show renN x o (γ.col b)=1;rw [zgD (by omega)];exact hb
  ·by_cases e:γ.col b=x
   ·rw [e,zgg] at hb;omega
   ·rw [zgD e] at hb;exact hb
  ·show renN x o (γ.col b)=_;refine zgD fun e=>?_
   grind
 refine ⟨zkG γ x o,⟨hB.defers.ren hal,hB.clean,hB.size,hB.kept,cx.X.ren hB.ext hal⟩,fun p hp=>?_,?_⟩
 ·obtain ⟨q,hq,rfl⟩:=xz.1 hp;exact AV.ren_rel q.2 (hS q hq)
 ·have key:∀l,Bxs γ w l->Bxs (zkG γ x o) w (zzE x o l):=by
   intro l
   induction l with
   | nil=>intro _ b hb;cases hb
   | cons c l ih=>
    intro hl b hb;have ih':=ih fun d hd=>hl d (xt _ hd)
    obtain ⟨hc,cs,hh,hL,hone⟩:=hl c xr;rw [zzE] at hb;cases h1:Nat.beq c.lab x with
    | true=>
     rw [h1] at hb;simp only [xx] at hb;rcases hb with rfl| hb
     ·have e1:=xE h1;refine ⟨?_,cs,?_,AV.renL_rel _ hL,hone⟩
      ·show renN x o (γ.col ((zkG γ x o).box o))=o;rw [zeP,<-e1,hc,e1,zgg]
      ·show w.heap[(zkG γ x o).box o]? =_;rw [zeP,<-e1];exact hh
     ·exact ih' b hb
    | false=>
     rw [h1] at hb;have hnx:c.lab≠x:=fun e=>by rw [e] at h1;simp at h1
     cases h2:Nat.beq c.lab o with
     | true=>rw [h2] at hb;exact ih' b hb
     | false=>
      rw [h2] at hb;have hno:c.lab≠o:=fun e=>by rw [e] at h2;simp at h2
      simp only [xx] at hb;rcases hb with rfl| hb
      ·refine ⟨?_,cs,?_,AV.renL_rel _ hL,hone⟩
       ·show renN x o (γ.col ((zkG γ x o).box c.lab))=c.lab;rw [zdk γ hno,hc,zgD hnx]
       ·show w.heap[(zkG γ x o).box c.lab]? =_;rw [zdk γ hno];exact hh
      ·exact ih' b hb
  exact key E.bx hX
def zdf:LV->Value
 | .int k n=> .int k n
 | .bool b=> .bool b
 | .str l=> .string ⟨l.toArray⟩
 | .val v=>v
 | .sl ..=>undef
theorem zwk (h:zat F w l v) (hp:l.plain=true):v=zdf l:=by
 cases h<;>first| rfl| cases hp
theorem zBP (h:zT F w ls vs) (hp:ls.all LV.plain=true):vs=ls.map zdf:=by
 induction ls generalizing vs with
 | nil=>exact yA h.1.symm
 | cons l ls ih=>
  obtain ⟨v,vs',rfl,h1,h2⟩:=h.head;simp only [yK,xu] at hp;rw [zwk h1 hp.1,ih h2 hp.2];rfl
def leI:List (Operand×AV)->List (Operand×AV)->Prop
 | [],[]=>True
 | p::l,q::m=>(p.1=q.1/\AV.le p.2 q.2)/\leI l m
 | _,_=>False
theorem zAC {γ:Gh} {w:World} {a:Act}:∀(l m:List (Operand×AV)),leI l m->(∀p∈l,p.2.rel γ w (a.eval p.1))->∀p∈m,p.2.rel γ w (a.eval p.1)
 | [],[],_,_,p,hp=>by cases hp
 | q::l,x::m,h,hr,p,hp=>by
  obtain ⟨⟨h1,h2⟩,h3⟩:=h;cases hp with
  | head=>rw [<-h1];exact h2 γ w _ (hr q xr)
  | tail _ hp=>exact zAC l m h3 (fun y hy=>hr y (xt _ hy)) p hp
 | [],_::_,h,_,_,_=>h.elim
 | _::_,[],h,_,_,_=>h.elim
theorem zz.le (h:zz P o ins bxs W V av bs) (hl:leI ins' ins):zz P o ins' bxs W V av bs:=
 fun γ a w hi hb=>h γ a w (zAC _ _ hl hi) hb
def zii (x:Int):Option UInt8:=if 0<=x/\x<256 then some (UInt8.ofNat x.toNat) else none
theorem zBN (h:zii x=some c):x=(c.toNat:Int):=by
 unfold zii at h;split at h
 ·rename_i hx;cases h;simp;omega
 ·cases h
theorem zhW (h:zii x=some c):AV.le (.lf (.int .u8 x)) (.lf (.int .u8 (c.toNat:Int))):=by rw [zBN h];exact fun _ _ _ hv=>hv
def lenO (l:List UInt8):Option (List UInt8):=if l.length<=9223372036854775807 then some l else none
theorem zfi:Rp.byte.Plain:=fun x l h=>by simp [Rp.byte] at h;subst h;rfl
theorem zio (k:IntKind):(Rp.int k).Plain:=fun x l h=>by simp [Rp.int] at h;subst h;rfl
theorem zzz:Rp.str.Plain:=fun x l h=>by simp [Rp.str] at h;subst h;rfl
theorem iteT {α:Type} {c:Bool} {x y:Option α} {r:α} (h:(if c then x else y)=some r) (hc:c=true):x=some r:=by rw [hc] at h;exact h
theorem iteF {α:Type} {c:Bool} {x y:Option α} {r:α} (h:(if c then x else y)=some r) (hc:c=false):y=some r:=by rw [hc] at h;exact h
theorem AV.le_refl (a:AV):a.le a:=fun _ _ _ h=>h
theorem zOt {α:Type} (r:Rp α) (C C':List Nat) (x:α) (h:subN C C'=true):AV.le (.rc r C x) (.rc r C' x):=fun _ _ _ ⟨cs,hv,hA⟩=>⟨cs,hv,hA.mono fun _ _ hb=>zZ h _ hb⟩
theorem zNp {α:Type} (r:Rp α) (e:TypeId) (ℓ:Nat) (C C':List Nat) (xs:List α) (h:subN C C'=true) (hn:memN ℓ C'=false):AV.le (.own r e ℓ C xs) (.own r e ℓ C' xs):=fun _ _ _ ⟨cs,ho,hg,hA,_⟩=>
 ⟨cs,ho,hg,hA.mono fun _ _ hb=>zZ h _ hb,fun hc=>by rw [zab.2 hc] at hn;cases hn⟩
theorem zNr {α:Type} (r:Rp α) (e:TypeId) (ℓ:Nat) (C C':List Nat) (xs:List α) (h:subN (ℓ::C) C'=true):AV.le (.own r e ℓ C xs) (.sl r C' xs):=fun _ _ _ hv=>zat.mono (zpX hv) fun _ _ hb=>zZ h _ hb
theorem zNm (a:AV):AV.le a .any:=fun _ _ _ _=>trivial
def leL:List AV->List AV->Prop
 | [],[]=>True
 | a::l,b::m=>a.le b/\leL l m
 | _,_=>False
theorem zqF (h:leL l m) (hr:AV.relL γ w l vs):AV.relL γ w m vs:=by
 induction l generalizing m vs with
 | nil=>cases m<;>first| exact hr| exact h.elim
 | cons a l ih=>
  cases m with
  | nil=>exact h.elim
  | cons b m=>obtain ⟨v,vs',rfl,h1,h2⟩:=hr;exact ⟨v,vs',rfl,h.1 γ w v h1,ih h.2 h2⟩
theorem FnOk.le (h:FnOk P f ins wX) (hl:leL ins' ins):FnOk P f ins' wX:=fun w F vs hr=>h w F vs (zqF hl hr)
theorem zNs (E:Env) (h:ztN P E.opd (zso E o.op) o.op=some (.lf (.bool c))) (hc:c=b):zz P o (zlq E o.op.operands.toList) (zso E o.op) [] [] (.lf (.bool b)) []:=by
 subst hc;refine zJ fun γ ev w hi hb=>?_
 have key:∀(l:List Operand),(∀p∈zlq E l,p.2.rel γ w (ev p.1))->Opds E.opd γ w ev l:=by
  intro l
  induction l with
  | nil=>intro _ x hx;cases hx
  | cons x l ih=>
   intro h y hy av hav;rw [zlq] at h;cases hx:E.opd x with
   | none=>
    rw [hx] at h;cases hy with
    | head=>rw [hx] at hav;cases hav
    | tail _ hy=>exact ih h y hy av hav
   | some a=>
    rw [hx] at h;cases hy with
    | head=>rw [hx] at hav;cases hav;exact h (x,_) xr
    | tail _ hy=>exact ih (fun p hp=>h p (xt _ hp)) y hy av hav
 obtain ⟨v,hr,hv⟩:=zrL h (key _ hi) hb;exact ⟨v,w,γ,hr,Tr.refl _ _ _ _,hv,fun b hb=>by cases hb⟩
section
variable {m:Bool} {P:Program} {Q:Exit->Act->World->Prop} {S M:Act->World->Prop} {l:List It} {c:Code}
theorem zFW (h:J m P c S R) (k:∀e a w,R e a w->zgT m P Q l e a w):JI m P (.c c::l) S Q:=fun a w hs=>by
 rw [zqv];exact zmz (h a w hs) k
theorem zFX {σ ρ:Type} (body:σ->Option (σ⊕ρ)) (Es:σ->Act->World->Prop) (R:ρ->Exit->Act->World->Prop)
  (hb:∀s o,body s=some o->J m P c (Es s) (match o with
   | .inl s'=>fun e a w=>e= .normal/\Es s' a w
   | .inr r=>fun e a w=>e≠ .normal/\R r e a w))
  {s:σ} {r:ρ} (h:zX body s=some r) (hS:∀a w,S a w->Es s a w) (k:∀e a w,R r e a w->zgT m P Q l e a w):JI m P (.c (.loop c)::l) S Q:=
 zFW (zNg body Es R hb h hS (fun _ _ _ hr=>hr)) k
theorem zez (k:JI m P l M Q):∀e a w,(e= .normal/\M a w)->zgT m P Q l e a w:=by
 rintro e a w ⟨rfl,h⟩;exact k a w h
theorem zaE {id:Nat} (l':List It) (he:zrq id l=some l') (k:JI m P l' M Q):∀e a w,(e= .exit id/\M a w)->zgT m P Q l e a w:=by
 rintro e a w ⟨rfl,h⟩;exact ztB he (k a w h)
theorem zGa (k:∀a w,M a w->Q .ret a w):∀e a w,(e= .ret/\M a w)->zgT m P Q l e a w:=by
 rintro e a w ⟨rfl,h⟩;exact k a w h
end
theorem zyX (N:Nat) (hf:P.funcs[f]? =some fn) (hb:fn.body=some c) (hN:fn.ntmps=N) (wY:Nat.ble ins.length N=true) (hres:zlf P E fn.results.toList wX)
  (hj:∀X:Ext,J true P c (Sx ⟨⟨N,[]⟩,X,false,#[]⟩ ⟨zmP 0 ins,[]⟩) fun e a w=>e= .ret/\Sx ⟨⟨N,[]⟩,X,false,#[]⟩ E a w):FnOk P f ins wX:=by
 subst hN;exact zIL hf hb (xN wY) hres hj
open Go.ChangeShapes Go.WideShapes
abbrev allF:Fp:=fun _=>True
def SzOk (P:Program) {H:Type} (t:TypeId) (d:DataW H):Prop:=∀m∈d.weights P t,m<=140737488351232
theorem zoN {H:Type} :∀{ds:List (DataW H)} {i:Nat} {d:DataW H},ds[i]? =some d->∀m∈d.weights P e,m∈DataW.weightsAll P e ds
 | d0::ds,0,d,hd,m,hm=>by
  simp only [List.getElem?_cons_zero,yn] at hd;subst hd;simp only [DataW.weightsAll,xA];exact Or.inl hm
 | d0::ds,i+1,d,hd,m,hm=>by
  simp only [uC] at hd;simp only [DataW.weightsAll,xA];exact Or.inr (zoN hd m hm)
 | [],_,_,hd,_,_=>by simp at hd
theorem SzOk.of_each {H:Type} {P:Program} {ts:List TypeId} {ds:List (DataW H)} (h:(DataW.weightsEach P ts ds).all (·<=reachBytes)=true) (j:Nat) {t:TypeId} {d:DataW H} (ht:ts[j]? =some t) (hd:ds[j]? =some d):SzOk P t d:=fun m hm=>by
 have:=xF.1 h _ (DataW.weights_mem_each ht hd m hm);exact yq this
def zrk (P:Program) {α:Type} (n:Nat) (t:TypeId) (r:Rp α) (W:α->Prop):Prop:=
 ∀{H:Type} (enc:TypeId×Value->H) (w:World) (spare:Nat->Bool) (held:Bool) (cs:List Value) (x:DataW H×List MemPlace),DataW.trod enc P w 0 spare held n t cs=some x->SzOk P t x.1->∃y:α,zT allF w (r.lv y) cs/\W y
section
variable {P:Program} {n:Nat} {t e:TypeId}
theorem zjo (h:zat F w l v):zT F w [l] [v]:= .cons h .nil
theorem zub {k:IntKind} (hu:P.underlying t=some (.int k)):zrk P n t (Rp.int k) fun m=>(Lit.int k m).wf=true:=fun _ _ _ _ _ _ h _=>by
 obtain ⟨m,rfl,_,hw⟩:=DataW.trod_int hu h;exact ⟨m,zjo (.int k m),hw⟩
theorem zES (hu:P.underlying t=some (.int .u8)):zrk P n t Rp.byte fun _=>True:=fun _ _ _ _ _ _ h _=>by
 obtain ⟨m,rfl,_,hw⟩:=DataW.trod_int hu h;have hb:0<=m/\m<=255:=by simpa [Lit.wf,IntKind.min,IntKind.max,IntKind.bits,IntKind.signed] using hw
 have e1:((UInt8.ofNat m.toNat).toNat:Int)=m:=by simp;omega
 refine ⟨UInt8.ofNat m.toNat,zjo ?_,trivial⟩;rw [e1];exact .int .u8 m
theorem zxh (hu:P.underlying t=some .bool):zrk P n t Rp.bool fun _=>True:=fun _ _ _ _ _ _ h _=>by
 obtain ⟨b,rfl,_⟩:=DataW.trod_bool hu h;exact ⟨b,zjo (.bool b),trivial⟩
theorem zzs (hu:P.underlying t=some .string):zrk P n t Rp.str fun l=>l.length<=140737488351232:=fun _ _ _ _ _ _ h hz=>by
 obtain ⟨s,rfl,rfl,hw⟩:=DataW.trod_string hu h;exact ⟨s.data.toList,zjo (by have:=zat.str (F:=allF) (w:=‹World›) s.data.toList;simpa using this),hz _ (by simp [DataW.weights])⟩
theorem zxi {α:Type} {r:Rp α} {W:α->Prop}:zrk P 0 t r W:=fun _ _ _ _ _ _ h _=>by simp [DataW.trod] at h
theorem zEH {w:World} {a:Addr} {v:Value} (h:w.cell? a=some v):a.block<w.heap.size/\a.spot=none:=by
 unfold World.cell? at h;split at h
 ·rename_i c e f hh;refine ⟨(ya.1 hh).1,?_⟩;split at h
  ·cases h
  ·rename_i hs;cases hsp:a.spot with
   | none=>rfl
   | some x=>rw [hsp] at hs;exact absurd rfl hs
 ·cases h
theorem zAa (a:Addr) (m k:Nat):(a.add m).add k=a.add (m+k):=by
 unfold Addr.add;by_cases h1:m=0
 ·subst h1;simp
 ·by_cases h2:k=0
  ·subst h2;simp
  ·have h3:¬(m+k=0):=by omega
   simp only [xp h1,xp h2,xp h3];congr 1;omega
theorem zyp {a:Addr} (h:a.spot=none) (i:Nat):a.add i=⟨a.block,a.off+i,none⟩:=by
 obtain ⟨b,o,s⟩:=a;simp only at h;subst h;unfold Addr.add;split
 ·rename_i h0;subst h0;rfl
 ·rfl
theorem zET {α:Type} {r:Rp α} {W:α->Prop} {B:Nat} (hu:P.underlying t=some (.slice e)) (hc:P.cellsOf e=r.size) (hB:P.bytesOf e=B) (h:zrk P n e r W):zrk P (n+1) t r.list fun xs=>xs.length*B<=140737488351232/\∀x∈xs,W x:=by
 intro H enc w spare held cs x hx hz;rcases DataW.trod_slice hu hx with ⟨rfl,_⟩| ⟨a,len,w9,elems,wR,m,hm,rfl,rfl,_,hl,hcap,wY,hel,_⟩
 ·exact ⟨[],zjo (.sl 0 _ _ _ 0 [] (by simp) (by simp) (xw _) (xC _) (fun h=>absurd h (by omega)) (fun i l u h1=>by simp at h1)),by simp,fun x hx=>by cases hx⟩
 ·cases hm;rw [hc] at hel
  -- element by element
  have each:∀i,i<len->∃y cs',w.cells? 0 (a.add (i*r.size)) r.size=some cs'/\zT allF w (r.lv y) cs'/\W y:=by
   intro i hi;have h1:=hel i hi;rw [xM (show i<elems.length by omega),Option.bind_eq_some_iff] at h1;obtain ⟨cs',h2,h3⟩:=h1;obtain ⟨y,h4,h5⟩:=h enc w spare held cs' _ h3 fun m hm=>hz m (by
    simp only [DataW.weights,hu,xx,xA];refine .inr (.inl (zoN (i:=i) (d:=(elems[i]'(by omega)).1) ?_ m hm));rw [qD,xM (show i<elems.length by omega)];rfl)
   exact ⟨y,cs',h2,h4,h5⟩
  have rows:∀k,k<=len->∃(ys:List α) (ds:List Value),ys.length=k/\zT allF w (ys.flatMap r.lv) ds/\(∀y∈ys,W y)/\∀j,j<k*r.size->w.cell? (a.add j)=ds[j]? :=by
   intro k
   induction k with
   | zero=>exact fun _=>⟨[],[],rfl,.nil,(fun y hy=>by cases hy),fun j hj=>by omega⟩
   | succ k ih=>
    intro hk;obtain ⟨ys,ds,h1,h2,h3,h4⟩:=ih (by omega);obtain ⟨y,cs',h5,h6,h7⟩:=each k (by omega);obtain ⟨_,h8,h9⟩:=World.cells?_some h5;have hds:ds.length=k*r.size:=by rw [<-h2.1,r.flat,h1]
    refine ⟨ys++[y],ds++cs',by simp [h1],?_,?_,fun j hj=>?_⟩
    ·rw [yE];simp only [xI,qm,xY];exact h2.append h6
    ·intro z hz;rcases xA.1 hz with hz| hz
     ·exact h3 z hz
     ·simp at hz;subst hz;exact h7
    ·rw [pA];split
     ·rename_i hj';exact h4 j (by omega)
     ·rename_i hj';rw [qz] at hj;have:=h9 (j - ds.length) (by omega);rw [<-this,hds,zAa];congr 2;omega
  obtain ⟨ys,ds,h1,h2,h3,h4⟩:=rows len (xw _);have hds:ds.length=len*r.size:=by rw [<-h2.1,r.flat,h1]
  have kg:=hz ((elems.length+wR.length)*P.bytesOf e) (by simp [DataW.weights,hu]);rw [hB] at kg;refine ⟨ys,zjo ?_,yi (yC B (by omega)) kg,h3⟩;rw [h1];refine .sl len r.size _ (some a) w9 ds (by rw [r.flat,h1]) hds hl hcap (fun h0=>?_) h2.2;have h0':0<len*r.size:=Nat.mul_pos h0 r.pos;have hc0:=h4 0 h0';rw [xM (show 0<ds.length by omega)] at hc0;obtain ⟨hb,hs⟩:=zEH hc0;have hs':a.spot=none:=by unfold Addr.add at hs;split at hs<;>simp_all
  have hb':a.block<w.heap.size:=by unfold Addr.add at hb;split at hb<;>simp_all
  refine ⟨a.block,a.off,by cases a;simp at hs';subst hs';rfl,trivial,hb',fun i hi=>?_⟩;have:=h4 i hi;rw [<-this];congr 1;exact (zyp hs' i).symm
def FOk (P:Program) (n:Nat) (fs:List Field) (off:Nat) (S:List LV->Prop):Prop:=
 ∀(H:Type) (enc:TypeId×Value->H) (w:World) (spare:Nat->Bool) (held:Bool) (cs:List Value),cs.length=off+(fs.map fun f=>P.cellsOf f.type).sum->
  (∀(i:Nat) (f:Field),fs[i]? =some f->∃x,DataW.trod enc P w 0 spare held n f.type ((cs.drop f.offset).take (P.cellsOf f.type))=some x/\SzOk P f.type x.1)->∃ls,zT allF w ls (cs.drop off)/\S ls
theorem zFP {off:Nat}:FOk P n [] off fun ls=>ls=[]:=fun _ _ _ _ _ cs hl _=>by
 have:cs.drop off=[]:=yy (by simp at hl;omega);exact ⟨[],by rw [this];exact .nil,rfl⟩
theorem zke {α:Type} {r:Rp α} {W:α->Prop} {f:Field} {fs:List Field} {off:Nat} {S:List LV->Prop} (h:zrk P n f.type r W) (ho:f.offset=off) (hc:P.cellsOf f.type=r.size) (k:FOk P n fs (off+r.size) S):
  FOk P n (f::fs) off fun ls=>∃y ls',ls=r.lv y++ls'/\W y/\S ls':=by
 intro H enc w spare held cs hl hx;obtain ⟨x,hx0,hz0⟩:=hx 0 f rfl;rw [ho,hc] at hx0;obtain ⟨y,hy,hw⟩:=h enc w spare held _ _ hx0 hz0;obtain ⟨ls,h1,h2⟩:=k H enc w spare held cs (by simp [hc] at hl;omega) fun i g hg=>hx (i+1) g (by simpa using hg)
 refine ⟨r.lv y++ls,?_,y,ls,rfl,hw,h2⟩;have e:cs.drop off=(cs.drop off).take r.size++cs.drop (off+r.size):=by rw [<-yh,qc]
 rw [e];exact hy.append h1
theorem zAT {α:Type} {r:Rp α} {W:α->Prop} {fs:Array Field} {S:List LV->Prop} (hu:P.underlying t=some (.struct fs)) (hc:P.cellsOf t=(fs.toList.map fun f=>P.cellsOf f.type).sum) (hf:FOk P n fs.toList 0 S) (hy:∀ls,S ls->∃y,ls=r.lv y/\W y):zrk P (n+1) t r W:=by
 intro H enc w spare held cs x hx hz;obtain ⟨xs,m,hm,rfl,hl,hxl,hget⟩:=DataW.trod_struct hu hx;cases hm;obtain ⟨ls,h1,h2⟩:=hf H enc w spare held cs (by rw [hl,hc];omega) fun i f hif=>by
  have hi:i<xs.length:=by rw [hxl];have:=(yx.1 hif).1;simpa using this
  refine ⟨xs[i],by rw [hget i f (by simpa using hif),xM hi],fun m hm=>hz m ?_⟩;simp only [DataW.weights,hu];refine DataW.weights_mem_each (j:=i) (t:=f.type) (d:=xs[i].1) (by rw [qD,hif];rfl) (by rw [qD,xM hi];rfl) m hm
 obtain ⟨y,rfl,hw⟩:=hy ls h2;exact ⟨y,by simpa using h1,hw⟩
def znV (P:Program) {α:Type} (t:TypeId) (r:Rp α) (W:α->Prop):Prop:=∀n,zrk P n t r W
theorem zpS {α:Type} {r:Rp α} {W:α->Prop} {B:Nat} (hu:P.underlying t=some (.slice e)) (hc:P.cellsOf e=r.size) (hB:P.bytesOf e=B) (h:znV P e r W):znV P t r.list fun xs=>xs.length*B<=140737488351232/\∀x∈xs,W x
 | 0=>zxi
 | n+1=>zET hu hc hB (h n)
theorem zrw {α:Type} {r:Rp α} {W:α->Prop} {fs:Array Field} {S:List LV->Prop} (hu:P.underlying t=some (.struct fs)) (hc:P.cellsOf t=(fs.toList.map fun f=>P.cellsOf f.type).sum) (hf:∀n,FOk P n fs.toList 0 S) (hy:∀ls,S ls->∃y,ls=r.lv y/\W y):znV P t r W
 | 0=>zxi
 | n+1=>zAT hu hc (hf n) hy
end
section
variable {P:Program} {H:Type} {enc:TypeId×Value->H} {w:World} {t e:TypeId} {v:Value} {d:DataW H} {ps:List MemPlace}
theorem zKT (h:zat allF w l v):zat ((gh0 allF).F [0]) w l v:=zat.mono h fun b _ _=>by
 show (gh0 allF).col b∈[0];rw [zFQ allF b trivial];exact xr
theorem zFB {k:IntKind} (hu:P.underlying t=some (.int k)) (hval:Value.okWide P w .any 0 t v) (h:DataW.Trod enc P w 0 (fun _=>true) true t v d ps) (_hz:SzOk P t d):∃m:Int,AV.rel (gh0 allF) w (.lf (.int k m)) v/\(Lit.int k m).wf=true:=by
 obtain ⟨m,rfl,_,_,hw⟩:=open_int hu hval h;exact ⟨m,⟨rfl,.int k m⟩,hw⟩
theorem zEe {α:Type} {r:Rp α} {W:List α->Prop} (hu:P.underlying t=some (.slice e)) (ho:znV P t r.list W) (hval:Value.okWide P w .any 0 t v) (h:DataW.Trod enc P w 0 (fun _=>true) true t v d ps) (hz:SzOk P t d):∃xs:List α,AV.rel (gh0 allF) w (.sl r [0] xs) v/\W xs:=by
 obtain ⟨a,len,w9,rfl⟩:=okWide_slice hu hval;obtain ⟨fuel,hf⟩:=h;obtain ⟨y,hy,hw⟩:=ho fuel enc w _ _ _ _ hf hz;have hy':zT allF w [.sl y.length r.size (y.flatMap r.lv)] [.slice a len w9]:=hy;obtain ⟨u,hu',hl⟩:=hy'.single;cases hu';exact ⟨y,zKT hl,hw⟩
end
theorem zHq (h:FnOk P f ins [.lf (.bool b)]) (hb:b=true) (hr:AV.relL (gh0 allF) w ins vs):
  Calls P f vs.toArray w fun e w'=>e= .returned (.bool true)/\Below w.heap.size w w':=by
 subst hb;refine (h w allF vs hr).mono ?_;rintro e w' ⟨γ,us,rfl,hbel,_,v,us',rfl,hv,hu⟩;have hu':us'=[]:=hu;subst hu';exact ⟨by rw [zkM hv];rfl,hbel⟩
theorem zrt (h:zz P o ins' bx W V av bs) (e:ins'=ins):zz P o ins bx W V av bs:=e▸h
theorem lw_0 :zbM P l [] is:=by cases l<;>simp [zbM]
theorem lw_e (h:zbM P l ss is):zbM P (o::l) (.ev::ss) is:=by simpa [zbM] using h
theorem lw_x (h:zz P o ins bxs W V av bs) (h2:zbM P l ss is):
  zbM P (o::l) (.ex bl W V av bs::ss) (⟨ins,bxs,[]⟩::is):=by simp only [zbM];exact ⟨h,h2⟩
theorem lw_r (h:zsm P o rq W V prod) (h2:zbM P l ss is):
  zbM P (o::l) (.raw ix W V prod::ss) (⟨[],[],rq⟩::is):=by simp only [zbM];exact ⟨h,h2⟩
def zxL (P:Program):List Field->List (Nat×Nat)->Bool
 | [],[]=>true
 | f::fs,(o,s)::ps=>Nat.beq f.offset o&&(match P.info? f.type with| some i=>Nat.beq i.size s| none=>false)&&zxL P fs ps
 | _,_=>false
theorem zsa :∀(fs:List Field) (ps:List (Nat×Nat)),zxL P fs ps=true->∀w,(fs.mapM (m:=Sem) fun (f:Field)=>do pure (f.offset,<-sizeOf f.type)).run P w= .ok ps w
 | [],[],_,w=>rfl
 | f::fs,(o,s)::ps,h,w=>by
  simp only [zxL,xu] at h;obtain ⟨⟨h1,h2⟩,h3⟩:=h;have h1:=xE h1;split at h2
  ·rename_i i hi;have h2:=xE h2;subst h1 h2;have hs:(sizeOf f.type).run P w= .ok i.size w:=by simp [sizeOf,typeInfo,hi]
   simp only [qB,xS,hs,xV,yp,zsa fs ps h3 w]
  ·cases h2
 | [],_::_,h,_=>by cases h
 | _::_,[],h,_=>by cases h
def stB (P:Program) (t:TypeId) (fs:Array Field) (places:List (Nat×Nat)) (zl:List LV):Bool:=zxL P fs.toList places&&match P.info? t with
 | some i=>match i.zero with
  | some z=>zokL zl z.cells.toList
  | none=>false
 | none=>false
theorem StT.ofB (hu:P.underlying t=some (.struct fs)) (h:stB P t fs places zl=true):StT P t places zl:=by
 simp only [stB,xu] at h;obtain ⟨h1,h2⟩:=h;split at h2
 ·rename_i i hi;split at h2
  ·rename_i z hz;refine ⟨fs,z,hu,fun w=>by simp [zeroValue,typeInfo,hi,hz],fun w=>?_,h2⟩;have:=zsa fs.toList places h1 w;rw [<-qT (xs:=fs),uc,Sem.run_map];rw [this];rfl
  ·cases h2
 ·cases h2
def ztV:Option TypeDesc->LV->Bool
 | some (.int k),.int k' _=>decide (k=k')
 | some .bool,.bool _=>true
 | some .string,.str _=>true
 | _,_=>false
def zoH (P:Program):Nat->List Field->List LV->Bool
 | _,[],[]=>true
 | off, f :: fs, l :: ls => (f.name != "_" && Nat.beq f.offset off && P.plainKey f.type && ztV (P.underlying f.type) l) && zoH P (off + 1) fs ls
 | _,_,_=>false
def leq:LV->LV->Bool
 | .int _ a,.int _ b=>a==b
 | .bool a,.bool b=>a==b
 | .str a,.str b=>a==b
 | _,_=>false
def eqL:List LV->List LV->Bool
 | [],[]=>true
 | l::ls,m::ms=>leq l m&&eqL ls ms
 | _,_=>false
theorem zLx (h1:ztV (P.underlying t) l=true) (h2:ztV (P.underlying t) m=true) (d:Nat) (w:World):
  (Op.equalIn (d+1) t (zdf l) (zdf m)).run P w= .ok (leq l m) w:=by
 generalize hu:P.underlying t=u at h1 h2
 unfold ztV at h1;split at h1
 ·rename_i k k' a;have:=yq h1;subst this;cases m<;>first| cases h2| skip
  rename_i k2 b;have:=yq h2;subst this;exact run_equalIn_int w d t k k a b hu
 ·cases m<;>first| cases h2| skip
  exact run_equalIn_bool' w d t _ _ hu
 ·cases m<;>first| cases h2| skip
  have:=run_equalIn_string w d t ⟨(‹List UInt8›:List UInt8).toArray⟩ ⟨(‹List UInt8›:List UInt8).toArray⟩ hu;rename_i a b;have:=run_equalIn_string w d t ⟨a.toArray⟩ ⟨b.toArray⟩ hu;simp only [zdf,leq];rw [this];simp [ByteArray.toList_eq]
 ·cases h1
theorem zsv (d:Nat) (w:World):∀(fs:List Field) (ls ms:List LV) (off:Nat),zoH P off fs ls=true->zoH P off fs ms=true->
  (∀i,i<ls.length->xs[off+i]? =(ls.map zdf)[i]?)->(∀i,i<ms.length->ys[off+i]? =(ms.map zdf)[i]?)->(Op.eqFields (d+1) xs ys fs).run P w= .ok (eqL ls ms) w
 | [],[],[],_,_,_,_,_=>rfl
 | f::fs,l::ls,m::ms,off,h1,h2,hx,hy=>by
  simp only [zoH,xu] at h1 h2;obtain ⟨⟨⟨⟨a1,a2⟩,a3⟩,a4⟩,a5⟩:=h1;obtain ⟨⟨_,b4⟩,b5⟩:=h2;have hn : f.name ≠ "_" := by simpa using a1
  have ho:=xE a2;have p1:=uh a3 (xs:=xs) (off:=f.offset) (v:=zdf l) (w:=w) (by rw [ho];simpa using hx 0 (by simp));have p2:=uh a3 (xs:=ys) (off:=f.offset) (v:=zdf m) (w:=w) (by rw [ho];simpa using hy 0 (by simp));have ih:=zsv d w fs ls ms (off+1) a5 b5 (fun i hi=>by have:=hx (i+1) (by simpa using hi);simpa [Nat.add_assoc,Nat.add_comm 1 i] using this) (fun i hi=>by have:=hy (i+1) (by simpa using hi);simpa [Nat.add_assoc,Nat.add_comm 1 i] using this);simp only [Op.eqFields,hn,ne_eq,not_false_eq_true,yo,xS,p1,p2,xV,zLx a4 b4 d w,eqL];cases leq l m
  ·rfl
  ·simpa using ih
 | [],[],_::_,_,_,h,_,_=>by cases h
 | [],_::_,_,_,h,_,_,_=>by cases h
 | _::_,[],_,_,h,_,_,_=>by cases h
 | _::_,_::_,[],_,_,h,_,_=>by cases h
theorem eqT (hu:P.underlying t=some (.struct fs)) (hp:P.stoodInHeld t=false) (h1:zoH P 0 fs.toList ls=true) (h2:zoH P 0 fs.toList ms=true) (he:eqL ls ms=b):
  ∀w,(Op.equalIn 10000 t (.agg (ls.map zdf).toArray) (.agg (ms.map zdf).toArray)).run P w= .ok b w:=fun w=>by
 have hf:P.fieldsOf t=fs:=by unfold Program.fieldsOf;rw [hu]
 rw [run_equalIn_struct w 9999 t _ _ (by rw [hf];exact hu) hp,hf,zsv 9998 w fs.toList ls ms 0 h1 h2 (fun i _=>by simp) (fun i _=>by simp),he]
end Go.Proofs.YtaglemhabeipfaaGreat

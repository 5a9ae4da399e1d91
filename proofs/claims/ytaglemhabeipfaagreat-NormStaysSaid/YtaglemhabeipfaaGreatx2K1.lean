/-
  What every proof here stands on. No condition.
-/
import Derived.WalkKit
import Derived.Laws.OwnMore
import Derived.Maps.AppendAt
import Derived.LoopN
import Derived.Maps.RangeRun
import Derived.CallsIn
import Derived.LoopNIn
import Derived.TacticsIn
import Derived.OrdersIn
import Derived.Laws.IdiomStrings
import Derived.Laws.StructEq
import Derived.Orders
import Derived.ProofKit
import Derived.OpenShut
import Derived.ShutString
import Derived.ChangeOld
import Derived.Below
import Derived.SizedLaws
import Derived.ChangeKeysEq
set_option autoImplicit true
set_option relaxedAutoImplicit true
namespace Go.Proofs.YtaglemhabeipfaaGreat
open Go Go.RowKit
abbrev ue:=@Array.foldl_toList
abbrev yE:=@Array.getD_eq_getD_getElem?
abbrev pg:=@Array.getElem?_append_left
abbrev pA:=@Array.getElem?_eq_getElem
abbrev yh:=@Array.getElem?_eq_some_iff
abbrev pZ:=@Array.getElem?_toList
abbrev yJ:=@Array.length_toList
abbrev qU:=@Array.toArray_toList
abbrev uj:=@Array.toList_push
abbrev xB:=@Bool.and_eq_true
abbrev q8:=@Bool.and_false
abbrev q6:=@Bool.and_true
abbrev yO:=@Bool.eq_iff_iff
abbrev yY:=@Bool.false_and
abbrev qg:=@Bool.false_eq_true
abbrev pU:=@Bool.false_or
abbrev pK:=@Bool.not_eq_false'
abbrev pV:=@Bool.not_eq_true
abbrev xY:=@Bool.not_eq_true'
abbrev qW:=@Bool.or_eq_false_iff
abbrev qX:=@Bool.or_eq_true
abbrev pr:=@Bool.or_false
abbrev pm:=@Bool.or_true
abbrev yj:=@Bool.true_and
abbrev up:=@Classical.byContradiction
abbrev qh:=@Int.emod_eq_of_lt
abbrev qt:=@Int.le_refl
abbrev xK:=@Int.toNat_natCast
abbrev yP:=@List.all_cons
abbrev xI:=@List.all_eq_true
abbrev uy:=@List.any_append
abbrev uz:=@List.any_cons
abbrev yy:=@List.append_assoc
abbrev xW:=@List.append_nil
abbrev qf:=@List.cons.injEq
abbrev yo:=@List.cons_append
abbrev pM:=@List.drop_append_of_le_length
abbrev yA:=@List.drop_drop
abbrev yF:=@List.drop_eq_getElem_cons
abbrev yK:=@List.drop_eq_nil_of_le
abbrev ur:=@List.drop_left
abbrev pw:=@List.drop_length
abbrev qq:=@List.drop_take
abbrev ya:=@List.drop_zero
abbrev yx:=@List.eq_nil_of_length_eq_zero
abbrev pv:=@List.exists_cons_of_ne_nil
abbrev uu:=@List.filter_append
abbrev yI:=@List.filter_cons
abbrev uG:=@List.findIdx?_eq_none_iff
abbrev pP:=@List.findIdx?_eq_some_iff_getElem
abbrev yH:=@List.flatMap_append
abbrev xM:=@List.flatMap_cons
abbrev pJ:=@List.flatMap_def
abbrev qw:=@List.flatMap_map
abbrev qo:=@List.flatMap_nil
abbrev pt:=@List.flatMap_singleton
abbrev uD:=@List.flatten_append
abbrev qm:=@List.flatten_cons
abbrev yd:=@List.foldl_cons
abbrev q9:=@List.foldl_nil
abbrev ut:=@List.getD_eq_getElem?_getD
abbrev pE:=@List.getElem?_append
abbrev qN:=@List.getElem?_drop
abbrev xT:=@List.getElem?_eq_getElem
abbrev yz:=@List.getElem?_eq_some_iff
abbrev qn:=@List.getElem?_map
abbrev yW:=@List.getElem?_take
abbrev uv:=@List.getElem_cons_succ
abbrev uw:=@List.getElem_cons_zero
abbrev uB:=@List.getElem_map
abbrev xH:=@List.getElem_mem
abbrev qy:=@List.getElem_of_mem
abbrev pn:=@List.headD_cons
abbrev pi:=@List.isEmpty_iff
abbrev xD:=@List.length_append
abbrev yk:=@List.length_cons
abbrev yi:=@List.length_drop
abbrev q7:=@List.length_eq_one_iff
abbrev uI:=@List.length_eq_zero_iff
abbrev pR:=@List.length_filter_le
abbrev qL:=@List.length_map
abbrev yB:=@List.length_nil
abbrev qZ:=@List.length_pos_iff
abbrev qG:=@List.length_replicate
abbrev uo:=@List.length_set
abbrev qH:=@List.length_singleton
abbrev xZ:=@List.length_take
abbrev qE:=@List.mapM_cons
abbrev uc:=@List.mapM_toArray
abbrev yN:=@List.map_append
abbrev y6:=@List.map_congr_left
abbrev xQ:=@List.map_cons
abbrev yL:=@List.map_map
abbrev yQ:=@List.map_nil
abbrev qv:=@List.map_singleton
abbrev pG:=@List.map_toArray
abbrev xG:=@List.mem_append
abbrev ym:=@List.mem_append_left
abbrev yf:=@List.mem_append_right
abbrev xC:=@List.mem_cons
abbrev xA:=@List.mem_cons_of_mem
abbrev xz:=@List.mem_cons_self
abbrev xU:=@List.mem_filter
abbrev qk:=@List.mem_flatMap
abbrev xF:=@List.mem_map
abbrev qe:=@List.mem_map_of_mem
abbrev qO:=@List.mem_of_getElem?
abbrev pz:=@List.mem_of_mem_drop
abbrev pW:=@List.mem_of_mem_take
abbrev yl:=@List.mem_singleton
abbrev xL:=@List.nil_append
abbrev pL:=@List.nodup_cons
abbrev qd:=@List.nodup_nil
abbrev xN:=@List.not_mem_nil
abbrev yg:=@List.pairwise_cons
abbrev uf:=@List.set_eq_take_append_cons_drop
abbrev qa:=@List.size_toArray
abbrev y7:=@List.sum_cons
abbrev pQ:=@List.takeWhile_append_dropWhile
abbrev qD:=@List.take_append
abbrev qx:=@List.take_append_drop
abbrev p9:=@List.take_append_of_le_length
abbrev qB:=@List.take_left
abbrev pT:=@List.take_length
abbrev yM:=@List.take_of_length_le
abbrev pF:=@List.take_succ_cons
abbrev uA:=@List.take_succ_eq_append_getElem
abbrev qi:=@List.take_take
abbrev po:=@List.take_zero
abbrev ph:=@Nat.add_assoc
abbrev pO:=@Nat.add_comm
abbrev pH:=@Nat.add_sub_cancel
abbrev yD:=@Nat.add_zero
abbrev uF:=@Nat.and_two_pow_sub_one_eq_mod
abbrev uh:=@Nat.ble_eq_true_of_le
abbrev xJ:=@Nat.eq_of_beq_eq_true
abbrev pd:=@Nat.eq_zero_or_pos
abbrev xS:=@Nat.le_of_ble_eq_true
abbrev qb:=@Nat.le_of_not_lt
abbrev xE:=@Nat.le_refl
abbrev yn:=@Nat.le_trans
abbrev pX:=@Nat.lt_irrefl
abbrev xX:=@Nat.lt_of_lt_of_le
abbrev ql:=@Nat.lt_of_succ_le
abbrev yq:=@Nat.lt_or_ge
abbrev yU:=@Nat.min_eq_left
abbrev qF:=@Nat.mod_eq_of_lt
abbrev qY:=@Nat.mul_assoc
abbrev yZ:=@Nat.mul_comm
abbrev uq:=@Nat.mul_le_mul
abbrev ud:=@Nat.mul_le_mul_left
abbrev yG:=@Nat.mul_le_mul_right
abbrev y8:=@Nat.mul_one
abbrev yT:=@Nat.not_lt
abbrev qA:=@Nat.one_pos
abbrev pN:=@Nat.or_comm
abbrev pp:=@Nat.pow_le_pow_right
abbrev yR:=@Nat.pow_succ
abbrev qz:=@Nat.sub_zero
abbrev qC:=@Nat.succ_mul
abbrev xR:=@Nat.zero_add
abbrev xP:=@Nat.zero_le
abbrev ul:=@Obj.cells.injEq
abbrev qj:=@Oper.upon_enter
abbrev ug:=@Oper.upon_skip
abbrev qQ:=@Oper.wpIn_mono
abbrev pf:=@Option.getD_some
abbrev uE:=@Option.isSome_iff_exists
abbrev uk:=@Option.map_none
abbrev qV:=@Option.map_some
abbrev qI:=@Option.some.inj
abbrev yp:=@Option.some.injEq
abbrev pq:=@Prod.ext
abbrev yw:=@Prod.mk.injEq
abbrev yb:=@Result.andThen_ok
abbrev x9:=@Sem.run_bind
abbrev yu:=@Sem.run_pure
abbrev uC:=@Sum.inr.injEq
abbrev pD:=@World.cell?_of_block
abbrev pI:=@World.ownsRow_nil
abbrev qJ:=@and_true
abbrev qK:=@beq_iff_eq
abbrev qc:=@callsIn_wide
abbrev qR:=@calls_of_wp
abbrev yS:=@cell_of_row
abbrev ye:=@decide_eq_false
abbrev uH:=@decide_eq_false_iff_not
abbrev xV:=@decide_eq_true
abbrev yc:=@decide_eq_true_eq
abbrev pu:=@eq_false_of_ne_true
abbrev pB:=@grownCap_ge
abbrev pY:=@grownCap_le_maxLen
abbrev yV:=@heap_alloc_new
abbrev yC:=@if_false
abbrev xx:=@if_neg
abbrev xy:=@if_pos
abbrev yr:=@if_true
abbrev qP:=@mem_ready
abbrev qu:=@not_true_eq_false
abbrev pS:=@of_decide_eq_false
abbrev yv:=@of_decide_eq_true
abbrev xO:=@or_false
abbrev ui:=@run_part_plain
abbrev pl:=@run_storeCells_at
abbrev yX:=@run_underlying
abbrev y9:=@setRow_heap
abbrev qM:=@setRow_other
abbrev pk:=@size_madeCells
abbrev pC:=@size_zeroCells
abbrev qr:=@true_and
abbrev qT:=@wpIn_mono
abbrev qS:=@wp_mono
def zhT {σ ρ:Type} (body:σ->Option (σ⊕ρ)):Nat->σ->Option ρ
 | 0,_=>none
 | n+1,s=>match body s with
  | none=>none
  | some (.inl s')=>zhT body n s'
  | some (.inr r)=>some r
open Classical in
noncomputable def zaB {σ ρ:Type} (body:σ->Option (σ⊕ρ)) (s:σ):Option ρ:=
 match zhT body 9999 s with
 | some r=>some r
 | none=>if h:∃n r,zhT body n s=some r then zhT body h.choose s else none
theorem zEp {σ ρ:Type} {body:σ->Option (σ⊕ρ)} {n:Nat} {s:σ} {r:ρ} (h:zhT body n s=some r):zhT body (n+1) s=some r:=by
 induction n generalizing s with
 | zero=>simp [zhT] at h
 | succ n ih=>
  rw [zhT] at h|-
  grind
theorem zCk {σ ρ:Type} {body:σ->Option (σ⊕ρ)} {n m:Nat} {s:σ} {r:ρ} (h:zhT body n s=some r) (hm:n<=m):zhT body m s=some r:=by
 obtain ⟨k,rfl⟩:=Nat.exists_eq_add_of_le hm;clear hm
 induction k with
 | zero=>exact h
 | succ k ih=>exact zEp ih
theorem zuh {σ ρ:Type} {body:σ->Option (σ⊕ρ)} {n:Nat} {s:σ} {r:ρ} (h:zhT body n s=some r):zaB body s=some r:=by
 have one:∀{m:Nat} {q:ρ},zhT body m s=some q->q=r:=fun {m q} hm=>by
  have h1:=zCk hm (Nat.le_max_left m n);have h2:=zCk h (Nat.le_max_right m n)
  grind
 have hex:∃n r,zhT body n s=some r:=⟨n,r,h⟩;obtain ⟨q,hq⟩:=hex.choose_spec;unfold zaB;split
 ·rename_i hm;rw [one hm]
 ·rw [dif_pos hex,hq,one hq]
theorem zwt {σ ρ:Type} {body:σ->Option (σ⊕ρ)} {s:σ} {r:ρ} (h:zaB body s=some r):∃n,zhT body n s=some r:=by
 unfold zaB at h;split at h
 ·rename_i hm;exact ⟨_,hm.trans h⟩
 ·split at h
  ·exact ⟨_,h⟩
  ·cases h
theorem zY {σ ρ:Type} {body:σ->Option (σ⊕ρ)} {s s':σ} (h:body s=some (.inl s')):zaB body s=zaB body s':=by
 cases hw:zaB body s' with
 | some r=>
  obtain ⟨n,hn⟩:=zwt hw;exact zuh (n:=n+1) (by rw [zhT,h];exact hn)
 | none=>
  cases hw':zaB body s with
  | none=>rfl
  | some r=>
   obtain ⟨n,hn⟩:=zwt hw';cases n with
   | zero=>simp [zhT] at hn
   | succ n=>rw [zhT,h] at hn;rw [zuh hn] at hw;cases hw
theorem zZ {σ ρ:Type} {body:σ->Option (σ⊕ρ)} {s:σ} {r:ρ} (h:body s=some (.inr r)):zaB body s=some r:=
 zuh (n:=1) (by rw [zhT,h])
def upB {α:Type} (le:α->α->Bool):List α->Bool
 | []=>true
 | a::l=>l.all (le a)&&upB le l
def srt {α:Type} (le:α->α->Bool) (l:List α):List α:=if upB le l then l else l.mergeSort le
theorem zKF {α:Type} {le:α->α->Bool}:∀{l:List α},upB le l=true->l.Pairwise fun a b=>le a b=true
 | [],_=> .nil
 | a::l,h=>by
  rw [upB,xB,xI] at h;exact .cons h.1 (zKF h.2)
theorem zBe {α:Type} (le:α->α->Bool) (l:List α):srt le l=l.mergeSort le:=by
 unfold srt;split
 ·rw [List.mergeSort_of_pairwise (zKF (by assumption))]
 ·rfl
def zlm {ν:Type} (m:List (Int×ν)):Option (List Int):=
 if (m.all fun p=>(Lit.int .i64 p.1).wf)=true/\m.length*8<=140737488355328 then some (srt (fun x y=>decide (x<=y)) (m.map Prod.fst)) else none
abbrev Rnd (σ χ:Type):=σ->χ->Option (Bool×σ)
def rnd {σ ρ χ:Type} (kb:σ->χ->Option (σ⊕ρ)):Rnd (σ⊕ρ) χ
 | .inl s,x=>match kb s x with
  | some (.inl s')=>some (true,.inl s')
  | some (.inr r)=>some (false,.inr r)
  | none=>none
 | .inr _,_=>none
theorem zDW {α β:Type} {x:Option α} {f:α->Option β} {r:β} (h:(x>>=f)=some r):∃a,x=some a/\f a=some r:=by
 cases x with
 | none=>cases h
 | some a=>exact ⟨a,rfl,h⟩
theorem zoS {α:Type} {c:Bool} {x y:Option α} {r:α} (h:(if c then x else y)=some r):(c=true/\x=some r)\/(c=false/\y=some r):=by
 grind
def idx {α:Type} (xs:List α) (i:Int):Option α:=if 0<=i then xs[i.toNat]? else none
def cut {α:Type} (xs:List α) (i j:Int):Option (List α):=if 0<=i/\i<=j/\j<=xs.length then some ((xs.drop i.toNat).take (j.toNat - i.toNat)) else none
def insO (xs:List UInt8) (i:Int) (ys:List UInt8):Option (List UInt8):=if 0<=i/\i<=xs.length/\xs.length+ys.length<=140737488355328 then some (xs.take i.toNat++ys++xs.drop i.toNat) else none
inductive LV where
 | int (k:IntKind) (n:Int)
 | bool (b:Bool)
 | str (l:List UInt8)
 | sl (n size:Nat) (ls:List LV)
 | val (v:Value)
abbrev Fp:=Nat->Prop
inductive zaO (F:Fp) (w:World):LV->Value->Prop
 | int (k:IntKind) (n:Int):zaO F w (.int k n) (.int k n)
 | bool (b:Bool):zaO F w (.bool b) (.bool b)
 | str (l:List UInt8):zaO F w (.str l) (.string ⟨l.toArray⟩)
 | val (v:Value) (h:v.oneCell'=true):zaO F w (.val v) v
 | sl (n size:Nat) (ls:List LV) (A:Option Addr) (c:Nat) (cs:List Value) (hl:ls.length=n*size) (hcs:cs.length=n*size) (hc:n<=c) (hm:c<=maxLen)
   (hA:0<n->∃b off,A=some ⟨b,off,none⟩/\F b/\b<w.heap.size/\∀i,i<n*size->w.cell? ⟨b,off+i,none⟩=cs[i]?)
   (hr:∀(i:Nat) (l:LV) (u:Value),ls[i]? =some l->cs[i]? =some u->zaO F w l u):
   zaO F w (.sl n size ls) (.slice A n c)
def zai (F:Fp) (w:World) (ls:List LV) (cs:List Value):Prop:=ls.length=cs.length/\∀(i:Nat) (l:LV) (u:Value),ls[i]? =some l->cs[i]? =some u->zaO F w l u
structure zvN (F:Fp) (w w':World):Prop where
 size:w.heap.size<=w'.heap.size
 block:∀b,b<w.heap.size->F b->w'.heap[b]? =w.heap[b]?
section
variable {F G:Fp} {w w':World}
theorem zvN.cell (h:zvN F w w') (hb:a.block<w.heap.size) (hF:F a.block):w'.cell? a=w.cell? a:=pD (h.block _ hb hF)
theorem zaO.keep (h:zaO F w l v) (hk:zvN F w w'):zaO F w' l v:=by
 induction h with
 | int k n=>exact .int k n
 | bool b=>exact .bool b
 | str l=>exact .str l
 | val v h=>exact .val v h
 | sl n size ls A c cs hl hcs hc hm hA hr ih=>
  refine .sl n size ls A c cs hl hcs hc hm (fun hn=>?_) ih;obtain ⟨b,off,e,hF,hb,hcell⟩:=hA hn;exact ⟨b,off,e,hF,xX hb hk.size,fun i hi=>(hk.cell (a:=⟨b,off+i,none⟩) hb hF).trans (hcell i hi)⟩
theorem zaO.mono (h:zaO F w l v) (hG:∀b,b<w.heap.size->F b->G b):zaO G w l v:=by
 induction h with
 | int k n=>exact .int k n
 | bool b=>exact .bool b
 | str l=>exact .str l
 | val v h=>exact .val v h
 | sl n size ls A c cs hl hcs hc hm hA hr ih=>
  refine .sl n size ls A c cs hl hcs hc hm (fun hn=>?_) ih
  grind
theorem zaO.one (h:zaO F w l v):v.oneCell'=true:=by
 cases h<;>first| rfl| assumption
theorem zai.keep (h:zai F w ls cs) (hk:zvN F w w'):zai F w' ls cs:=⟨h.1,fun i l u h1 h2=>(h.2 i l u h1 h2).keep hk⟩
theorem zai.mono (h:zai F w ls cs) (hG:∀b,b<w.heap.size->F b->G b):zai G w ls cs:=⟨h.1,fun i l u h1 h2=>(h.2 i l u h1 h2).mono hG⟩
theorem zai.nil:zai F w [] []:=⟨rfl,fun i l u h1=>by simp at h1⟩
theorem zai.append (h:zai F w ls cs) (k:zai F w ms ds):zai F w (ls++ms) (cs++ds):=by
 refine ⟨by rw [xD,xD,h.1,k.1],fun i l u h1 h2=>?_⟩;rw [pE] at h1 h2;rw [h.1] at h1;split at h1
 ·rename_i hi;rw [xy hi] at h2;exact h.2 i l u h1 h2
 ·rename_i hi;rw [xx hi] at h2;exact k.2 _ l u h1 h2
theorem zai.drop (h:zai F w ls cs) (k:Nat):zai F w (ls.drop k) (cs.drop k):=
 ⟨by simp [h.1],fun i l u h1 h2=>h.2 (k+i) l u (by simpa using h1) (by simpa using h2)⟩
theorem zai.take (h:zai F w ls cs) (k:Nat):zai F w (ls.take k) (cs.take k):=by
 refine ⟨by simp [h.1],fun i l u h1 h2=>?_⟩;rw [yW] at h1 h2;split at h1
 ·rename_i hi;rw [xy hi] at h2;exact h.2 i l u h1 h2
 ·cases h1
theorem zai.cons (h:zaO F w l v) (k:zai F w ls cs):zai F w (l::ls) (v::cs):=
 zai.append (ls:=[l]) (cs:=[v]) ⟨rfl,fun i l' u h1 h2=>by
  cases i with
  | zero=>simp at h1 h2;subst h1 h2;exact h
  | succ i=>simp at h1⟩ k
theorem zai.one (h:zai F w ls cs):∀u∈cs,u.oneCell'=true:=by
 intro u hu;obtain ⟨i,hi,rfl⟩:=qy hu;exact (h.2 i _ _ (xT (by rw [h.1];exact hi)) (xT hi)).one
theorem zai.head (h:zai F w (l::ls) cs):∃v cs',cs=v::cs'/\zaO F w l v/\zai F w ls cs':=by
 cases cs with
 | nil=>have:=h.1;simp at this
 | cons v cs'=>exact ⟨v,cs',rfl,h.2 0 l v rfl rfl,h.drop 1⟩
theorem zai.single (h:zai F w [l] cs):∃v,cs=[v]/\zaO F w l v:=by
 obtain ⟨v,cs',rfl,h1,h2⟩:=h.head;have:=h2.1;cases cs' with
 | nil=>exact ⟨v,rfl,h1⟩
 | cons=>simp at this
end
structure Rp (α:Type) where
 size:Nat
 agg:Bool
 lv:α->List LV
 len:∀x,(lv x).length=size
 pos:0<size
theorem Rp.flat {α:Type} (r:Rp α) (xs:List α):(xs.flatMap r.lv).length=xs.length*r.size:=by
 induction xs with
 | nil=>simp
 | cons x xs ih=>simp only [xM,xD,ih,r.len,yk,qC];omega
theorem Rp.flat_drop {α:Type} (r:Rp α) (xs:List α) (k:Nat):(xs.drop k).flatMap r.lv=(xs.flatMap r.lv).drop (k*r.size):=by
 induction k generalizing xs with
 | zero=>simp
 | succ k ih=>
  cases xs with
  | nil=>simp
  | cons x xs=>
   have hx:=r.len x;rw [List.drop_succ_cons,ih,xM,List.drop_append,hx,qC];simp_all
theorem Rp.flat_take {α:Type} (r:Rp α) (xs:List α) (k:Nat):(xs.take k).flatMap r.lv=(xs.flatMap r.lv).take (k*r.size):=by
 induction k generalizing xs with
 | zero=>simp
 | succ k ih=>
  cases xs with
  | nil=>simp
  | cons x xs=>
   have hx:=r.len x;rw [pF,xM,ih,xM,qD,hx,qC]
   grind
theorem Rp.flat_at {α:Type} (r:Rp α) (xs:List α) (k:Nat) (x:α) (h:xs[k]? =some x):((xs.flatMap r.lv).drop (k*r.size)).take r.size=r.lv x:=by
 rw [<-r.flat_drop];have hk:k<xs.length:=(yz.1 h).1;have e:xs.drop k=x::xs.drop (k+1):=by
  rw [yF hk]
  grind
 have hx:=r.len x
 grind
def Rp.byte:Rp UInt8:=⟨1,false,fun c=>[.int .u8 c.toNat],fun _=>rfl,qA⟩
def Rp.int (k:IntKind):Rp Int:=⟨1,false,fun n=>[.int k n],fun _=>rfl,qA⟩
def Rp.bool:Rp Bool:=⟨1,false,fun n=>[.bool n],fun _=>rfl,qA⟩
def Rp.str:Rp (List UInt8):=⟨1,false,fun n=>[.str n],fun _=>rfl,qA⟩
def Rp.list {α:Type} (r:Rp α):Rp (List α):=⟨1,false,fun xs=>[.sl xs.length r.size (xs.flatMap r.lv)],fun _=>rfl,qA⟩
structure Gh where
 col:Nat->Nat
 box:Nat->Nat
def Gh.F (γ:Gh) (C:List Nat):Fp:=fun b=>γ.col b∈C
structure Cu where
 R:List Nat->List Nat->Nat->Gh->World->Value->Prop
 one:∀{C1 C2:List Nat} {ℓ:Nat} {γ:Gh} {w:World} {v:Value},R C1 C2 ℓ γ w v->v.oneCell'=true
 move:∀{C1 C2 C1' C2':List Nat} {ℓ ℓ':Nat} {γ γ':Gh} {w w':World} {v:Value},w.heap.size<=w'.heap.size->(∀b,b<w.heap.size->γ.col b∈ℓ::(C1++C2)->w'.heap[b]? =w.heap[b]?)->(∀b,b<w.heap.size->γ.col b=ℓ->γ'.col b=ℓ')->
  (∀b,b<w.heap.size->γ.F C1 b->γ'.F C1' b)->(∀b,b<w.heap.size->γ.F C2 b->γ'.F C2' b)->γ'.box ℓ'=γ.box ℓ->R C1 C2 ℓ γ w v->R C1' C2' ℓ' γ' w' v
inductive AV:Type 1 where
 | any
 | lf (l:LV)
 | sl {α:Type} (r:Rp α) (C:List Nat) (xs:List α)
 | own {α:Type} (r:Rp α) (e:TypeId) (ℓ:Nat) (C:List Nat) (xs:List α)
 | rc {α:Type} (r:Rp α) (C:List Nat) (x:α)
 | ep {α:Type} (r:Rp α) (C:List Nat) (x:α) (off:Nat)
 | ptr (ℓ off:Nat)
 | mp {κ ν:Type} (rk:Rp κ) (rv:Rp ν) (C:List Nat) (m:List (κ×ν))
 | om {κ ν:Type} (rk:Rp κ) (rv:Rp ν) (ℓ:Nat) (C:List Nat) (m:List (κ×ν))
 | tup (l:List AV)
 | ag (l:List AV)
 | fv (g:Nat) (l:List AV)
 | bp {α:Type} (r:Rp α) (t:TypeId) (ℓ:Nat) (C:List Nat) (x:α)
 | it {κ ν:Type} (rk:Rp κ) (rv:Rp ν) (ℓ:Nat) (C:List Nat) (last left:List (κ×ν))
 | bs (ℓ n:Nat)
 | tl (ℓ off n:Nat)
 | qp {α:Type} (r:Rp α) (C:List Nat) (o:Option α)
 | em {κ ν:Type} (rk:Rp κ) (rv:Rp ν) (C:List Nat) (m:List (κ×ν))
 | mo {κ α:Type} [DecidableEq κ] (rk:Rp κ) (r:Rp α) (e:TypeId) (ℓ:Nat) (C:List Nat) (m:List (κ×List α))
 | cu (c:Cu) (ℓ:Nat) (C1 C2:List Nat)
def LV.plain:LV->Bool
 | .sl ..=>false
 | _=>true
theorem zaO.plain (h:zaO F w l v) (hp:l.plain=true):zaO G w' l v:=by
 cases h with
 | int k n=>exact .int k n
 | bool b=>exact .bool b
 | str l=>exact .str l
 | val v h=>exact .val v h
 | sl=>cases hp
def VRel {α:Type} (F:Fp) (w:World) (r:Rp α) (x:α) (v:Value):Prop:=zai F w (r.lv x) v.cells.toList/\(r.agg=true->∃cs:List Value,v= .agg cs.toArray)/\(r.agg=false->v.cells=#[v])
theorem VRel.mono {α:Type} {F G:Fp} {w:World} {r:Rp α} {x:α} {v:Value} (h:VRel F w r x v) (hG:∀b,b<w.heap.size->F b->G b):VRel G w r x v:=⟨h.1.mono hG,h.2⟩
theorem VRel.keep {α:Type} {F:Fp} {w w':World} {r:Rp α} {x:α} {v:Value} (h:VRel F w r x v) (hk:zvN F w w'):VRel F w' r x v:=⟨h.1.keep hk,h.2⟩
inductive zcF {κ ν:Type} (F:Fp) (w:World) (rk:Rp κ) (rv:Rp ν):List (κ×ν)->List MapEntry->Prop
 | nil:zcF F w rk rv [] []
 | cons {p:κ×ν} {m:List (κ×ν)} {e:MapEntry} {es:List MapEntry} (h1:VRel F w rk p.1 e.key) (h2:VRel F w rv p.2 e.val) (h:zcF F w rk rv m es):zcF F w rk rv (p::m) (e::es)
theorem zcF.mono {κ ν:Type} {F G:Fp} {w:World} {rk:Rp κ} {rv:Rp ν} {m:List (κ×ν)} {es:List MapEntry} (h:zcF F w rk rv m es) (hG:∀b,b<w.heap.size->F b->G b):zcF G w rk rv m es:=by
 induction h with
 | nil=>exact .nil
 | cons h1 h2 _ ih=>exact .cons (h1.mono hG) (h2.mono hG) ih
theorem zcF.keep {κ ν:Type} {F:Fp} {w w':World} {rk:Rp κ} {rv:Rp ν} {m:List (κ×ν)} {es:List MapEntry} (h:zcF F w rk rv m es) (hk:zvN F w w'):zcF F w' rk rv m es:=by
 induction h with
 | nil=>exact .nil
 | cons h1 h2 _ ih=>exact .cons (h1.keep hk) (h2.keep hk) ih
def StOk {κ ν:Type} (m:List (κ×ν)) (es:Array MapEntry) (cl:Nat):Prop:=(∀x∈es.toList,x.born<cl)/\(es.toList.map (·.born)).Nodup/\(m.map Prod.fst).Nodup
def mget {κ ν:Type} [DecidableEq κ]:List (κ×ν)->κ->Option ν
 | [],_=>none
 | p::m,k=>if k=p.1 then some p.2 else mget m k
def mput {κ ν:Type} [DecidableEq κ]:List (κ×ν)->κ->ν->List (κ×ν)
 | [],k,x=>[(k,x)]
 | p::m,k,x=>if k=p.1 then (k,x)::m else p::mput m k x
def Rp.valR:Rp Value:=⟨1,false,fun v=>[.val v],fun _=>rfl,by decide⟩
def zqG {α:Type} (γ:Gh) (w:World) (r:Rp α) (e:TypeId) (ℓ:Nat) (C:List Nat) (xs:List α) (v:Value):Prop:=
 ∃cs,w.ownsRow 0 e r.size v xs.length cs/\(∀g,v.ownBlock=some g->γ.col g=ℓ)/\zai (γ.F C) w (xs.flatMap r.lv) cs
def zKT {α:Type} (γ:Gh) (w:World) (r:Rp α) (C:List Nat) (xs:List α) (v:Value):Prop:=
 (∃A,v= .slice A xs.length xs.length)/\zaO (γ.F C) w (.sl xs.length r.size (xs.flatMap r.lv)) v
def RowX {α:Type} (γ:Gh) (w:World) (r:Rp α) (e:TypeId) (ℓ:Nat) (C:List Nat) (o:Prop) (xs:List α) (v:Value):Prop:=
 (o/\zqG γ w r e ℓ C xs v)\/(¬o/\zKT γ w r C xs v)
def zAc (u v:Value):Prop:=∀g,u.ownBlock=some g->v.ownBlock≠some g
structure zMP {κ α:Type} [DecidableEq κ] (γ:Gh) (w:World) (r:Rp α) (e:TypeId) (ℓ:Nat) (C:List Nat) (S O:κ->Prop) (m:List (κ×List α)) (n:List (κ×Value)):Prop where
 keys:m.map Prod.fst=n.map Prod.fst
 row:∀k xs u,mget m k=some xs->mget n k=some u->S k->RowX γ w r e ℓ C (O k) xs u
 apart:∀j k u v,j≠k->mget n j=some u->mget n k=some v->S j->S k->O j->O k->zAc u v
def MoIn {κ α:Type} [DecidableEq κ] (γ:Gh) (w:World) (rk:Rp κ) (r:Rp α) (e:TypeId) (ℓ:Nat) (C:List Nat) (S O:κ->Prop) (m:List (κ×List α)) (b:Nat) (n:List (κ×Value)):Prop:=
 ∃es cl,(γ.col b=ℓ/\γ.box ℓ=b)/\b<w.heap.size/\w.heap[b]? =some (.map es cl)/\StOk n es cl/\zcF (γ.F C) w rk Rp.valR n es.toList/\zMP γ w r e ℓ C S O m n/\ℓ∉C
def zOd {κ ν:Type} (F:Fp) (w:World) (rk:Rp κ) (rv:Rp ν) (last left:List (κ×ν)) (b r:Nat):Prop:=
 ∃es cl seen since c0 ls la,w.heap[r]? =some (.mapIter (some b) since seen c0)/\w.heap[b]? =some (.map es cl)/\(∀x∈es.toList,x.born<since)/\(es.toList.map (·.born)).Nodup/\since<=c0/\since<=cl/\
  ls.Perm (leftOf es seen).toList/\zcF F w rk rv left ls/\zcF F w rk rv last la/\∀e∈la,e∈es.toList/\(∃se:Array Nat,seen=se.push e.born)/\c0=cl
mutual
def AV.rel (γ:Gh) (w:World):AV->Value->Prop
 | .any,_=>True
 | .lf l,v=>l.plain=true/\zaO (fun _=>False) w l v
 | .sl r C xs,v=>zaO (γ.F C) w (.sl xs.length r.size (xs.flatMap r.lv)) v
 | .own r e ℓ C xs,v=>∃cs,w.ownsRow 0 e r.size v xs.length cs/\(∀g,v.ownBlock=some g->γ.col g=ℓ/\γ.box ℓ=g)/\zai (γ.F C) w (xs.flatMap r.lv) cs/\ℓ∉C
 | .rc r C x,v=>∃cs,v= .agg cs.toArray/\zai (γ.F C) w (r.lv x) cs
 | .ep r C x off,v=>∃b o cs,v= .pointer (some ⟨b,o+off,none⟩)/\γ.col b∈C/\b<w.heap.size/\zai (γ.F C) w (r.lv x) cs/\∀i,i<cs.length->w.cell? ⟨b,o+i,none⟩=cs[i]?
 | .ptr ℓ off,v=>v= .pointer (some ⟨γ.box ℓ,off,none⟩)
 | .bs ℓ n,v=>v= .slice (some ⟨γ.box ℓ,0,none⟩) n n
 | .tl ℓ off n,v=>∃A c,v= .slice A n c/\(0<n->A=some ⟨γ.box ℓ,off,none⟩)
 | .qp r C o,v=>match o with
  | none=>v= .pointer none
  | some x=>∃b cs,v= .pointer (some ⟨b,0,none⟩)/\γ.col b∈C/\b<w.heap.size/\zai (γ.F C) w (r.lv x) cs/\∀i,i<cs.length->w.cell? ⟨b,0+i,none⟩=cs[i]?
 | .mp rk rv C m,v=>∃b es cl,v= .map (some b)/\γ.col b∈C/\b<w.heap.size/\(w.heap[b]? =some (.map es cl)/\StOk m es cl)/\zcF (γ.F C) w rk rv m es.toList
 | .em rk rv C m,v=>∃a b es cl,v= .pointer (some ⟨a,0,none⟩)/\γ.col a∈C/\a<w.heap.size/\w.cell? ⟨a,0,none⟩=some (.map (some b))/\γ.col b∈C/\b<w.heap.size/\(w.heap[b]? =some (.map es cl)/\StOk m es cl)/\zcF (γ.F C) w rk rv m es.toList
 | .om rk rv ℓ C m,v=>∃b es cl,v= .map (some b)/\(γ.col b=ℓ/\γ.box ℓ=b)/\b<w.heap.size/\(w.heap[b]? =some (.map es cl)/\StOk m es cl)/\zcF (γ.F C) w rk rv m es.toList/\ℓ∉C
 | @AV.mo _ _ _ rk r e ℓ C m,v=>∃b n O,v= .map (some b)/\MoIn γ w rk r e ℓ C (fun _=>True) O m b n
 | .cu c ℓ C1 C2,v=>c.R C1 C2 ℓ γ w v
 | .tup l,v=>∃vs:List Value,v= .tuple vs.toArray/\AV.relL γ w l vs
 | .ag l,v=>∃vs:List Value,v= .agg vs.toArray/\AV.relL γ w l vs/\∀u∈vs,u.oneCell'=true
 | .fv g l,v=>∃vs:List Value,v= .func (.func g) #[] vs.toArray/\AV.relL γ w l vs
 | .bp r t ℓ C x,v=>∃b cs,v= .pointer (some ⟨b,0,none⟩)/\(γ.col b=ℓ/\γ.box ℓ=b)/\b<w.heap.size/\w.heap[b]? =some (.cells cs t (0,0))/\(∀u∈cs.toList,u.oneCell'=true)/\zai (γ.F C) w (r.lv x) cs.toList
 | .it rk rv ℓ C last left,v=>∃r b,v= .pointer (some ⟨r,0,none⟩)/\(γ.col r=ℓ/\γ.box ℓ=r)/\r<w.heap.size/\γ.col b∈C/\b<w.heap.size/\zOd (γ.F C) w rk rv last left b r/\ℓ∉C
def AV.relL (γ:Gh) (w:World):List AV->List Value->Prop
 | [],vs=>vs=[]
 | a::l,vs=>∃v vs',vs=v::vs'/\AV.rel γ w a v/\AV.relL γ w l vs'
end
mutual
/-- The colors that a reading looks at. -/
def AV.cols:AV->List Nat
 | .any| .lf _| .ptr _ _| .bs _ _| .tl _ _ _=>[]
 | .sl _ C _| .rc _ C _| .ep _ C _ _| .qp _ C _=>C
 | .own _ _ ℓ C _=>ℓ::C
 | .mp _ _ C _| .em _ _ C _=>C
 | .om _ _ ℓ C _=>ℓ::C
 | @AV.mo _ _ _ _ _ _ ℓ C _=>ℓ::C
 | .cu _ ℓ C1 C2=>ℓ::(C1++C2)
 | .tup l=>AV.colsL l
 | .ag l=>AV.colsL l
 | .fv _ l=>AV.colsL l
 | .bp _ _ ℓ C _=>ℓ::C
 | .it _ _ ℓ C _ _=>ℓ::C
def AV.colsL:List AV->List Nat
 | []=>[]
 | a::l=>AV.cols a++AV.colsL l
end
mutual
/-- The boxes that it points into. -/
def AV.labs:AV->List Nat
 | .ptr ℓ _=>[ℓ]
 | .bs ℓ _=>[ℓ]
 | .tl ℓ _ _=>[ℓ]
 | .own _ _ ℓ _ _=>[ℓ]
 | .om _ _ ℓ _ _=>[ℓ]
 | @AV.mo _ _ _ _ _ _ ℓ _ _=>[ℓ]
 | .cu _ ℓ _ _=>[ℓ]
 | .tup l=>AV.labsL l
 | .ag l=>AV.labsL l
 | .fv _ l=>AV.labsL l
 | .bp _ _ ℓ _ _=>[ℓ]
 | .it _ _ ℓ _ _ _=>[ℓ]
 | _=>[]
def AV.labsL:List AV->List Nat
 | []=>[]
 | a::l=>AV.labs a++AV.labsL l
end
structure Tr (W V:List Nat) (γ:Gh) (w:World) (γ':Gh) (w':World):Prop where
 os:w'.os=w.os
 tape:w'.tape=w.tape
 output:w'.output=w.output
 size:w.heap.size<=w'.heap.size
 block:∀b,b<w.heap.size->γ.col b∉W->w'.heap[b]? =w.heap[b]?
 col:∀b,b<w.heap.size->γ'.col b=γ.col b
 box:∀ℓ,ℓ∉V->γ'.box ℓ=γ.box ℓ
 fresh:∀b,w.heap.size<=b->b<w'.heap.size->γ'.col b=0->0∈W\/0∈V
section
variable {W V:List Nat} {γ γ':Gh} {w w':World}
theorem Tr.refl (W V:List Nat) (γ:Gh) (w:World):Tr W V γ w γ w:=⟨rfl,rfl,rfl,xE _,fun _ _ _=>rfl,fun _ _=>rfl,fun _ _=>rfl,fun b h1 h2=>by omega⟩
theorem Tr.lv (h:Tr W V γ w γ' w') (hC:∀c∈C,c∉W) (hl:zaO (γ.F C) w l v):zaO (γ'.F C) w' l v:=by
 have h1:zaO (fun b=>γ.F C b/\b<w.heap.size) w l v:=hl.mono fun b hb hF=>⟨hF,hb⟩
 refine (h1.keep (w':=w') ⟨h.size,fun b hb hF=>h.block b hb (hC _ hF.1)⟩).mono fun b hb hF=>?_
 show γ'.col b∈C;rw [h.col b hF.2];exact hF.1
theorem Tr.all (h:Tr W V γ w γ' w') (hC:∀c∈C,c∉W) (hl:zai (γ.F C) w ls cs):zai (γ'.F C) w' ls cs:=
 ⟨hl.1,fun i l u h1 h2=>h.lv hC (hl.2 i l u h1 h2)⟩
theorem Tr.es (h:Tr W V γ w γ' w') {C:List Nat} (hC:∀c∈C,c∉W) {κ ν:Type} {rk:Rp κ} {rv:Rp ν} {m:List (κ×ν)} {es:List MapEntry} (hl:zcF (γ.F C) w rk rv m es):zcF (γ'.F C) w' rk rv m es:=by
 induction hl with
 | nil=>exact .nil
 | cons h1 h2 _ ih=>exact .cons ⟨h.all hC h1.1,h1.2⟩ ⟨h.all hC h2.1,h2.2⟩ ih
theorem ziw (ho:w.ownsRow base e size v n cs) (hb:∀g,v.ownBlock=some g->w'.heap[g]? =w.heap[g]?):w'.ownsRow base e size v n cs:=by
 refine ⟨ho.1,?_⟩;rcases ho.2 with hn| ⟨g,wX,ka,rfl,hg,hh,wO⟩
 ·exact .inl hn
 ·exact .inr ⟨g,wX,ka,rfl,hg,(hb g rfl).trans hh,wO⟩
theorem MoIn.off {κ α:Type} [DecidableEq κ] {γ:Gh} {w:World} {rk:Rp κ} {r:Rp α} {e:TypeId} {ℓ:Nat} {C:List Nat} {S O:κ->Prop} {m:List (κ×List α)} {b:Nat} {n:List (κ×Value)} (h:MoIn γ w rk r e ℓ C S O m b n):ℓ∉C:=by
 obtain ⟨es,cl,_,_,_,_,_,_,hn⟩:=h;exact hn
theorem RowX.regh {α:Type} {γ γ':Gh} {w:World} {r:Rp α} {e:TypeId} {ℓ ℓ':Nat} {C C':List Nat} {o:Prop} {xs:List α} {v:Value} (h1:∀b,b<w.heap.size->γ.col b=ℓ->γ'.col b=ℓ')
  (h2:∀b,b<w.heap.size->γ.col b∈C->γ'.col b∈C') (h:RowX γ w r e ℓ C o xs v):RowX γ' w r e ℓ' C' o xs v:=by
 rcases h with ⟨ho,cs,hw,hg,hA⟩| ⟨ho,hv,hL⟩
 ·exact .inl ⟨ho,cs,hw,fun g w8=>h1 g (hw.lt g w8).2 (hg g w8),hA.mono h2⟩
 ·exact .inr ⟨ho,hv,hL.mono h2⟩
theorem MoIn.regh {κ α:Type} [DecidableEq κ] {γ γ':Gh} {w:World} {rk:Rp κ} {r:Rp α} {e:TypeId} {ℓ ℓ':Nat} {C C':List Nat} {S O:κ->Prop} {m:List (κ×List α)} {b:Nat} {n:List (κ×Value)} (h1:∀b,b<w.heap.size->γ.col b=ℓ->γ'.col b=ℓ')
  (h2:∀b,b<w.heap.size->γ.col b∈C->γ'.col b∈C') (h3:γ'.box ℓ'=γ.box ℓ) (h4:ℓ'∉C') (h:MoIn γ w rk r e ℓ C S O m b n):MoIn γ' w rk r e ℓ' C' S O m b n:=by
 obtain ⟨es,cl,⟨g1,g2⟩,hb,hh,hO,hE,hR,_⟩:=h;exact ⟨es,cl,⟨h1 b hb g1,h3.trans g2⟩,hb,hh,hO,hE.mono h2,⟨hR.keys,fun k xs u a1 a2 a3=>(hR.row k xs u a1 a2 a3).regh h1 h2,hR.apart⟩,h4⟩
theorem zqG.keep (h:Tr W V γ w γ' w') {α:Type} {r:Rp α} {e:TypeId} {ℓ:Nat} {C:List Nat} {xs:List α} {v:Value} (h1:ℓ∉W) (h2:∀c∈C,c∉W) (hr:zqG γ w r e ℓ C xs v):zqG γ' w' r e ℓ C xs v:=by
 obtain ⟨cs,ho,hg,hA⟩:=hr;have wP:=ho.lt;exact ⟨cs,ziw ho fun g w8=>h.block g (wP g w8).2 (by rw [hg g w8];exact h1),fun g w8=>by rw [h.col g (wP g w8).2];exact hg g w8,h.all h2 hA⟩
theorem RowX.keep (h:Tr W V γ w γ' w') {α:Type} {r:Rp α} {e:TypeId} {ℓ:Nat} {C:List Nat} {o:Prop} {xs:List α} {v:Value} (h1:ℓ∉W) (h2:∀c∈C,c∉W) (hr:RowX γ w r e ℓ C o xs v):RowX γ' w' r e ℓ C o xs v:=by
 rcases hr with ⟨ho,hr⟩| ⟨ho,hv,hL⟩
 ·exact .inl ⟨ho,hr.keep h h1 h2⟩
 ·exact .inr ⟨ho,hv,h.lv h2 hL⟩
theorem MoIn.keep (h:Tr W V γ w γ' w') {κ α:Type} [DecidableEq κ] {rk:Rp κ} {r:Rp α} {e:TypeId} {ℓ:Nat} {C:List Nat} {S O:κ->Prop} {m:List (κ×List α)} {b:Nat} {n:List (κ×Value)} (h1:ℓ∉W) (h2:∀c∈C,c∉W) (h3:ℓ∉V)
  (hr:MoIn γ w rk r e ℓ C S O m b n):MoIn γ' w' rk r e ℓ C S O m b n:=by
 obtain ⟨es,cl,⟨g1,g2⟩,hb,hh,hO,hE,hR,hn⟩:=hr;exact ⟨es,cl,⟨by rw [h.col b hb];exact g1,by rw [h.box ℓ h3];exact g2⟩,xX hb h.size,(h.block b hb (by rw [g1];exact h1)).trans hh,hO,h.es h2 hE,⟨hR.keys,fun k xs u a1 a2 a3=>(hR.row k xs u a1 a2 a3).keep h h1 h2,hR.apart⟩,hn⟩
mutual
theorem AV.keep (a:AV) {v:Value} (h:Tr W V γ w γ' w') (hc:∀c∈a.cols,c∉W) (hl:∀c∈a.labs,c∉V) (hr:a.rel γ w v):a.rel γ' w' v:=by
 match a with
 | .any=>trivial
 | .lf l=>exact ⟨hr.1,hr.2.plain hr.1⟩
 | .sl r C xs=>exact h.lv hc hr
 | .own r e ℓ C xs=>
  obtain ⟨cs,ho,hg,hA,hn⟩:=hr;have wP:=ho.lt;refine ⟨cs,ziw ho fun g w8=>h.block g (wP g w8).2 ?_,fun g w8=>?_,h.all (fun c hC=>hc c (xA _ hC)) hA,hn⟩
  ·rw [(hg g w8).1];exact hc ℓ xz
  ·rw [h.col g (wP g w8).2,h.box ℓ (hl ℓ xz)];exact hg g w8
 | .rc r C x=>
  obtain ⟨cs,hv,hA⟩:=hr;exact ⟨cs,hv,h.all hc hA⟩
 | .ep r C x off=>
  obtain ⟨b,o,cs,hv,hF,hb,hA,hcell⟩:=hr;refine ⟨b,o,cs,hv,by rw [h.col b hb];exact hF,xX hb h.size,h.all hc hA,fun i hi=>?_⟩;rw [<-hcell i hi];exact pD (h.block b hb (hc _ hF))
 | .ptr ℓ off=>
  show v=_;rw [h.box ℓ (hl ℓ xz)];exact hr
 | .bs ℓ n=>
  show v=_;rw [h.box ℓ (hl ℓ xz)];exact hr
 | .tl ℓ off n=>
  obtain ⟨A,c,hv,hA⟩:=hr;exact ⟨A,c,hv,fun hn=>by rw [h.box ℓ (hl ℓ xz)];exact hA hn⟩
 | .qp r C o=>
  cases o with
  | none=>exact hr
  | some x=>
   obtain ⟨b,cs,hv,hF,hb,hA,hcell⟩:=hr;refine ⟨b,cs,hv,by rw [h.col b hb];exact hF,xX hb h.size,h.all hc hA,fun i hi=>?_⟩;rw [<-hcell i hi];exact pD (h.block b hb (hc _ hF))
 | .mp rk rv C m=>
  obtain ⟨b,es,cl,hv,hF,hb,hh,hE⟩:=hr;exact ⟨b,es,cl,hv,by rw [h.col b hb];exact hF,xX hb h.size,⟨(h.block b hb (hc _ hF)).trans hh.1,hh.2⟩,h.es hc hE⟩
 | .em rk rv C m=>
  obtain ⟨a,b,es,cl,hv,hFa,ha,hc1,hF,hb,hh,hE⟩:=hr;exact ⟨a,b,es,cl,hv,by rw [h.col a ha];exact hFa,xX ha h.size,(pD (h.block a ha (hc _ hFa))).trans hc1,by rw [h.col b hb];exact hF,xX hb h.size,⟨(h.block b hb (hc _ hF)).trans hh.1,hh.2⟩,h.es hc hE⟩
 | .om rk rv ℓ C m=>
  obtain ⟨b,es,cl,hv,⟨hF,hbx⟩,hb,hh,hE,hn⟩:=hr;exact ⟨b,es,cl,hv,⟨by rw [h.col b hb];exact hF,by rw [h.box ℓ (hl ℓ xz)];exact hbx⟩,xX hb h.size,⟨(h.block b hb (by rw [hF];exact hc ℓ xz)).trans hh.1,hh.2⟩,h.es (fun c hC=>hc c (xA _ hC)) hE,hn⟩
 | @AV.mo _ _ _ rk r e ℓ C m=>
  obtain ⟨b,n,O,hv,hm⟩:=hr;exact ⟨b,n,O,hv,hm.keep h (hc ℓ xz) (fun c hC=>hc c (xA _ hC)) (hl ℓ xz)⟩
 | .cu c ℓ C1 C2=>
  refine c.move h.size (fun b hb hc'=>h.block b hb (hc _ hc')) (fun b hb e=>by rw [h.col b hb];exact e) (fun b hb hF=>?_) (fun b hb hF=>?_) (h.box ℓ (hl ℓ xz)) hr
  ·show γ'.col b∈C1;rw [h.col b hb];exact hF
  ·show γ'.col b∈C2;rw [h.col b hb];exact hF
 | .tup l=>
  obtain ⟨vs,hv,hL⟩:=hr;exact ⟨vs,hv,AV.keepL l h hc hl hL⟩
 | .ag l=>
  obtain ⟨vs,hv,hL,h1⟩:=hr;exact ⟨vs,hv,AV.keepL l h hc hl hL,h1⟩
 | .fv g l=>
  obtain ⟨vs,hv,hL⟩:=hr;exact ⟨vs,hv,AV.keepL l h hc hl hL⟩
 | .bp r t ℓ C x=>
  obtain ⟨b,cs,hv,⟨hF,hbx⟩,hb,hh,h1,hA⟩:=hr;exact ⟨b,cs,hv,⟨by rw [h.col b hb];exact hF,by rw [h.box ℓ (hl ℓ xz)];exact hbx⟩,xX hb h.size,(h.block b hb (by rw [hF];exact hc ℓ xz)).trans hh,h1,h.all (fun c hC=>hc c (xA _ hC)) hA⟩
 | .it rk rv ℓ C last left=>
  obtain ⟨r,b,hv,⟨g1,g2⟩,hr',hF,hb,⟨es,cl,seen,since,c0,ls,la,i1,i2,i3,i4,i5,i6,i7,i8,i9,i10⟩,hn⟩:=hr;have hC:∀c∈C,c∉W:=fun c h1=>hc c (xA _ h1)
  exact ⟨r,b,hv,⟨by rw [h.col r hr'];exact g1,by rw [h.box ℓ (hl ℓ xz)];exact g2⟩,xX hr' h.size,by rw [h.col b hb];exact hF,xX hb h.size,
   ⟨es,cl,seen,since,c0,ls,la,(h.block r hr' (by rw [g1];exact hc ℓ xz)).trans i1,(h.block b hb (hC _ hF)).trans i2,i3,i4,i5,i6,i7,h.es hC i8,h.es hC i9,i10⟩,hn⟩
theorem AV.keepL (l:List AV) (h:Tr W V γ w γ' w') (hc:∀c∈AV.colsL l,c∉W) (hl:∀c∈AV.labsL l,c∉V) (hr:AV.relL γ w l vs):AV.relL γ' w' l vs:=by
 match l with
 | []=>exact hr
 | a::l=>
  obtain ⟨v,vs',rfl,h1,h2⟩:=hr
  exact ⟨v,vs',rfl,AV.keep a h (fun c hC=>hc c (ym _ hC)) (fun c hC=>hl c (ym _ hC)) h1,
   AV.keepL l h (fun c hC=>hc c (yf _ hC)) (fun c hC=>hl c (yf _ hC)) h2⟩
end
theorem Tr.trans (h:Tr W V γ w γ' w') (k:Tr W' V' γ' w' γ'' w''):Tr (W++W') (V++V') γ w γ'' w'':=by
 refine ⟨k.os.trans h.os,k.tape.trans h.tape,k.output.trans h.output,yn h.size k.size,fun b hb hn=>?_,fun b hb=>?_,fun ℓ hn=>?_,fun b h1 h2 h0=>?_⟩
 ·simp only [xG,not_or] at hn;rw [k.block b (xX hb h.size) (by rw [h.col b hb];exact hn.2),h.block b hb hn.1]
 ·rw [k.col b (xX hb h.size),h.col b hb]
 ·simp only [xG,not_or] at hn;rw [k.box ℓ hn.2,h.box ℓ hn.1]
 ·simp only [xG];by_cases hb:b<w'.heap.size
  ·rcases h.fresh b h1 hb (by rw [<-k.col b hb];exact h0) with e| e
   ·grind
   grind
  ·rcases k.fresh b (qb hb) h2 h0 with e| e
   ·grind
   grind
end
structure Bx where
 lab:Nat
 typ:TypeId
 avs:List AV
def Bx.rel (γ:Gh) (w:World) (b:Bx):Prop:=
 γ.col (γ.box b.lab)=b.lab/\∃cs:List Value,w.heap[γ.box b.lab]? =some (.cells cs.toArray b.typ (0,0))/\AV.relL γ w b.avs cs/\∀u∈cs,u.oneCell'=true
structure Env where
 sl:List (Nat×AV)
 bx:List Bx
def memN (c:Nat):List Nat->Bool
 | []=>false
 | x::l=>Nat.beq c x|| memN c l
theorem zar :memN c l=true↔c∈l:=by
 induction l with
 | nil=>simp [memN]
 | cons x l ih=>simp [memN,ih]
def AV.free (W V:List Nat) (a:AV):Bool:=a.cols.all (fun c=> !memN c W)&&a.labs.all (fun c=> !memN c V)
theorem AV.free_spec {W V:List Nat} {a:AV} (h:a.free W V=true):(∀c∈a.cols,c∉W)/\∀c∈a.labs,c∉V:=by
 unfold AV.free at h;simp only [xB,xI,xY] at h;refine ⟨fun c hc hw=>?_,fun c hc hw=>?_⟩
 ·have:=h.1 c hc;rw [zar.2 hw] at this;cases this
 ·have:=h.2 c hc;rw [zar.2 hw] at this;cases this
def lookup:List (Nat×AV)->Nat->Option AV
 | [],_=>none
 | p::l,k=>match Nat.beq p.1 k with
  | true=>some p.2
  | false=>lookup l k
theorem zcD (h:lookup l k=some a):(k,a)∈l:=by
 induction l with
 | nil=>cases h
 | cons p l ih=>
  rw [lookup] at h;split at h
  ·rename_i hb;have:=xJ hb
   grind
  grind
def zpS:Value->Option AV
 | .int k n=>some (.lf (.int k n))
 | .bool b=>some (.lf (.bool b))
 | .string s=>some (.lf (.str s.data.toList))
 | .slice none n c=>some (.lf (.val (.slice none n c)))
 | .nilFunc=>some (.lf (.val .nilFunc))
 | .pointer none=>some (.lf (.val (.pointer none)))
 | .map none=>some (.lf (.val (.map none)))
 | .nilIface=>some (.lf (.val .nilIface))
 | _=>none
theorem zlR (h:zpS v=some a) (γ:Gh) (w:World):a.rel γ w v:=by
 unfold zpS at h;split at h
 all_goals cases h
 ·exact ⟨rfl,.int _ _⟩
 ·exact ⟨rfl,.bool _⟩
 ·rename_i s;refine ⟨rfl,?_⟩;have:=zaO.str (F:=fun _=>False) (w:=w) s.data.toList;simpa using this
 all_goals exact ⟨rfl,.val _ rfl⟩
def Env.opd (E:Env):Operand->Option AV
 | .tmp t=>lookup E.sl t
 | .const v=>zpS v
 | .func f=>some (.lf (.val (.func (.func f) #[] #[])))
 | .global _=>none
def spB (c:Nat):Bool:=Nat.ble 800000 c&&Nat.ble c 899999
theorem zBc {c:Nat}:spB c=true↔800000<=c/\c<=899999:=by simp [spB]
structure zvJ (γ γ':Gh):Prop where
 zero:∀b,γ.col b=0->γ'.col b=0
 one:∀b,γ.col b=1->γ'.col b=1
 back:∀b,γ'.col b=0->γ.col b=0
 old:∀b,spB (γ.col b)=true->γ'.col b=γ.col b
structure Ext where
 X:Gh->World->Prop
 tr:∀{γ γ':Gh} {w w':World} {W V:List Nat},X γ w->Tr W V γ w γ' w'->(∀c∈W,2<=c)->(∀c∈V,2<=c)->X γ' w'
 ren:∀{γ γ':Gh} {w:World},X γ w->zvJ γ γ'->X γ' w
 base:Nat
 le:∀{γ:Gh} {w:World},X γ w->base<=w.heap.size
def fnX (w0:World) (F:Fp):Ext where
 X γ w:=Below w0.heap.size w0 w/\(∀b,b<w0.heap.size->(γ.col b=0/\F b)\/γ.col b=1)/\∀b,w0.heap.size<=b->b<w.heap.size->γ.col b≠0
 tr:=fun {γ γ' w w' W V} h t hW hV=>by
  have wP:∀b,b<w0.heap.size->b<w.heap.size:=fun b hb=>xX hb h.1.size
  have hn:∀b,b<w0.heap.size->γ.col b∉W:=fun b hb hc=>by
   have:=hW _ hc;rcases h.2.1 b hb with ⟨h0,_⟩| h0<;>omega
  refine ⟨⟨t.os.trans h.1.os,t.tape.trans h.1.tape,t.output.trans h.1.output,yn h.1.size t.size,fun b hb=>?_⟩,fun b hb=>?_,fun b h1 h2 h0=>?_⟩
  ·rw [t.block b (wP b hb) (hn b hb)];exact h.1.block b hb
  ·rw [t.col b (wP b hb)];exact h.2.1 b hb
  ·by_cases hb:b<w.heap.size
   ·exact h.2.2 b h1 hb (by rw [<-t.col b hb];exact h0)
   ·rcases t.fresh b (qb hb) h2 h0 with e| e
    ·have:=hW _ e;omega
    ·have:=hV _ e;omega
 ren:=fun {γ γ' w} h k=>⟨h.1,fun b hb=>(h.2.1 b hb).imp (fun ⟨h0,hF⟩=>⟨k.zero b h0,hF⟩) (k.one b),fun b h1 h2 h0=>h.2.2 b h1 h2 (k.back b h0)⟩
 base:=w0.heap.size
 le:=fun h=>h.1.size
def zrH (n0:Nat) (γ:Gh) (w:World) (ds:List Deferred):Prop:=
 ∃Ds:List Nat,ds=Ds.map (fun D=>{target:= .collected D,args:=#[]})/\Ds.Nodup/\∀D∈Ds,n0<=D/\w.heap[D]? =some (.deferred (some []))/\γ.col D=1
theorem zrH.tr (h:zrH n0 γ w ds) (t:Tr W V γ w γ' w') (hW:∀c∈W,2<=c):zrH n0 γ' w' ds:=by
 obtain ⟨Ds,e,hn,h⟩:=h;refine ⟨Ds,e,hn,fun D hD=>?_⟩;obtain ⟨h0,h1,h2⟩:=h D hD;have wP:=(yh.1 h1).1;refine ⟨h0,?_,(t.col D wP).trans h2⟩;rw [t.block D wP (fun hc=>by have:=hW _ hc;omega)];exact h1
theorem zrH.ren (h:zrH n0 γ w ds) (k:zvJ γ γ'):zrH n0 γ' w ds:=by
 obtain ⟨Ds,e,hn,h⟩:=h;exact ⟨Ds,e,hn,fun D hD=>⟨(h D hD).1,(h D hD).2.1,k.one D (h D hD).2.2⟩⟩
structure Lim where
 n:Nat
 keep:List Nat
structure Cx where
 n:Lim
 X:Ext
 marked:Bool
 old:Array Value
structure Base (cx:Cx) (γ:Gh) (a:Act) (w:World):Prop where
 defers:zrH cx.X.base γ w a.defers
 clean:cx.marked=false->a.defers=[]
 size:a.tmps.size=cx.n.n
 kept:∀k∈cx.n.keep,a.tmps.getD k undef=cx.old.getD k undef
 ext:cx.X.X γ w
def Sl (γ:Gh) (w:World) (a:Act) (l:List (Nat×AV)):Prop:=∀p∈l,p.2.rel γ w (a.tmps.getD p.1 undef)
def Bxs (γ:Gh) (w:World) (l:List Bx):Prop:=∀b∈l,b.rel γ w
def Sx (cx:Cx) (E:Env) (a:Act) (w:World):Prop:=∃γ,Base cx γ a w/\Sl γ w a E.sl/\Bxs γ w E.bx
theorem Env.opd_rel {E:Env} {x:Operand} {av:AV} (h:E.opd x=some av) {γ:Gh} {w:World} {a:Act} (hs:Sl γ w a E.sl):av.rel γ w (a.eval x):=by
 cases x with
 | tmp t=>exact hs _ (zcD h)
 | const v=>exact zlR h γ w
 | global g=>cases h
 | func f=>cases h;exact ⟨rfl,.val _ rfl⟩
def zhW (d:Option Nat) (av:AV) (l:List (Nat×AV)):List (Nat×AV):=
 match d with
 | none=>l
 | some d=>(d,av)::l.filter fun p=> !Nat.beq p.1 d
def zEi (d:Option Nat) (l:List (Nat×AV)):List (Nat×AV):=
 match d with
 | none=>l
 | some d=>l.filter fun p=> !Nat.beq p.1 d
theorem zhu {a:Act} {d k:Nat} {v:Value} (h:k≠d):(a.put (some d) v).tmps.getD k undef=a.tmps.getD k undef:=by
 simp only [Act.put,yE]
 grind
theorem zcw {a:Act} {d:Nat} {v:Value} (h:d<a.tmps.size):(a.put (some d) v).tmps.getD d undef=v:=by
 simp only [Act.put,yE]
 grind
theorem zgL (a:Act) (d:Option Nat) (v:Value):(a.put d v).defers=a.defers:=by cases d<;>rfl
theorem zmS (a:Act) (d:Option Nat) (v:Value):(a.put d v).tmps.size=a.tmps.size:=by cases d<;>simp [Act.put]
theorem Base.put {cx:Cx} {γ:Gh} {a:Act} {w:World} (h:Base cx γ a w) (d:Option Nat) (v:Value) (hk:∀k,d=some k->k∉cx.n.keep):Base cx γ (a.put d v) w:=
 ⟨by rw [zgL];exact h.defers,fun e=>by rw [zgL];exact h.clean e,(zmS a d v).trans h.size,fun k hm=>by
  cases d with
  | none=>exact h.kept k hm
  | some d=>
   have w9:k≠d:=fun e=>hk d rfl (by rw [<-e];exact hm)
   rw [zhu w9];exact h.kept k hm,h.ext⟩
theorem Sl.drop {γ:Gh} {w:World} {a:Act} {l:List (Nat×AV)} (h:Sl γ w a l) (d:Option Nat) (v:Value):Sl γ w (a.put d v) (zEi d l):=by
 cases d with
 | none=>exact h
 | some d=>
  intro p hp;simp only [zEi,xU,xY] at hp;rw [zhu (fun e=>by rw [e] at hp;simp at hp)];exact h p hp.1
theorem Sl.put {γ:Gh} {w:World} {a:Act} {l:List (Nat×AV)} (h:Sl γ w a l) {d:Option Nat} {v:Value} {av:AV} (hd:∀k,d=some k->k<a.tmps.size) (hv:av.rel γ w v):Sl γ w (a.put d v) (zhW d av l):=by
 cases d with
 | none=>exact h
 | some d=>
  intro p hp;simp only [zhW,xC] at hp;rcases hp with rfl| hp
  ·simp only;rw [zcw (hd d rfl)];exact hv
  ·exact h.drop (some d) v p hp
def zrZ (j k:IntKind):Bool:=match j,k with
 | .i8,.i8| .i16,.i16| .i32,.i32| .i64,.i64| .u8,.u8| .u16,.u16| .u32,.u32| .u64,.u64=>true
 | _,_=>false
theorem zsa (h:zrZ j k=true):j=k:=by cases j<;>cases k<;>first| rfl| cases h
def andI (k:IntKind) (x y:Int):Int:=k.wrap (BitVec.ofInt k.bits x&&&BitVec.ofInt k.bits y).toNat
def orI (k:IntKind) (x y:Int):Int:=k.wrap (BitVec.ofInt k.bits x||| BitVec.ofInt k.bits y).toNat
def xorI (k:IntKind) (x y:Int):Int:=k.wrap (BitVec.ofInt k.bits x^^^BitVec.ofInt k.bits y).toNat
def zKW (k:IntKind) (x y:Int):Int:=k.wrap (BitVec.ofInt k.bits x&&&~~~BitVec.ofInt k.bits y).toNat
def shlI (k:IntKind) (x y:Int):Int:=k.wrap (x*2^(min y.toNat k.bits))
def shrI (k:IntKind) (x y:Int):Int:=x.fdiv (2^(min y.toNat k.bits))
def zAe (op:BinOp) (k:IntKind) (x y:Int):Option LV:=
 match op with
 | .add=>some (.int k (k.wrap (x+y)))
 | .sub=>some (.int k (k.wrap (x - y)))
 | .mul=>some (.int k (k.wrap (x*y)))
 | .and=>some (.int k (andI k x y))
 | .or=>some (.int k (orI k x y))
 | .xor=>some (.int k (xorI k x y))
 | .andNot=>some (.int k (zKW k x y))
 | .eql=>some (.bool (x==y))
 | .neq=>some (.bool (x !=y))
 | .lss=>some (.bool (decide (x<y)))
 | .leq=>some (.bool (decide (x<=y)))
 | .gtr=>some (.bool (decide (x>y)))
 | .geq=>some (.bool (decide (x>=y)))
 | .quo=>match y with
  | .ofNat (n+1)=>some (.int k (k.wrap (x.tdiv (.ofNat (n+1)))))
  | _=>none
 | .rem=>match y with
  | .ofNat (n+1)=>some (.int k (x.tmod (.ofNat (n+1))))
  | _=>none
 | .shl| .shr=>none
theorem zDU (h:zAe op k x y=some l) (P:Program) (w:World) (t:TypeId):
  ∃v,(binOp op t (.int k x) (.int k y)).run P w= .ok v w/\l.plain=true/\zaO (fun _=>False) w l v:=by
 have hk:¬(k≠k):=fun h=>h rfl
 unfold zAe at h;split at h
 case h_14=>
  split at h
  ·rename_i n;cases h;have hn:¬(Int.ofNat (n+1)=0):=by simp;omega
   exact ⟨_,by simp only [binOp,Op.intDiv];rw [xx hk,xx hn];rfl,rfl,.int _ _⟩
  ·cases h
 case h_15=>
  split at h
  ·rename_i n;cases h;have hn:¬(Int.ofNat (n+1)=0):=by simp;omega
   exact ⟨_,by simp only [binOp,Op.intDiv];rw [xx hk,xx hn];rfl,rfl,.int _ _⟩
  ·cases h
 all_goals first
  | (cases h;done)
  | (cases h;exact ⟨_,by simp only [binOp];rw [xx hk];rfl,rfl,.int _ _⟩)
  | (cases h;exact ⟨_,by simp only [binOp];rw [xx hk];rfl,rfl,.bool _⟩)
  | (cases h;exact ⟨_,by simp only [binOp,Op.intBits];rw [xx hk];rfl,rfl,.int _ _⟩)
def zfT:List Bx->Nat->Option Bx
 | [],_=>none
 | b::l,k=>match Nat.beq b.lab k with
  | true=>some b
  | false=>zfT l k
theorem zdq (h:zfT l k=some b):b∈l/\b.lab=k:=by
 induction l with
 | nil=>cases h
 | cons c l ih=>
  rw [zfT] at h;split at h
  ·simp_all
  grind
def zAf (op:BinOp) (x y:List UInt8):Option LV:=
 match op with
 | .eql=>some (.bool (x==y))
 | .neq=>some (.bool (!(x==y)))
 | .lss=>some (.bool (Op.bytesLess x y))
 | .leq=>some (.bool (Op.bytesLess x y|| x==y))
 | .gtr=>some (.bool (!(Op.bytesLess x y|| x==y)))
 | .geq=>some (.bool (!(Op.bytesLess x y)))
 | _=>none
def zvd (op:BinOp) (d:Option TypeDesc) (x y:Bool):Option LV:=
 match op,d with
 | .eql,some .bool=>some (.bool (x==y))
 | .neq,some .bool=>some (.bool (!(x==y)))
 | _,_=>none
def zrP (P:Program) (s:TypeId) (f:Nat):Option Nat:=
 match P.underlying s with
 | some (.struct fs)=>match fs[f]? with
  | some fd=>match P.info? fd.type with
   | some i=>match Nat.beq i.size 0 with
    | true=>none
    | false=>some fd.offset
   | none=>none
  | none=>none
 | _=>none
def zdU (P:Program) (t:TypeId):Bool:=
 match P.underlying t with
 | some (.struct _)| some (.array _ _)| none=>false
 | some _=>true
def zJs (d:Option TypeDesc) (x:AV):Option AV:=
 match d,x with
 | some (.slice _),.sl _ _ xs=>some (.lf (.int .i64 xs.length))
 | some (.slice _),.own _ _ _ _ xs=>some (.lf (.int .i64 xs.length))
 | some (.slice _),.lf (.val (.slice _ n _))=>some (.lf (.int .i64 n))
 | some .string,.lf (.str l)=>some (.lf (.int .i64 l.length))
 | _,_=>none
def zDZ (P:Program) (ρ:Operand->Option AV) (c:Callee) (args:List Operand) (ts:List TypeId):Option AV:=
 match c,args,ts with
 | .builtin .len,[x],[t]=>match ρ x with
  | some av=>zJs (P.underlying t) av
  | none=>none
 | .builtin .min,[x,y],_=>match ρ x,ρ y with
  | some (.lf (.int k m)),some (.lf (.int j n))=>match zrZ k j with
   | true=>some (.lf (.int k (if n<m then n else m)))
   | false=>none
  | _,_=>none
 | .builtin .max,[x,y],_=>match ρ x,ρ y with
  | some (.lf (.int k m)),some (.lf (.int j n))=>match zrZ k j with
   | true=>some (.lf (.int k (if m<n then n else m)))
   | false=>none
  | _,_=>none
 | _,_,_=>none
def ztp (P:Program) (ρ:Operand->Option AV) (bx:List Bx):Op->Option AV
 | .move x| .assign x=>ρ x
 | .pick c a b=>match ρ c with
  | some (.lf (.bool true))=>ρ a
  | some (.lf (.bool false))=>ρ b
  | _=>none
 | .binOp op t x y _=>match ρ x,ρ y with
  | some (.lf (.int k m)),some (.lf (.int j n))=>match zrZ k j with
   | true=>(zAe op k m n).map .lf
   | false=>none
  | some (.lf (.str l)),some (.lf (.str m))=>(zAf op l m).map .lf
  | some (.lf (.bool a)),some (.lf (.bool b))=>(zvd op (P.underlying t) a b).map .lf
  | _,_=>none
 | .unOp op _ x=>match op,ρ x with
  | .not,some (.lf (.bool b))=>some (.lf (.bool (!b)))
  | .neg,some (.lf (.int k n))=>some (.lf (.int k (k.wrap (0 - n))))
  | _,_=>none
 | .convert s d x=>match P.underlying s,P.underlying d,ρ x with
  | some _,some (.int k),some (.lf (.int _ n))=>some (.lf (.int k (k.wrap n)))
  | some .string,some .string,some (.lf (.str l))=>some (.lf (.str l))
  | _,_,_=>none
 | .extract x i=>match ρ x with
  | some (.tup l)=>l[i]?
  | _=>none
 | .call c=>zDZ P ρ c.callee c.args.toList c.argTypes.toList
 | .fieldAddr s x f=>match zrP P s f,ρ x with
  | some o,some (.ptr ℓ off)=>some (.ptr ℓ (off+o))
  | some o,some (.ep r C y off)=>some (.ep r C y (off+o))
  | _,_=>none
 | .load t x=>match zdU P t,ρ x with
  | true,some (.ptr ℓ off)=>match zfT bx ℓ with
   | some b=>b.avs[off]?
   | none=>none
  | true,some (.ep r _ y off)=>match (r.lv y)[off]? with
   | some l=>match l.plain with
    | true=>some (.lf l)
    | false=>none
   | none=>none
  | _,_=>none
 | .nilCheck x=>match ρ x with
  | some (.ptr ℓ off)=>some (.ptr ℓ off)
  | some (.ep r C y off)=>some (.ep r C y off)
  | _=>none
 | _=>none
theorem zxh {γ:Gh} {w:World} {l:List AV} {vs:List Value} (h:AV.relL γ w l vs) {i:Nat} {a:AV} (hi:l[i]? =some a):∃v,vs[i]? =some v/\a.rel γ w v:=by
 induction l generalizing vs i with
 | nil=>cases hi
 | cons b l ih=>
  obtain ⟨v,vs',rfl,h1,h2⟩:=h;cases i with
  | zero=>cases hi;exact ⟨v,rfl,h1⟩
  | succ i=>exact ih h2 hi
theorem zbu (h:AV.relL γ w l vs):vs.length=l.length:=by
 induction l generalizing vs with
 | nil=>cases h;rfl
 | cons b l ih=>obtain ⟨v,vs',rfl,h1,h2⟩:=h;simp [ih h2]
theorem zdT (h:AV.rel γ w (.lf (.int k n)) v):v= .int k n:=by cases h.2;rfl
theorem zkB (h:AV.rel γ w (.lf (.bool b)) v):v= .bool b:=by cases h.2;rfl
theorem ztA (h:AV.rel γ w (.lf (.str l)) v):v= .string ⟨l.toArray⟩:=by cases h.2;rfl
theorem znF (h:AV.rel γ w (.lf (.val u)) v):v=u:=by cases h.2;rfl
theorem zjk (γ:Gh) (w:World) (k:IntKind) (n:Int):AV.rel γ w (.lf (.int k n)) (.int k n):=⟨rfl,.int _ _⟩
theorem zGi (γ:Gh) (w:World) (b:Bool):AV.rel γ w (.lf (.bool b)) (.bool b):=⟨rfl,.bool _⟩
theorem zJE (γ:Gh) (w:World) (l:List UInt8):AV.rel γ w (.lf (.str l)) (.string ⟨l.toArray⟩):=⟨rfl,.str _⟩
theorem zLU {γ:Gh} {w:World} {α:Type} {r:Rp α} {C:List Nat} {xs:List α} {v:Value} (h:AV.rel γ w (.sl r C xs) v):∃A c,v= .slice A xs.length c/\xs.length<=c/\c<=maxLen:=by
 have h':zaO (γ.F C) w (.sl xs.length r.size (xs.flatMap r.lv)) v:=h;cases h' with
 | sl _ _ _ A c cs _ _ hc hm=>exact ⟨A,c,rfl,hc,hm⟩
theorem zzn {γ:Gh} {w:World} {α:Type} {r:Rp α} {e:TypeId} {ℓ:Nat} {C:List Nat} {xs:List α} {v:Value} (h:AV.rel γ w (.own r e ℓ C xs) v):∃A c,v= .slice A xs.length c/\xs.length<=c/\c<=maxLen:=by
 obtain ⟨cs,ho,_⟩:=h;rcases ho.2 with ⟨rfl,h0⟩| ⟨g,wX,ka,rfl,_,_,hc,hm,_⟩
 ·grind
 grind
theorem zDV (h:zAf op x y=some l) (P:Program) (w:World) (t:TypeId):
  ∃v,(binOp op t (.string ⟨x.toArray⟩) (.string ⟨y.toArray⟩)).run P w= .ok v w/\l.plain=true/\zaO (fun _=>False) w l v:=by
 unfold zAf at h;split at h
 all_goals first
  | (cases h;done)
  | (cases h;exact ⟨_,by simp only [binOp,Op.stringOp,ByteArray.toList_mk];rfl,rfl,.bool _⟩)
theorem zBE (h:zvd op (P.underlying t) x y=some l) (w:World):
    ∃v,(binOp op t (.bool x) (.bool y)).run P w= .ok v w/\l.plain=true/\zaO (fun _=>False) w l v:=by
  unfold zvd at h;split at h
  all_goals first
    | (cases h;done)
    | (rename_i hu;cases h
       have hd:∀d:Nat,(Op.equalIn (d+1) t (.bool x) (.bool y)).run P w= .ok (x==y) w:=fun d=>by simp [Op.equalIn,run_underlying hu]
       exact ⟨_,by simp only [binOp];simp [Op.equal,Op.maxDepth,hd 9999],rfl,.bool _⟩)
theorem zHv {P:Program} {t:TypeId} {x av:AV} (h:zJs (P.underlying t) x=some av) {γ:Gh} {w:World} {v:Value} (hx:x.rel γ w v) (ty:TypeId):
  ∃u,(Builtin.len_ #[t] ty #[v]).run P w= .ok u w/\av.rel γ w u:=by
 unfold zJs at h;split at h
 ·rename_i hu;cases h;obtain ⟨A,c,rfl,_⟩:=zLU hx;exact ⟨_,by simp [Builtin.len_,run_underlying hu,goInt],zjk _ _ _ _⟩
 ·rename_i hu;cases h;obtain ⟨A,c,rfl,_⟩:=zzn hx;exact ⟨_,by simp [Builtin.len_,run_underlying hu,goInt],zjk _ _ _ _⟩
 ·rename_i hu;cases h;rw [znF hx];exact ⟨_,by simp [Builtin.len_,run_underlying hu,goInt],zjk _ _ _ _⟩
 ·rename_i hu;cases h;rw [ztA hx];exact ⟨_,by simp [Builtin.len_,run_underlying hu,goInt,ByteArray.size_mk'],zjk _ _ _ _⟩
 ·cases h
def Opds (ρ:Operand->Option AV) (γ:Gh) (w:World) (ev:Operand->Value) (l:List Operand):Prop:=∀x∈l,∀av,ρ x=some av->av.rel γ w (ev x)
theorem znw (P:Program) (op:BinOp) (t:TypeId) (x y:Operand) (k:IntKind) (n:Int) (b:Value) (w:World):(eqGuard op t x y (.int k n) b).run P w= .ok () w:=by
 unfold eqGuard;split<;>rfl
theorem zLc (P:Program) (op:BinOp) (t:TypeId) (x y:Operand) (s:ByteArray) (b:Value) (w:World):(eqGuard op t x y (.string s) b).run P w= .ok () w:=by
 unfold eqGuard;split<;>rfl
theorem zIM (P:Program) (op:BinOp) (t:TypeId) (x y:Operand) (s:Bool) (b:Value) (w:World):(eqGuard op t x y (.bool s) b).run P w= .ok () w:=by
 unfold eqGuard;split<;>rfl
theorem zyd (h:zrP P s f=some o):∃fs fd i,P.underlying s=some (.struct fs)/\fs[f]? =some fd/\P.info? fd.type=some i/\i.size≠0/\fd.offset=o:=by
 unfold zrP at h;split at h
 ·rename_i fs hs;split at h
  ·rename_i fd hf;split at h
   ·rename_i i hi;split at h
    ·cases h
    ·rename_i hb;cases h;exact ⟨fs,fd,i,hs,hf,hi,fun e=>by rw [e] at hb;simp at hb,rfl⟩
   ·cases h
  ·cases h
 ·cases h
theorem zfb (b o n:Nat):(⟨b,o,none⟩:Addr).add n=⟨b,o+n,none⟩:=by unfold Addr.add;split<;>simp_all
theorem zuF (h:zrP P s f=some o) (b off:Nat) (w:World):(Instr.fieldAt s (.pointer (some ⟨b,off,none⟩)) f).run P w= .ok (.pointer (some ⟨b,off+o,none⟩)) w:=by
 obtain ⟨fs,fd,i,hs,hf,hi,hn,rfl⟩:=zyd h;simp [Instr.fieldAt,run_underlying hs,hf,Instr.sureAddr,fieldPlace,sizeOf,typeInfo,hi,hn,zfb]
theorem zlz (h:zdU P t=true) (hc:w.cell? ⟨b,off,none⟩=some v):(Instr.loadAt t (.pointer (some ⟨b,off,none⟩))).run P w= .ok v w:=by
 unfold zdU at h;split at h
 ·cases h
 ·cases h
 ·cases h
 ·rename_i d h1 h2 hu;have hi:(isAgg t).run P w= .ok false w:=by
   cases d<;>simp [isAgg,run_underlying hu]<;>first| (exact h1 _ rfl)| (exact h2 _ _ rfl)| rfl
  simp [Instr.loadAt,Instr.sureAddr,loadVar,hi,load,Sem.run,hc]
theorem zuT (h:zdU P t=true) (hc:w.cell? ⟨b,off,none⟩=some v):(loadVar t ⟨b,off,none⟩).run P w= .ok v w:=by
 unfold zdU at h;split at h
 ·cases h
 ·cases h
 ·cases h
 ·rename_i d h1 h2 hu;have hi:(isAgg t).run P w= .ok false w:=by
   cases d<;>simp [isAgg,run_underlying hu]<;>first| (exact h1 _ rfl)| (exact h2 _ _ rfl)| rfl
  simp [loadVar,hi,load,Sem.run,hc]
theorem Bx.cell {γ:Gh} {w:World} {b:Bx} (h:b.rel γ w) {off:Nat} {a:AV} (ha:b.avs[off]? =some a):∃v,w.cell? ⟨γ.box b.lab,off,none⟩=some v/\a.rel γ w v:=by
 obtain ⟨_,cs,hh,hr,_⟩:=h;obtain ⟨v,hv,ha⟩:=zxh hr ha;exact ⟨v,by rw [yS w _ off _ _ _ hh];simpa using hv,ha⟩
theorem zKf (P:Program) (w:World) (k j:IntKind) (m n:Int) (ts:Array TypeId) (ty:TypeId):(Builtin.min_ ts ty #[.int k m,.int j n]).run P w= .ok (.int k (if n<m then n else m)) w:=by
 rfl
theorem zKe (P:Program) (w:World) (k j:IntKind) (m n:Int) (ts:Array TypeId) (ty:TypeId):(Builtin.max_ ts ty #[.int k m,.int j n]).run P w= .ok (.int k (if m<n then n else m)) w:=by
 rfl
theorem zbc (ho:o.op= .call c) (hc:c.callee= .builtin b) (ha:c.args.toList=args) (ht:c.argTypes.toList=ts) 
  (h:∀consts,(Go.builtin b ts.toArray o.type consts (args.map ev).toArray).run P w= .ok (.value v) w'):(execOp ev o).run P w= .ok (.value v) w':=by
 obtain ⟨callee,args',ts'⟩:=c;simp only at hc ha ht;subst hc;have e1:args'=args.toArray:=by rw [<-ha]
 have e2:ts'=ts.toArray:=by rw [<-ht]
 subst e1 e2;simp only [execOp,ho,resolve,x9,yu,yb,invoke,pG];exact h _
theorem zEa (ho:o.op= .call c) (h:zDZ P ρ c.callee c.args.toList c.argTypes.toList=some av)
  (hρ:Opds ρ γ w ev c.args.toList):∃v,(execOp ev o).run P w= .ok (.value v) w/\av.rel γ w v:=by
 generalize ha:c.args.toList=args at h hρ
 generalize ht:c.argTypes.toList=ts at h
 generalize hc:c.callee=cal at h
 unfold zDZ at h;split at h
 ·rename_i x t;split at h
  ·rename_i a hx;obtain ⟨v,hv,hr⟩:=zHv h (hρ x xz a hx) o.type;exact ⟨v,zbc ho hc ha ht fun consts=>by simp [builtin,hv],hr⟩
  ·cases h
 ·rename_i x y;split at h
  ·rename_i k m j n hx hy;split at h
   ·rename_i hk;cases h;have h1:=zdT (hρ x xz _ hx);have h2:=zdT (hρ y (xA _ xz) _ hy);exact ⟨_,zbc ho hc ha ht fun consts=>by simp [builtin,h1,h2,zKf],zjk _ _ _ _⟩
   ·cases h
  ·cases h
 ·rename_i x y;split at h
  ·rename_i k m j n hx hy;split at h
   ·rename_i hk;cases h;have h1:=zdT (hρ x xz _ hx);have h2:=zdT (hρ y (xA _ xz) _ hy);exact ⟨_,zbc ho hc ha ht fun consts=>by simp [builtin,h1,h2,zKe],zjk _ _ _ _⟩
   ·cases h
  ·cases h
 ·cases h
theorem zrj {P:Program} {ρ:Operand->Option AV} {bx:List Bx} {o:Oper} {av:AV} (h:ztp P ρ bx o.op=some av) {γ:Gh} {w:World} {ev:Operand->Value}
  (hρ:Opds ρ γ w ev o.op.operands.toList) (hb:Bxs γ w bx):∃v,(execOp ev o).run P w= .ok (.value v) w/\av.rel γ w v:=by
 generalize hop:o.op=op at h hρ
 unfold ztp at h;split at h
 case h_1 x=>exact ⟨_,by simp [execOp,hop],hρ x (by simp [Op.operands]) _ h⟩
 case h_2 x=>exact ⟨_,by simp [execOp,hop],hρ x (by simp [Op.operands]) _ h⟩
 case h_3 c a b=>
  split at h
  ·rename_i hc;have:=zkB (hρ c (by simp [Op.operands]) _ hc);exact ⟨_,by simp [execOp,hop,this,asBool],hρ a (by simp [Op.operands]) _ h⟩
  ·rename_i hc;have:=zkB (hρ c (by simp [Op.operands]) _ hc);exact ⟨_,by simp [execOp,hop,this,asBool],hρ b (by simp [Op.operands]) _ h⟩
  ·cases h
 case h_4 bop t x y yt=>
  split at h
  ·rename_i k m j n hx hy;have h1:=zdT (hρ x (by simp [Op.operands]) _ hx);have h2:=zdT (hρ y (by simp [Op.operands]) _ hy);split at h
   ·rename_i hk;have:=zsa hk;subst this;cases hl:zAe bop k m n with
    | none=>rw [hl] at h;cases h
    | some l=>
     rw [hl] at h;cases h;obtain ⟨v,hv,hp,hr⟩:=zDU hl P w t;exact ⟨v,by simp [execOp,hop,h1,h2,znw,hv],hp,hr⟩
   ·cases h
  ·rename_i l m hx hy;have h1:=ztA (hρ x (by simp [Op.operands]) _ hx);have h2:=ztA (hρ y (by simp [Op.operands]) _ hy);cases hl:zAf bop l m with
   | none=>rw [hl] at h;cases h
   | some l'=>
    rw [hl] at h;cases h;obtain ⟨v,hv,hp,hr⟩:=zDV hl P w t;exact ⟨v,by simp [execOp,hop,h1,h2,zLc,hv],hp,hr⟩
  ·rename_i a b hx hy;have h1:=zkB (hρ x (by simp [Op.operands]) _ hx);have h2:=zkB (hρ y (by simp [Op.operands]) _ hy);cases hl:zvd bop (P.underlying t) a b with
   | none=>rw [hl] at h;cases h
   | some l'=>
    rw [hl] at h;cases h;obtain ⟨v,hv,hp,hr⟩:=zBE hl w;exact ⟨v,by simp [execOp,hop,h1,h2,zIM,hv],hp,hr⟩
  ·cases h
 case h_5 uop t x=>
  split at h
  ·rename_i b hx;cases h;have h1:=zkB (hρ x (by simp [Op.operands]) _ hx);exact ⟨_,by simp [execOp,hop,h1,Op.unary],zGi _ _ _⟩
  ·rename_i k n hx;cases h;have h1:=zdT (hρ x (by simp [Op.operands]) _ hx);exact ⟨_,by simp [execOp,hop,h1,Op.unary,Op.intArith],zjk _ _ _ _⟩
  ·cases h
 case h_6 s d x=>
  split at h
  ·rename_i k _ n hs hd hx;cases h;have h1:=zdT (hρ x (by simp [Op.operands]) _ hx);exact ⟨_,by simp [execOp,hop,h1,convert,run_underlying hs,run_underlying hd,Conv.intToInt],zjk _ _ _ _⟩
  ·rename_i l hs hd hx;cases h;have h1:=ztA (hρ x (by simp [Op.operands]) _ hx);exact ⟨_,by simp [execOp,hop,h1,convert,run_underlying hs,run_underlying hd],zJE _ _ _⟩
  ·cases h
 case h_7 x i=>
  split at h
  ·rename_i l hx;obtain ⟨vs,hv,hL⟩:=hρ x (by simp [Op.operands]) _ hx;obtain ⟨v,hv',hr⟩:=zxh hL h;exact ⟨v,by simp [execOp,hop,hv,Instr.extract,hv'],hr⟩
  ·cases h
 case h_8 c=>exact zEa hop h (fun x hx=>hρ x (by simp only [Op.operands,Call.operands];simp;exact .inr (by simpa using hx)))
 case h_9 s x f=>
  split at h
  ·rename_i n ℓ off hf hx;cases h;have h1:ev x=_:=hρ x (by simp [Op.operands]) _ hx;exact ⟨_,by simp [execOp,hop,h1,zuF hf],rfl⟩
  ·rename_i n α r C y off hf hx;cases h;obtain ⟨b,o',cs,hv,hF,wP,hA,hc⟩:=hρ x (by simp [Op.operands]) _ hx;exact ⟨_,by simp [execOp,hop,hv,zuF hf];rfl,b,o',cs,by rw [ph],hF,wP,hA,hc⟩
  ·cases h
 case h_10 t x=>
  split at h
  ·rename_i ℓ off ht hx;have h1:ev x=_:=hρ x (by simp [Op.operands]) _ hx;split at h
   ·rename_i b hfb;obtain ⟨hm,rfl⟩:=zdq hfb;obtain ⟨v,hv,hr⟩:=Bx.cell (hb b hm) h;exact ⟨v,by simp [execOp,hop,h1,zlz ht hv],hr⟩
   ·cases h
  ·rename_i α r C y off ht hx;obtain ⟨b,o',cs,hv,hF,wP,hA,hc⟩:=hρ x (by simp [Op.operands]) _ hx;split at h
   ·rename_i l hl;split at h
    ·rename_i hp;cases h;have wS:off<cs.length:=by rw [<-hA.1];exact (yz.1 hl).1
     have hr:=hA.2 off l _ hl (xT wS);have hcell:=hc off wS;rw [xT wS] at hcell;exact ⟨_,by simp [execOp,hop,hv,zlz ht hcell],hp,hr.plain hp⟩
    ·cases h
   ·cases h
  ·cases h
 case h_11 x=>
  split at h
  ·rename_i ℓ off hx;cases h;have h1:ev x= .pointer (some ⟨γ.box ℓ,off,none⟩):=hρ x (by simp [Op.operands]) _ hx;exact ⟨_,by simp [execOp,hop,h1],rfl⟩
  ·rename_i α r C y off hx;cases h;have h1:=hρ x (by simp [Op.operands]) _ hx;obtain ⟨b,o',cs,hv,hrest⟩:=h1;exact ⟨_,by simp [execOp,hop,hv],b,o',cs,rfl,hrest⟩
  ·cases h
 case h_12=>cases h
def okW:List Nat->Bool
 | []=>true
 | c::l=>Nat.ble 2 c&&okW l
theorem zso (h:okW W=true):∀c∈W,2<=c:=by
 induction W with
 | nil=>intro c hc;cases hc
 | cons d W ih=>
  simp only [okW,xB] at h;intro c hc;cases hc with
  | head=>exact xS h.1
  | tail _ hc=>exact ih h.2 c hc
def ziT (N:Lim):Option Nat->Bool
 | none=>true
 | some d=>Nat.blt d N.n&& !memN d N.keep
theorem zgJ (h:ziT N d=true):∀k,d=some k->k<N.n:=by
 rintro k rfl;simp only [ziT,xB] at h;simp_all
theorem zeJ (h:ziT N d=true):∀k,d=some k->k∉N.keep:=by
 rintro k rfl hk;simp only [ziT,xB] at h;rw [zar.2 hk] at h;cases h.2
def zoV (W V:List Nat) (l:List (Nat×AV)):List (Nat×AV):=l.filter fun p=>p.2.free W V
def AV.clear (W V:List Nat) (a:AV):AV:=match a.free W V with
 | true=>a
 | false=> .any
def Bx.clear (W V:List Nat) (b:Bx):Bx:=⟨b.lab,b.typ,b.avs.map (AV.clear W V)⟩
def zfV (W V:List Nat) (l:List Bx):List Bx:=(l.filter fun b=> !memN b.lab W&& !memN b.lab V).map (Bx.clear W V)
def Env.step (W V:List Nat) (d:Option Nat) (av:AV) (bs:List Bx) (E:Env):Env:=⟨zhW d av (zoV W V E.sl),bs++zfV W V E.bx⟩
section
variable {W V:List Nat} {γ γ':Gh} {w w':World} {cx:Cx} {a:Act}
theorem Base.tr (h:Base cx γ a w) (t:Tr W V γ w γ' w') (hW:okW W=true) (hV:okW V=true):Base cx γ' a w':=
 ⟨h.defers.tr t (zso hW),h.clean,h.size,h.kept,cx.X.tr h.ext t (zso hW) (zso hV)⟩
theorem Sl.tr {l:List (Nat×AV)} (h:Sl γ w a l) (t:Tr W V γ w γ' w'):Sl γ' w' a (zoV W V l):=by
 intro p hp;simp only [zoV,xU] at hp;obtain ⟨h1,h2⟩:=AV.free_spec hp.2;exact p.2.keep t h1 h2 (h p hp.1)
theorem zlv {l:List AV} {vs:List Value} (h:AV.relL γ w l vs) (t:Tr W V γ w γ' w'):AV.relL γ' w' (l.map (AV.clear W V)) vs:=by
 induction l generalizing vs with
 | nil=>exact h
 | cons b l ih=>
  obtain ⟨v,vs',rfl,h1,h2⟩:=h;refine ⟨v,vs',rfl,?_,ih h2⟩;unfold AV.clear;cases hf:b.free W V with
  | true=>obtain ⟨f1,f2⟩:=AV.free_spec hf;exact b.keep t f1 f2 h1
  | false=>trivial
theorem zcL (h:(!memN c l)=true):c∉l:=fun hc=>by rw [zar.2 hc] at h;cases h
theorem Bxs.tr (h:Bxs γ w l) (t:Tr W V γ w γ' w'):Bxs γ' w' (zfV W V l):=by
 intro b hb;simp only [zfV,xF,xU,xB] at hb;obtain ⟨b,⟨hm,h1,h2⟩,rfl⟩:=hb;obtain ⟨hc,cs,hh,hr,h1c⟩:=h b hm;have wP:γ.box b.lab<w.heap.size:=(yh.1 hh).1;refine ⟨?_,cs,?_,zlv hr t,h1c⟩
 ·show γ'.col (γ'.box b.lab)=b.lab;rw [t.box _ (zcL h2),t.col _ wP];exact hc
 ·show w'.heap[γ'.box b.lab]? =_;rw [t.box _ (zcL h2),t.block _ wP (by rw [hc];exact zcL h1)];exact hh
end
def zB (P:Program) (o:Oper) (ins:List (Operand×AV)) (bxs:List Bx) (W V:List Nat) (av:AV) (bs:List Bx):Prop:=
 ∀(γ:Gh) (a:Act) (w:World),(∀p∈ins,p.2.rel γ w (a.eval p.1))->Bxs γ w bxs->
  ∀(next:Act->World->Prop) (Q:Exit->Act->World->Prop),(∀γ' w' v,Tr W V γ w γ' w'->av.rel γ' w' v->Bxs γ' w' bs->next (a.put o.dst v) w')->o.wp P a w next Q
theorem zQ 
  (h:∀(γ:Gh) (ev:Operand->Value) (w:World),(∀p∈ins,p.2.rel γ w (ev p.1))->Bxs γ w bxs->
   ∃v w' γ',(execOp ev o).run P w= .ok (.value v) w'/\Tr W V γ w γ' w'/\av.rel γ' w' v/\Bxs γ' w' bs):zB P o ins bxs W V av bs:=by
 intro γ a w hi hb next Q hk;obtain ⟨v,w',γ',hr,ht,hv,hb'⟩:=h γ a.eval w hi hb;unfold Oper.wp;rw [hr];exact hk γ' w' v ht hv hb'
def zoB (E:Env):List (Operand×AV)->Prop
 | []=>True
 | p::l=>E.opd p.1=some p.2/\zoB E l
theorem zoB.rel (h:zoB E l) (hs:Sl γ w a E.sl):∀p∈l,p.2.rel γ w (a.eval p.1):=by
 induction l with
 | nil=>intro p hp;cases hp
 | cons q l ih=>
  intro p hp;cases hp with
  | head=>exact Env.opd_rel h.1 hs
  | tail _ hp=>exact ih h.2 p hp
def zvL (E:Env):List Bx->Prop
 | []=>True
 | b::l=>zfT E.bx b.lab=some b/\zvL E l
theorem zvL.rel (h:zvL E l) (hs:Bxs γ w E.bx):Bxs γ w l:=by
 induction l with
 | nil=>intro p hp;cases hp
 | cons q l ih=>
  intro p hp;cases hp with
  | head=>exact hs _ (zdq h.1).1
  | tail _ hp=>exact ih h.2 p hp
def zfv (ops:Array Oper) (E:Env) (o:Oper):Option Bool:=
 match o.guard with
 | none=>some true
 | some (j,want)=>match ops.toList[j]? with
  | some g=>match g.dst with
   | some t=>match lookup E.sl t,want with
    | some (.lf (.bool true)),true=>some true
    | some (.lf (.bool false)),false=>some true
    | some (.lf (.bool true)),false=>some false
    | some (.lf (.bool false)),true=>some false
    | some (.tup []),_=>some false
    | _,_=>none
   | none=>none
  | none=>none
theorem zfU (h:zfv ops E o=some b) (hs:Sl γ w a E.sl):Region.wanted o (yielded ops a.tmps)=b:=by
 unfold zfv at h;unfold Region.wanted;split at h
 ·grind
 ·rename_i j want hg;rw [hg];split at h
  ·rename_i g hj;split at h
   ·rename_i t ht;have key:∀c,lookup E.sl t=some (.lf (.bool c))->yielded ops a.tmps j=some c:=fun c hc=>by
     have hv:=zkB (hs _ (zcD hc));simp only at hv;have hj':ops[j]? =some g:=by rw [<-pZ];exact hj
     have htm:a.tmps[t]? =some (.bool c):=by
      rw [yE] at hv;cases he:a.tmps[t]? with
      | none=>rw [he] at hv;cases hv
      | some u=>rw [he] at hv;simp at hv;rw [hv]
     simp [yielded,hj',ht,htm]
    split at h
    ·grind
    ·grind
    ·grind
    ·grind
    ·rename_i hl;cases h;obtain ⟨vs,hv,hL⟩:=hs _ (zcD hl);have hL':vs=[]:=hL;subst hL';have hj':ops[j]? =some g:=by rw [<-pZ];exact hj
     have:yielded ops a.tmps j=none:=by
      rw [yE] at hv;cases he:a.tmps[t]? with
      | none=>simp [yielded,hj',ht,he]
      | some u=>rw [he] at hv;simp at hv;simp [yielded,hj',ht,he,hv]
     grind
    ·cases h
   ·cases h
  ·cases h
theorem Sl.put_undef {γ:Gh} {w:World} {a:Act} {l:List (Nat×AV)} (h:Sl γ w a l) (d:Option Nat):Sl γ w (a.put d undef) (zhW d (.tup []) l):=by
 cases d with
 | none=>exact h
 | some d=>
  intro p hp;simp only [zhW,xC] at hp;rcases hp with rfl| hp
  ·refine ⟨[],?_,rfl⟩;by_cases hd:d<a.tmps.size
   ·exact zcw hd
   ·simp only [Act.put,yE];rw [Array.getElem?_eq_none (by simp;omega)];rfl
  ·have hp':=xU.1 hp;rw [zhu (fun e=>by have:=hp'.2;rw [e] at this;simp at this)];exact h p hp'.1
def RF (ro:Option Nat):Fence:={fn:=fun _=>True,depth:=none,alive:=false,round:=ro}
theorem zrf :CallsIn (RF ro) n P f args w R↔Calls P f args w R:=qc (n:=n)
theorem zHS :RowsIn (RF ro) n P row args w R↔Rows P row args w R:=
 ⟨fun h c cs=>let ⟨v,w',r,s⟩:=h c cs (room_wide _);⟨v,w',r,stepsIn_wide.1 s⟩,fun h c cs _=>let ⟨v,w',r,s⟩:=h c cs;⟨v,w',r,stepsIn_wide.2 s⟩⟩
def opq (P:Program) (o:Oper) (a:Act) (w:World) (next:Act->World->Prop) (Q:Exit->Act->World->Prop):Prop:=∀ro,o.wpIn (RF ro) 0 P a w next Q
def zlo (P:Program) (ops:Array Oper) (Q:Exit->Act->World->Prop) (l:List Oper) (a:Act) (w:World):Prop:=∀ro,wpListIn (RF ro) 0 P ops Q l a w
def wq (m:Bool) (P:Program) (c:Code) (Q:Exit->Act->World->Prop) (a:Act) (w:World):Prop:=∀ro,(m=true->ro=none)->c.wpIn (RF ro) 0 P Q a w
section
variable {m:Bool} {P:Program} {o:Oper} {a:Act} {w w':World} {next next':Act->World->Prop} {Q Q':Exit->Act->World->Prop} {ops:Array Oper} {l:List Oper} {x y c:Code}
theorem zvu (h:∀(next:Act->World->Prop) (Q:Exit->Act->World->Prop),(∀v w',next (a.put o.dst v) w')->o.wp P a w next Q):∀c,o.op≠ .defer c:=by
 intro c hc;have h1:=h (fun a' _=>a'.defers=a.defers) (fun _ _ _=>False) (fun v _=>zgL a o.dst v);unfold Oper.wp at h1;have e:(execOp a.eval o).run P w=((resolve a.eval c o.type).run P w).andThen fun d w=> .ok (.defer d) w:=by
  simp [execOp,hc]
 rw [e] at h1;cases hr:(resolve a.eval c o.type).run P w with
 | ok d w1=>
  rw [hr] at h1;have h2:((({a with defers:=d::a.defers}:Act).put o.dst undef).defers)=a.defers:=h1;rw [zgL] at h2;simp_all
 | halt x w1=>
  rw [hr] at h1;cases x<;>exact h1
theorem zpi (hd:∀c,o.op≠ .defer c) (h:o.wp P a w next Q):opq P o a w next Q:=by
 intro ro;refine ⟨fun _ _=>trivial,?_⟩;rw [Oper.semAt_eq _ _ _ hd];unfold Oper.wp at h
 generalize (execOp a.eval o).run P w=r at h
 cases r with
 | ok x w1=>
  cases x with
  | value v=>exact h
  | skip=>exact h
  | defer d=>exact h
  | enter f args=>exact ⟨nofun,zrf.2 (Calls.mono h (fun e w2 hq=>by cases e<;>exact hq))⟩
  | row row args=>exact ⟨nofun,zHS.2 h⟩
  | _=>exact h.elim
 | halt x w1=>cases x<;>exact h
theorem zhV (hr:(execOp a.eval o).run P w= .ok (.value v) w') (h:next (a.put o.dst v) w'):opq P o a w next Q:=by
 refine zpi (zvu (P:=P) (a:=a) (w:=w) (fun nx Qx hn=>?_)) ?_
 ·unfold Oper.wp;rw [hr];exact hn v w'
 ·unfold Oper.wp;rw [hr];exact h
theorem zsp (hr:(execOp a.eval o).run P w= .ok .skip w') (h:next (a.put o.dst undef) w'):opq P o a w next Q:=by
 refine zpi (zvu (P:=P) (a:=a) (w:=w) (fun nx Qx hn=>?_)) ?_
 ·unfold Oper.wp;rw [hr];exact hn undef w'
 ·unfold Oper.wp;rw [hr];exact h
theorem zJM (h:opq P o a w next Q) (k:∀a w,next a w->next' a w):opq P o a w next' Q:=fun ro=>qQ k (h ro)
theorem zir (hw:Region.wanted o (yielded ops a.tmps)=true) (h:opq P o a w (zlo P ops Q l) Q):zlo P ops Q (o::l) a w:=fun ro=>by
 unfold wpListIn;rw [xy hw];exact qQ (fun a w h=>h ro) (h ro)
theorem zEv (hw:Region.wanted o (yielded ops a.tmps)=false) (h:zlo P ops Q l (a.put o.dst undef) w):zlo P ops Q (o::l) a w:=fun ro=>by
 unfold wpListIn;rw [xx (by rw [hw];exact Bool.false_ne_true)];exact ⟨fun _ _=>trivial,h ro⟩
theorem zmd (h:wq m P c Q a w) (k:∀e a w,Q e a w->Q' e a w):wq m P c Q' a w:=fun ro hm=>qT (h ro hm) k
theorem zvH (h:Q .normal a w):wq m P .skip Q a w:=fun _ _=>wpIn_skip h
theorem zxR (h:Q .ret a w):wq m P .ret Q a w:=fun _ _=>wpIn_ret h
theorem zGW {id:Nat} (h:Q (.exit id) a w):wq m P (.exit id) Q a w:=fun _ _=>wpIn_exit h
theorem zeR (h:wq m P x (Exit.then (wq m P y Q) Q) a w):wq m P (.seq x y) Q a w:=fun ro hm=>wpIn_seq (qT (h ro hm) fun e a w hq=>by cases e<;>first| exact hq ro hm| exact hq)
theorem zKP {id:Nat} (h:wq m P c (Exit.inBlock id Q) a w):wq m P (.block id c) Q a w:=fun ro hm=>wpIn_block (h ro hm)
theorem ziO (hc:a.eval v= .bool true) (h:wq m P x Q a w):wq m P (.cond v x y) Q a w:=fun ro hm=>wpIn_cond_true hc (h ro hm)
theorem zjC (hc:a.eval v= .bool false) (h:wq m P y Q a w):wq m P (.cond v x y) Q a w:=fun ro hm=>wpIn_cond_false hc (h ro hm)
theorem zaY {id:Nat} (h:zlo P l.toArray Q l a w):wq m P (.region id l.toArray false) Q a w:=fun ro _=>wpIn_region_lit (h ro)
def anyq (P:Program) (ops:Array Oper) (Q:Exit->Act->World->Prop) (fuel:Nat) (w6:Array Bool) (a:Act) (w:World):Prop:=∀ro,wpAnyIn (RF ro) 0 P .any ops Q fuel w6 a w
theorem zqY {id:Nat} (hm:P.follows .mixedOrders=true) (h:anyq P ops Q ops.size (Array.replicate ops.size false) a {w with drawn:=w.drawn+1}):wq m P (.region id ops true) Q a w:=fun ro _=>wpIn_region_any hm (h ro)
def zsz (m:Bool) (P:Program) (c:Code) (Q:Exit->Act->World->Prop):Nat->Act->World->Prop
 | 0,_,_=>False
 | n+1,a,w=>wq m P c (Exit.then (zsz m P c Q n) Q) a w
theorem zxm (hm:m=true->ro=none):∀(n:Nat) (a:Act) (w:World),zsz m P c Q n a w->Code.roundsIn (RF ro) 0 P c Q n a w
 | 0,_,_,h=>h
 | n+1,a,w,h=>by
  rw [roundsIn_succ];exact qT (h ro hm) fun e a w hq=>by cases e<;>first| exact zxm hm n a w hq| exact hq
theorem zxQ (n:Nat) (h:zsz m P c Q n a w):wq m P (.loop c) Q a w:=fun _ hm=>wpIn_loop_rounds n (zxm hm n a w h)
theorem zzR (h:wq m P c Q a w):c.wp P Q a w:=wpIn_wide.1 (h none fun _=>rfl:c.wpIn Fence.wide 0 P Q a w)
end
def zbh (P:Program) (N:Lim) (ops:Array Oper) (wO:List Oper) (E E':Env):Prop:=
 ∀(cx:Cx) (a:Act) (w:World) (Q:Exit->Act->World->Prop),cx.n=N->Sx cx E a w->(∀a' w',Sx cx E' a' w'->Q .normal a' w')->zlo P ops Q wO a w
section
variable {P:Program} {N:Lim} {ops:Array Oper} {wO:List Oper} {E E1 E':Env} {o:Oper}
theorem zNE:zbh P N ops [] E E:=fun _ _ _ _ _ hs hQ _=>hQ _ _ hs
theorem zvD (hg:zfv ops E o=some true) (hl:zB P o ins bxs W V av bs) (hi:zoB E ins) (hb:zvL E bxs)
  (hW:okW W=true) (hV:okW V=true) (hd:ziT N o.dst=true) (k:zbh P N ops wO (E.step W V o.dst av bs) E'):zbh P N ops (o::wO) E E':=by
 intro cx a w Q hn hs hQ;obtain ⟨γ,hB,hS,hX⟩:=hs;refine zir (zfU hg hS) (zpi (zvu (P:=P) (a:=a) (w:=w) fun nx Qx hn=>hl γ a w (hi.rel hS) (hb.rel hX) nx Qx fun _ w' v _ _ _=>hn v w') (hl γ a w (hi.rel hS) (hb.rel hX) _ Q fun γ' w' v ht hv hbs=>?_));refine k cx _ _ Q hn ⟨γ',(hB.tr ht hW hV).put _ _ (by rw [hn];exact zeJ hd),?_,?_⟩ hQ
 ·exact (hS.tr ht).put (fun k hk=>by rw [hB.size,hn];exact zgJ hd k hk) hv
 ·intro b hb';simp only [Env.step,xG] at hb';rcases hb' with h| h
  ·exact hbs b h
  ·exact hX.tr ht b h
theorem zLQ (hg:zfv ops E o=some false) (hd:ziT N o.dst=true) (k:zbh P N ops wO ⟨zhW o.dst (.tup []) E.sl,E.bx⟩ E'):zbh P N ops (o::wO) E E':=by
 intro cx a w Q hn hs hQ;obtain ⟨γ,hB,hS,hX⟩:=hs;refine zEv (zfU hg hS) ?_;exact k cx _ _ Q hn ⟨γ,hB.put _ _ (by rw [hn];exact zeJ hd),hS.put_undef _,hX⟩ hQ
theorem zKb (t:Nat) (b:Bool) (hl:lookup E.sl t=some (.lf (.bool b))) (h1:b=true->zbh P N ops wO ⟨zhW (some t) (.lf (.bool true)) E.sl,E.bx⟩ E')
  (h0:b=false->zbh P N ops wO ⟨zhW (some t) (.lf (.bool false)) E.sl,E.bx⟩ E'):zbh P N ops wO E E':=by
 intro cx a w Q hn hs hQ;obtain ⟨γ,hB,hS,hX⟩:=hs;have hv:=hS _ (zcD hl);have hput:∀c,b=c->Sl γ w a (zhW (some t) (.lf (.bool c)) E.sl):=by
  rintro c rfl p hp;simp only [zhW,xC] at hp;rcases hp with rfl| hp
  ·exact hv
  ·exact hS p (xU.1 hp).1
 cases hb:b with
 | true=>exact h1 hb cx a w Q hn ⟨γ,hB,hput _ hb,hX⟩ hQ
 | false=>exact h0 hb cx a w Q hn ⟨γ,hB,hput _ hb,hX⟩ hQ
def AV.le (a b:AV):Prop:=∀γ w v,a.rel γ w v->b.rel γ w v
def zAS (l:List (Nat×AV)):List Nat->Option (List (Nat×AV))
 | []=>some []
 | k::r=>match lookup l k,zAS l r with
  | some a,some r'=>some ((k,a)::r')
  | _,_=>none
theorem znO :∀(ks:List Nat) (r:List (Nat×AV)),zAS l ks=some r->∀p∈r,p∈l
 | [],r,h,p,hp=>by cases h;cases hp
 | k::ks,r,h,p,hp=>by
  rw [zAS] at h;split at h
  ·rename_i a r' hl hr;cases h;cases hp with
   | head=>exact zcD hl
   | tail _ hp=>exact znO ks _ hr p hp
  ·cases h
def zpp (l:List Bx):List Nat->Option (List Bx)
 | []=>some []
 | k::r=>match zfT l k,zpp l r with
  | some a,some r'=>some (a::r')
  | _,_=>none
theorem znN :∀(ks:List Nat) (r:List Bx),zpp l ks=some r->∀p∈r,p∈l
 | [],r,h,p,hp=>by cases h;cases hp
 | k::ks,r,h,p,hp=>by
  rw [zpp] at h;split at h
  ·rename_i a r' hl hr;cases h;cases hp with
   | head=>exact (zdq hl).1
   | tail _ hp=>exact znN ks _ hr p hp
  ·cases h
def Env.pick (E:Env) (ks bs:List Nat):Option Env:=
 match zAS E.sl ks,zpp E.bx bs with
 | some s,some b=>some ⟨s,b⟩
 | _,_=>none
theorem Sx.pick (h:E.pick ks bs=some E') (hs:Sx cx E a w):Sx cx E' a w:=by
 unfold Env.pick at h;split at h
 ·rename_i s b h1 h2;cases h;obtain ⟨γ,hB,hS,hX⟩:=hs;exact ⟨γ,hB,fun p hp=>hS p (znO _ _ h1 p hp),fun p hp=>hX p (znN _ _ h2 p hp)⟩
 ·cases h
theorem zND (ks bs:List Nat) (h:E.pick ks bs=some E'):zbh P N ops [] E E':=fun _ _ _ _ _ hs hQ _=>hQ _ _ (hs.pick h)
end
def J (m:Bool) (P:Program) (c:Code) (S:Act->World->Prop) (Q:Exit->Act->World->Prop):Prop:=∀a w,S a w->wq m P c Q a w
section
variable {m:Bool} {P:Program} {S S' M:Act->World->Prop} {Q Q':Exit->Act->World->Prop} {x y c:Code}
theorem J.mono (h:J m P c S Q) (hS:∀a w,S' a w->S a w) (hQ:∀e a w,Q e a w->Q' e a w):J m P c S' Q':=fun a w hs=>zmd (h a w (hS a w hs)) hQ
theorem J.post (h:J m P c S Q) (hQ:∀e a w,Q e a w->Q' e a w):J m P c S Q':=h.mono (fun _ _ h=>h) hQ
theorem zNd {σ ρ:Type} (body:σ->Option (σ⊕ρ)) (Es:σ->Act->World->Prop) (R:ρ->Exit->Act->World->Prop)
  (hb:∀s o,body s=some o->J m P c (Es s) (match o with
   | .inl s'=>fun e a w=>e= .normal/\Es s' a w
   | .inr r=>fun e a w=>e≠ .normal/\R r e a w))
  {s:σ} {r:ρ} (h:zaB body s=some r) (hS:∀a w,S a w->Es s a w) (hQ:∀e a w,R r e a w->Q e a w):J m P (.loop c) S Q:=by
 obtain ⟨n,hn⟩:=zwt h;have key:∀n s,zhT body n s=some r->∀a w,Es s a w->zsz m P c (R r) n a w:=by
  intro n
  induction n with
  | zero=>intro s hn;cases hn
  | succ n ih=>
   intro s hn a w hs;rw [zsz];rw [zhT] at hn;split at hn
   ·cases hn
   ·rename_i s' hbs;refine zmd (hb s _ hbs a w hs) fun e a' w' hq=>?_
    obtain ⟨rfl,hE⟩:=hq;exact ih s' hn a' w' hE
   ·rename_i r' hbs;cases hn;refine zmd (hb s _ hbs a w hs) fun e a' w' hq=>?_
    cases e<;>first| exact absurd rfl hq.1| exact hq.2
 exact fun a w hs=>zmd (zxQ n (key n s hn a w (hS a w hs))) hQ
end
open Classical in
noncomputable def gh0 (F:Fp):Gh:=⟨fun b=>if F b then 0 else 1,fun _=>0⟩
def zfB:List Value->Value
 | [u]=>u
 | us=> .tuple us.toArray
def FnOk (P:Program) (f:FuncId) (ins wT:List AV):Prop:=
 ∀(w:World) (F:Fp) (vs:List Value),AV.relL (gh0 F) w ins vs->Calls P f vs.toArray w fun e w'=>∃γ us,e= .returned (zfB us)/\Below w.heap.size w w'/\
  ((∀b,b<w.heap.size->(γ.col b=0/\F b)\/γ.col b=1)/\∀b,w.heap.size<=b->b<w'.heap.size->γ.col b≠0)/\AV.relL γ w' wT us
def AV.toLV:AV->Option LV
 | .lf l=>some l
 | .sl r _ xs=>some (.sl xs.length r.size (xs.flatMap r.lv))
 | .own r _ _ _ xs=>some (.sl xs.length r.size (xs.flatMap r.lv))
 | _=>none
def subN (a b:List Nat):Bool:=a.all fun c=>memN c b
theorem zah (h:subN a b=true):∀c∈a,c∈b:=by
 intro c hc;simp only [subN,xI] at h;exact zar.1 (h c hc)
theorem zpm {γ:Gh} {w:World} {α:Type} {r:Rp α} {e:TypeId} {ℓ:Nat} {C:List Nat} {xs:List α} {v:Value} (h:AV.rel γ w (.own r e ℓ C xs) v):zaO (γ.F (ℓ::C)) w (.sl xs.length r.size (xs.flatMap r.lv)) v:=by
 obtain ⟨cs,ho,hg,hA,hn⟩:=h;have hA':zai (γ.F (ℓ::C)) w (xs.flatMap r.lv) cs:=hA.mono fun b _ hb=>xA _ hb
 have hl:=r.flat xs;obtain ⟨A,c,hv,hc,hm⟩:=zzn (γ:=γ) (w:=w) (r:=r) (e:=e) (ℓ:=ℓ) (C:=C) ⟨cs,ho,hg,hA,hn⟩;rw [hv];refine .sl _ _ _ A c cs hl (by rw [<-hA.1];exact hl) hc hm (fun h0=>?_) hA'.2;have hcells:=fun g hg=>ho.cells (g:=g) hg
 have wP:=ho.lt;rcases ho.2 with ⟨rfl,h00⟩| ⟨g,wX,ka,hv',_⟩
 ·omega
 ·rw [hv'] at hv;injection hv with e1 e2 e3;subst e1;have hob:v.ownBlock=some g:=by rw [hv'];rfl
  refine ⟨g,0,rfl,?_,(wP g hob).2,fun i hi=>?_⟩
  ·show γ.col g∈ℓ::C
   grind
  ·have wS:i<cs.length:=by rw [<-hA.1,hl];exact hi
   rw [xT wS];have:=hcells g hob i _ (xT wS);rw [zfb] at this;exact this
theorem zDm {a:AV} {l:LV} (h:a.toLV=some l) {γ:Gh} {w:World} {v:Value} (hr:a.rel γ w v) {C:List Nat} (hC:∀c∈a.cols,c∈C):zaO (γ.F C) w l v:=by
 cases a with
 | lf l'=>cases h;exact hr.2.plain hr.1
 | sl r C' xs=>cases h;exact zaO.mono hr fun b _ hb=>hC _ hb
 | own r e ℓ C' xs=>cases h;exact (zpm hr).mono fun b _ hb=>hC _ hb
 | any=>cases h
 | rc=>cases h
 | ep=>cases h
 | ptr=>cases h
 | bs=>cases h
 | tl=>cases h
 | qp=>cases h
 | em=>cases h
 | mo=>cases h
 | cu=>cases h
 | mp=>cases h
 | om=>cases h
 | tup=>cases h
 | ag=>cases h
 | fv=>cases h
 | bp=>cases h
 | it=>cases h
def zfj:List AV->Option (List LV)
 | []=>some []
 | a::l=>match a.toLV,zfj l with
  | some x,some r=>some (x::r)
  | _,_=>none
theorem zhe {l:List AV} {ls:List LV} (h:zfj l=some ls) {γ:Gh} {w:World} {vs:List Value} (hr:AV.relL γ w l vs) {C:List Nat} (hC:∀c∈AV.colsL l,c∈C):zai (γ.F C) w ls vs:=by
 induction l generalizing ls vs with
 | nil=>cases h;cases hr;exact .nil
 | cons a l ih=>
  obtain ⟨v,vs',rfl,h1,h2⟩:=hr;rw [zfj] at h;split at h
  ·rename_i x r hx hr';cases h;exact .cons (zDm hx h1 fun c hc=>hC c (ym _ hc)) (ih hr' h2 fun c hc=>hC c (yf _ hc))
  ·cases h
def zqO (C:List Nat):AV->Bool
 | .lf x=>x.plain
 | .sl _ C' _=>subN C C'
 | _=>false
theorem zjB (h:zfj l=some ls) (hr:zai (γ.F C) w ls vs) (hC:l.all (zqO C)=true):AV.relL γ w l vs:=by
 induction l generalizing ls vs with
 | nil=>
  cases h;have:=hr.1;simp at this;exact yx this.symm
 | cons a l ih=>
  rw [zfj] at h;simp only [yP,xB] at hC;split at h
  ·rename_i x r hx hr';cases h;obtain ⟨v,vs',rfl,h1,h2⟩:=hr.head;refine ⟨v,vs',rfl,?_,ih hr' h2 hC.2⟩;cases a with
   | lf y=>cases hx;exact ⟨hC.1,h1.plain hC.1⟩
   | sl r' C' xs=>cases hx;exact zaO.mono h1 fun b _ hb=>zah hC.1 _ hb
   | any=>cases hx
   | own=>exact absurd hC.1 (by simp [zqO])
   | rc=>cases hx
   | ep=>cases hx
   | ptr=>cases hx
   | bs=>cases hx
   | tl=>cases hx
   | qp=>cases hx
   | em=>cases hx
   | mo=>cases hx
   | cu=>cases hx
   | mp=>cases hx
   | om=>cases hx
   | tup=>cases hx
   | ag=>cases hx
   | fv=>cases hx
   | bp=>cases hx
   | it=>cases hx
  ·cases h
def zlg:Nat->List AV->List (Nat×AV)
 | _,[]=>[]
 | n,a::l=>(n,a)::zlg (n+1) l
theorem zlh (h:AV.relL γ w l vs) (pre post:List Value):
  ∀p∈zlg pre.length l,p.2.rel γ w ((pre++vs++post).toArray.getD p.1 undef):=by
 induction l generalizing vs pre with
 | nil=>intro p hp;cases hp
 | cons a l ih=>
  obtain ⟨v,vs',rfl,h1,h2⟩:=h;intro p hp;cases hp with
  | head=>simpa using h1
  | tail _ hp=>
   have hp':p∈zlg (pre.length+1) l:=hp;have:=ih h2 (pre++[v]) p (by simpa using hp');simpa using this
structure AggT (P:Program) (t:TypeId) (n:Nat):Prop where
 agg:∀w,(isAgg t).run P w= .ok true w
 size:∀w,(sizeOf t).run P w= .ok n w
theorem zgk {P:Program} {t:TypeId} {n:Nat} (h:AggT P t n) {w:World} {b o:Nat} {cs:List Value} (hn:cs.length=n) (hc:∀i,i<cs.length->w.cell? ⟨b,o+i,none⟩=cs[i]?):
  (loadVar t ⟨b,o,none⟩).run P w= .ok (.agg cs.toArray) w:=by
 have hl:(loadCells ⟨b,o,none⟩ cs.length).run P w= .ok cs.toArray w:=run_loadCells_list (P:=P) w ⟨b,o,none⟩ cs fun j v hv=>by
  rw [zfb,hc j (yz.1 hv).1];exact hv
 rw [hn] at hl;simp [loadVar,h.agg,h.size,hl]
def zkl (P:Program) (E:Env):List ResultVar->List AV->Prop
 | [],[]=>True
 | .tmp t::rs,a::l=>lookup E.sl t=some a/\zkl P E rs l
 | .cell x t::rs,.rc r C y::l=>(∃ℓ b,lookup E.sl x=some (.ptr ℓ 0)/\zfT E.bx ℓ=some b/\zfj b.avs=some (r.lv y)/\subN (AV.colsL b.avs) C=true/\AggT P t r.size)/\zkl P E rs l
 | .cell x t::rs,.ag m::l=>(∃ℓ b,lookup E.sl x=some (.ptr ℓ 0)/\zfT E.bx ℓ=some b/\b.avs=m/\AggT P t m.length)/\zkl P E rs l
 | .cell x t::rs,.lf y::l=>(∃ℓ b,lookup E.sl x=some (.ptr ℓ 0)/\zfT E.bx ℓ=some b/\b.avs=[.lf y]/\zdU P t=true)/\zkl P E rs l
 | .cell x t::rs,.sl r C y::l=>(∃ℓ b,lookup E.sl x=some (.ptr ℓ 0)/\zfT E.bx ℓ=some b/\b.avs=[.sl r C y]/\zdU P t=true)/\zkl P E rs l
 | .cell x t::rs,.own r e q C y::l=>(∃ℓ b,lookup E.sl x=some (.ptr ℓ 0)/\zfT E.bx ℓ=some b/\b.avs=[.own r e q C y]/\zdU P t=true)/\zkl P E rs l
 | _,_=>False
def resF (tmps:Array Value):ResultVar->Sem Value
 | .tmp t=>pure (tmps.getD t undef)
 | .cell x t=>do loadVar t (<-asAddr (tmps.getD x undef))
theorem ztR {P:Program} {E:Env} {γ:Gh} {w:World} {a:Act} {x:Tmp} {t:TypeId} {av:AV} (hs:Sl γ w a E.sl) (hx:Bxs γ w E.bx) (h:∃ℓ b,lookup E.sl x=some (.ptr ℓ 0)/\zfT E.bx ℓ=some b/\b.avs=[av]/\zdU P t=true):
  ∃u,(resF a.tmps (.cell x t)).run P w= .ok u w/\av.rel γ w u:=by
 obtain ⟨ℓ,b,h1,h2,h3,h5⟩:=h;obtain ⟨hm,rfl⟩:=zdq h2;have hp:a.tmps.getD x undef= .pointer (some ⟨γ.box b.lab,0,none⟩):=hs _ (zcD h1);obtain ⟨u,hc,hr⟩:=Bx.cell (hx b hm) (off:=0) (a:=av) (by rw [h3];rfl);have hld:=zuT (P:=P) h5 hc;have ha:(asAddr (.pointer (some ⟨γ.box b.lab,0,none⟩))).run P w= .ok ⟨γ.box b.lab,0,none⟩ w:=rfl;exact ⟨u,by simp only [resF,x9,hp,ha,hld,yb],hr⟩
theorem zjo {P:Program} {E:Env} {γ:Gh} {w:World} {a:Act} (hs:Sl γ w a E.sl) (hx:Bxs γ w E.bx):∀(rs:List ResultVar) (l:List AV),zkl P E rs l->
  ∃us,(rs.mapM (resF a.tmps)).run P w= .ok us w/\AV.relL γ w l us
 | [],[],_=>⟨[],rfl,rfl⟩
 | .tmp t::rs,x::l,h=>by
  obtain ⟨us,hu,hr⟩:=zjo hs hx rs l h.2;refine ⟨a.tmps.getD t undef::us,?_,_,us,rfl,hs _ (zcD h.1),hr⟩;simp only [qE,resF,x9,yu,yb];rw [hu];rfl
 | .cell x t::rs,.rc r C y::l,h=>by
  obtain ⟨us,hu,hr⟩:=zjo hs hx rs l h.2;obtain ⟨ℓ,b,h1,h2,h3,h4,h5⟩:=h.1;obtain ⟨hm,rfl⟩:=zdq h2;have hp:a.tmps.getD x undef= .pointer (some ⟨γ.box b.lab,0,none⟩):=hs _ (zcD h1);obtain ⟨kh,cs,hh,hL,_⟩:=hx b hm;have hA:=zhe h3 hL (zah h4);have hld:=zgk h5 (w:=w) (b:=γ.box b.lab) (o:=0) (cs:=cs) (by rw [<-hA.1];exact r.len y) fun i hi=>by rw [yS w _ _ _ _ _ hh];simp
  refine ⟨.agg cs.toArray::us,?_,_,us,rfl,⟨cs,rfl,hA⟩,hr⟩;have ha:(asAddr (.pointer (some ⟨γ.box b.lab,0,none⟩))).run P w= .ok ⟨γ.box b.lab,0,none⟩ w:=rfl;simp only [qE,resF,x9,hp,ha,hld,yu,yb];rw [hu];rfl
 | .cell x t::rs,.ag m::l,h=>by
  obtain ⟨us,hu,hr⟩:=zjo hs hx rs l h.2;obtain ⟨ℓ,b,h1,h2,h3,h5⟩:=h.1;obtain ⟨hm,rfl⟩:=zdq h2;subst h3;have hp:a.tmps.getD x undef= .pointer (some ⟨γ.box b.lab,0,none⟩):=hs _ (zcD h1);obtain ⟨kh,cs,hh,hL,hone⟩:=hx b hm;have hld:=zgk h5 (w:=w) (b:=γ.box b.lab) (o:=0) (cs:=cs) (zbu hL) fun i hi=>by rw [yS w _ _ _ _ _ hh];simp
  refine ⟨.agg cs.toArray::us,?_,_,us,rfl,⟨cs,rfl,hL,hone⟩,hr⟩;have ha:(asAddr (.pointer (some ⟨γ.box b.lab,0,none⟩))).run P w= .ok ⟨γ.box b.lab,0,none⟩ w:=rfl;simp only [qE,resF,x9,hp,ha,hld,yu,yb];rw [hu];rfl
 | .cell x t::rs,.lf y::l,h=>by
  obtain ⟨us,hu,hr⟩:=zjo hs hx rs l h.2;obtain ⟨u,h1,h2⟩:=ztR hs hx h.1;exact ⟨u::us,by simp only [qE,x9,h1,yb,hu,yu],u,us,rfl,h2,hr⟩
 | .cell x t::rs,.sl r C y::l,h=>by
  obtain ⟨us,hu,hr⟩:=zjo hs hx rs l h.2;obtain ⟨u,h1,h2⟩:=ztR hs hx h.1;exact ⟨u::us,by simp only [qE,x9,h1,yb,hu,yu],u,us,rfl,h2,hr⟩
 | .cell x t::rs,.own r e q C y::l,h=>by
  obtain ⟨us,hu,hr⟩:=zjo hs hx rs l h.2;obtain ⟨u,h1,h2⟩:=ztR hs hx h.1;exact ⟨u::us,by simp only [qE,x9,h1,yb,hu,yu],u,us,rfl,h2,hr⟩
 | [],_::_,h=>h.elim
 | .cell _ _::_,[],h=>h.elim
 | .cell _ _::_,.any::_,h=>h.elim
 | .cell _ _::_,.ep ..::_,h=>h.elim
 | .cell _ _::_,.ptr ..::_,h=>h.elim
 | .cell _ _::_,.bs ..::_,h=>h.elim
 | .cell _ _::_,.tl ..::_,h=>h.elim
 | .cell _ _::_,.qp ..::_,h=>h.elim
 | .cell _ _::_,.em ..::_,h=>h.elim
 | .cell _ _::_,@AV.mo _ _ _ _ _ _ _ _ _::_,h=>h.elim
 | .cell _ _::_,.cu ..::_,h=>h.elim
 | .cell _ _::_,.mp ..::_,h=>h.elim
 | .cell _ _::_,.om ..::_,h=>h.elim
 | .cell _ _::_,.tup ..::_,h=>h.elim
 | .cell _ _::_,.fv ..::_,h=>h.elim
 | .cell _ _::_,.bp ..::_,h=>h.elim
 | .cell _ _::_,.it ..::_,h=>h.elim
 | .tmp _::_,[],h=>h.elim
theorem zgN (hs:Sl γ w a E.sl) (hx:Bxs γ w E.bx) (h:zkl P E fn.results.toList l):
  ∃us,(results fn a.tmps).run P w= .ok (zfB us) w/\AV.relL γ w l us:=by
 obtain ⟨us,hu,hr⟩:=zjo (P:=P) hs hx _ _ h;refine ⟨us,?_,hr⟩;have e:results fn a.tmps=(fn.results.mapM (resF a.tmps))>>=fun vs=>pure (if h:vs.size=1 then vs[0] else .tuple vs):=by
  rfl
 rw [e,<-qU (xs:=fn.results),uc,x9,Sem.run_map,hu];simp only [yb,yu];congr 1
 match us with
 | []=>rfl
 | [u]=>rfl
 | u::v::r=>
  rfl
theorem zIT (hf:P.funcs[f]? =some fn) (hb:fn.body=some c) (wS:ins.length<=fn.ntmps) (hres:zkl P E fn.results.toList wT)
  (hj:∀X:Ext,J true P c (Sx ⟨⟨fn.ntmps,[]⟩,X,false,#[]⟩ ⟨zlg 0 ins,[]⟩) fun e a w=>e= .ret/\Sx ⟨⟨fn.ntmps,[]⟩,X,false,#[]⟩ E a w):FnOk P f ins wT:=by
 intro w F vs hr;have hl:=zbu hr;refine qR hf hb (qS (zzR (hj (fnX w F) _ w ⟨gh0 F,⟨⟨[],rfl,qd,fun D hD=>by cases hD⟩,fun _=>rfl,?_,(fun k hk=>by cases hk),Below.refl _ _,fun b _=>?_,fun b h1 h2=>by omega⟩,?_,fun b hb=>by cases hb⟩)) ?_)
 ·simp [hl];omega
 ·by_cases hF:F b<;>simp [gh0,hF]
 ·intro p hp;have:=zlh hr [] (List.replicate (fn.ntmps - vs.length) undef) p hp;simp only [xL] at this;have e:(vs++List.replicate (fn.ntmps - vs.length) undef).toArray=vs.toArray++Array.replicate (fn.ntmps - vs.toArray.size) undef:=by simp
  grind
 ·rintro e a w' ⟨rfl,γ,hB,hS,hX⟩;obtain ⟨us,hu,hu'⟩:=zgN (P:=P) (fn:=fn) hS hX hres;exact ⟨hB.clean rfl,zfB us,hu,γ,us,rfl,hB.ext.1,hB.ext.2,hu'⟩
def zwr:AV->AV
 | .lf l=> .lf l
 | .sl r _ xs=> .sl r [0] xs
 | .own r _ _ _ xs=> .sl r [0] xs
 | .rc r _ x=> .rc r [0] x
 | .ep r _ x off=> .ep r [0] x off
 | .qp r _ o=> .qp r [0] o
 | .mp rk rv _ m=> .mp rk rv [0] m
 | .em rk rv _ m=> .em rk rv [0] m
 | .om rk rv _ _ m=> .mp rk rv [0] m
 | _=> .any
def inAV:AV->AV
 | .ag l=> .ag (l.map zwr)
 | .fv g l=> .fv g (l.map zwr)
 | a=>zwr a
def zpX:AV->List Nat
 | .sl _ C _| .rc _ C _| .ep _ C _ _| .qp _ C _=>C
 | .own _ _ ℓ C _=>ℓ::C
 | .mp _ _ C _| .em _ _ C _=>C
 | .om _ _ ℓ C _=>ℓ::C
 | _=>[]
def ztu:AV->List Nat
 | .ag l=>l.flatMap zpX
 | .fv _ l=>l.flatMap zpX
 | a=>zpX a
theorem zFJ (F:Fp) (b:Nat) (h:F b):(gh0 F).col b=0:=by simp [gh0,h]
theorem zgo {γ:Gh} {w:World} {a:AV} {v:Value} {D:List Nat} (h:a.rel γ w v) (hD:∀c∈zpX a,c∈D):(zwr a).rel (gh0 (γ.F D)) w v:=by
 have key:∀(C:List Nat),(∀c∈C,c∈D)->∀b,b<w.heap.size->γ.F C b->(gh0 (γ.F D)).F [0] b:=fun C hC b _ hb=>by
  show (gh0 (γ.F D)).col b∈[0];have hF:γ.F D b:=hC _ hb;rw [zFJ (γ.F D) b hF];exact xz
 cases a with
 | any=>trivial
 | lf l=>exact h
 | sl r C xs=>exact zaO.mono h (key C hD)
 | own r e ℓ C xs=>exact (zpm h).mono (key _ hD)
 | rc r C x=>obtain ⟨cs,hv,hA⟩:=h;exact ⟨cs,hv,hA.mono (key C hD)⟩
 | mp rk rv C m=>
  obtain ⟨b,es,cl,hv,hF,hb,hh,hE⟩:=h;exact ⟨b,es,cl,hv,key C hD b hb hF,hb,hh,hE.mono (key C hD)⟩
 | em rk rv C m=>
  obtain ⟨a,b,es,cl,hv,hFa,ha,hc1,hF,hb,hh,hE⟩:=h;exact ⟨a,b,es,cl,hv,key C hD a ha hFa,ha,hc1,key C hD b hb hF,hb,hh,hE.mono (key C hD)⟩
 | mo=>trivial
 | cu=>trivial
 | om rk rv ℓ C m=>
  obtain ⟨b,es,cl,hv,⟨hF,hbx⟩,hb,hh,hE,hn⟩:=h;exact ⟨b,es,cl,hv,key (ℓ::C) hD b hb (by show γ.col b∈ℓ::C;rw [hF];exact xz),hb,hh,(hE.mono (fun b _ hb=>xA _ hb)).mono (key (ℓ::C) hD)⟩
 | ep r C x off=>
  obtain ⟨b,o,cs,hv,hF,hb,hA,hc⟩:=h;exact ⟨b,o,cs,hv,key C hD b hb hF,hb,hA.mono (key C hD),hc⟩
 | qp r C o=>
  cases o with
  | none=>exact h
  | some x=>
   obtain ⟨b,cs,hv,hF,hb,hA,hc⟩:=h;exact ⟨b,cs,hv,key C hD b hb hF,hb,hA.mono (key C hD),hc⟩
 | bs=>trivial
 | tl=>trivial
 | ptr=>trivial
 | tup=>trivial
 | ag=>trivial
 | fv=>trivial
 | bp=>trivial
 | it=>trivial
theorem zrm :∀{l:List AV} {vs:List Value},AV.relL γ w l vs->(∀c∈l.flatMap zpX,c∈D)->AV.relL (gh0 (γ.F D)) w (l.map zwr) vs
 | [],_,h,_=>h
 | a::l,_,h,hD=>by
  obtain ⟨v,vs',rfl,h1,h2⟩:=h;exact ⟨v,vs',rfl,zgo h1 (fun c hc=>hD c (by rw [xM];exact ym _ hc)),zrm h2 (fun c hc=>hD c (by rw [xM];exact yf _ hc))⟩
theorem zCb (h:a.rel γ w v) (hD:∀c∈ztu a,c∈D):(inAV a).rel (gh0 (γ.F D)) w v:=by
 cases a with
 | ag l=>obtain ⟨vs,hv,hL,h1⟩:=h;exact ⟨vs,hv,zrm hL hD,h1⟩
 | fv g l=>obtain ⟨vs,hv,hL⟩:=h;exact ⟨vs,hv,zrm hL hD⟩
 | any=>trivial
 | lf l=>exact zgo h hD
 | sl r C xs=>exact zgo h hD
 | own r e ℓ C xs=>exact zgo h hD
 | rc r C x=>exact zgo h hD
 | mp rk rv C m=>exact zgo h hD
 | om rk rv ℓ C m=>exact zgo h hD
 | ep r C x off=>exact zgo h hD
 | qp r C o=>exact zgo h hD
 | em rk rv C m=>exact zgo h hD
 | mo=>trivial
 | cu=>trivial
 | bs=>trivial
 | tl=>trivial
 | ptr=>trivial
 | tup=>trivial
 | bp=>trivial
 | it=>trivial
def outC (D:List Nat) (s:Nat):List Nat->List Nat
 | []=>[]
 | c::C=>(match c with
  | 0=>D
  | c+1=>[c+1+s])++outC D s C
def ztH (D:List Nat) (s:Nat):AV->AV
 | .lf l=> .lf l
 | .sl r C xs=> .sl r (outC D s C) xs
 | .own r e ℓ C xs=> .own r e (ℓ+s) (outC D s C) xs
 | .rc r C x=> .rc r (outC D s C) x
 | .qp r C o=> .qp r (outC D s C) o
 | .mp rk rv C m=> .mp rk rv (outC D s C) m
 | .om rk rv ℓ C m=> .om rk rv (ℓ+s) (outC D s C) m
 | .bp r t ℓ C x=> .bp r t (ℓ+s) (outC D s C) x
 | .cu c ℓ C1 C2=> .cu c (ℓ+s) (outC D s C1) (outC D s C2)
 | _=> .any
def zgg (K C:List Nat):Bool:=K.all fun k=> !memN k C
theorem zle (h:zgg K C=true):∀k∈K,k∉C:=fun k hk hc=>by
 simp only [zgg,xI] at h;have:=h k hk;rw [zar.2 hc] at this;cases this
def zmo (K D:List Nat) (s:Nat):AV->Bool
 | .sl _ C _| .rc _ C _| .qp _ C _=>zgg K C
 | .own _ _ ℓ C _=>zgg K C&&Nat.ble 2 ℓ&& !memN ℓ K&& !memN (ℓ+s) (outC D s C)
 | .mp _ _ C _=>zgg K C
 | .om _ _ ℓ C _=>zgg K C&&Nat.ble 2 ℓ&& !memN ℓ K&& !memN (ℓ+s) (outC D s C)
 | .bp _ _ ℓ C _=>zgg K C&&Nat.ble 2 ℓ&& !memN ℓ K
 | .cu _ ℓ C1 C2=>zgg K C1&&zgg K C2&&Nat.ble 2 ℓ&& !memN ℓ K
 | _=>true
def zjz (s:Nat):AV->List Nat
 | .own _ _ ℓ _ _=>[ℓ+s]
 | .om _ _ ℓ _ _=>[ℓ+s]
 | .bp _ _ ℓ _ _=>[ℓ+s]
 | .cu _ ℓ _ _=>[ℓ+s]
 | _=>[]
def zlY (D:List Nat) (s:Nat):AV->AV
 | .ag l=> .ag (l.map (ztH D s))
 | .fv g l=> .fv g (l.map (ztH D s))
 | a=>ztH D s a
def zuA (K D:List Nat) (s:Nat):AV->Bool
 | .ag l=>l.all (zmo K D s)
 | .fv _ l=>l.all (zmo K D s)
 | a=>zmo K D s a
def zfn (s:Nat):AV->List Nat
 | .ag l=>l.flatMap (zjz s)
 | .fv _ l=>l.flatMap (zjz s)
 | a=>zjz s a
theorem zwW (h:c∈C):(c=0->∀d∈D,d∈outC D s C)/\(c≠0->c+s∈outC D s C):=by
 induction C with
 | nil=>cases h
 | cons x C ih=>
  cases h with
  | head=>
   refine ⟨?_,?_⟩
   ·rintro rfl d hd;simp [outC,hd]
   ·intro hc;cases c with
    | zero=>exact absurd rfl hc
    | succ c=>simp [outC]
  | tail _ h=>
   obtain ⟨h1,h2⟩:=ih h;exact ⟨fun h0 d hd=>by simp only [outC,xG];exact .inr (h1 h0 d hd),fun h0=>by simp only [outC,xG];exact .inr (h2 h0)⟩
open Classical in
noncomputable def zeU (γ γc:Gh) (n:Nat) (D:List Nat) (s:Nat) (V:List Nat):Gh:=
 ⟨fun b=>if b<n then γ.col b else if γc.col b=0 then D.headD 1 else if γc.col b=1 then 1 else γc.col b+s,fun ℓ=>if ℓ∈V then γc.box (ℓ - s) else γ.box ℓ⟩
def zvM (γ γc:Gh) (n:Nat) (K D:List Nat):Prop:=∀b,b<n->(γc.col b=0/\γ.F D b)\/γc.col b∈K
theorem outF (kq:zvM γ γc n K D) (h1:∀k∈K,k∉C) (hk1:1∈K) (hb:γc.F C b) (hD:0∈C->D=[]->False\/b<n):
  (zeU γ γc n D s V).F (outC D s C) b:=by
 show (zeU γ γc n D s V).col b∈outC D s C;have hb':γc.col b∈C:=hb;unfold zeU;simp only;by_cases hn:b<n
 ·rw [xy hn];rcases kq b hn with ⟨h0,hF⟩| h0
  ·rw [h0] at hb';exact (zwW hb').1 rfl _ hF
  grind
 ·rw [xx hn];by_cases h0:γc.col b=0
  ·rw [xy h0];rw [h0] at hb';cases D with
   | nil=>rcases hD hb' rfl with h| h;exact h.elim;exact absurd h hn
   | cons d D=>exact (zwW hb').1 rfl d xz
  ·rw [xx h0];by_cases h2:γc.col b=1
   ·grind
   ·rw [xx h2];exact (zwW hb').2 h0
theorem zwV {γ γc:Gh} {n:Nat} {K D:List Nat} {s:Nat} {V:List Nat} {w':World} {a:AV} {v:Value} (kq:zvM γ γc n K D) (hk1:1∈K) (hD:D≠[])
  (wV:zmo K D s a=true) (hV:∀c∈zjz s a,c∈V) (h:a.rel γc w' v):(ztH D s a).rel (zeU γ γc n D s V) w' v:=by
 have hF:∀C,zgg K C=true->∀b,b<w'.heap.size->γc.F C b->(zeU γ γc n D s V).F (outC D s C) b:=fun C h1 b _ hb=>outF kq (zle h1) hk1 hb (fun _ e=>absurd e hD)
 have hnew:∀(ℓ g:Nat),2<=ℓ->memN ℓ K=false->γc.col g=ℓ->¬g<n:=fun ℓ g hℓ hm g1 wP=>by
  rcases kq g wP with ⟨h0,_⟩| h0
  ·omega
  ·rw [g1] at h0;rw [zar.2 h0] at hm;cases hm
 cases a with
 | any=>trivial
 | lf l=>exact h
 | sl r C xs=>exact zaO.mono h (hF C wV)
 | rc r C x=>
  obtain ⟨cs,hv,hA⟩:=h;exact ⟨cs,hv,hA.mono (hF C wV)⟩
 | own r e ℓ C xs=>
  obtain ⟨cs,ho,hg,hA,hnot⟩:=h;simp only [zmo,xB,xY] at wV;obtain ⟨⟨⟨k1,k2⟩,k4⟩,k3⟩:=wV;have hℓ:2<=ℓ:=xS k2;refine ⟨cs,ho,fun g w8=>?_,hA.mono (hF C k1),fun hc=>by rw [zar.2 hc] at k3;cases k3⟩;obtain ⟨g1,g2⟩:=hg g w8;refine ⟨?_,?_⟩
  ·unfold zeU
   grind
  ·unfold zeU;simp only;rw [xy (hV _ (by simp [zjz])),pH];exact g2
 | mp rk rv C m=>
  obtain ⟨b,es,cl,hv,hF',hb,hh,hE⟩:=h;exact ⟨b,es,cl,hv,hF C wV b hb hF',hb,hh,hE.mono (hF C wV)⟩
 | om rk rv ℓ C m=>
  obtain ⟨b,es,cl,hv,⟨g1,g2⟩,hb,hh,hE,hnot⟩:=h;simp only [zmo,xB,xY] at wV;obtain ⟨⟨⟨k1,k2⟩,k4⟩,k3⟩:=wV;have hℓ:2<=ℓ:=xS k2;refine ⟨b,es,cl,hv,⟨?_,?_⟩,hb,hh,hE.mono (hF C k1),fun hc=>by rw [zar.2 hc] at k3;cases k3⟩
  ·unfold zeU
   grind
  ·unfold zeU;simp only;rw [xy (hV _ (by simp [zjz])),pH];exact g2
 | ep=>trivial
 | ptr=>trivial
 | bs=>trivial
 | tl=>trivial
 | qp r C o=>
  cases o with
  | none=>exact h
  | some x=>
   obtain ⟨b,cs,hv,hF',hb,hA,hc⟩:=h;exact ⟨b,cs,hv,hF C wV b hb hF',hb,hA.mono (hF C wV),hc⟩
 | em=>trivial
 | mo=>trivial
 | cu c ℓ C1 C2=>
  simp only [zmo,xB,xY] at wV;obtain ⟨⟨⟨k0,k1⟩,k2⟩,k4⟩:=wV;have hℓ:2<=ℓ:=xS k2;refine c.move (xE _) (fun _ _ _=>rfl) (fun b _ g1=>?_) (hF C1 k0) (hF C2 k1) ?_ h
  ·unfold zeU
   grind
  ·unfold zeU;simp only;rw [xy (hV _ (by simp [zjz])),pH]
 | tup=>trivial
 | ag=>trivial
 | fv=>trivial
 | it=>trivial
 | bp r t ℓ C x=>
  obtain ⟨b,cs,hv,⟨g1,g2⟩,hb,hh,h1c,hA⟩:=h;simp only [zmo,xB,xY] at wV;obtain ⟨⟨k1,k2⟩,k4⟩:=wV;have hℓ:2<=ℓ:=xS k2;refine ⟨b,cs,hv,⟨?_,?_⟩,hb,hh,h1c,hA.mono (hF C k1)⟩
  ·unfold zeU
   grind
  ·unfold zeU;simp only;rw [xy (hV _ (by simp [zjz])),pH];exact g2
theorem zrp (kq:zvM γ γc n K D) (hk1:1∈K) (hD:D≠[]):∀(l:List AV) (vs:List Value),
  l.all (zmo K D s)=true->(∀c∈l.flatMap (zjz s),c∈V)->AV.relL γc w' l vs->AV.relL (zeU γ γc n D s V) w' (l.map (ztH D s)) vs
 | [],vs,_,_,h=>h
 | a::l,vs,wV,hV,h=>by
  obtain ⟨v,vs',rfl,h1,h2⟩:=h;simp only [yP,xB] at wV
  exact ⟨v,vs',rfl,zwV kq hk1 hD wV.1 (fun c hc=>hV c (by simp only [xM,xG];exact .inl hc)) h1,
   zrp kq hk1 hD l vs' wV.2 (fun c hc=>hV c (by simp only [xM,xG];exact .inr hc)) h2⟩
theorem ztI (kq:zvM γ γc n K D) (hk1:1∈K) (hD:D≠[])
  (wV:zuA K D s a=true) (hV:∀c∈zfn s a,c∈V) (h:a.rel γc w' v):(zlY D s a).rel (zeU γ γc n D s V) w' v:=by
 have key:zlY D s a=ztH D s a->zuA K D s a=zmo K D s a->zfn s a=zjz s a->(zlY D s a).rel (zeU γ γc n D s V) w' v:=fun e1 e2 e3=>by
  rw [e1];exact zwV kq hk1 hD (e2▸wV) (e3▸hV) h
 cases a with
 | ag l=>obtain ⟨vs,hv,hL,h1⟩:=h;exact ⟨vs,hv,zrp kq hk1 hD l vs wV hV hL,h1⟩
 | fv g l=>obtain ⟨vs,hv,hL⟩:=h;exact ⟨vs,hv,zrp kq hk1 hD l vs wV hV hL⟩
 | bp r t ℓ C x=>exact key rfl rfl rfl
 | it=>exact key rfl rfl rfl
 | bs=>exact key rfl rfl rfl
 | tl=>exact key rfl rfl rfl
 | qp=>exact key rfl rfl rfl
 | em=>exact key rfl rfl rfl
 | mo=>exact key rfl rfl rfl
 | cu=>exact key rfl rfl rfl
 | any=>exact key rfl rfl rfl
 | lf l=>exact key rfl rfl rfl
 | sl r C xs=>exact key rfl rfl rfl
 | own r e ℓ C xs=>exact key rfl rfl rfl
 | rc r C x=>exact key rfl rfl rfl
 | ep r C x off=>exact key rfl rfl rfl
 | ptr ℓ off=>exact key rfl rfl rfl
 | mp rk rv C m=>exact key rfl rfl rfl
 | om rk rv ℓ C m=>exact key rfl rfl rfl
 | tup l=>exact key rfl rfl rfl
def zkp:List AV->AV
 | [a]=>a
 | l=> .tup l
theorem zmU (h:AV.relL γ w l vs) (hf:∀a∈l,∀v,a.rel γ w v->(f a).rel γ' w' v):AV.relL γ' w' (l.map f) vs:=by
 induction l generalizing vs with
 | nil=>exact h
 | cons a l ih=>
  obtain ⟨v,vs',rfl,h1,h2⟩:=h;exact ⟨v,vs',rfl,hf a xz v h1,ih h2 fun b hb=>hf b (xA _ hb)⟩
theorem zmW (h:AV.relL γ w l us):(zkp l).rel γ w (zfB us):=by
 match l,us,h with
 | [],us,h=>cases h;exact ⟨[],rfl,rfl⟩
 | [a],us,h=>obtain ⟨v,vs',rfl,h1,h2⟩:=h;cases h2;exact h1
 | a::b::l,us,h=>
  have h':=h;obtain ⟨v,vs',rfl,h1,v2,vs2,rfl,h2,h3⟩:=h;exact ⟨_,rfl,h'⟩
theorem zFZ {P:Program} {o:Oper} {f:FuncId} {args:List Operand} {ts:Array TypeId} {ins wT:List AV} (xs:List AV) (D:List Nat) (s:Nat)
  (ho:o.op= .call ⟨.value (.func f),args.toArray,ts⟩) (hc:∀as w,(callFunc f as).run P w= .ok (.enter f as) w) (ok:FnOk P f ins wT)
  (hin:xs.map inAV=ins) (wS:xs.length=args.length) (hD:(xs.all fun a=>subN (ztu a) D)=true) (hD0:D.isEmpty=false) (hout:(wT.all (zuA [1] D s))=true):
  zB P o (args.zip xs) [] [] (wT.flatMap (zfn s)) (zkp (wT.map (zlY D s))) []:=by
 intro γ a w hi hb next Q hk;have hvs:AV.relL (gh0 (γ.F D)) w ins (args.map a.eval):=by
  subst hin;clear hb hk hout ok ho;simp only [xI] at hD
  induction xs generalizing args with
  | nil=>cases args<;>first| rfl| (simp at wS)
  | cons x xs ih=>
   cases args with
   | nil=>simp at wS
   | cons y args=>
    exact ⟨_,_,rfl,zCb (hi (y,x) (by simp)) (zah (hD x xz)),
     ih (by simpa using wS) (fun p hp=>hi p (xA _ hp)) (fun b hb=>hD b (xA _ hb))⟩
 have hcall:=ok w (γ.F D) _ hvs;have w7:(execOp a.eval o).run P w= .ok (.enter f (args.map a.eval).toArray) w:=by
  simp [execOp,ho,resolve,Act.eval,Deferred.ofValue,invoke,hc]
 unfold Oper.wp;rw [w7,qj];refine hcall.mono fun e w' ⟨γc,us,he,hB,⟨kq,hfr⟩,hr⟩=>?_
 subst he;have hDne:D≠[]:=fun e=>by rw [e] at hD0;cases hD0
 simp only [xI] at hout;refine hk (zeU γ γc w.heap.size D s (wT.flatMap (zfn s))) w' _ ⟨hB.os,hB.tape,hB.output,hB.size,fun b hb _=>hB.block b hb,fun b hb=>?_,fun ℓ hℓ=>?_,fun b h1 h2 h0=>?_⟩ (zmW (zmU hr fun x hx v hv=>?_)) (fun b hb=>by cases hb)
 ·show (if b<w.heap.size then γ.col b else _)=_;rw [xy hb]
 ·show (if ℓ∈wT.flatMap (zfn s) then _ else γ.box ℓ)=_;rw [xx hℓ]
 ·exfalso;have w9:=hfr b h1 h2;have h0':(if b<w.heap.size then γ.col b else if γc.col b=0 then D.headD 1 else if γc.col b=1 then 1 else γc.col b+s)=0:=h0
  grind
 ·exact ztI (K:=[1]) (fun b hb=>(kq b hb).imp id fun h=>by simp [h]) (by simp) hDne (hout x hx) (fun c hc=>qk.2 ⟨x,hx,hc⟩) hv
structure ElT (P:Program) (t e:TypeId) (size bytes:Nat):Prop where
 u:P.underlying t=some (.slice e)
 ex:∃i z,P.info? e=some i/\i.zero=some z/\i.size=size/\i.bytes=bytes/\z.cells.size=size
theorem ElT.size {P:Program} {t e:TypeId} {size bytes:Nat} (h:ElT P t e size bytes) (w:World):(sizeOf e).run P w= .ok size w:=by
 obtain ⟨i,z,h1,h2,h3,h4,h5⟩:=h.ex;simp [sizeOf,typeInfo,h1,h3]
section
variable {γ:Gh} {w:World} {α:Type} {r:Rp α} {C:List Nat} {xs:List α} {v:Value} {D:List Nat}
theorem zkD (h:zaO (γ.F D) w (.sl xs.length r.size (xs.flatMap r.lv)) v):∃A c cs,v= .slice A xs.length c/\xs.length<=c/\c<=maxLen/\zai (γ.F D) w (xs.flatMap r.lv) cs/\cs.length=xs.length*r.size/\
  (0<xs.length->∃b off,A=some ⟨b,off,none⟩/\γ.F D b/\b<w.heap.size/\∀i,i<xs.length*r.size->w.cell? ⟨b,off+i,none⟩=cs[i]?):=by
 cases h with
 | sl _ _ _ A c cs hl hcs hc hm hA hr=>exact ⟨A,c,cs,rfl,hc,hm,⟨by rw [hl,hcs],hr⟩,hcs,hA⟩
theorem zrV {α:Type} {xs:List α} {i:Int} {x:α} (h:idx xs i=some x):0<=i/\i<xs.length/\xs[i.toNat]? =some x:=by
 unfold idx at h
 grind
theorem zKY (h:zaO (γ.F D) w (.sl xs.length r.size (xs.flatMap r.lv)) v) {i:Int} {x:α} (hx:idx xs i=some x):∃b off cs c,v= .slice (some ⟨b,off,none⟩) xs.length c/\γ.F D b/\b<w.heap.size/\
  zai (γ.F D) w (r.lv x) cs/\∀j,j<cs.length->w.cell? ⟨b,off+i.toNat*r.size+j,none⟩=cs[j]? :=by
 obtain ⟨h0,h1,h2⟩:=zrV hx;obtain ⟨A,c,cs,rfl,hc,hm,hA,hcs,hcell⟩:=zkD h;obtain ⟨b,off,rfl,hF,hb,hcell⟩:=hcell (by omega);have hA':=(hA.drop (i.toNat*r.size)).take r.size;rw [r.flat_at xs _ x h2] at hA';refine ⟨b,off,_,c,rfl,hF,hb,hA',fun j hj=>?_⟩;have hj':j<r.size:=by rw [<-hA'.1,r.len] at hj;exact hj
 have hle:(i.toNat+1)*r.size<=xs.length*r.size:=yG _ (by omega);rw [qC] at hle;rw [yW,xy hj',qN,ph];exact hcell _ (by omega)
end
def isSl {α:Type} (r:Rp α) (xs:List α) (D:List Nat) (a:AV):Prop:=∀γ w v,a.rel γ w v->zaO (γ.F D) w (.sl xs.length r.size (xs.flatMap r.lv)) v
theorem zbI {α:Type} (r:Rp α) (xs:List α) (C:List Nat):isSl r xs C (.sl r C xs):=fun _ _ _ h=>h
theorem zjL {α:Type} (r:Rp α) (xs:List α) (e:TypeId) (ℓ:Nat) (C:List Nat):isSl r xs (ℓ::C) (.own r e ℓ C xs):=fun _ _ _ h=>zpm h
theorem zCi {α:Type} (r:Rp α) (C:List Nat):isSl r [] C (.lf (.val (.slice none 0 0))):=fun γ w v h=>by
 rw [znF h];exact .sl 0 _ [] none 0 [] (by simp) (by simp) (xE _) (xP _) (fun h=>absurd h (by omega)) (fun i l u h=>by simp at h)
theorem zuG {P:Program} {t e:TypeId} {size bytes:Nat} (hT:ElT P t e size bytes) (w:World) (b off n c:Nat) (k:IntKind) (i:Int) (h0:0<=i) (h1:i<n):
  (Instr.indexAt t (.slice (some ⟨b,off,none⟩) n c) (.int k i)).run P w= .ok (.pointer (some ⟨b,off+i.toNat*size,none⟩)) w:=by
 simp [Instr.indexAt,asIntOf,run_underlying hT.u,hT.size,h0,h1,zfb]
theorem zsh {P:Program} {o:Oper} {α:Type} {r:Rp α} {xs:List α} {D:List Nat} {a:AV} {k:IntKind} {i:Int} {x:α} {t e:TypeId} {y z:Operand} {bytes:Nat}
  (ho:o.op= .indexAddr t y z) (hT:ElT P t e r.size bytes) (hs:isSl r xs D a) (hx:idx xs i=some x):zB P o [(y,a),(z,.lf (.int k i))] [] [] [] (.ep r D x 0) []:=by
 refine zQ fun γ ev w hi _=>?_
 have h1:=hs γ w _ (hi (y,a) (by simp));have h2:=zdT (hi (z,.lf (.int k i)) (by simp));simp only at h1 h2;obtain ⟨b,off,cs,c,hv,hF,hb,hA,hc⟩:=zKY h1 hx;obtain ⟨i0,i1,_⟩:=zrV hx;exact ⟨_,w,γ,by simp [execOp,ho,hv,h2,zuG hT w b off _ c k i i0 i1],Tr.refl _ _ _ _,⟨b,off+i.toNat*r.size,cs,rfl,hF,hb,hA,hc⟩,fun b hb=>by cases hb⟩
theorem zEy {P:Program} {o:Oper} {α:Type} {r:Rp α} {D:List Nat} {x:α} {t:TypeId} {y:Operand}
  (ho:o.op= .load t y) (hT:AggT P t r.size):zB P o [(y,.ep r D x 0)] [] [] [] (.rc r D x) []:=by
 refine zQ fun γ ev w hi _=>?_
 obtain ⟨b,off,cs,hv,hF,hb,hA,hc⟩:=hi (y,.ep r D x 0) (by simp);simp only at hv;have hl:=zgk hT (w:=w) (b:=b) (o:=off) (cs:=cs) (by rw [<-hA.1];exact r.len x) hc;exact ⟨_,w,γ,by simp [execOp,ho,hv,Instr.loadAt,Instr.sureAddr,hl],Tr.refl _ _ _ _,⟨cs,rfl,hA⟩,fun b hb=>by cases hb⟩
theorem zNr {P:Program} {o:Oper} {α β:Type} {r:Rp α} {D:List Nat} {x:α} {t:TypeId} {y:Operand} {off:Nat} (r':Rp β) (xs:List β)
  (ho:o.op= .load t y) (hT:zdU P t=true) (hs:(r.lv x)[off]? =some (.sl xs.length r'.size (xs.flatMap r'.lv))):zB P o [(y,.ep r D x off)] [] [] [] (.sl r' D xs) []:=by
 refine zQ fun γ ev w hi _=>?_
 obtain ⟨b,o',cs,hv,hF,hb,hA,hc⟩:=hi (y,.ep r D x off) (by simp);simp only at hv;have wS:off<cs.length:=by rw [<-hA.1];exact (yz.1 hs).1
 have hr:=hA.2 off _ _ hs (xT wS);have hcell:=hc off wS;rw [xT wS] at hcell;exact ⟨_,w,γ,by simp [execOp,ho,hv,zlz hT hcell],Tr.refl _ _ _ _,hr,fun b hb=>by cases hb⟩
theorem zoL {α:Type} {xs ys:List α} {i j:Int} (h:cut xs i j=some ys):0<=i/\i<=j/\j<=xs.length/\ys=(xs.drop i.toNat).take (j.toNat - i.toNat):=by
 unfold cut at h
 grind
theorem zAo {α:Type} {xs ys:List α} {i j:Int} (h:cut xs i j=some ys):ys.length=j.toNat - i.toNat:=by
 obtain ⟨h0,h1,h2,rfl⟩:=zoL h;simp;omega
theorem zcy (w:World) (k:IntKind) (i:Int) (y:Nat) (code:BoundsCode) (h0:0<=i) (h1:i<=y):(Instr.sliceBound (.int k i) y code).run P w= .ok i.toNat w:=by
 simp [Instr.sliceBound,asIntOf,h0,h1]
def loOf:Option AV->Option Int
 | none=>some 0
 | some (.lf (.int _ i))=>some i
 | _=>none
def hiOf (n:Int):Option AV->Option Int
 | none=>some n
 | some (.lf (.int _ i))=>some i
 | _=>none
def zGr:Option Operand->Option AV->List (Operand×AV)
 | some x,some a=>[(x,a)]
 | _,_=>[]
theorem zAZ {P:Program} {t e:TypeId} {size bytes:Nat} (hT:ElT P t e size bytes) (w:World) (A:Option Addr) (n c:Nat) (hc:n<=c) (lo hi:Option Value) (i j:Int)
  (hlo:(lo=none/\i=0)\/∃k,lo=some (.int k i)) (hhi:(hi=none/\j=n)\/∃k,hi=some (.int k j)) (h0:0<=i) (h1:i<=j) (h2:j<=n):
  (Instr.sliceAt t (.slice A n c) lo hi none).run P w= .ok (.slice (if c=i.toNat then A else A.map (·.add (i.toNat*size))) (j.toNat - i.toNat) (c - i.toNat)) w:=by
 have key:(Instr.sliceBounds true n c lo hi none).run P w= .ok (i.toNat,j.toNat,c) w:=by
  rcases hlo with ⟨rfl,rfl⟩| ⟨k,rfl⟩<;>rcases hhi with ⟨rfl,rfl⟩| ⟨k',rfl⟩
  ·rfl
  ·simp [Instr.sliceBounds,zcy w k' j c _ (by omega) (by omega)]
  ·simp [Instr.sliceBounds,zcy w k i n _ h0 h1]
  ·have:=zcy (P:=P) w k i j.toNat .sliceB h0 (by omega);simp [Instr.sliceBounds,zcy w k' j c _ (by omega) (by omega),this]
 simp [Instr.sliceAt,Instr.slice,run_underlying hT.u,key,hT.size]
theorem zFx {γ:Gh} {w:World} {α:Type} {r:Rp α} {xs ys:List α} {D:List Nat} {A:Option Addr} {c:Nat} (h:zaO (γ.F D) w (.sl xs.length r.size (xs.flatMap r.lv)) (.slice A xs.length c)) {i j:Int} (hy:cut xs i j=some ys):
  zaO (γ.F D) w (.sl ys.length r.size (ys.flatMap r.lv)) (.slice (if c=i.toNat then A else A.map (·.add (i.toNat*r.size))) (j.toNat - i.toNat) (c - i.toNat)):=by
 obtain ⟨A',c',cs,hv,hc,hm,hA,hcs,hcell⟩:=zkD h;injection hv with e1 _ e3;subst e1 e3;obtain ⟨h0,h1,h2,e⟩:=zoL hy;have hl:=zAo hy;rw [hl];have hf:ys.flatMap r.lv=((xs.flatMap r.lv).drop (i.toNat*r.size)).take ((j.toNat - i.toNat)*r.size):=by rw [e,r.flat_take,r.flat_drop]
 have hA':=(hA.drop (i.toNat*r.size)).take ((j.toNat - i.toNat)*r.size);rw [<-hf] at hA';have wS:(ys.flatMap r.lv).length=(j.toNat - i.toNat)*r.size:=by rw [r.flat,hl]
 refine .sl _ _ _ _ _ _ wS (by rw [<-hA'.1,wS]) (by omega) (by omega) (fun hn=>?_) hA'.2;have hpos:0<xs.length:=by omega
 have w9:¬c=i.toNat:=by omega
 obtain ⟨b,off,rfl,hF,hb,hcell⟩:=hcell hpos;rw [xx w9];refine ⟨b,off+i.toNat*r.size,by simp [zfb],hF,hb,fun k hk=>?_⟩;have hle:j.toNat*r.size<=xs.length*r.size:=yG _ (by omega);have hji:(j.toNat - i.toNat)*r.size=j.toNat*r.size - i.toNat*r.size:=Nat.sub_mul ..;have hij:i.toNat*r.size<=j.toNat*r.size:=yG _ (by omega);rw [yW,xy hk,qN,ph];exact hcell _ (by omega)
theorem zgA {P:Program} {o:Oper} {α:Type} {r:Rp α} {xs ys:List α} {D:List Nat} {a:AV} {i j:Int} {t e:TypeId} {x:Operand} {lo hi:Option Operand} (lov hiv:Option AV) {bytes:Nat}
  (ho:o.op= .slice t x lo hi none) (hT:ElT P t e r.size bytes) (hs:isSl r xs D a) (hlo:lo.isSome=lov.isSome/\loOf lov=some i) (hhi:hi.isSome=hiv.isSome/\hiOf xs.length hiv=some j) (hy:cut xs i j=some ys):
  zB P o ((x,a)::(zGr lo lov++zGr hi hiv)) [] [] [] (.sl r D ys) []:=by
 refine zQ fun γ ev w hin _=>?_
 have h1:=hs γ w _ (hin (x,a) (by simp));simp only at h1;obtain ⟨A,c,cs,hv,hc,hm,_⟩:=zkD h1;obtain ⟨c0,c1,c2,_⟩:=zoL hy;have hlo':(lo.map ev=none/\i=0)\/∃k,lo.map ev=some (.int k i):=by
  cases lo with
  | none=>
   cases lov with
   | none=>left;exact ⟨rfl,by simpa [loOf] using hlo.2.symm⟩
   | some a=>simp at hlo
  | some y=>
   cases lov with
   | none=>simp at hlo
   | some b=>
    have hb:=hin (y,b) (by simp [zGr]);have h2:=hlo.2;unfold loOf at h2;split at h2
    ·grind
    ·rename_i k i' heq;cases heq;cases h2;right;exact ⟨k,by simp [zdT hb]⟩
    ·cases h2
 have hhi':(hi.map ev=none/\j=(xs.length:Int))\/∃k,hi.map ev=some (.int k j):=by
  cases hi with
  | none=>
   cases hiv with
   | none=>left;exact ⟨rfl,by simpa [hiOf] using hhi.2.symm⟩
   | some a=>simp at hhi
  | some y=>
   cases hiv with
   | none=>simp at hhi
   | some b=>
    have hb:=hin (y,b) (by simp [zGr]);have h2:=hhi.2;unfold hiOf at h2;split at h2
    ·grind
    ·rename_i k i' heq;cases heq;cases h2;right;exact ⟨k,by simp [zdT hb]⟩
    ·cases h2
 rw [hv] at h1;exact ⟨_,w,γ,by simp [execOp,ho,hv,zAZ hT w A _ c hc _ _ i j hlo' hhi' c0 c1 c2],Tr.refl _ _ _ _,zFx h1 hy,fun b hb=>by cases hb⟩
def Rp.Plain {α:Type} (r:Rp α):Prop:=∀x l,l∈r.lv x->l.plain=true
theorem zai.plain (h:zai F w ls cs) (hp:∀l∈ls,l.plain=true):zai G w' ls cs:=
 ⟨h.1,fun i l u h1 h2=>(h.2 i l u h1 h2).plain (hp l (qO h1))⟩
theorem Rp.Plain.flat {α:Type} {r:Rp α} (h:r.Plain) (xs:List α):∀l∈xs.flatMap r.lv,l.plain=true:=by
 intro l hl;obtain ⟨x,_,hx⟩:=qk.1 hl;exact h x l hx
def zJb {α:Type} (r:Rp α) (e:TypeId) (ℓ:Nat) (C:List Nat) (xs:List α) (a:AV):Prop:=∀γ w v,a.rel γ w v->AV.rel γ w (.own r e ℓ C xs) v
theorem ztv {α:Type} (r:Rp α) (e:TypeId) (ℓ:Nat) (C:List Nat) (xs:List α):zJb r e ℓ C xs (.own r e ℓ C xs):=fun _ _ _ h=>h
theorem zyX {α:Type} (r:Rp α) (e:TypeId) (ℓ:Nat) (C:List Nat) (h:memN ℓ C=false):zJb r e ℓ C [] (.lf (.val (.slice none 0 0))):=fun γ w v hv=>by
 rw [znF hv];refine ⟨[],pI w 0 e r.size,?_,zai.nil,fun hc=>by rw [zar.2 hc] at h;cases h⟩;intro g hg;cases hg
theorem znC {α:Type} (r:Rp α) (e:TypeId) (ℓ:Nat) (C:List Nat) (h:memN ℓ C=false):AV.le (.lf (.val (.slice none 0 0))) (.own r e ℓ C []):=zyX r e ℓ C h
theorem zeW {α:Type} (r:Rp α) (C:List Nat):AV.le (.lf (.val (.slice none 0 0))) (.sl r C []):=zCi r C
theorem zOn {α:Type} (r:Rp α) (C C':List Nat) (xs:List α) (h:subN C C'=true):AV.le (.sl r C xs) (.sl r C' xs):=fun _ _ _ hv=>zaO.mono hv fun _ _ hb=>zah h _ hb
def LIM:Nat:=140737488355328
def app {α:Type} (bytes:Nat) (xs ys:List α):Option (List α):=if (xs.length+ys.length)*bytes<=LIM then some (xs++ys) else none
theorem zvT {α:Type} {bytes:Nat} {xs ys zs:List α} (h:app bytes xs ys=some zs):(xs.length+ys.length)*bytes<=140737488355328/\zs=xs++ys:=by
 unfold app at h;split at h
 ·rename_i hl;cases h;exact ⟨hl,rfl⟩
 ·cases h
def zcn (γ:Gh) (n ℓ g:Nat):Gh:=⟨fun b=>if b<n then γ.col b else ℓ,fun k=>if k=ℓ then g else γ.box k⟩
theorem zrs {P:Program} {t e:TypeId} {size bytes:Nat} (hT:ElT P t e size bytes) (ty:TypeId) (w:World) (base:Nat) (v:Value) (n:Nat) (xs:List Value) (kl:w.ownsRow base e size v n xs) (c:Nat):
  (Builtin.append_ #[t,t] ty #[v,.slice none 0 c]).run P w= .ok v w:=by
 obtain ⟨i,z,hi,hz,hs,hb,hzs⟩:=hT.ex;rcases kl.2 with ⟨rfl,rfl⟩| ⟨g,wX,ka,rfl,_,_,hnc,_⟩
 ·simp [Builtin.append_,run_underlying hT.u,sizeOf,typeInfo,hi,Builtin.lenOf,Builtin.firstCells]
 ·simp [Builtin.append_,run_underlying hT.u,sizeOf,typeInfo,hi,Builtin.lenOf,Builtin.firstCells,hnc,storeCells]
theorem zvE {P:Program} {t e:TypeId} {size bytes:Nat} (hT:ElT P t e size bytes) (hpos:0<size) (hbp:0<bytes) (ty:TypeId) (w:World) (v:Value) (n:Nat) (xs:List Value) (kl:w.ownsRow 0 e size v n xs)
  (A:Option Addr) (m c:Nat) (news:List Value) (hl:news.length=m*size) (hA:0<m->∃b off,A=some ⟨b,off,none⟩/\∀i,i<m*size->w.cell? ⟨b,off+i,none⟩=news[i]?) (h1:∀u∈news,u.oneCell'=true)
  (hlim:(n+m)*bytes<=140737488355328):
  ∃v' w',(Builtin.append_ #[t,t] ty #[v,.slice A m c]).run P w= .ok v' w'/\w'.ownsRow 0 e size v' (n+m) (xs++news)/\w.grownBy w' v.ownBlock/\(v'.ownBlock=v.ownBlock\/v'.ownBlock=some w.heap.size):=by
 obtain ⟨i,z,hi,hz,hs,hb,hzs⟩:=hT.ex;have hnm:n+m<=maxLen:=by
  have:(n+m)*1<=(n+m)*bytes:=ud _ hbp;unfold maxLen;omega
 rcases A with _| ad
 ·have hm:m=0:=by
   grind
  subst hm;have hn:news=[]:=yx (by simpa using hl);subst hn;exact ⟨v,w,zrs hT ty w 0 v n xs kl c,by simpa using kl,⟨rfl,rfl,rfl,xE _,fun _ _ _=>rfl⟩,.inl rfl⟩
 ·have hnews:∀j u,news[j]? =some u->w.cell? (ad.add j)=some u:=by
   intro j u hu;have hj:j<m*size:=by rw [<-hl];exact (yz.1 hu).1
   have hm:0<m:=by
    grind
   obtain ⟨b,off,h,hc⟩:=hA hm;cases h;rw [zfb,hc j hj];exact hu
  obtain ⟨v',w',hr,ho,hg,_,hbk⟩:=run_append_own_at (P:=P) w 0 t ty e i z size bytes hT.u hi hz hs hb hzs hpos v n xs kl ad m c news hl hnews h1 hnm hlim (xP _)
  grind
theorem zKB {γ:Gh} {w w':World} {e:TypeId} {size n:Nat} {ℓ:Nat} {v v':Value} {cs:List Value} (ho:w.ownsRow 0 e size v n cs) (hg:∀g,v.ownBlock=some g->γ.col g=ℓ/\γ.box ℓ=g) (hgr:w.grownBy w' v.ownBlock)
  (hbk:v'.ownBlock=v.ownBlock\/v'.ownBlock=some w.heap.size):
  ∃γ',Tr [ℓ] [ℓ] γ w γ' w'/\(∀g,v'.ownBlock=some g->γ'.col g=ℓ/\γ'.box ℓ=g):=by
 refine ⟨zcn γ w.heap.size ℓ (v'.ownBlock.getD (γ.box ℓ)),⟨hgr.os,hgr.tape,hgr.output,hgr.size,fun b hb hn=>hgr.block b hb fun e=>?_,fun b hb=>?_,fun k hk=>?_,fun b hb _ h=> .inr (by simp [zcn,Nat.not_lt.2 hb] at h;simp [h])⟩,fun g w8=>⟨?_,?_⟩⟩
 ·grind
 ·simp [zcn,hb]
 ·simp only [xC,xN,xO] at hk;simp [zcn,hk]
 ·rcases hbk with h| h
  ·rw [h] at w8;have:=(ho.lt g w8).2;simp [zcn,this,(hg g w8).1]
  ·rw [h] at w8;cases w8;simp [zcn]
 ·simp [zcn,w8]
theorem zEw {P:Program} {o:Oper} {α:Type} {r:Rp α} {xs ys zs:List α} {C D:List Nat} {a b:AV} {t e:TypeId} {x y:Operand} {bytes:Nat} (ℓ:Nat) (C2:List Nat)
  (ho:o.op= .call ⟨.builtin .append,#[x,y],#[t,t]⟩) (hT:ElT P t e r.size bytes) (hb:Nat.blt 0 bytes=true) (hx:zJb r e ℓ C xs a) (hy:isSl r ys D b) (hz:app bytes xs ys=some zs)
  (hC:r.Plain\/(subN C C2&&subN D C2)=true) (hℓ:memN ℓ C2=false):zB P o [(x,a),(y,b)] [] [ℓ] [ℓ] (.own r e ℓ C2 zs) []:=by
 refine zQ fun γ ev w hi _=>?_
 obtain ⟨cs,kl,hg,hA,hnot⟩:=hx γ w _ (hi (x,a) (by simp));have h2:=hy γ w _ (hi (y,b) (by simp));simp only at kl hg h2;obtain ⟨A,c,cs',hv,hc,hm,hA',hcs',hcell⟩:=zkD h2;obtain ⟨hlim,rfl⟩:=zvT hz
 obtain ⟨v',w',hr,ho',hgr,hbk⟩:=zvE hT r.pos (ql (xS hb)) o.type w _ _ _ kl A ys.length c cs' hcs'
  (fun hm=>by obtain ⟨b,off,e,_,_,hc⟩:=hcell hm;exact ⟨b,off,e,hc⟩) hA'.one hlim
 obtain ⟨γ',ht,hg'⟩:=zKB kl hg hgr hbk;refine ⟨v',w',γ',?_,ht,⟨cs++cs',by rw [xD];exact ho',hg',?_,fun hc=>by rw [zar.2 hc] at hℓ;cases hℓ⟩,fun b hb=>by cases hb⟩
 ·refine zbc (args:=[x,y]) (ts:=[t,t]) ho rfl rfl rfl fun consts=>?_
  simp [builtin,hv,hr]
 ·rw [yH];rcases hC with hp| hC
  ·exact (hA.plain (hp.flat xs)).append (hA'.plain (hp.flat ys))
  ·simp only [xB] at hC;have hn2:∀c∈C2,c∉[ℓ]:=fun c hc h=>by
    simp only [xC,xN,xO] at h;subst h;rw [zar.2 hc] at hℓ;cases hℓ
   have k1:=ht.all (C:=C2) hn2 (hA.mono fun b _ hb=>zah hC.1 _ hb);have k2:=ht.all (C:=C2) hn2 (hA'.mono fun b _ hb=>zah hC.2 _ hb);exact k1.append k2
def zok:LV->Value->Bool
 | .int k n,.int k' n'=>zrZ k k'&&decide (n=n')
 | .bool b,.bool b'=>(b&&b')|| (!b&& !b')
 | .str l,.string s=>l.isEmpty&&Nat.beq s.data.toList.length 0
 | .sl n _ ls,.slice none 0 0=>Nat.beq n 0&&ls.isEmpty
 | .val (.slice none 0 0),.slice none 0 0=>true
 | .val (.pointer none),.pointer none=>true
 | .val (.map none),.map none=>true
 | .val .nilFunc,.nilFunc=>true
 | .val .nilIface,.nilIface=>true
 | _,_=>false
theorem zGY (h:zok l v=true) (F:Fp) (w:World):zaO F w l v:=by
 unfold zok at h;split at h
 ·simp only [xB,yc] at h;have:=zsa h.1;rw [this,h.2];exact .int _ _
 ·rename_i b b';cases b<;>cases b'<;>first| exact .bool _| cases h
 ·rename_i l s;simp only [xB,pi] at h;obtain ⟨rfl,h2⟩:=h;have h3:s.data.toList=[]:=yx (xJ h2);have:s=⟨([]:List UInt8).toArray⟩:=by
   obtain ⟨d⟩:=s
   grind
  rw [this];exact .str []
 ·simp only [xB,pi] at h;obtain ⟨h1,rfl⟩:=h;have:=xJ h1;subst this;exact .sl 0 _ [] none 0 [] (by simp) (by simp) (xE _) (xP _) (fun h=>absurd h (by omega)) (fun i l u h=>by simp at h)
 ·exact .val _ rfl
 ·exact .val _ rfl
 ·exact .val _ rfl
 ·exact .val _ rfl
 ·exact .val _ rfl
 ·cases h
def zokL:List LV->List Value->Bool
 | [],[]=>true
 | l::ls,v::vs=>zok l v&&zokL ls vs
 | _,_=>false
theorem zxX (h:zokL ls vs=true) (F:Fp) (w:World):zai F w ls vs:=by
 induction ls generalizing vs with
 | nil=>cases vs<;>first| exact .nil| cases h
 | cons l ls ih=>
  cases vs with
  | nil=>cases h
  | cons v vs=>
   simp only [zokL,xB] at h;exact .cons (zGY h.1 F w) (ih h.2)
structure ZeT (P:Program) {α:Type} (t e:TypeId) (r:Rp α) (bytes:Nat) (x0:α):Prop where
 u:P.underlying t=some (.slice e)
 ex:∃i z,P.info? e=some i/\i.zero=some z/\i.size=r.size/\i.bytes=bytes/\z.cells.size=r.size/\zokL (r.lv x0) z.cells.toList=true
theorem ZeT.el {P:Program} {α:Type} {t e:TypeId} {r:Rp α} {bytes:Nat} {x0:α} (h:ZeT P t e r bytes x0):ElT P t e r.size bytes:=by
 obtain ⟨i,z,h1,h2,h3,h4,h5,_⟩:=h.ex;exact ⟨h.u,i,z,h1,h2,h3,h4,h5⟩
def zeB (P:Program) {α:Type} (e:TypeId) (r:Rp α) (bytes:Nat) (x0:α):Bool:=match P.info? e with
 | some i=>match i.zero with
  | some z=>Nat.beq i.size r.size&&Nat.beq i.bytes bytes&&Nat.beq z.cells.size r.size&&zokL (r.lv x0) z.cells.toList
  | none=>false
 | none=>false
theorem ZeT.ofB {P:Program} {α:Type} {t e:TypeId} {r:Rp α} {bytes:Nat} {x0:α} (hu:P.underlying t=some (.slice e)) (h:zeB P e r bytes x0=true):ZeT P t e r bytes x0:=by
 unfold zeB at h;split at h
 ·rename_i i hi;split at h
  ·rename_i z hz;simp only [xB] at h;exact ⟨hu,i,z,hi,hz,xJ h.1.1.1,xJ h.1.1.2,xJ h.1.2,h.2⟩
  ·cases h
 ·cases h
theorem zLP {β:Type} (l:List β) (n i:Nat) (h:i<n*l.length):((List.replicate n l).flatten)[i]? =l[i%l.length]? :=by
 induction n generalizing i with
 | zero=>omega
 | succ n ih=>
  rw [List.replicate_succ,qm,pE];split
  ·rename_i hi;rw [qF hi]
  ·rename_i hi;rw [qC] at h;rw [ih _ (by omega)];congr 1;rw [<-Nat.mod_eq_sub_mod (by omega)]
theorem zwH {α:Type} {r:Rp α} {x0:α} {z:Value} (hs:z.cells.size=r.size) (hz:zokL (r.lv x0) z.cells.toList=true) (F:Fp) (w:World) (n m:Nat) (hnm:n<=m):
  zai F w ((List.replicate n x0).flatMap r.lv) ((madeCells z.cells (m*r.size)).toList.take (n*r.size)):=by
 have hr:=zxX hz F w;have hl:(madeCells z.cells (m*r.size)).toList.length=m*r.size:=by rw [yJ,pk]
 have hle:n*r.size<=m*r.size:=yG _ hnm;refine ⟨by rw [r.flat,qG,xZ,hl];omega,fun i l u h1 h2=>?_⟩;have hi:i<n*r.size:=by have:=(yz.1 h1).1;rw [r.flat,qG] at this;exact this
 have e1:(List.replicate n x0).flatMap r.lv=(List.replicate n (r.lv x0)).flatten:=by rw [pJ,List.map_replicate]
 rw [e1,zLP _ _ _ (by rw [r.len];exact hi),r.len] at h1;rw [yW,xy hi] at h2;have hmod:i%r.size<z.cells.size:=by rw [hs];exact Nat.mod_lt _ r.pos
 have e2:(madeCells z.cells (m*r.size)).toList[i]? =z.cells.toList[i%r.size]? :=by
  have him:i<m*r.size:=by omega
  simp only [madeCells,Array.toList_map,Array.toList_range,qn,List.getElem?_range him,qV,hs]
  grind
 rw [e2] at h2;exact hr.2 _ l u h1 h2
def mkO {α:Type} (bytes:Nat) (x0:α) (n m:Int):Option (List α):=if 0<=n/\n<=m/\m*bytes<=LIM then some (List.replicate n.toNat x0) else none
theorem zsi {P:Program} {o:Oper} {α:Type} {r:Rp α} {t e:TypeId} {x y:Operand} {bytes:Nat} {x0:α} {k k':IntKind} {n m:Int} {xs:List α} (ℓ:Nat)
  (ho:o.op= .makeSlice t x y) (hT:ZeT P t e r bytes x0) (hb:Nat.blt 0 bytes=true) (hm:mkO bytes x0 n m=some xs):zB P o [(x,.lf (.int k n)),(y,.lf (.int k' m))] [] [] [ℓ] (.own r e ℓ [] xs) []:=by
 refine zQ fun γ ev w hi _=>?_
 have h1:=zdT (hi (x,.lf (.int k n)) (by simp));have h2:=zdT (hi (y,.lf (.int k' m)) (by simp));simp only at h1 h2;unfold mkO at hm;split at hm
 case isFalse=>cases hm
 rename_i hh;obtain ⟨h0,hnm,hlim⟩:=hh;cases hm;obtain ⟨i,z,hi',hz,hs,hby,hzs,hzo⟩:=hT.ex;have hbp:0<bytes:=ql (xS hb);have hmb:m<=m*bytes:=by
  have:m*1<=m*(bytes:Int):=Int.mul_le_mul_of_nonneg_left (by omega) (by omega);omega
 have hL:(LIM:Int)=140737488355328:=rfl;have hr:=run_make (P:=P) w t e i z hT.u hi' hz k k' n m h0 hnm (by rw [hby,Int.mul_comm];omega) (by omega);rw [hs] at hr;have hnew:=yV w (.cells (madeCells z.cells (m.toNat*r.size)) e)
 refine ⟨.slice (some ⟨w.heap.size,0,none⟩) n.toNat m.toNat,w.alloc (.cells (madeCells z.cells (m.toNat*r.size)) e),zcn γ w.heap.size ℓ w.heap.size,by simp [execOp,ho,h1,h2,hr],⟨rfl,rfl,rfl,by simp,fun b hb _=>Below.heap_alloc w _ b hb,fun b hb=>by simp [zcn,hb],fun k hk=>?_,fun b hb _ h=> .inr (by simp [zcn,Nat.not_lt.2 hb] at h;simp [h])⟩,
  ⟨(madeCells z.cells (m.toNat*r.size)).toList.take (n.toNat*r.size),?_,fun g hg=>?_,?_,by simp⟩,fun b hb=>by cases hb⟩
 ·simp only [xC,xN,xO] at hk;simp [zcn,hk]
 ·rw [qG];have hle:n.toNat*r.size<=m.toNat*r.size:=yG _ (by omega);have hml:m.toNat<=maxLen:=by unfold maxLen;omega
  refine ⟨by rw [xZ,yJ,pk];omega,.inr ⟨w.heap.size,m.toNat,_,rfl,xP _,hnew,by omega,hml,by rw [pk],rfl⟩⟩
 ·cases hg;simp [zcn]
 ·exact zwH hzs hzo _ _ _ _ (by omega)
def zsF {β:Type} (cs:List β) (off:Nat) (vs:List β):List β:=cs.take off++vs++cs.drop (off+vs.length)
theorem zwo (off:Nat):∀(vs:List Value) (k:Nat) (cs:Array Value),off+k+vs.length<=cs.size->
  ((vs.zipIdx k).foldl (fun (cs:Array Value) (p:Value×Nat)=>cs.setIfInBounds (off+p.2) p.1) cs).toList=cs.toList.take (off+k)++vs++cs.toList.drop (off+k+vs.length)
 | [],k,cs,_=>by simp
 | v::vs,k,cs,h=>by
  simp only [yk] at h;rw [List.zipIdx_cons,yd,zwo off vs (k+1) _ (by simp;omega)];have:=list_seg_step cs.toList (off+k) v vs (by simp;omega)
  grind
def znL:AV->Option (List LV)
 | .rc r _ x=>some (r.lv x)
 | .ag l=>zfj l
 | a=>match a.toLV with
  | some l=>some [l]
  | none=>none
theorem znM (h:znL a=some ls) (hr:a.rel γ w v) (hC:subN a.cols C=true):zai (γ.F C) w ls v.cells.toList:=by
 have leaf:∀l,a.toLV=some l->zai (γ.F C) w [l] v.cells.toList:=fun l hl=>by
  have h1:=zDm hl hr (zah hC);have:v.cells=#[v]:=by
   have h1c:=h1.one;cases v<;>first| rfl| cases h1c
  rw [this];exact .cons h1 .nil
 cases a with
 | rc r C' x=>
  cases h;obtain ⟨cs,rfl,hA⟩:=hr;exact hA.mono fun b _ hb=>zah hC _ hb
 | ag l=>
  obtain ⟨vs,rfl,hL,_⟩:=hr;exact zhe h hL (zah hC)
 | any=>cases h
 | lf l=>cases h;exact leaf _ rfl
 | sl=>cases h;exact leaf _ rfl
 | own=>cases h;exact leaf _ rfl
 | ep=>cases h
 | ptr=>cases h
 | bs=>cases h
 | tl=>cases h
 | qp=>cases h
 | em=>cases h
 | mo=>cases h
 | cu=>cases h
 | mp=>cases h
 | om=>cases h
 | tup=>cases h
 | fv=>cases h
 | bp=>cases h
 | it=>cases h
def zyK (place:Nat->Option (Nat×Nat)) (cs:List LV):List (Nat×List LV)->Option (List LV)
 | []=>some cs
 | (i,vs)::wO=>match place i with
  | none=>none
  | some (off,size)=>match Nat.beq vs.length size&&Nat.ble (off+vs.length) cs.length with
   | true=>zyK place (zsF cs off vs) wO
   | false=>none
theorem ztq :∀(ps:List (Nat×List LV)) (vs:List (Nat×Value)) (cs:List LV) (cells:Array Value) (out:List LV),zyK place cs ps=some out->
  zai F w cs cells.toList->ps.length=vs.length->(∀(k:Nat) (p:Nat×List LV) (v:Nat×Value),ps[k]? =some p->vs[k]? =some v->p.1=v.1/\zai F w p.2 v.2.cells.toList)->
  ∃cells',Instr.fill place cells vs=some cells'/\zai F w out cells'.toList
 | [],vs,cs,cells,out,h,hA,hl,_=>by
  cases h;cases vs with
  | nil=>exact ⟨cells,rfl,hA⟩
  | cons=>simp at hl
 | (i,ls)::ps,vs,cs,cells,out,h,hA,hl,hp=>by
  cases vs with
  | nil=>simp at hl
  | cons v vs=>
   obtain ⟨j,v⟩:=v;obtain ⟨hij,hv⟩:=hp 0 (i,ls) (j,v) rfl rfl;simp only at hij hv;subst hij;rw [zyK] at h;split at h
   ·cases h
   ·rename_i off size hpl;split at h
    ·rename_i hb;simp only [xB] at hb;have e1:=xJ hb.1;have e2:=xS hb.2;have wZ:v.cells.size=ls.length:=by rw [hv.1];simp
     have hcl:cells.size=cs.length:=by rw [hA.1];simp
     have hset:=zwo off v.cells.toList 0 cells (by simp;omega);simp only [yD] at hset;have hA2:zai F w (zsF cs off ls) (v.cells.toList.zipIdx.foldl (fun (cs:Array Value) (p:Value×Nat)=>cs.setIfInBounds (off+p.2) p.1) cells).toList:=by
      rw [hset];unfold zsF;rw [hv.1];exact ((hA.take off).append hv).append (hA.drop _)
     obtain ⟨cells',hf,hr⟩:=ztq ps vs _ _ out h hA2 (by simpa using hl) (fun k p u h1 h2=>hp (k+1) p u h1 h2);refine ⟨cells',?_,hr⟩;rw [Instr.fill,hpl];simp only;rw [xx (by simp;omega)];rw [<-hf];congr 1;rw [<-ue];simp
    ·cases h
def zqf:List (Nat×Operand)->List AV->Option (List (Nat×List LV))
 | [],[]=>some []
 | (i,_)::l,a::as=>match znL a,zqf l as with
  | some ls,some r=>some ((i,ls)::r)
  | _,_=>none
 | _,_=>none
theorem zpo {γ:Gh} {w:World} {ev:Operand->Value} {C:List Nat}:∀(l:List (Nat×Operand)) (as:List AV) (ps:List (Nat×List LV)),zqf l as=some ps->(∀p∈(l.map (·.2)).zip as,p.2.rel γ w (ev p.1))->
  subN (AV.colsL as) C=true->ps.length=(l.map fun p=>(p.1,ev p.2)).length/\∀(k:Nat) (p:Nat×List LV) (v:Nat×Value),ps[k]? =some p->(l.map fun p=>(p.1,ev p.2))[k]? =some v->p.1=v.1/\zai (γ.F C) w p.2 v.2.cells.toList
 | [],[],ps,h,_,_=>by cases h;exact ⟨rfl,fun k p v h=>by simp at h⟩
 | (i,x)::l,a::as,ps,h,hr,hC=>by
  rw [zqf] at h;split at h
  ·rename_i ls r h1 h2;cases h;have hC1:subN a.cols C=true:=by
    simp only [subN,xI,AV.colsL] at hC|-
    grind
   have hC2:subN (AV.colsL as) C=true:=by
    simp only [subN,xI,AV.colsL] at hC|-
    grind
   obtain ⟨g1,g2⟩:=zpo l as r h2 (fun p hp=>hr p (by simp [hp])) hC2;refine ⟨by simp [g1],fun k p v hp hv=>?_⟩;cases k with
   | zero=>
    simp at hp hv;subst hp hv;exact ⟨rfl,znM h1 (hr (x,a) (by simp)) hC1⟩
   | succ k=>exact g2 k p v (by simpa using hp) (by simpa using hv)
  ·cases h
 | [],_::_,ps,h,_,_=>by cases h
 | _::_,[],ps,h,_,_=>by cases h
def zBR (place:Nat->Option (Nat×Nat)) (zl:List LV) (kr:List (Nat×Operand)) (as:List AV):Option (List LV):=match zqf kr as with
 | some ps=>zyK place zl ps
 | none=>none
theorem zwh {kr:List (Nat×Operand)} (h:zBR place zl kr as=some out):∃ps,zqf kr as=some ps/\zyK place zl ps=some out:=by
 unfold zBR at h
 grind
structure StT (P:Program) (t:TypeId) (places:List (Nat×Nat)) (zl:List LV):Prop where
 ex:∃fs z,P.underlying t=some (.struct fs)/\(∀w,(zeroValue t).run P w= .ok z w)/\(∀w,(fs.mapM (m:=Sem) fun (f:Field)=>do pure (f.offset,<-sizeOf f.type)).run P w= .ok places.toArray w)/\zokL zl z.cells.toList=true
theorem zaj {P:Program} {o:Oper} {α:Type} {r:Rp α} {t:TypeId} {kr:List (Nat×Operand)} {places:List (Nat×Nat)} {zl:List LV} (as:List AV) (C:List Nat) (x:α)
  (ho:o.op= .build t kr.toArray) (hT:StT P t places zl) (hC:subN (AV.colsL as) C=true) (hf:zBR (fun i=>places[i]?) zl kr as=some (r.lv x)):
  zB P o ((kr.map (·.2)).zip as) [] [] [] (.rc r C x) []:=by
 refine zQ fun γ ev w hi _=>?_
 obtain ⟨ps,hp,hf⟩:=zwh hf;obtain ⟨fs,z,hu,hz,hpl,hzo⟩:=hT.ex;obtain ⟨g1,g2⟩:=zpo kr as ps hp hi hC;obtain ⟨cells',hfill,hA⟩:=ztq ps _ zl z.cells _ hf (zxX hzo _ w) g1 g2;have hfill':Instr.fill (fun i=>places.toArray[i]?) z.cells (kr.map fun p=>(p.1,ev p.2))=some cells':=by
  simp_all
 refine ⟨.agg cells',w,γ,?_,Tr.refl _ _ _ _,⟨cells'.toList,by simp,hA⟩,fun b hb=>by cases hb⟩;simp only [execOp,ho,Instr.build,x9,hz,yX hu,yb,hpl,pG];have e:(List.map (fun (x:Nat×Operand)=>(x.1,ev x.2)) kr)=kr.map fun p=>(p.1,ev p.2):=rfl
 simp only [hfill',yu,yb]
theorem zJY {α:Type} {r:Rp α} {x0:α} {z:Value} (hs:z.cells.size=r.size) (hz:zokL (r.lv x0) z.cells.toList=true) (F:Fp) (w:World) (n:Nat):
  zai F w ((List.replicate n x0).flatMap r.lv) (madeCells z.cells (n*r.size)).toList:=by
 have:=zwH hs hz F w n n (xE _)
 rwa [yM (by rw [yJ,pk];exact xE _)] at this
theorem zkg {P:Program} {o:Oper} {α:Type} {r:Rp α} {t e:TypeId} {n:Nat} {kr:List (Nat×Operand)} {bytes:Nat} {x0:α} (as:List AV) (ℓ:Nat) (C:List Nat) (xs:List α)
  (ho:o.op= .buildSlice t n kr.toArray) (hT:ZeT P t e r bytes x0) (hn:(Nat.beq n xs.length&&Nat.ble (n*r.size) 16777216)=true) (hC:subN (AV.colsL as) C=true) (hℓ:memN ℓ C=false)
  (hf:zBR (fun i=>some (i*r.size,r.size)) ((List.replicate n x0).flatMap r.lv) kr as=some (xs.flatMap r.lv)):zB P o ((kr.map (·.2)).zip as) [] [] [ℓ] (.own r e ℓ C xs) []:=by
 refine zQ fun γ ev w hi _=>?_
 obtain ⟨ps,hp,hf⟩:=zwh hf;obtain ⟨i,z,hi',hz,hs,hby,hzs,hzo⟩:=hT.ex;simp only [xB] at hn;have e1:=xJ hn.1;have e2:=xS hn.2;obtain ⟨g1,g2⟩:=zpo kr as ps hp hi hC;obtain ⟨cells',hfill,hA⟩:=ztq ps _ _ (madeCells z.cells (n*r.size)) _ hf (zJY hzs hzo _ w n) g1 g2;have wZ:(sizeOf e).run P w= .ok r.size w:=hT.el.size w;have hcs:cells'.size=n*r.size:=by rw [<-yJ,<-hA.1,r.flat,e1]
 have hzero:(zeroValue e).run P w= .ok z w:=by simp [zeroValue,typeInfo,hi',hz]
 have ht:Tr [] [ℓ] γ w (zcn γ w.heap.size ℓ w.heap.size) (w.alloc (.cells cells' e)):=⟨rfl,rfl,rfl,by simp,fun b hb _=>Below.heap_alloc w _ b hb,fun b hb=>by simp [zcn,hb],fun k hk=>by
  simp only [xC,xN,xO] at hk;simp [zcn,hk],fun b hb _ h=> .inr (by simp [zcn,Nat.not_lt.2 hb] at h;simp [h])⟩
 refine ⟨.slice (some ⟨w.heap.size,0,none⟩) n n,w.alloc (.cells cells' e),_,?_,ht,
  ⟨cells'.toList,?_,fun g hg=>?_,?_,fun hc=>by rw [zar.2 hc] at hℓ;cases hℓ⟩,fun b hb=>by cases hb⟩
 ·have hgt:¬(n*r.size>2^24):=by omega
  simp only [execOp,ho,Instr.buildSlice,x9,yX hT.u,yb,wZ,xx hgt,yu,pG];by_cases h0:n*r.size=0
  ·have:n=0:=by rcases Nat.mul_eq_zero.1 h0 with h| h;exact h;exact absurd h (by have:=r.pos;omega)
   have hm0:madeCells z.cells (n*r.size)=#[]:=by rw [h0];simp [madeCells]
   rw [hm0] at hfill;rw [xy h0];have hr0:Array.range 0=#[]:=rfl;simp only [h0,hr0,Array.map_empty,hfill];simp [newRow]
  ·have hm0:madeCells z.cells (n*r.size)=(Array.range (n*r.size)).map (fun x=>z.cells[x%z.cells.size]!):=rfl;rw [hm0] at hfill;simp only [xx h0,x9,hzero,yu,yb,hfill];simp [newRow]
 ·rw [<-e1];refine World.ownsRow_lit w cells' n (xP _) ?_ hcs;have:n*1<=n*r.size:=ud _ r.pos;unfold maxLen;omega
 ·cases hg;simp [zcn]
 ·exact ht.all (fun c _ h=>by cases h) hA
def zokA:AV->Value->Bool
 | .lf l,v=>l.plain&&zok l v
 | .sl _ _ xs,.slice none 0 0=>xs.isEmpty
 | .own _ _ ℓ C xs,.slice none 0 0=>xs.isEmpty&& !memN ℓ C
 | _,_=>false
theorem zKS (h:zokA a v=true) (γ:Gh) (w:World):a.rel γ w v/\v.oneCell'=true:=by
 unfold zokA at h;split at h
 ·simp only [xB] at h;have:=zGY h.2 (fun _=>False) w;exact ⟨⟨h.1,this⟩,this.one⟩
 ·rename_i α r C xs;have hx:xs=[]:=pi.1 h;subst hx;exact ⟨zCi r C γ w _ ⟨rfl,.val _ rfl⟩,rfl⟩
 ·rename_i α r e ℓ C xs;simp only [xB,xY] at h;have hx:xs=[]:=pi.1 h.1;subst hx;exact ⟨zyX r e ℓ C h.2 γ w _ ⟨rfl,.val _ rfl⟩,rfl⟩
 ·cases h
def zzU:List AV->List Value->Bool
 | [],[]=>true
 | a::l,v::vs=>zokA a v&&zzU l vs
 | _,_=>false
theorem zzV (h:zzU l vs=true) (γ:Gh) (w:World):AV.relL γ w l vs/\∀u∈vs,u.oneCell'=true:=by
 induction l generalizing vs with
 | nil=>cases vs<;>first| exact ⟨rfl,fun u hu=>by cases hu⟩| cases h
 | cons a l ih=>
  cases vs with
  | nil=>cases h
  | cons v vs=>
   simp only [zzU,xB] at h;obtain ⟨h1,h2⟩:=zKS h.1 γ w;obtain ⟨h3,h4⟩:=ih h.2;refine ⟨⟨v,vs,rfl,h1,h3⟩,fun u hu=>?_⟩;cases hu with
   | head=>exact h2
   | tail _ hu=>exact h4 u hu
theorem zpB (γ:Gh) (w:World) (ℓ:Nat) (o:Obj):Tr [] [ℓ] γ w (zcn γ w.heap.size ℓ w.heap.size) (w.alloc o):=
 ⟨rfl,rfl,rfl,by simp,fun b hb _=>Below.heap_alloc w _ b hb,fun b hb=>by simp [zcn,hb],fun k hk=>by
  simp only [xC,xN,xO] at hk;simp [zcn,hk],fun b hb _ h=> .inr (by simp [zcn,Nat.not_lt.2 hb] at h;simp [h])⟩
theorem zed (γ:Gh) (n ℓ g:Nat):(zcn γ n ℓ g).box ℓ=g:=by simp [zcn]
theorem zjh (γ:Gh) (n ℓ g:Nat):(zcn γ n ℓ g).col n=ℓ:=by simp [zcn]
theorem zse (ℓ:Nat) (as:List AV) (ho:o.op= .alloc t) (hz:∀w,(zeroValue t).run P w= .ok z w) (hs:zzU as z.cells.toList=true):
  zB P o [] [] [] [ℓ] (.ptr ℓ 0) [⟨ℓ,t,as⟩]:=by
 refine zQ fun γ ev w hi _=>?_
 refine ⟨.pointer (some ⟨w.heap.size,0,none⟩),w.alloc (.cells z.cells t),_,?_,zpB γ w ℓ _,?_,fun b hb=>?_⟩
 ·simp [execOp,ho,Instr.alloc,Sem.run_bind,hz,newVar,newRow]
 ·show _=_;rw [zed]
 ·simp only [xC,xN,xO] at hb;subst hb;have h:=zzV hs (zcn γ w.heap.size ℓ w.heap.size) (w.alloc (.cells z.cells t));refine ⟨by rw [zed,zjh],z.cells.toList,?_,h.1,h.2⟩;rw [zed,qU];exact yV w _
theorem zis (ℓ:Nat) (as:List AV) (C:List Nat) (ho:o.op= .box t x) (hp:znL a=some ls) (hC:subN a.cols C=true) (ha:zfj as=some ls) (hl:as.all (zqO C)=true):
  zB P o [(x,a)] [] [] [ℓ] (.ptr ℓ 0) [⟨ℓ,t,as⟩]:=by
 refine zQ fun γ ev w hi _=>?_
 have hA:=znM hp (hi (x,a) (by simp)) hC;refine ⟨.pointer (some ⟨w.heap.size,0,none⟩),w.alloc (.cells (ev x).cells t),_,?_,zpB γ w ℓ _,?_,fun b hb=>?_⟩
 ·simp [execOp,ho,Instr.box,newVar,newRow]
 ·show _=_;rw [zed]
 ·simp only [xC,xN,xO] at hb;subst hb;have hA':=(zpB γ w ℓ (.cells (ev x).cells t)).all (fun c _ h=>by cases h) hA;refine ⟨by rw [zed,zjh],(ev x).cells.toList,?_,zjB ha hA' hl,hA.one⟩;rw [zed,qU];exact yV w _
theorem zwD {P:Program} {o:Oper} {α:Type} {r:Rp α} {t:TypeId} {y:Operand} {b:Bx} {off:Nat} (x:α) (C:List Nat) (ho:o.op= .load t y) (hT:AggT P t r.size) (hs:zfj ((b.avs.drop off).take r.size)=some (r.lv x))
  (hC:subN (AV.colsL ((b.avs.drop off).take r.size)) C=true):zB P o [(y,.ptr b.lab off)] [b] [] [] (.rc r C x) []:=by
 refine zQ fun γ ev w hi hb=>?_
 have h1:ev y=_:=hi (y,.ptr b.lab off) (by simp);obtain ⟨kh,cs,hh,hL,hone⟩:=hb b (by simp);have sub:∀(l:List AV) (vs:List Value) (k:Nat),AV.relL γ w l vs->AV.relL γ w (l.drop k) (vs.drop k):=by
  intro l
  induction l with
  | nil=>intro vs k h;cases h;cases k<;>rfl
  | cons a l ih=>
   intro vs k h;cases k with
   | zero=>exact h
   | succ k=>obtain ⟨v,vs',rfl,h1,h2⟩:=h;exact ih vs' k h2
 have tak:∀(l:List AV) (vs:List Value) (k:Nat),AV.relL γ w l vs->AV.relL γ w (l.take k) (vs.take k):=by
  intro l
  induction l with
  | nil=>intro vs k h;cases h;cases k<;>rfl
  | cons a l ih=>
   intro vs k h;obtain ⟨v,vs',rfl,h1,h2⟩:=h;cases k with
   | zero=>rfl
   | succ k=>exact ⟨v,_,rfl,h1,ih vs' k h2⟩
 have hL':=tak _ _ r.size (sub _ _ off hL);have hA:=zhe hs hL' (zah hC);have wS:((cs.drop off).take r.size).length=r.size:=by rw [<-hA.1];exact r.len x
 have hl:=zgk hT (w:=w) (b:=γ.box b.lab) (o:=off) (cs:=(cs.drop off).take r.size) wS fun i hi=>by
  rw [wS] at hi;rw [yS w _ _ _ _ _ hh,yW,xy hi,qN];simp
 exact ⟨_,w,γ,by simp [execOp,ho,h1,Instr.loadAt,Instr.sureAddr,hl],Tr.refl _ _ _ _,⟨_,rfl,hA⟩,fun b hb=>by cases hb⟩
theorem zJZ (h:AV.relL γ w l vs) (k:Nat) (ha:a.rel γ w v):AV.relL γ w (l.set k a) (vs.set k v):=by
 induction l generalizing vs k with
 | nil=>cases h;exact rfl
 | cons b l ih=>
  obtain ⟨u,vs',rfl,h1,h2⟩:=h;cases k with
  | zero=>exact ⟨v,vs',rfl,ha,h2⟩
  | succ k=>exact ⟨u,_,rfl,h1,ih h2 k⟩
theorem zxC (kh:γ.col (γ.box ℓ)=ℓ) (cs:Array Value):Tr [ℓ] [] γ w γ (w.setRow (γ.box ℓ) cs):=
 ⟨rfl,rfl,rfl,by simp,fun b hb hn=>qM w _ b cs (fun e=>hn (by rw [e,kh];exact xz)),fun _ _=>rfl,fun _ _=>rfl,fun b h1 h2=>absurd h2 (by simp;omega)⟩
def znD:AV->Bool
 | .lf _| .sl ..| .own ..| .ptr ..| .bs ..| .qp ..| .ep ..| .em ..| .mp ..| .om ..| .fv ..| .cu ..=>true
 | _=>false
theorem zsc (h:znD a=true) (hr:a.rel γ w v):v.oneCell'=true/\v.cells=#[v]:=by
 have key:v.oneCell'=true:=by
  cases a with
  | lf l=>exact hr.2.one
  | sl r C xs=>exact zaO.one hr
  | own r e ℓ C xs=>exact (zpm hr).one
  | ptr ℓ off=>have:v=_:=hr;rw [this];rfl
  | bs ℓ n=>have:v=_:=hr;rw [this];rfl
  | tl=>cases h
  | qp r C o=>
   cases o with
   | none=>have:v=_:=hr;rw [this];rfl
   | some x=>obtain ⟨b,cs,hv,_⟩:=hr;rw [hv];rfl
  | ep r C x off=>obtain ⟨b,o,cs,hv,_⟩:=hr;rw [hv];rfl
  | em rk rv C m=>obtain ⟨a,b,es,cl,hv,_⟩:=hr;rw [hv];rfl
  | mo=>cases h
  | cu c ℓ C1 C2=>exact c.one hr
  | any=>cases h
  | rc=>cases h
  | mp rk rv C m=>obtain ⟨b,es,cl,hv,_⟩:=hr;rw [hv];rfl
  | om rk rv ℓ C m=>obtain ⟨b,es,cl,hv,_⟩:=hr;rw [hv];rfl
  | tup=>cases h
  | ag=>cases h
  | fv g l=>obtain ⟨vs,hv,_⟩:=hr;rw [hv];rfl
  | bp=>cases h
  | it=>cases h
 refine ⟨key,?_⟩;cases v<;>first| rfl| cases key
theorem zEz (ho:o.op= .store t y z) (wZ:∀w,(sizeOf t).run P w= .ok 1 w) (hoff:Nat.blt off b.avs.length=true) (ha:znD a=true)
  (hf:a.free [b.lab] []=true):zB P o [(y,.ptr b.lab off),(z,a)] [b] [b.lab] [] .any [⟨b.lab,b.typ,(b.avs.map (AV.clear [b.lab] [])).set off a⟩]:=by
 intro γ av w hi hb next Q hk;have h1:av.eval y=_:=hi (y,.ptr b.lab off) (by simp);have h2:=hi (z,a) (by simp);simp only at h2;obtain ⟨hone',hcells⟩:=zsc ha h2;obtain ⟨kh,cs,hh,hL,hone⟩:=hb b (by simp);have hoff':off<cs.length:=by rw [zbu hL];exact ql (xS hoff)
 have hst:=pl P (γ.box b.lab) off b.typ [av.eval z] 0 cs.toArray w hh (by simp;omega) (by simpa using hone');simp only [yD,qH] at hst;have w7:(execOp av.eval o).run P w= .ok .skip (w.setRow (γ.box b.lab) (cs.set off (av.eval z)).toArray):=by
  have e:cs.take off++[av.eval z]++cs.drop (off+1)=cs.set off (av.eval z):=by
   rw [uf,xy hoff',yy];rfl
  rw [e] at hst;simp [execOp,ho,h1,Instr.storeAt,Instr.sureAddr,storeVar,wZ,hcells,hst]
 unfold Oper.wp;rw [w7,ug];have ht:=zxC (w:=w) kh (cs.set off (av.eval z)).toArray;obtain ⟨f1,f2⟩:=AV.free_spec hf;refine hk γ _ undef ht trivial fun b' hb'=>?_
 simp only [xC,xN,xO] at hb';subst hb';refine ⟨kh,cs.set off (av.eval z),y9 w _ _ _ _ _ hh,zJZ (zlv hL ht) off (a.keep ht f1 f2 h2),fun u hu=>?_⟩;rcases List.mem_or_eq_of_mem_set hu with h| h
 ·exact hone u h
 ·grind
theorem zhZ (h:AV.relL γ w l vs) (k:AV.relL γ w m us):AV.relL γ w (l++m) (vs++us):=by
 induction l generalizing vs with
 | nil=>cases h;exact k
 | cons a l ih=>obtain ⟨v,vs',rfl,h1,h2⟩:=h;exact ⟨v,_,rfl,h1,ih h2⟩
theorem zmT :∀(l:List AV) (vs:List Value) (k:Nat),AV.relL γ w l vs->AV.relL γ w (l.drop k) (vs.drop k)
 | [],vs,k,h=>by cases h;cases k<;>rfl
 | a::l,vs,0,h=>h
 | a::l,vs,k+1,h=>by obtain ⟨v,vs',rfl,h1,h2⟩:=h;exact zmT l vs' k h2
theorem zmV :∀(l:List AV) (vs:List Value) (k:Nat),AV.relL γ w l vs->AV.relL γ w (l.take k) (vs.take k)
 | [],vs,k,h=>by cases h;cases k<;>rfl
 | a::l,vs,0,h=>rfl
 | a::l,vs,k+1,h=>by obtain ⟨v,vs',rfl,h1,h2⟩:=h;exact ⟨v,_,rfl,h1,zmV l vs' k h2⟩
theorem zgB {P:Program} {o:Oper} {α:Type} {r:Rp α} {t:TypeId} {y z:Operand} {b:Bx} {off:Nat} {x:α} {C:List Nat} (as:List AV) (ho:o.op= .store t y z) (wZ:∀w,(sizeOf t).run P w= .ok r.size w)
  (hoff:Nat.ble (off+r.size) b.avs.length=true) (hC:memN b.lab C=false) (ha:zfj as=some (r.lv x)) (hl:as.all (zqO C)=true):
  zB P o [(y,.ptr b.lab off),(z,.rc r C x)] [b] [b.lab] [] .any [⟨b.lab,b.typ,(b.avs.map (AV.clear [b.lab] [])).take off++as++(b.avs.map (AV.clear [b.lab] [])).drop (off+r.size)⟩]:=by
 intro γ av w hi hb next Q hk;have h1:av.eval y=_:=hi (y,.ptr b.lab off) (by simp);obtain ⟨us,hv,hA⟩:=hi (z,.rc r C x) (by simp);simp only at hv;obtain ⟨kh,cs,hh,hL,hone⟩:=hb b (by simp);have hus:us.length=r.size:=by rw [<-hA.1];exact r.len x
 have hoff':off+r.size<=cs.length:=by rw [zbu hL];exact xS hoff
 have hst:=pl P (γ.box b.lab) off b.typ us 0 cs.toArray w hh (by simp;omega) hA.one;simp only [yD,hus] at hst;have w7:(execOp av.eval o).run P w= .ok .skip (w.setRow (γ.box b.lab) (cs.take off++us++cs.drop (off+r.size)).toArray):=by
  simp [execOp,ho,h1,hv,Instr.storeAt,Instr.sureAddr,storeVar,wZ,Value.cells,hus,hst]
 unfold Oper.wp;rw [w7,ug];have ht:=zxC (w:=w) kh (cs.take off++us++cs.drop (off+r.size)).toArray;have hA':=ht.all (C:=C) (fun c hc h=>by
  simp only [xC,xN,xO] at h;subst h;rw [zar.2 hc] at hC;cases hC) hA
 have hL':=zlv hL ht;refine hk γ _ undef ht trivial fun b' hb'=>?_
 simp only [xC,xN,xO] at hb';subst hb';refine ⟨kh,cs.take off++us++cs.drop (off+r.size),y9 w _ _ _ _ _ hh,zhZ (zhZ (zmV _ _ _ hL') (zjB ha hA' hl)) (zmT _ _ _ hL'),fun u hu=>?_⟩;simp only [xG] at hu;rcases hu with (h| h)| h
 ·grind
 ·exact hA.one u h
 ·grind
theorem zyC (l:List UInt8):l.flatMap Rp.byte.lv=l.map fun c=>LV.int .u8 c.toNat:=by
 induction l with
 | nil=>rfl
 | cons c l ih=>rw [xM,ih];rfl
theorem ztB {src dst e:TypeId} (ho:o.op= .convert src dst x) (hs:P.underlying src=some (.slice e)) (he:P.underlying e=some (.int .u8)) (hd:P.underlying dst=some .string)
  (hx:isSl Rp.byte l D a):zB P o [(x,a)] [] [] [] (.lf (.str l)) []:=by
 refine zQ fun γ ev w hi _=>?_
 have h:=hx γ w _ (hi (x,a) (by simp));simp only at h;obtain ⟨A,c,cs,hv,hc,hm,hA,hcs,hcell⟩:=zkD h;rw [zyC] at hA;have hget:∀j (hj:j<l.length),cs[j]? =some (.int .u8 (l[j].toNat:Int)):=fun j hj=>by
  have hj':j<cs.length:=by rw [hcs];simpa [Rp.byte] using hj
  have:=hA.2 j (.int .u8 (l[j].toNat:Int)) cs[j] (by simp [hj]) (xT hj');rw [xT hj']
  generalize cs[j]=u at this
  cases this;rfl
 have w7:(convert src dst (.slice A l.length c)).run P w= .ok (.string ⟨l.toArray⟩) w:=by
  rcases pd l.length with h0| h0
  ·have:l=[]:=yx h0;subst this;rcases A with _| ad
   ·exact run_convert_bytes_nil w src e hs he 0 c dst hd
   ·exact run_convert_bytes_back w src dst e ad c [] hs he hd (fun j hj=>absurd hj (by simp))
  ·obtain ⟨b,off,rfl,_,_,hc'⟩:=hcell h0;refine run_convert_bytes_back w src dst e _ c l hs he hd fun j hj=>?_
   rw [zfb,hc' j (by simpa [Rp.byte] using hj)];exact hget j hj
 exact ⟨_,w,γ,by simp [execOp,ho,hv,w7],Tr.refl _ _ _ _,zJE _ _ _,fun b hb=>by cases hb⟩
theorem zNs {src dst e:TypeId} (ℓ:Nat) (ho:o.op= .convert src dst x) (hs:P.underlying src=some .string) (hd:P.underlying dst=some (.slice e)) (he:P.underlying e=some (.int .u8)) (hl:Nat.ble l.length 9223372036854775807=true):
  zB P o [(x,.lf (.str l))] [] [] [ℓ] (.sl Rp.byte [ℓ] l) []:=by
 refine zQ fun γ ev w hi _=>?_
 have h:=ztA (hi (x,.lf (.str l)) (by simp));simp only at h;have wZ:(⟨l.toArray⟩:ByteArray).size=l.length:=by simp [ByteArray.size_mk']
 have hr:=run_bytes_of_string (P:=P) w src dst e ⟨l.toArray⟩ hs hd he;rw [wZ] at hr
 generalize hcap:grownCap w l.length 0 e=wX at hr
 have hll:l.length<=maxLen:=by unfold maxLen;exact xS hl
 have hc1:l.length<=wX:=by rw [<-hcap];exact pB _ _ _ _
 have hc2:wX<=maxLen:=by rw [<-hcap];exact pY _ _ _ _ hll
 generalize kj:bytesRow ⟨l.toArray⟩ wX=row at hr
 have hnew:(w.drew.alloc (.cells row e (row.size,row.size+1))).heap[w.heap.size]? =some (.cells row e (row.size,row.size+1)):=yV w.drew _
 have ht:Tr [] [ℓ] γ w (zcn γ w.heap.size ℓ w.heap.size) (w.drew.alloc (.cells row e (row.size,row.size+1))):=
  ⟨rfl,rfl,rfl,by simp,fun b hb _=>Below.heap_alloc w.drew _ b hb,fun b hb=>by simp [zcn,hb],fun k hk=>by
   simp only [xC,xN,xO] at hk;simp [zcn,hk],fun b hb _ h=> .inr (by simp [zcn,Nat.not_lt.2 hb] at h;simp [h])⟩
 refine ⟨.slice (some ⟨w.heap.size,0,none⟩) l.length wX,w.drew.alloc (.cells row e (row.size,row.size+1)),_,by simp [execOp,ho,h,hr],ht,?_,fun b hb=>by cases hb⟩;show zaO _ _ (.sl l.length 1 (l.flatMap Rp.byte.lv)) _;rw [zyC];refine .sl _ _ _ _ _ (l.map fun c=>Value.int .u8 c.toNat) (by simp) (by simp) hc1 hc2 (fun h0=>⟨w.heap.size,0,rfl,?_,by simp,fun i hi=>?_⟩) (fun i lv u h1 h2=>?_)
 ·show (zcn γ w.heap.size ℓ w.heap.size).col w.heap.size∈[ℓ];rw [zjh];exact xz
 ·rw [yS _ _ _ _ _ _ hnew,<-kj];have hi':i<l.length:=by omega
  rw [xR,bytesRow_at ⟨l.toArray⟩ wX i (by simpa using hi')];simp [hi']
 ·simp only [qn,Option.map_eq_some_iff] at h1 h2;obtain ⟨c,hc,rfl⟩:=h1;obtain ⟨c',hc',rfl⟩:=h2;rw [hc] at hc';cases hc';exact .int _ _
theorem zEx {P:Program} {o:Oper} {t:TypeId} {x y:Operand} {l:List UInt8} {k:IntKind} {i:Int} {c:UInt8} (ho:o.op= .index t x y) (ht:P.underlying t=some .string) (hx:idx l i=some c):
  zB P o [(x,.lf (.str l)),(y,.lf (.int k i))] [] [] [] (.lf (.int .u8 c.toNat)) []:=by
 refine zQ fun γ ev w hi _=>?_
 have h1:=ztA (hi (x,.lf (.str l)) (by simp));have h2:=zdT (hi (y,.lf (.int k i)) (by simp));simp only at h1 h2;obtain ⟨i0,i1,i2⟩:=zrV hx;have hb:(⟨l.toArray⟩:ByteArray)[i.toNat]? =some c:=by
  have wP:i.toNat<(⟨l.toArray⟩:ByteArray).size:=by simp [ByteArray.size_mk'];omega
  rw [ByteArray.getElem?_lt' _ _ wP];congr 1;have:=(yz.1 i2).2;rw [<-this];rfl
 exact ⟨_,w,γ,by simp [execOp,ho,h1,h2,Instr.index,asIntOf,run_underlying ht,i0,hb],Tr.refl _ _ _ _,zjk _ _ _ _,fun b hb=>by cases hb⟩
def shlO (k:IntKind) (x y:Int):Option Int:=if y<0 then none else some (shlI k x y)
def shrO (k:IntKind) (x y:Int):Option Int:=if y<0 then none else some (shrI k x y)
theorem zAE (ho:o.op= .binOp .shl t x y t') (hz:shlO k m n=some z):zB P o [(x,.lf (.int k m)),(y,.lf (.int j n))] [] [] [] (.lf (.int k z)) []:=by
 refine zQ fun γ ev w hi _=>?_
 have h1:=zdT (hi (x,.lf (.int k m)) (by simp));have h2:=zdT (hi (y,.lf (.int j n)) (by simp));simp only at h1 h2;unfold shlO at hz;split at hz
 ·cases hz
 ·rename_i hn;cases hz;exact ⟨_,w,γ,by simp only [execOp,ho,h1,h2,x9,znw,yb,binOp,Op.shift,xx hn,yu];rfl,Tr.refl _ _ _ _,zjk _ _ _ _,fun b hb=>by cases hb⟩
theorem zit (ho:o.op= .binOp .shr t x y t') (hz:shrO k m n=some z):zB P o [(x,.lf (.int k m)),(y,.lf (.int j n))] [] [] [] (.lf (.int k z)) []:=by
 refine zQ fun γ ev w hi _=>?_
 have h1:=zdT (hi (x,.lf (.int k m)) (by simp));have h2:=zdT (hi (y,.lf (.int j n)) (by simp));simp only at h1 h2;unfold shrO at hz;split at hz
 ·cases hz
 ·rename_i hn;cases hz;exact ⟨_,w,γ,by simp only [execOp,ho,h1,h2,x9,znw,yb,binOp,Op.shift,xx hn,yu];rfl,Tr.refl _ _ _ _,zjk _ _ _ _,fun b hb=>by cases hb⟩
inductive It where
 | c (x:Code)
 | e (id:Nat)
def zin:Code->List It->List It
 | .seq a b,l=>zin a (zin b l)
 | .skip,l=>l
 | x,l=> .c x::l
def zqM (id:Nat):List It->Option (List It)
 | []=>none
 | .c _::l=>zqM id l
 | .e k::l=>match Nat.beq k id with
  | true=>some l
  | false=>zqM id l
structure Sem2 where
 n:Act->World->Prop
 x:Nat->Act->World->Prop
def semI (m:Bool) (P:Program) (Q:Exit->Act->World->Prop):List It->Sem2
 | []=>⟨Q .normal,fun id=>Q (.exit id)⟩
 | .c x::l=>⟨wq m P x fun e a w=>match e with
  | .normal=>(semI m P Q l).n a w
  | .exit id=>(semI m P Q l).x id a w
  | e=>Q e a w,(semI m P Q l).x⟩
 | .e k::l=>⟨(semI m P Q l).n,fun id a w=>if k=id then (semI m P Q l).n a w else (semI m P Q l).x id a w⟩
def wpI (m:Bool) (P:Program) (Q:Exit->Act->World->Prop) (l:List It) (a:Act) (w:World):Prop:=(semI m P Q l).n a w
def wpX (m:Bool) (P:Program) (Q:Exit->Act->World->Prop) (id:Nat) (l:List It) (a:Act) (w:World):Prop:=(semI m P Q l).x id a w
def zgx (m:Bool) (P:Program) (Q:Exit->Act->World->Prop) (l:List It):Exit->Act->World->Prop:=fun e a w=>match e with
 | .normal=>wpI m P Q l a w
 | .exit id=>wpX m P Q id l a w
 | e=>Q e a w
def JI (m:Bool) (P:Program) (l:List It) (S:Act->World->Prop) (Q:Exit->Act->World->Prop):Prop:=∀a w,S a w->wpI m P Q l a w
section
variable {m:Bool} {P:Program} {Q Q':Exit->Act->World->Prop} {S:Act->World->Prop} {l:List It} {x y c:Code}
theorem zpP :wpI m P Q (.c x::l) a w=wq m P x (zgx m P Q l) a w:=rfl
theorem zKO {a:Act} {w:World} {id k:Nat}:wpX m P Q id (.e k::l) a w=if k=id then wpI m P Q l a w else wpX m P Q id l a w:=rfl
theorem ztf {id:Nat} {a:Act} {w:World}:∀{l l':List It},zqM id l=some l'->wpI m P Q l' a w->wpX m P Q id l a w
 | [],_,h,_=>by cases h
 | .c _::l,_,h,k=>ztf (l:=l) h k
 | .e _::l,_,h,k=>by
  rw [zKO];rw [zqM] at h;split at h
  ·simp_all
  ·rename_i hb;rw [xx (fun e=>by rw [e] at hb;simp at hb)];exact ztf h k
theorem zIS:∀(x:Code) (l:List It) (id:Nat) (a:Act) (w:World),wpX m P Q id (zin x l) a w->wpX m P Q id l a w
 | .seq p q,l,id,a,w,h=>zIS q l id a w (zIS p (zin q l) id a w h)
 | .skip,_,_,_,_,h=>h
 | .region _ _ _,_,_,_,_,h=>h
 | .cond _ _ _,_,_,_,_,h=>h
 | .block _ _,_,_,_,_,h=>h
 | .loop _,_,_,_,_,h=>h
 | .rangeFunc _ _ _ _,_,_,_,_,h=>h
 | .exit _,_,_,_,_,h=>h
 | .scope _,_,_,_,_,h=>h
 | .label _,_,_,_,_,h=>h
 | .goto _,_,_,_,_,h=>h
 | .ret,_,_,_,_,h=>h
 | .refuse _,_,_,_,_,h=>h
theorem zjf:∀(x:Code) (l:List It) (a:Act) (w:World),wpI m P Q (zin x l) a w->wq m P x (zgx m P Q l) a w
 | .seq p q,l,a,w,h=>by
  have h1:=zjf p (zin q l) a w h;refine zeR (zmd h1 fun e a' w' hq=>?_);cases e with
  | normal=>exact zjf q l a' w' hq
  | exit id=>exact zIS q l id a' w' hq
  | goto l=>exact hq
  | ret=>exact hq
  | panic ch=>exact hq
  | outgrown=>exact hq
 | .skip,_,_,_,h=>zvH h
 | .region _ _ _,_,_,_,h=>h
 | .cond _ _ _,_,_,_,h=>h
 | .block _ _,_,_,_,h=>h
 | .loop _,_,_,_,h=>h
 | .rangeFunc _ _ _ _,_,_,_,h=>h
 | .exit _,_,_,_,h=>h
 | .scope _,_,_,_,h=>h
 | .label _,_,_,_,h=>h
 | .goto _,_,_,_,h=>h
 | .ret,_,_,_,h=>h
 | .refuse _,_,_,_,h=>h
theorem zbe (h:JI m P (zin c []) S Q):J m P c S Q:=fun a w hs=>zmd (zjf c [] a w (h a w hs)) fun e a w hq=>by
 cases e with
 | normal=>exact hq
 | exit id=>exact hq
 | goto l=>exact hq
 | ret=>exact hq
 | panic ch=>exact hq
 | outgrown=>exact hq
theorem zEq (h:∀a w,S a w->Q .normal a w):JI m P [] S Q:=fun a w hs=>h a w hs
theorem zam {id:Nat} (h:JI m P l S Q):JI m P (.e id::l) S Q:=fun a w hs=>h a w hs
theorem zkK {cx:Cx} {E:Env} {id:Nat} {ops:List Oper} (E':Env) (h:zbh P cx.n ops.toArray ops E E') (k:JI m P l (Sx cx E') Q):JI m P (.c (.region id ops.toArray false)::l) (Sx cx E) Q:=
 fun a w hs=>by rw [zpP];exact zaY (h cx a w _ rfl hs fun a' w' hs'=>k a' w' hs')
theorem zJh (hl:E.opd o=some (.lf (.bool b))) (hb:b=true) (k:JI m P (zin x l) (Sx cx E) Q):JI m P (.c (.cond o x y)::l) (Sx cx E) Q:=fun a w hs=>by
 rw [zpP];obtain ⟨γ,hB,hS,hX⟩:=hs;subst hb;exact ziO (zkB (Env.opd_rel hl hS)) (zjf x l a w (k a w ⟨γ,hB,hS,hX⟩))
theorem zJg (hl:E.opd o=some (.lf (.bool b))) (hb:b=false) (k:JI m P (zin y l) (Sx cx E) Q):JI m P (.c (.cond o x y)::l) (Sx cx E) Q:=fun a w hs=>by
 rw [zpP];obtain ⟨γ,hB,hS,hX⟩:=hs;subst hb;exact zjC (zkB (Env.opd_rel hl hS)) (zjf y l a w (k a w ⟨γ,hB,hS,hX⟩))
theorem zwu (h:∀a w,S a w->Q .ret a w):JI m P (.c .ret::l) S Q:=fun a w hs=>by rw [zpP];exact zxR (h a w hs)
theorem zLn {id:Nat} (l':List It) (he:zqM id l=some l') (k:JI m P l' S Q):JI m P (.c (.exit id)::l) S Q:=fun a w hs=>by
 rw [zpP];exact zGW (ztf he (k a w hs))
theorem zke {id:Nat} {a:Act} {w:World}:∀{l:List It},zqM id l=none->Q (.exit id) a w->wpX m P Q id l a w
 | [],_,k=>k
 | .c _::l,h,k=>zke (l:=l) h k
 | .e _::l,h,k=>by
  rw [zqM] at h;split at h
  ·cases h
  ·rename_i hb;rw [zKO,xx (fun e=>by rw [e] at hb;simp at hb)];exact zke h k
theorem zJi {id:Nat} (he:zqM id l=none) (h:∀a w,S a w->Q (.exit id) a w):JI m P (.c (.exit id)::l) S Q:=fun a w hs=>by
 rw [zpP];exact zGW (zke he (h a w hs))
theorem zx {id:Nat} (k:JI m P (zin c (.e id::l)) S Q):JI m P (.c (.block id c)::l) S Q:=fun a w hs=>by
 rw [zpP];refine zKP (zmd (zjf c (.e id::l) a w (k a w hs)) fun e a' w' hq=>?_);cases e with
 | normal=>exact hq
 | exit j=>
  have hq':wpX m P Q j (.e id::l) a' w':=hq;rw [zKO] at hq';by_cases hj:j=id
  ·rw [xy hj.symm] at hq';simp only [Exit.inBlock,xy hj];exact hq'
  ·rw [xx (fun e=>hj e.symm)] at hq';simp only [Exit.inBlock,xx hj];exact hq'
 | goto l=>exact hq
 | ret=>exact hq
 | panic ch=>exact hq
 | outgrown=>exact hq
end
def zcU (E E':Env):Prop:=∀cx a w,Sx cx E a w->Sx cx E' a w
theorem zvq (ks bs:List Nat) (h:E.pick ks bs=some E'):zcU E E':=fun _ _ _ hs=>hs.pick h
theorem zcU.go (h:zcU E E') (hs:Sx cx E a w):Sx cx E' a w:=h cx a w hs
theorem zcU.trans (h:zcU E E1) (k:zcU E1 E'):zcU E E':=fun cx a w hs=>k cx a w (h cx a w hs)
theorem zoT (h:zcU E E') (k:JI m P l (Sx cx E') Q):JI m P l (Sx cx E) Q:=fun a w hs=>k a w (h cx a w hs)
section
variable {P:Program} {N:Lim} {ops:Array Oper} {wO:List Oper} {E E1 E':Env}
theorem zOu (h:zcU E E1) (k:zbh P N ops wO E1 E'):zbh P N ops wO E E':=fun cx a w Q hn hs hQ=>k cx a w Q hn (h cx a w hs) hQ
end
inductive Fact where
 | sl (k:Nat) (a:AV)
 | bx (b:Bx)
 | rs (k ℓ n:Nat)
 | ms (k ℓ:Nat)
 | lk {κ α:Type} [DecidableEq κ] (k:Nat) (rk:Rp κ) (r:Rp α) (e:TypeId) (ℓ:Nat) (C:List Nat) (m:List (κ×List α)) (q:κ)
 | ap {κ α:Type} [DecidableEq κ] (k:Nat) (rk:Rp κ) (r:Rp α) (e:TypeId) (ℓ:Nat) (C:List Nat) (m:List (κ×List α)) (q:κ) (ys:List α)
def Fact.rel (γ:Gh) (a:Act) (w:World):Fact->Prop
 | .sl k v=>v.rel γ w (a.tmps.getD k undef)
 | .bx b=>b.rel γ w
 | .rs k ℓ n=>0<n->∃c,a.tmps.getD k undef= .slice (some ⟨γ.box ℓ,0,none⟩) n c
 | .ms k ℓ=>a.tmps.getD k undef= .map (some (γ.box ℓ))
 | @Fact.lk _ _ _ k rk r e ℓ C m q=>∃b n O,MoIn γ w rk r e ℓ C (fun _=>True) O m b n/\a.tmps.getD k undef=(mget n q).getD (.slice none 0 0)
 | @Fact.ap _ _ _ k rk r e ℓ C m q ys=>∃b n O,MoIn γ w rk r e ℓ C (fun j=>j≠q) O m b n/\RowX γ w r e ℓ C (O q) ys (a.tmps.getD k undef)/\∀j u,j≠q->O j->O q->mget n j=some u->zAc u (a.tmps.getD k undef)
structure OpD where
 want:Bool
 req:List Fact
 W:List Nat
 V:List Nat
 dst:Option Nat
 prod:List Fact
def zpj (d:Option Nat) (k:Nat):Bool:=match d with
 | some x=>Nat.beq x k
 | none=>false
def OpD.kills (d:OpD):Fact->Bool
 | .sl k a=>zpj d.dst k|| !a.free d.W d.V
 | .bx b=>memN b.lab d.W|| memN b.lab d.V|| !(b.avs.all fun a=>a.free d.W d.V)
 | .rs k ℓ _=>zpj d.dst k|| memN ℓ d.V
 | .ms k ℓ=>zpj d.dst k|| memN ℓ d.V
 | @Fact.lk _ _ _ k _ _ _ ℓ C _ _=>zpj d.dst k|| !((ℓ::C).all fun c=> !memN c d.W)|| memN ℓ d.V
 | @Fact.ap _ _ _ k _ _ _ ℓ C _ _ _=>zpj d.dst k|| !((ℓ::C).all fun c=> !memN c d.W)|| memN ℓ d.V
def zwI (d:OpD) (L:List Fact):List Fact:=d.prod++L.filter fun f=> !d.kills f
theorem zzu (h:AV.relL γ w l vs) (t:Tr W V γ w γ' w') (hf:(l.all fun a=>a.free W V)=true):AV.relL γ' w' l vs:=by
 induction l generalizing vs with
 | nil=>exact h
 | cons a l ih=>
  obtain ⟨v,vs',rfl,h1,h2⟩:=h;simp only [yP,xB] at hf;obtain ⟨f1,f2⟩:=AV.free_spec hf.1;exact ⟨v,vs',rfl,a.keep t f1 f2 h1,ih h2 hf.2⟩
theorem zsw {d:Option Nat} {k:Nat} {a:Act} {v:Value} (h:zpj d k=false):(a.put d v).tmps.getD k undef=a.tmps.getD k undef:=by
 cases d with
 | none=>rfl
 | some x=>exact zhu (fun e=>by rw [e] at h;simp [zpj] at h)
theorem offW {l W:List Nat} (h:(l.all fun c=> !memN c W)=true):∀c∈l,c∉W:=fun c hc hw=>by
 simp only [xI,xY] at h;have:=h c hc;rw [zar.2 hw] at this;cases this
theorem Fact.keep {d:OpD} {f:Fact} {γ γ':Gh} {a:Act} {w w':World} (h:f.rel γ a w) (t:Tr d.W d.V γ w γ' w') (hk:d.kills f=false) (v:Value):f.rel γ' (a.put d.dst v) w':=by
 cases f with
 | sl k av=>
  simp only [OpD.kills,qW,pK] at hk;obtain ⟨f1,f2⟩:=AV.free_spec hk.2;have hr:=av.keep t f1 f2 h;show av.rel γ' w' ((a.put d.dst v).tmps.getD k undef);cases hd:d.dst with
  | none=>exact hr
  | some x=>
   rw [hd] at hk;rw [zhu (fun e=>by rw [e] at hk;simp [zpj] at hk)];exact hr
 | bx b=>
  simp only [OpD.kills,qW,pK] at hk;obtain ⟨⟨h1,h2⟩,h3⟩:=hk;obtain ⟨hc,cs,hh,hL,hone⟩:=h;have wP:γ.box b.lab<w.heap.size:=(yh.1 hh).1;have n1:b.lab∉d.W:=fun hm=>by rw [zar.2 hm] at h1;cases h1
  have n2:b.lab∉d.V:=fun hm=>by rw [zar.2 hm] at h2;cases h2
  refine ⟨by rw [t.box _ n2,t.col _ wP];exact hc,cs,?_,zzu hL t h3,hone⟩;rw [t.box _ n2,t.block _ wP (by rw [hc];exact n1)];exact hh
 | rs k ℓ n=>
  simp only [OpD.kills,qW] at hk;intro hn;obtain ⟨c,hc⟩:=h hn;have n2:ℓ∉d.V:=fun hm=>by have:=hk.2;rw [zar.2 hm] at this;cases this
  refine ⟨c,?_⟩;rw [t.box _ n2,<-hc];cases hd:d.dst with
  | none=>rfl
  | some x=>rw [zhu (fun e=>by have:=hk.1;rw [hd,e] at this;simp [zpj] at this)]
 | ms k ℓ=>
  simp only [OpD.kills,qW] at hk;have n2:ℓ∉d.V:=fun hm=>by have:=hk.2;rw [zar.2 hm] at this;cases this
  show _=_;rw [t.box _ n2,zsw hk.1];exact h
 | lk k rk r e ℓ C m q=>
  simp only [OpD.kills,qW,pK] at hk;obtain ⟨b,n,O,hm,hv⟩:=h;have hW:=offW hk.1.2;exact ⟨b,n,O,hm.keep t (hW ℓ xz) (fun c hc=>hW c (xA _ hc)) (fun hc=>by have:=hk.2;rw [zar.2 hc] at this;cases this),by rw [zsw hk.1.1];exact hv⟩
 | ap k rk r e ℓ C m q ys=>
  simp only [OpD.kills,qW,pK] at hk;obtain ⟨b,n,O,hm,hr,ha⟩:=h;have hW:=offW hk.1.2;have h1:=hW ℓ xz;have h2:=fun c (hc:c∈C)=>hW c (xA _ hc)
  refine ⟨b,n,O,hm.keep t h1 h2 (fun hc=>by have:=hk.2;rw [zar.2 hc] at this;cases this),?_,?_⟩
  ·rw [zsw hk.1.1];exact hr.keep t h1 h2
  ·rw [zsw hk.1.1];exact ha
structure Does (P:Program) (ops:Array Oper) (cx:Cx) (i:Nat) (d:OpD):Prop where
 oper:∃o,ops[i]? =some o/\o.dst=d.dst/\∀(γ:Gh) (a:Act) (w:World),Base cx γ a w->(∀f∈d.req,f.rel γ a w)->Region.wanted o (yielded ops a.tmps)=d.want/\
  (d.want=true->∀(next:Act->World->Prop) (Q:Exit->Act->World->Prop),(∀γ' w' v,Tr d.W d.V γ w γ' w'->(∀f∈d.prod,f.rel γ' (a.put d.dst v) w')->next (a.put d.dst v) w')->opq P o a w next Q)/\
  (d.want=false->∀f∈d.prod,f.rel γ (a.put d.dst undef) w)
 okW:okW d.W=true
 okV:YtaglemhabeipfaaGreat.okW d.V=true
 kept:∀k,d.dst=some k->k∉cx.n.keep
 none_:d.want=false->d.W=[]/\d.V=[]
def ztE (acc:List Nat):List Edge->Nat
 | []=>0
 | e::l=>match Region.binds .any e with
  | true=>2^e.on||| acc.getD e.on 0||| ztE acc l
  | false=>ztE acc l
def zpb:List Oper->List Nat->List Nat
 | [],acc=>acc
 | o::l,acc=>zpb l (acc++[ztE acc o.after.toList])
def zme (ops:Array Oper) (D:Nat->Prop):Prop:=∀(j:Nat) (o:Oper),ops[j]? =some o->D j->∀e∈o.after,Region.binds .any e=true->D e.on
theorem zpa {D:Nat->Prop} {acc:List Nat} (hacc:∀k m,acc[k]? =some m->D k->∀i,m.testBit i=true->D i):∀(l:List Edge),(∀e∈l,Region.binds .any e=true->D e.on)->∀i,(ztE acc l).testBit i=true->D i
 | [],_,i,h=>by simp [ztE] at h
 | e::l,hl,i,h=>by
  rw [ztE] at h;split at h
  ·rename_i hb;have he:=hl e xz hb;rw [Nat.testBit_or,Nat.testBit_or,qX,qX] at h;rcases h with (h| h)| h
   ·grind
   ·grind
   ·exact zpa hacc l (fun x hx=>hl x (xA _ hx)) i h
  ·exact zpa hacc l (fun x hx=>hl x (xA _ hx)) i h
theorem znG {ops:Array Oper} {D:Nat->Prop} (hD:zme ops D):∀(l:List Oper) (acc:List Nat),(∀j,l[j]? =ops[acc.length+j]?)->(∀k m,acc[k]? =some m->D k->∀i,m.testBit i=true->D i)->
  ∀k m,(zpb l acc)[k]? =some m->D k->∀i,m.testBit i=true->D i
 | [],acc,_,h=>h
 | o::l,acc,hl,h=>by
  have ho:ops[acc.length]? =some o:=by have:=hl 0;simpa using this.symm
  refine znG hD l _ (fun j=>by have:=hl (j+1);simp at this;rw [this];congr 1;simp;omega) fun k m hk hDk=>?_
  rw [pE] at hk;split at hk
  ·grind
  ·rename_i hkl;have hk0:k - acc.length=0:=by
    grind
   rw [hk0] at hk;simp at hk;have hke:k=acc.length:=by omega
   subst hke hk;exact zpa h _ fun e he hb=>hD _ o ho hDk e (by simpa using he) hb
def zhS (di dj:OpD):Bool:=(di.req++di.prod).any dj.kills|| (dj.req++dj.prod).any di.kills
def zoJ:List OpD->List Fact->List (List Fact)
 | [],_=>[]
 | d::ds,L=>L::zoJ ds (zwI d L)
def endF:List OpD->List Fact->List Fact
 | [],L=>L
 | d::ds,L=>endF ds (zwI d L)
def From (ds:List OpD) (L0:List Fact) (n:Nat) (f:Fact):Prop:=
 (f∈L0/\∀j d,j<n->ds[j]? =some d->d.kills f=false)\/∃p dp,p<n/\ds[p]? =some dp/\f∈dp.prod/\∀j d,p<j->j<n->ds[j]? =some d->d.kills f=false
theorem zHk (hd:ds[n]? =some d) (h:∀f∈L,From ds L0 n f):∀f∈zwI d L,From ds L0 (n+1) f:=by
 intro f hf;simp only [zwI,xG,xU,xY] at hf;rcases hf with hf| ⟨hf,hk⟩
 ·exact .inr ⟨n,d,by omega,hd,hf,fun j dj h1 h2=>by omega⟩
 ·rcases h f hf with ⟨h0,hn⟩| ⟨p,dp,hp,hdp,hfp,hn⟩
  ·refine .inl ⟨h0,fun j dj hj hdj=>?_⟩
   grind
  ·refine .inr ⟨p,dp,by omega,hdp,hfp,fun j dj h1 h2 hdj=>?_⟩
   grind
theorem zwp :∀(ds:List OpD) (n:Nat) (L:List Fact),(∀j,ds[j]? =ds0[n+j]?)->(∀f∈L,From ds0 L0 n f)->
  (∀j Lj,(zoJ ds L)[j]? =some Lj->∀f∈Lj,From ds0 L0 (n+j) f)/\∀f∈endF ds L,From ds0 L0 (n+ds.length) f
 | [],n,L,_,h=>⟨fun j Lj hj=>by simp [zoJ] at hj,fun f hf=>h f hf⟩
 | d::ds,n,L,hds,h=>by
  have hd:ds0[n]? =some d:=by have:=hds 0;simpa using this.symm
  obtain ⟨g1,g2⟩:=zwp ds (n+1) (zwI d L) (fun j=>by have:=hds (j+1);simp at this;rw [this];congr 1;omega) (zHk hd h);refine ⟨fun j Lj hj=>?_,fun f hf=>?_⟩
  ·cases j with
   | zero=>simp [zoJ] at hj;subst hj;exact h
   | succ j=>
    have:=g1 j Lj (by simpa [zoJ] using hj)
    grind
  ·have:=g2 f hf
   grind
def zvy (ms:List Nat):Nat->OpD->Nat->List OpD->Bool
 | _,_,_,[]=>true
 | i,di,j,dj::l=>(match zhS di dj with
  | true=>(ms.getD j 0).testBit i
  | false=>true)&&zvy ms i di (j+1) l
def zpk (ms:List Nat):Nat->List OpD->Bool
 | _,[]=>true
 | i,d::l=>zvy ms i d (i+1) l&&zpk ms (i+1) l
theorem zsq :∀(l:List OpD) (j:Nat),zvy ms i di j l=true->∀k dk,l[k]? =some dk->zhS di dk=true->(ms.getD (j+k) 0).testBit i=true
 | [],j,_,k,dk,hk,_=>by simp at hk
 | d::l,j,h,k,dk,hk,hc=>by
  simp only [zvy,xB] at h;cases k with
  | zero=>
   grind
  | succ k=>
   have:=zsq l (j+1) h.2 k dk (by simpa using hk) hc
   grind
theorem zpl :∀(l:List OpD) (n:Nat),zpk ms n l=true->∀i k di dk,i<k->l[i]? =some di->l[k]? =some dk->zhS di dk=true->(ms.getD (n+k) 0).testBit (n+i)=true
 | [],n,_,i,k,di,dk,_,hi,_,_=>by simp at hi
 | d::l,n,h,i,k,di,dk,hik,hi,hk,hc=>by
  simp only [zpk,xB] at h;cases k with
  | zero=>omega
  | succ k=>
   cases i with
   | zero=>
    simp at hi;subst hi;have:=zsq l (n+1) h.1 k dk (by simpa using hk) hc
    grind
   | succ i=>
    have:=zpl l (n+1) h.2 i k di dk (by omega) (by simpa using hi) (by simpa using hk) hc
    grind
def zyu (ds:List OpD) (L0:List Fact) (D:Nat->Prop) (γ:Gh) (a:Act) (w:World):Prop:=
 (∀f∈L0,(∀j d,D j->ds[j]? =some d->d.kills f=false)->f.rel γ a w)/\
 ∀i di,D i->ds[i]? =some di->∀f∈di.prod,(∀j d,D j->i<j->ds[j]? =some d->d.kills f=false)->f.rel γ a w
theorem zmk (hf:f∈di.req\/f∈di.prod) (hk:dj.kills f=true):zhS di dj=true/\zhS dj di=true:=by
 have:f∈di.req++di.prod:=by simpa using hf
 have h1:(di.req++di.prod).any dj.kills=true:=List.any_eq_true.2 ⟨f,this,hk⟩;exact ⟨by rw [zhS,h1];rfl,by rw [zhS,h1,pm]⟩
section
variable {P:Program} {ops:Array Oper} {ds:List OpD} {L0:List Fact} {D:Nat->Prop} {cx:Cx}
theorem zCH (hms:ms=zpb ops.toList []) (ho:zpk ms 0 ds=true) (hD:zme ops D) (hij:i<j) (hi:ds[i]? =some di) (hj:ds[j]? =some dj) (hc:zhS di dj=true) (hDj:D j):D i:=by
 have hb:=zpl ds 0 ho i j di dj hij hi hj hc;simp only [xR] at hb;cases hm:ms[j]? with
 | none=>simp [List.getD,hm] at hb
 | some m=>
  simp [List.getD,hm] at hb;subst hms;exact znG hD ops.toList [] (fun j=>by simp) (fun k m hk=>by simp at hk) j m hm hDj i hb
theorem zHm (hms:ms=zpb ops.toList []) (ho:zpk ms 0 ds=true) (hD:zme ops D) (hi:ds[i]? =some di) (hDi:¬D i) (hpre:∀j,j<i->(ms.getD i 0).testBit j=true->D j)
  (hfrom:∀f∈di.req,From ds L0 i f) (hprod:∀(j:Nat) (d:OpD) (f:Fact),ds[j]? =some d->f∈d.prod->d.kills f=true) (h:zyu ds L0 D γ a w):∀f∈di.req,f.rel γ a w:=by
 intro f hf;have later:∀j d,D j->ds[j]? =some d->d.kills f=true->j<i:=fun j d hDj hj hk=>by
  rcases Nat.lt_trichotomy j i with h| h| h
  ·exact h
  ·grind
  ·exact absurd (zCH hms ho hD h hi hj (zmk (.inl hf) hk).1 hDj) hDi
 rcases hfrom f hf with ⟨h0,hn⟩| ⟨p,dp,hp,hdp,hfp,hn⟩
 ·refine h.1 f h0 fun j d hDj hj=>?_
  grind
 ·have hk:=hprod p dp f hdp hfp;have hb:=zpl ds 0 ho p i dp di hp hdp hi (zmk (.inl hf) hk).2;simp only [xR] at hb;have hDp:D p:=hpre p hp hb;refine h.2 p dp hDp hdp f hfp fun j d hDj hpj hj=>?_
  grind
theorem zEm (hms:ms=zpb ops.toList []) (ho:zpk ms 0 ds=true) (hD:zme ops D) (hi:ds[i]? =some di) (hDi:¬D i) (h:zyu ds L0 D γ a w)
  (ht:Tr di.W di.V γ w γ' w') (hp:∀f∈di.prod,f.rel γ' (a.put di.dst v) w'):zyu ds L0 (fun j=>D j\/j=i) γ' (a.put di.dst v) w':=by
 refine ⟨fun f hf hk=>?_,fun p dp hDp hdp f hf hk=>?_⟩
 ·exact Fact.keep (h.1 f hf fun j d hDj hj=>hk j d (.inl hDj) hj) ht (hk i di (.inr rfl) hi) v
 ·by_cases hpi:p=i
  ·grind
  ·have hDp':D p:=hDp.resolve_right hpi;refine Fact.keep (h.2 p dp hDp' hdp f hf fun j d hDj hpj hj=>hk j d (.inl hDj) hpj hj) ht ?_ v;rcases yq p i with wP| hge
   ·grind
   ·cases hkk:di.kills f with
    | false=>rfl
    | true=>exact absurd (zCH hms ho hD (by omega) hi hdp (zmk (.inr hf) hkk).2 hDp') hDi
def zce (w6:Array Bool):Nat->Prop:=fun i=>w6.getD i false=true
theorem zky (hD:zme ops (zce w6)) (hr:i∈Region.ready .any ops w6):zme ops fun j=>zce w6 j\/j=i:=by
 intro j o hj hDj e he hb;rcases hDj with hDj| rfl
 ·exact .inl (hD j o hj hDj e he hb)
 ·obtain ⟨_,o',ho',hall⟩:=qP.1 hr;rw [hj] at ho';cases ho';exact .inl (hall e he hb)
theorem zwA (hi:i<w6.size) (j:Nat):zce (w6.setIfInBounds i true) j↔zce w6 j\/j=i:=by
 unfold zce;simp only [yE]
 grind
theorem zvS (hs:w6.size=ops.size) (hdown:∀(i:Nat) (o:Oper),ops[i]? =some o->∀e∈o.after,Region.binds .any e=true->e.on<i) (hr:Region.ready .any ops w6=[]):∀i,i<ops.size->zce w6 i:=by
 intro i
 induction i using Nat.strongRecOn with
 | _ i ih=>
  intro hi;cases hl:w6.getD i false with
  | true=>exact hl
  | false=>
   exfalso;have:i∈Region.ready .any ops w6:=by
    refine qP.2 ⟨?_,ops[i],pA hi,fun e he hb=>?_⟩
    ·grind
    ·have:=hdown i ops[i] (pA hi) e he hb;exact ih e.on this (by omega)
   grind
theorem zAa (hms:ms=zpb ops.toList []) (ho:zpk ms 0 ds=true) (wS:ds.length=ops.size) (hdoes:∀i di,ds[i]? =some di->Does P ops cx i di)
  (hfrom:∀i di,ds[i]? =some di->∀f∈di.req,From ds L0 i f) (hprod:∀(j:Nat) (d:OpD) (f:Fact),ds[j]? =some d->f∈d.prod->d.kills f=true)
  (hdown:∀(i:Nat) (o:Oper),ops[i]? =some o->∀e∈o.after,Region.binds .any e=true->e.on<i) 
  (hQ:∀γ a w,Base cx γ a w->zyu ds L0 (fun j=>j<ops.size) γ a w->Q .normal a w):
  ∀(fuel:Nat) (w6:Array Bool) (γ:Gh) (a:Act) (w:World),w6.size=ops.size->zme ops (zce w6)->(w6.toList.filter (·==false)).length<=fuel->
   Base cx γ a w->zyu ds L0 (zce w6) γ a w->anyq P ops Q fuel w6 a w:=by
 have fin:∀(w6:Array Bool) (γ:Gh) (a:Act) (w:World),w6.size=ops.size->Region.ready .any ops w6=[]->Base cx γ a w->zyu ds L0 (zce w6) γ a w->Q .normal a w:=by
  intro w6 γ a w hs hr hB hH;have hall:=zvS hs hdown hr;have wP:∀j d,ds[j]? =some d->j<ops.size:=fun j d hj=>by rw [<-wS];exact (yz.1 hj).1
  exact hQ γ a w hB ⟨fun f hf hk=>hH.1 f hf fun j d _ hj=>hk j d (wP j d hj) hj,fun i di _ hdi f hf hk=>hH.2 i di (hall i (wP i di hdi)) hdi f hf fun j d _ hij hj=>hk j d (wP j d hj) hij hj⟩
 intro fuel
 induction fuel with
 | zero=>
  intro w6 γ a w hs hD hcnt hB hH;have hr:Region.ready .any ops w6=[]:=by
   cases hre:Region.ready .any ops w6 with
   | nil=>rfl
   | cons i l=>
    exfalso;have hi:i∈Region.ready .any ops w6:=by rw [hre];exact xz
    obtain ⟨hun,o,hoi,_⟩:=qP.1 hi;have hil:i<w6.size:=by rw [hs];exact (yh.1 hoi).1
    have hm:false∈w6.toList:=by
     simp only [yE,pA hil,pf] at hun
     grind
    simp_all
  exact fun _=>⟨hr,fin w6 γ a w hs hr hB hH⟩
 | succ fuel ih=>
  intro w6 γ a w hs hD hcnt hB hH;refine fun ro=>⟨fun hr=>fin w6 γ a w hs hr hB hH,fun i hi=>?_⟩
  obtain ⟨hun,o,hoi,hall⟩:=qP.1 hi;have hilt:i<ops.size:=(yh.1 hoi).1;have hil:i<w6.size:=by omega
  have hid:i<ds.length:=by omega
  have hdi:ds[i]? =some ds[i]:=xT hid;have hnot:¬zce w6 i:=by
   unfold zce
   grind
  obtain ⟨o',ho',hdst,hdo⟩:=(hdoes i _ hdi).oper;rw [hoi] at ho';cases ho';have hreq:=zHm hms ho hD hdi hnot (fun j hj hb=>by
   have hm:=znG (zky hD hi) ops.toList [] (fun j=>by simp) (fun k m hk=>by simp at hk);cases hk:ms[i]? with
   | none=>simp [List.getD,hk] at hb
   | some m=>
    simp [List.getD,hk] at hb;subst hms;rcases hm i m hk (.inr rfl) j hb with h| h
    ·exact h
    ·omega) (hfrom i _ hdi) hprod hH
  obtain ⟨hw,hT,hF⟩:=hdo γ a w hB hreq;have next:∀(γ':Gh) (w':World) (v:Value),Tr (ds[i]).W (ds[i]).V γ w γ' w'->(∀f∈(ds[i]).prod,f.rel γ' (a.put (ds[i]).dst v) w')->anyq P ops Q fuel (w6.setIfInBounds i true) (a.put o.dst v) w':=by
   intro γ' w' v ht hp;have hcnt':((w6.setIfInBounds i true).toList.filter (·==false)).length<=fuel:=by
    have hli:w6.toList[i]? =some false:=by
     simp_all
    have key:∀(l:List Bool) (i:Nat),l[i]? =some false->((l.set i true).filter (·==false)).length+1=(l.filter (·==false)).length:=by
     intro l
     induction l with
     | nil=>intro i h;simp at h
     | cons x l ihl=>
      intro i h;cases i with
      | zero=>simp at h;subst h;simp
      | succ i=>
       grind
    grind
   rw [hdst];have hB':=(hB.tr ht (hdoes i _ hdi).okW (hdoes i _ hdi).okV).put (ds[i]).dst v (hdoes i _ hdi).kept;have hH':=zEm hms ho hD hdi hnot hH ht hp;have hset:∀j,zce (w6.setIfInBounds i true) j↔zce w6 j\/j=i:=zwA hil;have hD':zme ops (zce (w6.setIfInBounds i true)):=fun j o hj hDj e he hb=>(hset _).2 (zky hD hi j o hj ((hset j).1 hDj) e he hb)
   exact ih _ γ' _ w' (by simp [hs]) hD' hcnt' hB' ⟨fun f hf hk=>hH'.1 f hf fun j d hDj hj=>hk j d ((hset j).2 hDj) hj,fun p dp hDp hdp f hf hk=>hH'.2 p dp ((hset p).1 hDp) hdp f hf fun j d hDj hpj hj=>hk j d ((hset j).2 hDj) hpj hj⟩
  unfold wpOpIn;rw [hoi];simp only;cases hwant:(ds[i]).want with
  | true=>
   rw [xy (by rw [hw,hwant])];refine qQ (fun a w h=>h ro) (hT hwant (anyq P ops Q fuel (w6.setIfInBounds i true)) Q (fun γ' w' v ht hp=>?_) ro)
   grind
  | false=>
   rw [xx (by rw [hw,hwant];exact Bool.false_ne_true)];obtain ⟨e1,e2⟩:=(hdoes i _ hdi).none_ hwant;exact ⟨fun _ _=>trivial,next γ w undef (by rw [e1,e2];exact Tr.refl _ _ _ _) (hF hwant) ro⟩
end
def rsOf:List (Nat×AV)->List Fact
 | []=>[]
 | (k,.own _ _ ℓ _ xs)::l=> .rs k ℓ xs.length::rsOf l
 | (k,@AV.mo _ _ _ _ _ _ ℓ _ _)::l=> .ms k ℓ::rsOf l
 | _::l=>rsOf l
def zpU (E:Env):List Fact:=E.sl.map (fun p=>Fact.sl p.1 p.2)++E.bx.map Fact.bx++rsOf E.sl
theorem zqn:∀{l:List (Nat×AV)} {f:Fact},f∈rsOf l->(∃k ℓ n,f= .rs k ℓ n)\/∃k ℓ,f= .ms k ℓ
 | [],f,h=>by cases h
 | (k,x)::l,f,h=>by
  cases x with
  | own r e ℓ C xs=>
   simp only [rsOf,xC] at h;rcases h with rfl| h
   ·grind
   ·exact zqn h
  | mo rk r e ℓ C m=>
   simp only [rsOf,xC] at h;rcases h with rfl| h
   ·grind
   ·exact zqn h
  | _=>exact zqn (l:=l) h
theorem zCZ :∀{l:List (Nat×AV)},Sl γ w a l->∀f∈rsOf l,f.rel γ a w
 | [],_,f,hf=>by cases hf
 | (k,x)::l,h,f,hf=>by
  have hx:x.rel γ w (a.tmps.getD k undef):=h (k,x) xz;have ht:=fun f hf=>zCZ (l:=l) (fun p hp=>h p (xA _ hp)) f hf
  cases x with
  | own r e ℓ C xs=>
   simp only [rsOf,xC] at hf;rcases hf with rfl| hf
   ·intro hn;obtain ⟨cs,ho,hg,_⟩:=hx;rcases ho.2 with ⟨_,h0⟩| ⟨g,wX,ka,hv,_⟩
    ·omega
    ·exact ⟨wX,by rw [hv,(hg g (by rw [hv];rfl)).2]⟩
   ·exact ht f hf
  | mo rk r e ℓ C m=>
   simp only [rsOf,xC] at hf;rcases hf with rfl| hf
   ·obtain ⟨b,n,O,hv,es,cl,⟨g1,g2⟩,_⟩:=hx;show _=_
    grind
   ·exact ht f hf
  | _=>exact ht f hf
def zfc:List Fact->Env
 | []=>⟨[],[]⟩
 | .sl k a::l=>⟨(k,a)::(zfc l).sl,(zfc l).bx⟩
 | .bx b::l=>⟨(zfc l).sl,b::(zfc l).bx⟩
 | .rs _ _ _::l=>zfc l
 | .ms _ _::l=>zfc l
 | @Fact.lk _ _ _ _ _ _ _ _ _ _ _::l=>zfc l
 | @Fact.ap _ _ _ _ _ _ _ _ _ _ _ _::l=>zfc l
theorem zkH :(∀p∈(zfc L).sl,Fact.sl p.1 p.2∈L)/\∀b∈(zfc L).bx,Fact.bx b∈L:=by
 induction L with
 | nil=>
  refine ⟨?_,?_⟩
  ·intro p hp;cases hp
  ·intro b hb;cases hb
 | cons f L ih=>
  cases f with
  | sl k a=>
   refine ⟨fun p hp=>?_,fun b hb=>xA _ (ih.2 b hb)⟩;cases hp with
   | head=>exact xz
   | tail _ hp=>exact xA _ (ih.1 p hp)
  | bx b=>
   refine ⟨fun p hp=>xA _ (ih.1 p hp),fun c hc=>?_⟩;cases hc with
   | head=>exact xz
   | tail _ hc=>exact xA _ (ih.2 c hc)
  | rs k ℓ n=>exact ⟨fun p hp=>xA _ (ih.1 p hp),fun b hb=>xA _ (ih.2 b hb)⟩
  | ms k ℓ=>exact ⟨fun p hp=>xA _ (ih.1 p hp),fun b hb=>xA _ (ih.2 b hb)⟩
  | lk=>exact ⟨fun p hp=>xA _ (ih.1 p hp),fun b hb=>xA _ (ih.2 b hb)⟩
  | ap=>exact ⟨fun p hp=>xA _ (ih.1 p hp),fun b hb=>xA _ (ih.2 b hb)⟩
inductive zkk where
 | ev
 | ex (bl:List Nat) (W V:List Nat) (av:AV) (bs:List Bx)
 | raw (ix W V:List Nat) (prod:List Fact)
structure DIn where
 ins:List (Operand×AV)
 bxs:List Bx
 rq:List Fact
def nthF:List Fact->Nat->Option Fact
 | [],_=>none
 | f::_,0=>some f
 | _::l,n+1=>nthF l n
theorem zCG:∀{l:List Fact} {n:Nat} {f:Fact},nthF l n=some f->f∈l
 | [],_,_,h=>by cases h
 | _::_,0,_,h=>by cases h;exact xz
 | _::l,n+1,f,h=>xA _ (zCG (l:=l) (n:=n) h)
def zGn (L:List Fact):List Nat->Option (List Fact)
 | []=>some []
 | n::l=>match nthF L n,zGn L l with
  | some f,some r=>some (f::r)
  | _,_=>none
theorem zzi :∀{ix:List Nat} {r:List Fact},zGn L ix=some r->∀f∈r,f∈L
 | [],r,h,f,hf=>by cases h;cases hf
 | n::ix,r,h,f,hf=>by
  rw [zGn] at h;split at h
  ·rename_i x r' hx hr;cases h;cases hf with
   | head=>exact zCG hx
   | tail _ hf=>exact zzi hr f hf
  ·cases h
def zoC (P:Program) (o:Oper) (rq:List Fact) (W V:List Nat) (prod:List Fact):Prop:=
 ∀(γ:Gh) (a:Act) (w:World),(∀k,o.dst=some k->k<a.tmps.size)->(∀f∈rq,f.rel γ a w)->∀(next:Act->World->Prop) (Q:Exit->Act->World->Prop),
  (∀γ' w' v,Tr W V γ w γ' w'->(∀f∈prod,f.rel γ' (a.put o.dst v) w')->next (a.put o.dst v) w')->opq P o a w next Q
def ziA:List (Operand×AV)->List Fact
 | []=>[]
 | (.tmp k,a)::l=> .sl k a::ziA l
 | _::l=>ziA l
def slOf (d:Option Nat) (a:AV):List Fact:=match d with
 | some k=>[.sl k a]
 | none=>[]
def zjK (ops:Array Oper) (E:Env) (o:Oper):List Fact:=match o.guard with
 | none=>[]
 | some (j,_)=>match ops.toList[j]? with
  | some g=>match g.dst with
   | some t=>match lookup E.sl t with
    | some a=>[.sl t a]
    | none=>[]
   | none=>[]
  | none=>[]
def zlk (E:Env):List Operand->List (Operand×AV)
 | []=>[]
 | x::l=>match E.opd x with
  | some a=>(x,a)::zlk E l
  | none=>zlk E l
def zrI (E:Env):Op->List Bx
 | .load _ x=>match E.opd x with
  | some (.ptr ℓ _)=>match zfT E.bx ℓ with
   | some b=>[b]
   | none=>[]
  | _=>[]
 | _=>[]
def zzj (P:Program) (ops:Array Oper) (L:List Fact) (o:Oper) (s:zkk):Option (OpD×List DIn):=match zfv ops (zfc L) o with
 | some true=>match s with
  | .ev=>match ztp P (zfc L).opd (zrI (zfc L) o.op) o.op with
   | some av=>some (⟨true,zjK ops (zfc L) o++(ziA (zlk (zfc L) o.op.operands.toList)++(zrI (zfc L) o.op).map .bx),[],[],o.dst,slOf o.dst av⟩,[])
   | none=>none
  | .ex bl W V av bs=>match zpp (zfc L).bx bl with
   | some bxs=>some (⟨true,zjK ops (zfc L) o++(ziA (zlk (zfc L) o.op.operands.toList)++bxs.map .bx),W,V,o.dst,slOf o.dst av++bs.map .bx⟩,[⟨zlk (zfc L) o.op.operands.toList,bxs,[]⟩])
   | none=>none
  | .raw ix W V prod=>match zGn L ix with
   | some rq=>some (⟨true,zjK ops (zfc L) o++rq,W,V,o.dst,prod⟩,[⟨[],[],rq⟩])
   | none=>none
 | some false=>match s with
  | .ev=>some (⟨false,zjK ops (zfc L) o,[],[],o.dst,slOf o.dst (.tup [])⟩,[])
  | .ex ..=>none
  | .raw ..=>none
 | none=>none
def zvi (P:Program) (N:Lim) (ops:Array Oper):List Oper->List zkk->List Fact->Option (List OpD×List Fact×List DIn)
 | [],_,L=>some ([],L,[])
 | o::l,ss,L=>match zzj P ops L o (ss.headD .ev) with
  | some (d,i)=>match ziT N o.dst&&(okW d.W&&okW d.V)&&d.prod.all d.kills with
   | true=>match zvi P N ops l ss.tail (zwI d L) with
    | some (ds,L',is)=>some (d::ds,L',i++is)
    | none=>none
   | false=>none
  | none=>none
def zFA:Nat->List Oper->Bool
 | _,[]=>true
 | i,o::l=>(o.after.toList.all fun e=> !Region.binds .any e|| Nat.blt e.on i)&&zFA (i+1) l
def zvh (P:Program) (N:Lim) (ops:List Oper) (ss:List zkk) (E:Env) (ks bs:List Nat):Option (Env×List DIn):=
 match zvi P N ops.toArray ops ss (zpU E) with
 | some (ds,L,is)=>match zpk (zpb ops []) 0 ds&&zFA 0 ops with
  | true=>match (zfc L).pick ks bs with
   | some E'=>some (E',is)
   | none=>none
  | false=>none
 | none=>none
def zbX (P:Program):List Oper->List zkk->List DIn->Prop
 | _::l,.ev::ss,is=>zbX P l ss is
 | o::l,.ex _ W V av bs::ss,i::is=>(zB P o i.ins i.bxs W V av bs/\zbX P l ss is)
 | o::l,.raw _ W V prod::ss,i::is=>(zoC P o i.rq W V prod/\zbX P l ss is)
 | _,[],_=>True
 | _,_,[]=>True
 | [],_,_=>True
theorem zql :∀(l:List Operand),(∀f∈ziA (zlk E l),f.rel γ a w)->(∀p∈zlk E l,p.2.rel γ w (a.eval p.1))/\Opds E.opd γ w a.eval l
 | [],_=>⟨fun p hp=>by simp [zlk] at hp,fun x hx=>by cases hx⟩
 | x::l,h=>by
  rw [zlk] at h|-;cases hx:E.opd x with
  | none=>
   rw [hx] at h;obtain ⟨h1,h2⟩:=zql l h;refine ⟨h1,fun y hy av hav=>?_⟩;cases hy with
   | head=>rw [hx] at hav;cases hav
   | tail _ hy=>exact h2 y hy av hav
  | some av=>
   rw [hx] at h;simp only at h;have hhd:av.rel γ w (a.eval x):=by
    cases x with
    | tmp k=>exact h (.sl k av) (by simp [ziA])
    | const v=>exact zlR hx γ w
    | global g=>cases hx
    | func f=>cases hx;exact ⟨rfl,.val _ rfl⟩
   obtain ⟨h1,h2⟩:=zql (γ:=γ) (a:=a) (w:=w) (E:=E) l (fun f hf=>h f (by cases x<;>simp [ziA,hf]));refine ⟨fun p hp=>?_,fun y hy av' hav=>?_⟩
   ·grind
   ·cases hy with
    | head=>rw [hx] at hav;cases hav;exact hhd
    | tail _ hy=>exact h2 y hy av' hav
theorem zjx (h:zfv ops E o=some b) (hs:∀f∈zjK ops E o,f.rel γ a w):Region.wanted o (yielded ops a.tmps)=b:=by
 have h0:=h;unfold zfv at h;unfold zjK at hs;split at h
 ·rename_i hg;cases h;unfold Region.wanted;rw [hg]
 ·rename_i j want hg;rw [hg] at hs;simp only at hs;split at h
  ·rename_i g hj;rw [hj] at hs;simp only at hs;split at h
   ·rename_i t ht;rw [ht] at hs;simp only at hs;cases hl:lookup E.sl t with
    | none=>rw [hl] at h;cases want<;>cases h
    | some av=>
     rw [hl] at hs;have hav:av.rel γ w (a.tmps.getD t undef):=hs (.sl t av) xz;have h1:zfv ops ⟨[(t,av)],[]⟩ o=some b:=by
      unfold zfv;rw [hg];simp only;rw [hj];simp only;rw [ht];simp only;have:lookup [(t,av)] t=some av:=by simp [lookup]
      grind
     exact zfU (γ:=γ) (w:=w) h1 (fun p hp=>by simp at hp;subst hp;exact hav)
   ·cases h
  ·cases h
theorem zxs (hB:Base cx γ a w) (hd:ziT cx.n d=true) (hv:av.rel γ' w' v):∀f∈slOf d av,f.rel γ' (a.put d v) w':=by
 intro f hf;cases d with
 | none=>cases hf
 | some k=>
  simp only [slOf,xC,xN,xO] at hf;subst hf;show av.rel γ' w' ((a.put (some k) v).tmps.getD k undef);rw [zcw (by rw [hB.size];exact zgJ hd k rfl)];exact hv
theorem zji :∀(l:List Operand),f∈ziA (zlk (zfc L) l)->f∈L
 | [],h=>by cases h
 | x::l,h=>by
  rw [zlk] at h;cases hx:(zfc L).opd x with
  | none=>rw [hx] at h;exact zji l h
  | some av=>
   rw [hx] at h;cases x with
   | tmp k=>
    simp only [ziA,xC] at h;rcases h with rfl| h
    ·exact zkH.1 (k,av) (zcD hx)
    ·exact zji l h
   | const v=>exact zji l h
   | global g=>exact zji l h
   | func g=>exact zji l h
theorem zkA (h:f∈zjK ops (zfc L) o):f∈L:=by
 unfold zjK at h;split at h
 ·cases h
 ·split at h
  ·split at h
   ·split at h
    ·rename_i hl;simp only [xC,xN,xO] at h;subst h;exact zkH.1 (_,_) (zcD hl)
    ·cases h
   ·cases h
  ·cases h
theorem zHa (h:b∈zrI (zfc L) op):Fact.bx b∈L:=by
 unfold zrI at h;split at h
 ·split at h
  ·split at h
   ·rename_i b' hb;simp only [xC,xN,xO] at h;subst h;exact zkH.2 _ (zdq hb).1
   ·cases h
  ·cases h
 ·cases h
theorem zEL (h:zzj P ops L o s=some (d,i)) (hn:ops[n]? =some o) (hd:ziT cx.n o.dst=true)
  (hl:∀bl W V av bs,s= .ex bl W V av bs->∀x,i=[x]->zB P o x.ins x.bxs W V av bs) (hl2:∀ix W V prod,s= .raw ix W V prod->∀x,i=[x]->zoC P o x.rq W V prod) (hW:okW d.W=true) (hV:okW d.V=true):Does P ops cx n d/\∀f∈d.req,f∈L:=by
 unfold zzj at h;split at h
 ·rename_i hg;split at h
  ·split at h
   ·rename_i av he;cases h;refine ⟨⟨⟨o,hn,rfl,fun γ a w hB hreq=>⟨zjx hg fun f hf=>hreq f (ym _ hf),fun _ next Q hk=>?_,fun h=>by cases h⟩⟩,hW,hV,zeJ hd,fun h=>by cases h⟩,fun f hf=>?_⟩
    ·obtain ⟨h1,h2⟩:=zql (γ:=γ) (a:=a) (w:=w) (E:=zfc L) o.op.operands.toList fun f hf=>hreq f (yf _ (ym _ hf))
     obtain ⟨v,hr,hv⟩:=zrj he h2 (fun b hb=>hreq (.bx b) (yf _ (yf _ (qe hb))));refine zhV hr ?_;exact hk γ w v (Tr.refl _ _ _ _) (zxs hB hd hv)
    ·simp only [xG] at hf;rcases hf with hf| hf| hf
     ·exact zkA hf
     ·exact zji _ hf
     ·obtain ⟨b,hb,rfl⟩:=xF.1 hf;exact zHa hb
   ·cases h
  ·rename_i bl W V av bs;split at h
   ·rename_i bxs hbx;cases h;have hlaw:=hl bl W V av bs rfl _ rfl;refine ⟨⟨⟨o,hn,rfl,fun γ a w hB hreq=>⟨zjx hg fun f hf=>hreq f (ym _ hf),fun _ next Q hk=>?_,fun h=>by cases h⟩⟩,hW,hV,zeJ hd,fun h=>by cases h⟩,fun f hf=>?_⟩
    ·obtain ⟨h1,h2⟩:=zql (γ:=γ) (a:=a) (w:=w) (E:=zfc L) o.op.operands.toList fun f hf=>hreq f (yf _ (ym _ hf))
     have hbb:Bxs γ w bxs:=fun b hb=>hreq (.bx b) (yf _ (yf _ (qe hb)))
     refine zpi (zvu (P:=P) (a:=a) (w:=w) fun nx Qx hn=>hlaw γ a w h1 hbb nx Qx fun _ w' v _ _ _=>hn v w') (hlaw γ a w h1 hbb next Q fun γ' w' v ht hv hbs=>hk γ' w' v ht fun f hf=>?_);simp only [xG] at hf;rcases hf with hf| hf
     ·exact zxs hB hd hv f hf
     ·obtain ⟨b,hb,rfl⟩:=xF.1 hf;exact hbs b hb
    ·simp only [xG] at hf;rcases hf with hf| hf| hf
     ·exact zkA hf
     ·exact zji _ hf
     ·obtain ⟨b,hb,rfl⟩:=xF.1 hf;exact zkH.2 _ (znN _ _ hbx b hb)
   ·cases h
  ·rename_i ix W V prod;split at h
   ·rename_i rq hrq;cases h;have hlaw:=hl2 ix W V prod rfl _ rfl;refine ⟨⟨⟨o,hn,rfl,fun γ a w hB hreq=>⟨zjx hg fun f hf=>hreq f (ym _ hf),fun _ next Q hk=>?_,fun h=>by cases h⟩⟩,hW,hV,zeJ hd,fun h=>by cases h⟩,fun f hf=>?_⟩
    ·exact hlaw γ a w (fun k hk=>by rw [hB.size];exact zgJ hd k hk) (fun f hf=>hreq f (yf _ hf)) next Q hk
    ·rcases xG.1 hf with hf| hf
     ·exact zkA hf
     ·exact zzi hrq f hf
   ·cases h
 ·rename_i hg;split at h
  ·cases h;refine ⟨⟨⟨o,hn,rfl,fun γ a w hB hreq=>⟨zjx hg hreq,fun h=>(by cases h),fun _=>zxs hB hd ⟨[],rfl,rfl⟩⟩⟩,hW,hV,zeJ hd,fun _=>⟨rfl,rfl⟩⟩,fun f hf=>zkA hf⟩
  ·cases h
  ·cases h
 ·cases h
theorem zrL :∀(l:List Oper) (ss:List zkk) (L:List Fact) (n:Nat) (ds:List OpD) (L':List Fact) (is:List DIn),zvi P cx.n ops l ss L=some (ds,L',is)->
  (∀j,l[j]? =ops[n+j]?)->zbX P l ss is->
  ds.length=l.length/\L'=endF ds L/\∀k d,ds[k]? =some d->Does P ops cx (n+k) d/\(∀f∈d.prod,d.kills f=true)/\∃Lk,(zoJ ds L)[k]? =some Lk/\∀f∈d.req,f∈Lk
 | [],ss,L,n,ds,L',is,h,_,_=>by
  cases h;exact ⟨rfl,rfl,fun k d hk=>by simp at hk⟩
 | o::l,ss,L,n,ds,L',is,h,hl,hlaw=>by
  have hn:ops[n]? =some o:=by have:=hl 0;simpa using this.symm
  rw [zvi] at h;split at h
  ·rename_i d i hd;split at h
   ·rename_i hc;simp only [xB] at hc;obtain ⟨⟨hc1,hc2⟩,hc3⟩:=hc;split at h
    ·rename_i ds' L2 is' hr;cases h;have hsplit:(∀bl W V av bs,ss.headD .ev= .ex bl W V av bs->∀x,i=[x]->zB P o x.ins x.bxs W V av bs)/\(∀ix W V prod,ss.headD .ev= .raw ix W V prod->∀x,i=[x]->zoC P o x.rq W V prod)/\zbX P l ss.tail is':=by
      cases ss with
      | nil=>
       refine ⟨fun bl W V av bs he=>by simp at he,fun ix W V prod he=>by simp at he,?_⟩;cases l<;>cases is'<;>trivial
      | cons s ss=>
       cases s with
       | ev=>
        have hi:i=[]:=by
         simp only [pn,zzj] at hd
         grind
        subst hi;refine ⟨fun bl W V av bs he=>by simp at he,fun ix W V prod he=>by simp at he,?_⟩;simpa [zbX] using hlaw
       | ex bl W V av bs=>
        simp only [pn,zzj] at hd;split at hd
        ·split at hd
         ·cases hd;simp only [yo,xL,zbX] at hlaw
          grind
         ·cases hd
        ·cases hd
        ·cases hd
       | raw ix W V prod=>
        simp only [pn,zzj] at hd;split at hd
        ·split at hd
         ·cases hd;simp only [yo,xL,zbX] at hlaw
          grind
         ·cases hd
        ·cases hd
        ·cases hd
     obtain ⟨g1,g2,g3⟩:=zrL l ss.tail (zwI d L) (n+1) ds' L' is' hr (fun j=>by have:=hl (j+1);simp at this;rw [this];congr 1;omega) hsplit.2.2;obtain ⟨e1,e2⟩:=zEL hd hn hc1 hsplit.1 hsplit.2.1 hc2.1 hc2.2;refine ⟨by simp [g1],g2,fun k d' hk=>?_⟩;cases k with
     | zero=>
      simp at hk;subst hk;exact ⟨e1,fun f hf=>by simp only [xI] at hc3;exact hc3 f hf,L,by simp [zoJ],e2⟩
     | succ k=>
      have:=g3 k d' (by simpa using hk);rw [show n+(k+1)=n+1+k by omega];exact ⟨this.1,this.2.1,by simpa [zoJ] using this.2.2⟩
    ·cases h
   ·cases h
  ·cases h
theorem zwe:∀(l:List Oper) (n:Nat),zFA n l=true->∀k o,l[k]? =some o->∀e∈o.after,Region.binds .any e=true->e.on<n+k
 | [],n,_,k,o,hk=>by simp at hk
 | x::l,n,h,k,o,hk=>by
  simp only [zFA,xB,xI] at h;cases k with
  | zero=>
   simp at hk;subst hk;intro e he hb;have:=h.1 e (by simpa using he);simp_all
  | succ k=>
   have:=zwe l (n+1) h.2 k o (by simpa using hk)
   grind
theorem zqa {m:Bool} {P:Program} {cx:Cx} {E:Env} {id:Nat} {ops:List Oper} {l:List It} {Q:Exit->Act->World->Prop} (E':Env) (ss:List zkk) (is:List DIn) (ks bs:List Nat)
  (hm:P.follows .mixedOrders=true) (h:zvh P cx.n ops ss E ks bs=some (E',is)) (hl:zbX P ops ss is) (k:JI m P l (Sx cx E') Q):JI m P (.c (.region id ops.toArray true)::l) (Sx cx E) Q:=by
 intro a w hs;rw [zpP];obtain ⟨γ,hB,hS,hX⟩:=hs;unfold zvh at h;split at h
 ·rename_i ds L is' w7;split at h
  ·rename_i hc;split at h
   ·rename_i E2 hp;cases h;simp only [xB] at hc;obtain ⟨g1,g2,g3⟩:=zrL ops ss (zpU E) 0 ds L is w7 (fun j=>by simp) hl;have hfc:=zwp (ds0:=ds) (L0:=zpU E) ds 0 (zpU E) (fun j=>by simp) (fun f hf=> .inl ⟨hf,fun j d hj=>by omega⟩)
    refine zqY hm (zAa (cx:=cx) (L0:=zpU E) rfl (by simpa using hc.1) (by simpa using g1) (fun i di hi=>by have:=(g3 i di hi).1;rwa [xR] at this) (fun i di hi f hf=>?_) (fun j d f hj hf=>(g3 j d hj).2.1 f hf)
     (fun i o ho e he hb=>by have:=zwe ops 0 hc.2 i o (by simpa using ho) e he hb;omega) (fun γ' a' w' hB' hH=>?_) _ _ γ a {w with drawn:=w.drawn+1} (by simp) (fun j o hj hD=>?_) ?_ ?_ ?_)
    ·grind
    ·-- what the walk's end knows
     have hend:∀f∈L,f.rel γ' a' w':=fun f hf=>by
      rw [g2] at hf;rcases hfc.2 f hf with ⟨h0,hn⟩| ⟨p,dp,hp',hdp,hfp,hn⟩
      ·exact hH.1 f h0 fun j d hj hjd=>hn j d (by simp only [qa] at hj;omega) hjd
      ·exact hH.2 p dp (by simp only [qa];omega) hdp f hfp fun j d hj hpj hjd=>hn j d hpj (by simp only [qa] at hj;omega) hjd
     refine k a' w' (Sx.pick hp ⟨γ',hB',fun p hp'=>?_,fun b hb=>?_⟩)
     ·exact hend _ (zkH.1 p hp')
     ·exact hend _ (zkH.2 b hb)
    ·unfold zce at hD;simp only [yE] at hD
     grind
    ·grind
    ·exact ⟨hB.defers,hB.clean,hB.size,hB.kept,cx.X.tr hB.ext (⟨rfl,rfl,rfl,xE _,fun _ _ _=>rfl,fun _ _=>rfl,fun _ _=>rfl,fun b h1 h2=>absurd h2 (yT.2 h1)⟩:Tr [] [] γ w γ w.drew) (fun c hc=>by cases hc) (fun c hc=>by cases hc)⟩
    ·refine ⟨fun f hf _=>?_,fun i di hD=>?_⟩
     ·simp only [zpU,xG,xF] at hf;rcases hf with (⟨p,hp',rfl⟩| ⟨b,hb,rfl⟩)| hf
      ·have ht:Tr [] [] γ w γ w.drew:=⟨rfl,rfl,rfl,xE _,fun _ _ _=>rfl,fun _ _=>rfl,fun _ _=>rfl,fun b h1 h2=>absurd h2 (yT.2 h1)⟩;exact p.2.keep ht (fun c _ h=>by cases h) (fun c _ h=>by cases h) (hS p hp')
      ·have ht:Tr [] [] γ w γ w.drew:=⟨rfl,rfl,rfl,xE _,fun _ _ _=>rfl,fun _ _=>rfl,fun _ _=>rfl,fun b h1 h2=>absurd h2 (yT.2 h1)⟩;obtain ⟨kh,cs,hh,hL,hone⟩:=hX b hb;refine ⟨kh,cs,hh,zzu hL ht ?_,hone⟩;simp only [xI];intro x _;simp [AV.free,memN]
      ·have hf0:=zCZ hS f hf;rcases zqn hf with ⟨k,ℓ,n,rfl⟩| ⟨k,ℓ,rfl⟩<;>exact hf0
     ·exfalso;unfold zce at hD;simp only [yE] at hD
      grind
   ·cases h
  ·cases h
 ·cases h
theorem zB.cons (p:Operand×AV) (h:zB P o ins bxs W V av bs):zB P o (p::ins) bxs W V av bs:=
 fun γ a w hi hb=>h γ a w (fun q hq=>hi q (xA _ hq)) hb
def renN (x o c:Nat):Nat:=match Nat.beq c x with
 | true=>o
 | false=>c
theorem zfA (x o:Nat):renN x o x=o:=by simp [renN]
theorem zfZ (h:c≠x):renN x o c=c:=by
 unfold renN;cases hb:Nat.beq c x with
 | true=>exact absurd (xJ hb) h
 | false=>rfl
def zko (γ:Gh) (x o:Nat):Gh:=⟨fun b=>renN x o (γ.col b),fun k=>match Nat.beq k o with
 | true=>γ.box x
 | false=>γ.box k⟩
theorem zew (γ:Gh) (x o:Nat):(zko γ x o).box o=γ.box x:=by simp [zko]
theorem zdb (γ:Gh) (h:k≠o):(zko γ x o).box k=γ.box k:=by
 show (match Nat.beq k o with
 | true=>γ.box x
 | false=>γ.box k)=_
 cases hb:Nat.beq k o with
 | true=>exact absurd (xJ hb) h
 | false=>rfl
mutual
def AV.ren (x o:Nat):AV->AV
 | .any=> .any
 | .lf l=> .lf l
 | .sl r C xs=> .sl r (C.map (renN x o)) xs
 | .own r e ℓ C xs=>match Nat.beq ℓ x,Nat.beq ℓ o with
  | true,_=>match memN o (C.map (renN x o)) with
   | true=> .any
   | false=> .own r e o (C.map (renN x o)) xs
  | false,true=> .any
  | false,false=> .own r e ℓ (C.map (renN x o)) xs
 | .rc r C y=> .rc r (C.map (renN x o)) y
 | .ep r C y off=> .ep r (C.map (renN x o)) y off
 | .ptr ℓ off=>match Nat.beq ℓ x,Nat.beq ℓ o with
  | true,_=> .ptr o off
  | false,true=> .any
  | false,false=> .ptr ℓ off
 | .bs ℓ n=>match Nat.beq ℓ x,Nat.beq ℓ o with
  | true,_=> .bs o n
  | false,true=> .any
  | false,false=> .bs ℓ n
 | .tl ℓ off n=>match Nat.beq ℓ x,Nat.beq ℓ o with
  | true,_=> .tl o off n
  | false,true=> .any
  | false,false=> .tl ℓ off n
 | .qp r C y=> .qp r (C.map (renN x o)) y
 | .em rk rv C m=> .em rk rv (C.map (renN x o)) m
 | .mp rk rv C m=> .mp rk rv (C.map (renN x o)) m
 | .om rk rv ℓ C m=>match Nat.beq ℓ x,Nat.beq ℓ o with
  | true,_=>match memN o (C.map (renN x o)) with
   | true=> .any
   | false=> .om rk rv o (C.map (renN x o)) m
  | false,true=> .any
  | false,false=> .om rk rv ℓ (C.map (renN x o)) m
 | @AV.mo _ _ _ rk r e ℓ C m=>match Nat.beq ℓ x,Nat.beq ℓ o with
  | true,_=>match memN o (C.map (renN x o)) with
   | true=> .any
   | false=> .mo rk r e o (C.map (renN x o)) m
  | false,true=> .any
  | false,false=> .mo rk r e ℓ (C.map (renN x o)) m
 | .cu c ℓ C1 C2=>match Nat.beq ℓ x,Nat.beq ℓ o with
  | true,_=> .cu c o (C1.map (renN x o)) (C2.map (renN x o))
  | false,true=> .any
  | false,false=> .cu c ℓ (C1.map (renN x o)) (C2.map (renN x o))
 | .tup l=> .tup (AV.renL x o l)
 | .ag l=> .ag (AV.renL x o l)
 | .fv g l=> .fv g (AV.renL x o l)
 | .bp r t ℓ C y=>match Nat.beq ℓ x,Nat.beq ℓ o with
  | true,_=> .bp r t o (C.map (renN x o)) y
  | false,true=> .any
  | false,false=> .bp r t ℓ (C.map (renN x o)) y
 | .it rk rv ℓ C last left=>match Nat.beq ℓ x,Nat.beq ℓ o with
  | true,_=> .any
  | false,true=> .any
  | false,false=> .it rk rv ℓ (C.map (renN x o)) last left
def AV.renL (x o:Nat):List AV->List AV
 | []=>[]
 | a::l=>a.ren x o::AV.renL x o l
end
theorem zda (h:γ.F C b):(zko γ x o).F (C.map (renN x o)) b:=qe (f:=renN x o) h
mutual
theorem AV.ren_rel (a:AV) (h:a.rel γ w v):(a.ren x o).rel (zko γ x o) w v:=by
 match a with
 | .any=>trivial
 | .lf l=>exact h
 | .sl r C xs=>exact zaO.mono h fun b _ hb=>zda hb
 | .rc r C y=>obtain ⟨cs,hv,hA⟩:=h;exact ⟨cs,hv,hA.mono fun b _ hb=>zda hb⟩
 | .ep r C y off=>obtain ⟨b,o',cs,hv,hF,hb,hA,hc⟩:=h;exact ⟨b,o',cs,hv,zda hF,hb,hA.mono fun b _ hb=>zda hb,hc⟩
 | .qp r C none=>exact h
 | .em rk rv C m=>obtain ⟨a,b,es,cl,hv,hFa,ha,hc1,hF,hb,hh,hE⟩:=h;exact ⟨a,b,es,cl,hv,zda hFa,ha,hc1,zda hF,hb,hh,hE.mono fun b _ hb=>zda hb⟩
 | .qp r C (some y)=>obtain ⟨b,cs,hv,hF,hb,hA,hc⟩:=h;exact ⟨b,cs,hv,zda hF,hb,hA.mono fun b _ hb=>zda hb,hc⟩
 | @AV.mo _ _ _ rk r e ℓ C m=>
  obtain ⟨b,n,O,hv,hm⟩:=h;rw [AV.ren];cases h1:Nat.beq ℓ x with
  | true=>
   have:=xJ h1;subst this;cases hmm:memN o (C.map (renN ℓ o)) with
   | true=>trivial
   | false=>exact ⟨b,n,O,hv,hm.regh (fun b _ hc=>by show renN ℓ o (γ.col b)=o;rw [hc,zfA]) (fun b _ hb=>zda hb) (zew γ _ _) fun hc=>by rw [zar.2 hc] at hmm;cases hmm⟩
  | false=>
   have hx:ℓ≠x:=fun e=>by rw [e] at h1;simp at h1
   cases h2:Nat.beq ℓ o with
   | true=>trivial
   | false=>
    have hlo:ℓ≠o:=fun e=>by rw [e] at h2;simp at h2
    refine ⟨b,n,O,hv,hm.regh (fun b _ hc=>by show renN x o (γ.col b)=ℓ;rw [hc,zfZ hx]) (fun b _ hb=>zda hb) (zdb γ hlo) fun hc=>?_⟩;obtain ⟨c,hc,he⟩:=xF.1 hc;by_cases hcx:c=x
    ·rw [hcx,zfA] at he;exact hlo he.symm
    ·rw [zfZ hcx] at he;rw [he] at hc;exact hm.off hc
 | .cu c ℓ C1 C2=>
  rw [AV.ren];cases h1:Nat.beq ℓ x with
  | true=>
   have:=xJ h1;subst this;exact c.move (xE _) (fun _ _ _=>rfl) (fun b _ hc=>by show renN ℓ o (γ.col b)=o;rw [hc,zfA]) (fun b _ hb=>zda hb) (fun b _ hb=>zda hb) (zew γ _ _) h
  | false=>
   have hx:ℓ≠x:=fun e=>by rw [e] at h1;simp at h1
   cases h2:Nat.beq ℓ o with
   | true=>trivial
   | false=>
    have hlo:ℓ≠o:=fun e=>by rw [e] at h2;simp at h2
    exact c.move (xE _) (fun _ _ _=>rfl) (fun b _ hc=>by show renN x o (γ.col b)=ℓ;rw [hc,zfZ hx]) (fun b _ hb=>zda hb) (fun b _ hb=>zda hb) (zdb γ hlo) h
 | .tup l=>obtain ⟨vs,hv,hL⟩:=h;exact ⟨vs,hv,AV.renL_rel l hL⟩
 | .ag l=>obtain ⟨vs,hv,hL,h1⟩:=h;exact ⟨vs,hv,AV.renL_rel l hL,h1⟩
 | .fv g l=>obtain ⟨vs,hv,hL⟩:=h;exact ⟨vs,hv,AV.renL_rel l hL⟩
 | .bp r t ℓ C y=>
  obtain ⟨b,cs,hv,⟨g1,g2⟩,hb,hh,h1c,hA⟩:=h;have hA':zai ((zko γ x o).F (C.map (renN x o))) w (r.lv y) cs.toList:=hA.mono fun b _ hb=>zda hb
  rw [AV.ren];cases h1:Nat.beq ℓ x with
  | true=>
   have:=xJ h1;subst this;refine ⟨b,cs,hv,⟨?_,?_⟩,hb,hh,h1c,hA'⟩
   ·show renN ℓ o (γ.col b)=o;rw [g1,zfA]
   ·rw [zew];exact g2
  | false=>
   have hx:ℓ≠x:=fun e=>by rw [e] at h1;simp at h1
   cases h2:Nat.beq ℓ o with
   | true=>trivial
   | false=>
    have hlo:ℓ≠o:=fun e=>by rw [e] at h2;simp at h2
    refine ⟨b,cs,hv,⟨?_,?_⟩,hb,hh,h1c,hA'⟩
    ·show renN x o (γ.col b)=ℓ;rw [g1,zfZ hx]
    ·rw [zdb γ hlo];exact g2
 | .it rk rv ℓ C last left=>
  obtain ⟨r,b,hv,⟨g1,g2⟩,hr',hF,wP,⟨es,cl,seen,since,c0,ls,la,i1,i2,i3,i4,i5,i6,i7,i8,i9,i10⟩,hn⟩:=h;rw [AV.ren];cases h1:Nat.beq ℓ x with
  | true=>trivial
  | false=>
   have hx:ℓ≠x:=fun e=>by rw [e] at h1;simp at h1
   cases h2:Nat.beq ℓ o with
   | true=>trivial
   | false=>
    have hlo:ℓ≠o:=fun e=>by rw [e] at h2;simp at h2
    refine ⟨r,b,hv,⟨?_,?_⟩,hr',zda hF,wP,⟨es,cl,seen,since,c0,ls,la,i1,i2,i3,i4,i5,i6,i7,i8.mono fun b _ hb=>zda hb,i9.mono fun b _ hb=>zda hb,i10⟩,fun hc=>?_⟩
    ·show renN x o (γ.col r)=ℓ;rw [g1,zfZ hx]
    ·rw [zdb γ hlo];exact g2
    ·obtain ⟨c,hc,he⟩:=xF.1 hc;by_cases hcx:c=x
     ·rw [hcx,zfA] at he;exact hlo he.symm
     ·rw [zfZ hcx] at he;rw [he] at hc;exact hn hc
 | .mp rk rv C m=>obtain ⟨b,es,cl,hv,hF,hb,hh,hE⟩:=h;exact ⟨b,es,cl,hv,zda hF,hb,hh,hE.mono fun b _ hb=>zda hb⟩
 | .om rk rv ℓ C m=>
  obtain ⟨b,es,cl,hv,⟨g1,g2⟩,hb,hh,hE,hn⟩:=h;have hE':zcF ((zko γ x o).F (C.map (renN x o))) w rk rv m es.toList:=hE.mono fun b _ hb=>zda hb
  rw [AV.ren];cases h1:Nat.beq ℓ x with
  | true=>
   have:=xJ h1;subst this;cases hm:memN o (C.map (renN ℓ o)) with
   | true=>trivial
   | false=>
    refine ⟨b,es,cl,hv,⟨?_,?_⟩,hb,hh,hE',fun hc=>by rw [zar.2 hc] at hm;cases hm⟩
    ·show renN ℓ o (γ.col b)=o;rw [g1,zfA]
    ·rw [zew];exact g2
  | false=>
   have hx:ℓ≠x:=fun e=>by rw [e] at h1;simp at h1
   cases h2:Nat.beq ℓ o with
   | true=>trivial
   | false=>
    have hlo:ℓ≠o:=fun e=>by rw [e] at h2;simp at h2
    refine ⟨b,es,cl,hv,⟨?_,?_⟩,hb,hh,hE',fun hc=>?_⟩
    ·show renN x o (γ.col b)=ℓ;rw [g1,zfZ hx]
    ·rw [zdb γ hlo];exact g2
    ·obtain ⟨c,hc,he⟩:=xF.1 hc;by_cases hcx:c=x
     ·rw [hcx,zfA] at he;exact hlo he.symm
     ·rw [zfZ hcx] at he;rw [he] at hc;exact hn hc
 | .ptr ℓ off=>
  have hv:v= .pointer (some ⟨γ.box ℓ,off,none⟩):=h;rw [AV.ren];cases h1:Nat.beq ℓ x with
  | true=>
   have:=xJ h1;subst this;show v=_;rw [zew];exact hv
  | false=>
   cases h2:Nat.beq ℓ o with
   | true=>trivial
   | false=>
    show v=_;rw [zdb γ (fun e=>by rw [e] at h2;simp at h2)];exact hv
 | .tl ℓ off n=>
  obtain ⟨A,c,hv,hA⟩:=h;rw [AV.ren];cases h1:Nat.beq ℓ x with
  | true=>
   have:=xJ h1;subst this;exact ⟨A,c,hv,fun hn=>by rw [zew];exact hA hn⟩
  | false=>
   cases h2:Nat.beq ℓ o with
   | true=>trivial
   | false=>exact ⟨A,c,hv,fun hn=>by rw [zdb γ (fun e=>by rw [e] at h2;simp at h2)];exact hA hn⟩
 | .bs ℓ n=>
  have hv:v= .slice (some ⟨γ.box ℓ,0,none⟩) n n:=h;rw [AV.ren];cases h1:Nat.beq ℓ x with
  | true=>
   have:=xJ h1;subst this;show v=_;rw [zew];exact hv
  | false=>
   cases h2:Nat.beq ℓ o with
   | true=>trivial
   | false=>
    show v=_;rw [zdb γ (fun e=>by rw [e] at h2;simp at h2)];exact hv
 | .own r e ℓ C xs=>
  obtain ⟨cs,ho,hg,hA,hn⟩:=h;have hA':zai ((zko γ x o).F (C.map (renN x o))) w (xs.flatMap r.lv) cs:=hA.mono fun b _ hb=>zda hb
  rw [AV.ren];cases h1:Nat.beq ℓ x with
  | true=>
   have:=xJ h1;subst this;cases hm:memN o (C.map (renN ℓ o)) with
   | true=>trivial
   | false=>
    refine ⟨cs,ho,fun g w8=>⟨?_,?_⟩,hA',fun hc=>by rw [zar.2 hc] at hm;cases hm⟩
    ·show renN ℓ o (γ.col g)=o;rw [(hg g w8).1,zfA]
    ·rw [zew];exact (hg g w8).2
  | false=>
   have hx:ℓ≠x:=fun e=>by rw [e] at h1;simp at h1
   cases h2:Nat.beq ℓ o with
   | true=>trivial
   | false=>
    have hlo:ℓ≠o:=fun e=>by rw [e] at h2;simp at h2
    refine ⟨cs,ho,fun g w8=>⟨?_,?_⟩,hA',fun hc=>?_⟩
    ·show renN x o (γ.col g)=ℓ;rw [(hg g w8).1,zfZ hx]
    ·rw [zdb γ hlo];exact (hg g w8).2
    ·obtain ⟨c,hc,he⟩:=xF.1 hc;by_cases hcx:c=x
     ·rw [hcx,zfA] at he;exact hlo he.symm
     ·rw [zfZ hcx] at he;rw [he] at hc;exact hn hc
theorem AV.renL_rel (l:List AV) (h:AV.relL γ w l vs):AV.relL (zko γ x o) w (AV.renL x o l) vs:=by
 match l with
 | []=>exact h
 | a::l=>
  obtain ⟨v,vs',rfl,h1,h2⟩:=h;exact ⟨v,vs',rfl,AV.ren_rel a h1,AV.renL_rel l h2⟩
end
def zzv (x o:Nat):List Bx->List Bx
 | []=>[]
 | b::l=>match Nat.beq b.lab x,Nat.beq b.lab o with
  | true,_=>⟨o,b.typ,AV.renL x o b.avs⟩::zzv x o l
  | false,true=>zzv x o l
  | false,false=>⟨b.lab,b.typ,AV.renL x o b.avs⟩::zzv x o l
def Env.ren (x o:Nat) (E:Env):Env:=⟨E.sl.map fun p=>(p.1,p.2.ren x o),zzv x o E.bx⟩
theorem zNn (x o:Nat) (h:(Nat.ble 2 x&&Nat.ble 2 o&& !spB x)=true):zcU E (E.ren x o):=fun cx a w hs=>by
 obtain ⟨γ,hB,hS,hX⟩:=hs;simp only [xB] at h;have hx:=xS h.1.1;have ho:=xS h.1.2;have hal:zvJ γ (zko γ x o):=by
  refine ⟨fun b hb=>?_,fun b hb=>?_,fun b (hb:renN x o (γ.col b)=0)=>?_,fun b hb=>?_⟩
  ·show renN x o (γ.col b)=0;rw [zfZ (by omega)];exact hb
  ·show renN x o (γ.col b)=1;rw [zfZ (by omega)];exact hb
  ·by_cases e:γ.col b=x
   ·rw [e,zfA] at hb;omega
   ·rw [zfZ e] at hb;exact hb
  ·show renN x o (γ.col b)=_;refine zfZ fun e=>?_
   grind
 refine ⟨zko γ x o,⟨hB.defers.ren hal,hB.clean,hB.size,hB.kept,cx.X.ren hB.ext hal⟩,fun p hp=>?_,?_⟩
 ·obtain ⟨q,hq,rfl⟩:=xF.1 hp;exact AV.ren_rel q.2 (hS q hq)
 ·have key:∀l,Bxs γ w l->Bxs (zko γ x o) w (zzv x o l):=by
   intro l
   induction l with
   | nil=>intro _ b hb;cases hb
   | cons c l ih=>
    intro hl b hb;have ih':=ih fun d hd=>hl d (xA _ hd)
    obtain ⟨hc,cs,hh,hL,hone⟩:=hl c xz;rw [zzv] at hb;cases h1:Nat.beq c.lab x with
    | true=>
     rw [h1] at hb;simp only [xC] at hb;rcases hb with rfl| hb
     ·have e1:=xJ h1;refine ⟨?_,cs,?_,AV.renL_rel _ hL,hone⟩
      ·show renN x o (γ.col ((zko γ x o).box o))=o;rw [zew,<-e1,hc,e1,zfA]
      ·show w.heap[(zko γ x o).box o]? =_;rw [zew,<-e1];exact hh
     ·exact ih' b hb
    | false=>
     rw [h1] at hb;have hnx:c.lab≠x:=fun e=>by rw [e] at h1;simp at h1
     cases h2:Nat.beq c.lab o with
     | true=>rw [h2] at hb;exact ih' b hb
     | false=>
      rw [h2] at hb;have hno:c.lab≠o:=fun e=>by rw [e] at h2;simp at h2
      simp only [xC] at hb;rcases hb with rfl| hb
      ·refine ⟨?_,cs,?_,AV.renL_rel _ hL,hone⟩
       ·show renN x o (γ.col ((zko γ x o).box c.lab))=c.lab;rw [zdb γ hno,hc,zfZ hnx]
       ·show w.heap[(zko γ x o).box c.lab]? =_;rw [zdb γ hno];exact hh
      ·exact ih' b hb
  exact key E.bx hX
def zcW:LV->Value
 | .int k n=> .int k n
 | .bool b=> .bool b
 | .str l=> .string ⟨l.toArray⟩
 | .val v=>v
 | .sl ..=>undef
theorem zvZ (h:zaO F w l v) (hp:l.plain=true):v=zcW l:=by
 cases h<;>first| rfl| cases hp
theorem zBK (h:zai F w ls vs) (hp:ls.all LV.plain=true):vs=ls.map zcW:=by
 induction ls generalizing vs with
 | nil=>exact yx h.1.symm
 | cons l ls ih=>
  obtain ⟨v,vs',rfl,h1,h2⟩:=h.head;simp only [yP,xB] at hp;rw [zvZ h1 hp.1,ih h2 hp.2];rfl
def leI:List (Operand×AV)->List (Operand×AV)->Prop
 | [],[]=>True
 | p::l,q::m=>(p.1=q.1/\AV.le p.2 q.2)/\leI l m
 | _,_=>False
theorem zAA {γ:Gh} {w:World} {a:Act}:∀(l m:List (Operand×AV)),leI l m->(∀p∈l,p.2.rel γ w (a.eval p.1))->∀p∈m,p.2.rel γ w (a.eval p.1)
 | [],[],_,_,p,hp=>by cases hp
 | q::l,x::m,h,hr,p,hp=>by
  obtain ⟨⟨h1,h2⟩,h3⟩:=h;cases hp with
  | head=>rw [<-h1];exact h2 γ w _ (hr q xz)
  | tail _ hp=>exact zAA l m h3 (fun y hy=>hr y (xA _ hy)) p hp
 | [],_::_,h,_,_,_=>h.elim
 | _::_,[],h,_,_,_=>h.elim
theorem zB.le (h:zB P o ins bxs W V av bs) (hl:leI km ins):zB P o km bxs W V av bs:=
 fun γ a w hi hb=>h γ a w (zAA _ _ hl hi) hb
def zqJ (x:Int):Option UInt8:=if 0<=x/\x<256 then some (UInt8.ofNat x.toNat) else none
theorem zBH (h:zqJ x=some c):x=(c.toNat:Int):=by
 unfold zqJ at h;split at h
 ·rename_i hx;cases h;simp;omega
 ·cases h
theorem zFV (h:zqJ x=some c):AV.le (.lf (.int .u8 x)) (.lf (.int .u8 (c.toNat:Int))):=by rw [zBH h];exact fun _ _ _ hv=>hv
def lenO (l:List UInt8):Option (List UInt8):=if l.length<=9223372036854775807 then some l else none
theorem zvr {src dst e:TypeId} (ℓ:Nat) (ho:o.op= .convert src dst x) (hs:P.underlying src=some .string) (hd:P.underlying dst=some (.slice e)) (he:P.underlying e=some (.int .u8)) (hl:lenO l=some l'):
  zB P o [(x,.lf (.str l))] [] [] [ℓ] (.sl Rp.byte [ℓ] l') []:=by
 unfold lenO at hl;split at hl
 ·rename_i h;cases hl;exact zNs ℓ ho hs hd he (uh h)
 ·cases hl
theorem zeK:Rp.byte.Plain:=fun x l h=>by simp [Rp.byte] at h;subst h;rfl
theorem zzq (k:IntKind):(Rp.int k).Plain:=fun x l h=>by simp [Rp.int] at h;subst h;rfl
theorem zHM:Rp.str.Plain:=fun x l h=>by simp [Rp.str] at h;subst h;rfl
theorem iteT {α:Type} {c:Bool} {x y:Option α} {r:α} (h:(if c then x else y)=some r) (hc:c=true):x=some r:=by rw [hc] at h;exact h
theorem iteF {α:Type} {c:Bool} {x y:Option α} {r:α} (h:(if c then x else y)=some r) (hc:c=false):y=some r:=by rw [hc] at h;exact h
theorem AV.le_refl (a:AV):a.le a:=fun _ _ _ h=>h
theorem zOm {α:Type} (r:Rp α) (C C':List Nat) (x:α) (h:subN C C'=true):AV.le (.rc r C x) (.rc r C' x):=fun _ _ _ ⟨cs,hv,hA⟩=>⟨cs,hv,hA.mono fun _ _ hb=>zah h _ hb⟩
theorem zNm {α:Type} (r:Rp α) (e:TypeId) (ℓ:Nat) (C C':List Nat) (xs:List α) (h:subN C C'=true) (hn:memN ℓ C'=false):AV.le (.own r e ℓ C xs) (.own r e ℓ C' xs):=fun _ _ _ ⟨cs,ho,hg,hA,_⟩=>
 ⟨cs,ho,hg,hA.mono fun _ _ hb=>zah h _ hb,fun hc=>by rw [zar.2 hc] at hn;cases hn⟩
theorem zNo {α:Type} (r:Rp α) (e:TypeId) (ℓ:Nat) (C C':List Nat) (xs:List α) (h:subN (ℓ::C) C'=true):AV.le (.own r e ℓ C xs) (.sl r C' xs):=fun _ _ _ hv=>zaO.mono (zpm hv) fun _ _ hb=>zah h _ hb
theorem zNj (a:AV):AV.le a .any:=fun _ _ _ _=>trivial
def leL:List AV->List AV->Prop
 | [],[]=>True
 | a::l,b::m=>a.le b/\leL l m
 | _,_=>False
theorem znB (h:leL l m) (hr:AV.relL γ w l vs):AV.relL γ w m vs:=by
 induction l generalizing m vs with
 | nil=>cases m<;>first| exact hr| exact h.elim
 | cons a l ih=>
  cases m with
  | nil=>exact h.elim
  | cons b m=>obtain ⟨v,vs',rfl,h1,h2⟩:=hr;exact ⟨v,vs',rfl,h.1 γ w v h1,ih h.2 h2⟩
theorem FnOk.le (h:FnOk P f ins wT) (hl:leL km ins):FnOk P f km wT:=fun w F vs hr=>h w F vs (znB hl hr)
theorem zNp (E:Env) (h:ztp P E.opd (zrI E o.op) o.op=some (.lf (.bool c))) (hc:c=b):zB P o (zlk E o.op.operands.toList) (zrI E o.op) [] [] (.lf (.bool b)) []:=by
 subst hc;refine zQ fun γ ev w hi hb=>?_
 have key:∀(l:List Operand),(∀p∈zlk E l,p.2.rel γ w (ev p.1))->Opds E.opd γ w ev l:=by
  intro l
  induction l with
  | nil=>intro _ x hx;cases hx
  | cons x l ih=>
   intro h y hy av hav;rw [zlk] at h;cases hx:E.opd x with
   | none=>
    rw [hx] at h;cases hy with
    | head=>rw [hx] at hav;cases hav
    | tail _ hy=>exact ih h y hy av hav
   | some a=>
    rw [hx] at h;cases hy with
    | head=>rw [hx] at hav;cases hav;exact h (x,_) xz
    | tail _ hy=>exact ih (fun p hp=>h p (xA _ hp)) y hy av hav
 obtain ⟨v,hr,hv⟩:=zrj h (key _ hi) hb;exact ⟨v,w,γ,hr,Tr.refl _ _ _ _,hv,fun b hb=>by cases hb⟩
section
variable {m:Bool} {P:Program} {Q:Exit->Act->World->Prop} {S M:Act->World->Prop} {l:List It} {c:Code}
theorem zFN (h:J m P c S R) (k:∀e a w,R e a w->zgx m P Q l e a w):JI m P (.c c::l) S Q:=fun a w hs=>by
 rw [zpP];exact zmd (h a w hs) k
theorem zFO {σ ρ:Type} (body:σ->Option (σ⊕ρ)) (Es:σ->Act->World->Prop) (R:ρ->Exit->Act->World->Prop)
  (hb:∀s o,body s=some o->J m P c (Es s) (match o with
   | .inl s'=>fun e a w=>e= .normal/\Es s' a w
   | .inr r=>fun e a w=>e≠ .normal/\R r e a w))
  {s:σ} {r:ρ} (h:zaB body s=some r) (hS:∀a w,S a w->Es s a w) (k:∀e a w,R r e a w->zgx m P Q l e a w):JI m P (.c (.loop c)::l) S Q:=
 zFN (zNd body Es R hb h hS (fun _ _ _ hr=>hr)) k
theorem ziq (k:JI m P l M Q):∀e a w,(e= .normal/\M a w)->zgx m P Q l e a w:=by
 rintro e a w ⟨rfl,h⟩;exact k a w h
theorem zbo {id:Nat} (l':List It) (he:zqM id l=some l') (k:JI m P l' M Q):∀e a w,(e= .exit id/\M a w)->zgx m P Q l e a w:=by
 rintro e a w ⟨rfl,h⟩;exact ztf he (k a w h)
theorem zFR (k:∀a w,M a w->Q .ret a w):∀e a w,(e= .ret/\M a w)->zgx m P Q l e a w:=by
 rintro e a w ⟨rfl,h⟩;exact k a w h
end
theorem zyM (N:Nat) (hf:P.funcs[f]? =some fn) (hb:fn.body=some c) (hN:fn.ntmps=N) (wS:Nat.ble ins.length N=true) (hres:zkl P E fn.results.toList wT)
  (hj:∀X:Ext,J true P c (Sx ⟨⟨N,[]⟩,X,false,#[]⟩ ⟨zlg 0 ins,[]⟩) fun e a w=>e= .ret/\Sx ⟨⟨N,[]⟩,X,false,#[]⟩ E a w):FnOk P f ins wT:=by
 subst hN;exact zIT hf hb (xS wS) hres hj
open Go.ChangeShapes Go.WideShapes
abbrev allF:Fp:=fun _=>True
def SzOk (P:Program) {H:Type} (t:TypeId) (d:DataW H):Prop:=∀m∈d.weights P t,m<=140737488351232
theorem zop {H:Type} :∀{ds:List (DataW H)} {i:Nat} {d:DataW H},ds[i]? =some d->∀m∈d.weights P e,m∈DataW.weightsAll P e ds
 | d0::ds,0,d,hd,m,hm=>by
  simp only [List.getElem?_cons_zero,yp] at hd;subst hd;simp only [DataW.weightsAll,xG];exact Or.inl hm
 | d0::ds,i+1,d,hd,m,hm=>by
  simp only [List.getElem?_cons_succ] at hd;simp only [DataW.weightsAll,xG];exact Or.inr (zop hd m hm)
 | [],_,_,hd,_,_=>by simp at hd
theorem SzOk.of_each {H:Type} {P:Program} {ts:List TypeId} {ds:List (DataW H)} (h:(DataW.weightsEach P ts ds).all (·<=reachBytes)=true) (j:Nat) {t:TypeId} {d:DataW H} (ht:ts[j]? =some t) (hd:ds[j]? =some d):SzOk P t d:=fun m hm=>by
 have:=xI.1 h _ (DataW.weights_mem_each ht hd m hm);exact yv this
def zqF (P:Program) {α:Type} (n:Nat) (t:TypeId) (r:Rp α) (W:α->Prop):Prop:=
 ∀{H:Type} (enc:TypeId×Value->H) (w:World) (spare:Nat->Bool) (held:Bool) (cs:List Value) (x:DataW H×List MemPlace),DataW.trod enc P w 0 spare held n t cs=some x->SzOk P t x.1->∃y:α,zai allF w (r.lv y) cs/\W y
section
variable {P:Program} {n:Nat} {t e:TypeId}
theorem ziZ (h:zaO F w l v):zai F w [l] [v]:= .cons h .nil
theorem ztG {k:IntKind} (hu:P.underlying t=some (.int k)):zqF P n t (Rp.int k) fun m=>(Lit.int k m).wf=true:=fun _ _ _ _ _ _ h _=>by
 obtain ⟨m,rfl,_,hw⟩:=DataW.trod_int hu h;exact ⟨m,ziZ (.int k m),hw⟩
theorem zEM (hu:P.underlying t=some (.int .u8)):zqF P n t Rp.byte fun _=>True:=fun _ _ _ _ _ _ h _=>by
 obtain ⟨m,rfl,_,hw⟩:=DataW.trod_int hu h;have hb:0<=m/\m<=255:=by simpa [Lit.wf,IntKind.min,IntKind.max,IntKind.bits,IntKind.signed] using hw
 have e1:((UInt8.ofNat m.toNat).toNat:Int)=m:=by simp;omega
 refine ⟨UInt8.ofNat m.toNat,ziZ ?_,trivial⟩;rw [e1];exact .int .u8 m
theorem zwS (hu:P.underlying t=some .bool):zqF P n t Rp.bool fun _=>True:=fun _ _ _ _ _ _ h _=>by
 obtain ⟨b,rfl,_⟩:=DataW.trod_bool hu h;exact ⟨b,ziZ (.bool b),trivial⟩
theorem zzk (hu:P.underlying t=some .string):zqF P n t Rp.str fun l=>l.length<=140737488351232:=fun _ _ _ _ _ _ h hz=>by
 obtain ⟨s,rfl,rfl,hw⟩:=DataW.trod_string hu h;exact ⟨s.data.toList,ziZ (by have:=zaO.str (F:=allF) (w:=‹World›) s.data.toList;simpa using this),hz _ (by simp [DataW.weights])⟩
theorem zwT {α:Type} {r:Rp α} {W:α->Prop}:zqF P 0 t r W:=fun _ _ _ _ _ _ h _=>by simp [DataW.trod] at h
theorem zEA {w:World} {a:Addr} {v:Value} (h:w.cell? a=some v):a.block<w.heap.size/\a.spot=none:=by
 unfold World.cell? at h;split at h
 ·rename_i c e f hh;refine ⟨(yh.1 hh).1,?_⟩;split at h
  ·cases h
  ·rename_i hs;cases hsp:a.spot with
   | none=>rfl
   | some x=>rw [hsp] at hs;exact absurd rfl hs
 ·cases h
theorem zzY (a:Addr) (m k:Nat):(a.add m).add k=a.add (m+k):=by
 unfold Addr.add;by_cases h1:m=0
 ·subst h1;simp
 ·by_cases h2:k=0
  ·subst h2;simp
  ·have h3:¬(m+k=0):=by omega
   simp only [xx h1,xx h2,xx h3];congr 1;omega
theorem zxZ {a:Addr} (h:a.spot=none) (i:Nat):a.add i=⟨a.block,a.off+i,none⟩:=by
 obtain ⟨b,o,s⟩:=a;simp only at h;subst h;unfold Addr.add;split
 ·rename_i h0;subst h0;rfl
 ·rfl
theorem zEN {α:Type} {r:Rp α} {W:α->Prop} {B:Nat} (hu:P.underlying t=some (.slice e)) (hc:P.cellsOf e=r.size) (hB:P.bytesOf e=B) (h:zqF P n e r W):zqF P (n+1) t r.list fun xs=>xs.length*B<=140737488351232/\∀x∈xs,W x:=by
 intro H enc w spare held cs x hx hz;rcases DataW.trod_slice hu hx with ⟨rfl,_⟩| ⟨a,len,wX,elems,wO,m,hm,rfl,rfl,_,hl,hcap,wS,hel,_⟩
 ·exact ⟨[],ziZ (.sl 0 _ _ _ 0 [] (by simp) (by simp) (xE _) (xP _) (fun h=>absurd h (by omega)) (fun i l u h1=>by simp at h1)),by simp,fun x hx=>by cases hx⟩
 ·cases hm;rw [hc] at hel
  -- element by element
  have each:∀i,i<len->∃y cs',w.cells? 0 (a.add (i*r.size)) r.size=some cs'/\zai allF w (r.lv y) cs'/\W y:=by
   intro i hi;have h1:=hel i hi;rw [xT (show i<elems.length by omega),Option.bind_eq_some_iff] at h1;obtain ⟨cs',h2,h3⟩:=h1;obtain ⟨y,h4,h5⟩:=h enc w spare held cs' _ h3 fun m hm=>hz m (by
    simp only [DataW.weights,hu,xC,xG];refine .inr (.inl (zop (i:=i) (d:=(elems[i]'(by omega)).1) ?_ m hm));rw [qn,xT (show i<elems.length by omega)];rfl)
   exact ⟨y,cs',h2,h4,h5⟩
  have rows:∀k,k<=len->∃(ys:List α) (ds:List Value),ys.length=k/\zai allF w (ys.flatMap r.lv) ds/\(∀y∈ys,W y)/\∀j,j<k*r.size->w.cell? (a.add j)=ds[j]? :=by
   intro k
   induction k with
   | zero=>exact fun _=>⟨[],[],rfl,.nil,(fun y hy=>by cases hy),fun j hj=>by omega⟩
   | succ k ih=>
    intro hk;obtain ⟨ys,ds,h1,h2,h3,h4⟩:=ih (by omega);obtain ⟨y,cs',h5,h6,h7⟩:=each k (by omega);obtain ⟨_,h8,h9⟩:=World.cells?_some h5;have hds:ds.length=k*r.size:=by rw [<-h2.1,r.flat,h1]
    refine ⟨ys++[y],ds++cs',by simp [h1],?_,?_,fun j hj=>?_⟩
    ·rw [yH];simp only [xM,qo,xW];exact h2.append h6
    ·intro z hz;rcases xG.1 hz with hz| hz
     ·exact h3 z hz
     ·simp at hz;subst hz;exact h7
    ·rw [pE];split
     ·rename_i hj';exact h4 j (by omega)
     ·rename_i hj';rw [qC] at hj;have:=h9 (j - ds.length) (by omega);rw [<-this,hds,zzY];congr 2;omega
  obtain ⟨ys,ds,h1,h2,h3,h4⟩:=rows len (xE _);have hds:ds.length=len*r.size:=by rw [<-h2.1,r.flat,h1]
  have wZ:=hz ((elems.length+wO.length)*P.bytesOf e) (by simp [DataW.weights,hu]);rw [hB] at wZ;refine ⟨ys,ziZ ?_,yn (yG B (by omega)) wZ,h3⟩;rw [h1];refine .sl len r.size _ (some a) wX ds (by rw [r.flat,h1]) hds hl hcap (fun h0=>?_) h2.2;have h0':0<len*r.size:=Nat.mul_pos h0 r.pos;have hc0:=h4 0 h0';rw [xT (show 0<ds.length by omega)] at hc0;obtain ⟨hb,hs⟩:=zEA hc0;have hs':a.spot=none:=by unfold Addr.add at hs;split at hs<;>simp_all
  have hb':a.block<w.heap.size:=by unfold Addr.add at hb;split at hb<;>simp_all
  refine ⟨a.block,a.off,by cases a;simp at hs';subst hs';rfl,trivial,hb',fun i hi=>?_⟩;have:=h4 i hi;rw [<-this];congr 1;exact (zxZ hs' i).symm
def FOk (P:Program) (n:Nat) (fs:List Field) (off:Nat) (S:List LV->Prop):Prop:=
 ∀(H:Type) (enc:TypeId×Value->H) (w:World) (spare:Nat->Bool) (held:Bool) (cs:List Value),cs.length=off+(fs.map fun f=>P.cellsOf f.type).sum->
  (∀(i:Nat) (f:Field),fs[i]? =some f->∃x,DataW.trod enc P w 0 spare held n f.type ((cs.drop f.offset).take (P.cellsOf f.type))=some x/\SzOk P f.type x.1)->∃ls,zai allF w ls (cs.drop off)/\S ls
theorem zFH {off:Nat}:FOk P n [] off fun ls=>ls=[]:=fun _ _ _ _ _ cs hl _=>by
 have:cs.drop off=[]:=yK (by simp at hl;omega);exact ⟨[],by rw [this];exact .nil,rfl⟩
theorem zjI {α:Type} {r:Rp α} {W:α->Prop} {f:Field} {fs:List Field} {off:Nat} {S:List LV->Prop} (h:zqF P n f.type r W) (ho:f.offset=off) (hc:P.cellsOf f.type=r.size) (k:FOk P n fs (off+r.size) S):
  FOk P n (f::fs) off fun ls=>∃y ls',ls=r.lv y++ls'/\W y/\S ls':=by
 intro H enc w spare held cs hl hx;obtain ⟨x,hx0,hz0⟩:=hx 0 f rfl;rw [ho,hc] at hx0;obtain ⟨y,hy,hw⟩:=h enc w spare held _ _ hx0 hz0;obtain ⟨ls,h1,h2⟩:=k H enc w spare held cs (by simp [hc] at hl;omega) fun i g hg=>hx (i+1) g (by simpa using hg)
 refine ⟨r.lv y++ls,?_,y,ls,rfl,hw,h2⟩;have e:cs.drop off=(cs.drop off).take r.size++cs.drop (off+r.size):=by rw [<-yA,qx]
 rw [e];exact hy.append h1
theorem zAO {α:Type} {r:Rp α} {W:α->Prop} {fs:Array Field} {S:List LV->Prop} (hu:P.underlying t=some (.struct fs)) (hc:P.cellsOf t=(fs.toList.map fun f=>P.cellsOf f.type).sum) (hf:FOk P n fs.toList 0 S) (hy:∀ls,S ls->∃y,ls=r.lv y/\W y):zqF P (n+1) t r W:=by
 intro H enc w spare held cs x hx hz;obtain ⟨xs,m,hm,rfl,hl,hxl,hget⟩:=DataW.trod_struct hu hx;cases hm;obtain ⟨ls,h1,h2⟩:=hf H enc w spare held cs (by rw [hl,hc];omega) fun i f hif=>by
  have hi:i<xs.length:=by rw [hxl];have:=(yz.1 hif).1;simpa using this
  refine ⟨xs[i],by rw [hget i f (by simpa using hif),xT hi],fun m hm=>hz m ?_⟩;simp only [DataW.weights,hu];refine DataW.weights_mem_each (j:=i) (t:=f.type) (d:=xs[i].1) (by rw [qn,hif];rfl) (by rw [qn,xT hi];rfl) m hm
 obtain ⟨y,rfl,hw⟩:=hy ls h2;exact ⟨y,by simpa using h1,hw⟩
def znr (P:Program) {α:Type} (t:TypeId) (r:Rp α) (W:α->Prop):Prop:=∀n,zqF P n t r W
theorem zph {α:Type} {r:Rp α} {W:α->Prop} {B:Nat} (hu:P.underlying t=some (.slice e)) (hc:P.cellsOf e=r.size) (hB:P.bytesOf e=B) (h:znr P e r W):znr P t r.list fun xs=>xs.length*B<=140737488351232/\∀x∈xs,W x
 | 0=>zwT
 | n+1=>zEN hu hc hB (h n)
theorem zqS {α:Type} {r:Rp α} {W:α->Prop} {fs:Array Field} {S:List LV->Prop} (hu:P.underlying t=some (.struct fs)) (hc:P.cellsOf t=(fs.toList.map fun f=>P.cellsOf f.type).sum) (hf:∀n,FOk P n fs.toList 0 S) (hy:∀ls,S ls->∃y,ls=r.lv y/\W y):znr P t r W
 | 0=>zwT
 | n+1=>zAO hu hc (hf n) hy
end
section
variable {P:Program} {H:Type} {enc:TypeId×Value->H} {w:World} {t e:TypeId} {v:Value} {d:DataW H} {ps:List MemPlace}
theorem zKV (h:zaO allF w l v):zaO ((gh0 allF).F [0]) w l v:=zaO.mono h fun b _ _=>by
 show (gh0 allF).col b∈[0];rw [zFJ allF b trivial];exact xz
theorem zFr {k:IntKind} (hu:P.underlying t=some (.int k)) (hval:Value.okWide P w .any 0 t v) (h:DataW.Trod enc P w 0 (fun _=>true) true t v d ps) (_hz:SzOk P t d):∃m:Int,AV.rel (gh0 allF) w (.lf (.int k m)) v/\(Lit.int k m).wf=true:=by
 obtain ⟨m,rfl,_,_,hw⟩:=open_int hu hval h;exact ⟨m,⟨rfl,.int k m⟩,hw⟩
theorem zDT {α:Type} {r:Rp α} {W:List α->Prop} (hu:P.underlying t=some (.slice e)) (ho:znr P t r.list W) (hval:Value.okWide P w .any 0 t v) (h:DataW.Trod enc P w 0 (fun _=>true) true t v d ps) (hz:SzOk P t d):∃xs:List α,AV.rel (gh0 allF) w (.sl r [0] xs) v/\W xs:=by
 obtain ⟨a,len,wX,rfl⟩:=okWide_slice hu hval;obtain ⟨fuel,hf⟩:=h;obtain ⟨y,hy,hw⟩:=ho fuel enc w _ _ _ _ hf hz;have hy':zai allF w [.sl y.length r.size (y.flatMap r.lv)] [.slice a len wX]:=hy;obtain ⟨u,hu',hl⟩:=hy'.single;cases hu';exact ⟨y,zKV hl,hw⟩
end
theorem zHs (h:FnOk P f ins [.lf (.bool b)]) (hb:b=true) (hr:AV.relL (gh0 allF) w ins vs):
  Calls P f vs.toArray w fun e w'=>e= .returned (.bool true)/\Below w.heap.size w w':=by
 subst hb;refine (h w allF vs hr).mono ?_;rintro e w' ⟨γ,us,rfl,hbel,_,v,us',rfl,hv,hu⟩;have hu':us'=[]:=hu;subst hu';exact ⟨by rw [zkB hv];rfl,hbel⟩
theorem zlW (h:zB P o km bx W V av bs) (e:km=ins):zB P o ins bx W V av bs:=e▸h
theorem lw_0 :zbX P l [] is:=by cases l<;>simp [zbX]
theorem lw_e (h:zbX P l ss is):zbX P (o::l) (.ev::ss) is:=by simpa [zbX] using h
theorem lw_x (h:zB P o ins bxs W V av bs) (h2:zbX P l ss is):
  zbX P (o::l) (.ex bl W V av bs::ss) (⟨ins,bxs,[]⟩::is):=by simp only [zbX];exact ⟨h,h2⟩
theorem lw_r (h:zoC P o rq W V prod) (h2:zbX P l ss is):
  zbX P (o::l) (.raw ix W V prod::ss) (⟨[],[],rq⟩::is):=by simp only [zbX];exact ⟨h,h2⟩
def zxr (P:Program):List Field->List (Nat×Nat)->Bool
 | [],[]=>true
 | f::fs,(o,s)::ps=>Nat.beq f.offset o&&(match P.info? f.type with| some i=>Nat.beq i.size s| none=>false)&&zxr P fs ps
 | _,_=>false
theorem zrv :∀(fs:List Field) (ps:List (Nat×Nat)),zxr P fs ps=true->∀w,(fs.mapM (m:=Sem) fun (f:Field)=>do pure (f.offset,<-sizeOf f.type)).run P w= .ok ps w
 | [],[],_,w=>rfl
 | f::fs,(o,s)::ps,h,w=>by
  simp only [zxr,xB] at h;obtain ⟨⟨h1,h2⟩,h3⟩:=h;have h1:=xJ h1;split at h2
  ·rename_i i hi;have h2:=xJ h2;subst h1 h2;have hs:(sizeOf f.type).run P w= .ok i.size w:=by simp [sizeOf,typeInfo,hi]
   simp only [qE,x9,hs,yb,yu,zrv fs ps h3 w]
  ·cases h2
 | [],_::_,h,_=>by cases h
 | _::_,[],h,_=>by cases h
def stB (P:Program) (t:TypeId) (fs:Array Field) (places:List (Nat×Nat)) (zl:List LV):Bool:=zxr P fs.toList places&&match P.info? t with
 | some i=>match i.zero with
  | some z=>zokL zl z.cells.toList
  | none=>false
 | none=>false
theorem StT.ofB (hu:P.underlying t=some (.struct fs)) (h:stB P t fs places zl=true):StT P t places zl:=by
 simp only [stB,xB] at h;obtain ⟨h1,h2⟩:=h;split at h2
 ·rename_i i hi;split at h2
  ·rename_i z hz;refine ⟨fs,z,hu,fun w=>by simp [zeroValue,typeInfo,hi,hz],fun w=>?_,h2⟩;have:=zrv fs.toList places h1 w;rw [<-qU (xs:=fs),uc,Sem.run_map];rw [this];rfl
  ·cases h2
 ·cases h2
def ztx:Option TypeDesc->LV->Bool
 | some (.int k),.int k' _=>decide (k=k')
 | some .bool,.bool _=>true
 | some .string,.str _=>true
 | _,_=>false
def zog (P:Program):Nat->List Field->List LV->Bool
 | _,[],[]=>true
 | off, f :: fs, l :: ls => (f.name != "_" && Nat.beq f.offset off && P.plainKey f.type && ztx (P.underlying f.type) l) && zog P (off + 1) fs ls
 | _,_,_=>false
def leq:LV->LV->Bool
 | .int _ a,.int _ b=>a==b
 | .bool a,.bool b=>a==b
 | .str a,.str b=>a==b
 | _,_=>false
def eqL:List LV->List LV->Bool
 | [],[]=>true
 | l::ls,m::ms=>leq l m&&eqL ls ms
 | _,_=>false
theorem zLu (h1:ztx (P.underlying t) l=true) (h2:ztx (P.underlying t) m=true) (d:Nat) (w:World):
  (Op.equalIn (d+1) t (zcW l) (zcW m)).run P w= .ok (leq l m) w:=by
 generalize hu:P.underlying t=u at h1 h2
 unfold ztx at h1;split at h1
 ·rename_i k k' a;have:=yv h1;subst this;cases m<;>first| cases h2| skip
  rename_i k2 b;have:=yv h2;subst this;exact run_equalIn_int w d t k k a b hu
 ·cases m<;>first| cases h2| skip
  exact run_equalIn_bool' w d t _ _ hu
 ·cases m<;>first| cases h2| skip
  have:=run_equalIn_string w d t ⟨(‹List UInt8›:List UInt8).toArray⟩ ⟨(‹List UInt8›:List UInt8).toArray⟩ hu;rename_i a b;have:=run_equalIn_string w d t ⟨a.toArray⟩ ⟨b.toArray⟩ hu;simp only [zcW,leq];rw [this];simp [ByteArray.toList_eq]
 ·cases h1
theorem zrO (d:Nat) (w:World):∀(fs:List Field) (ls ms:List LV) (off:Nat),zog P off fs ls=true->zog P off fs ms=true->
  (∀i,i<ls.length->xs[off+i]? =(ls.map zcW)[i]?)->(∀i,i<ms.length->ys[off+i]? =(ms.map zcW)[i]?)->(Op.eqFields (d+1) xs ys fs).run P w= .ok (eqL ls ms) w
 | [],[],[],_,_,_,_,_=>rfl
 | f::fs,l::ls,m::ms,off,h1,h2,hx,hy=>by
  simp only [zog,xB] at h1 h2;obtain ⟨⟨⟨⟨a1,a2⟩,a3⟩,a4⟩,a5⟩:=h1;obtain ⟨⟨_,b4⟩,b5⟩:=h2;have hn : f.name ≠ "_" := by simpa using a1
  have ho:=xJ a2;have p1:=ui a3 (xs:=xs) (off:=f.offset) (v:=zcW l) (w:=w) (by rw [ho];simpa using hx 0 (by simp));have p2:=ui a3 (xs:=ys) (off:=f.offset) (v:=zcW m) (w:=w) (by rw [ho];simpa using hy 0 (by simp));have ih:=zrO d w fs ls ms (off+1) a5 b5 (fun i hi=>by have:=hx (i+1) (by simpa using hi);simpa [Nat.add_assoc,Nat.add_comm 1 i] using this) (fun i hi=>by have:=hy (i+1) (by simpa using hi);simpa [Nat.add_assoc,Nat.add_comm 1 i] using this);simp only [Op.eqFields,hn,ne_eq,not_false_eq_true,yr,x9,p1,p2,yb,zLu a4 b4 d w,eqL];cases leq l m
  ·rfl
  ·simpa using ih
 | [],[],_::_,_,_,h,_,_=>by cases h
 | [],_::_,_,_,h,_,_,_=>by cases h
 | _::_,[],_,_,h,_,_,_=>by cases h
 | _::_,_::_,[],_,_,h,_,_=>by cases h
theorem eqT (hu:P.underlying t=some (.struct fs)) (hp:P.stoodInHeld t=false) (h1:zog P 0 fs.toList ls=true) (h2:zog P 0 fs.toList ms=true) (he:eqL ls ms=b):
  ∀w,(Op.equalIn 10000 t (.agg (ls.map zcW).toArray) (.agg (ms.map zcW).toArray)).run P w= .ok b w:=fun w=>by
 have hf:P.fieldsOf t=fs:=by unfold Program.fieldsOf;rw [hu]
 rw [run_equalIn_struct w 9999 t _ _ (by rw [hf];exact hu) hp,hf,zrO 9998 w fs.toList ls ms 0 h1 h2 (fun i _=>by simp) (fun i _=>by simp),he]
end Go.Proofs.YtaglemhabeipfaaGreat

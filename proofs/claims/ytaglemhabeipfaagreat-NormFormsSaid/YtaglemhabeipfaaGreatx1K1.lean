/-
  What every proof here stands on. No condition.
-/
import Derived.WalkKit
import Derived.Laws.OwnMore
import Derived.Maps.AppendAt
import Derived.LoopN
import Derived.Maps.RangeRun
import Derived.CallsIn
import Derived.LoopNIn
import Derived.TacticsIn
import Derived.OrdersIn
import Derived.Laws.IdiomStrings
import Derived.Laws.StructEq
import Derived.Orders
import Derived.ProofKit
import Derived.OpenShut
import Derived.ShutString
import Derived.ChangeOld
import Derived.Below
import Derived.SizedLaws
set_option autoImplicit true
set_option relaxedAutoImplicit true
namespace Go.Proofs.YtaglemhabeipfaaGreat
open Go Go.RowKit
abbrev uq:=@Array.foldl_toList
abbrev yF:=@Array.getD_eq_getD_getElem?
abbrev pF:=@Array.getElem?_append_left
abbrev pE:=@Array.getElem?_eq_getElem
abbrev yh:=@Array.getElem?_eq_some_iff
abbrev uk:=@Array.getElem?_toList
abbrev yJ:=@Array.length_toList
abbrev qY:=@Array.toArray_toList
abbrev uw:=@Array.toList_push
abbrev xw:=@Bool.and_eq_true
abbrev pg:=@Bool.and_false
abbrev pd:=@Bool.and_true
abbrev yN:=@Bool.eq_iff_iff
abbrev qc:=@Bool.false_and
abbrev qj:=@Bool.false_eq_true
abbrev pk:=@Bool.false_or
abbrev pQ:=@Bool.not_eq_false'
abbrev ug:=@Bool.not_eq_true
abbrev xZ:=@Bool.not_eq_true'
abbrev uD:=@Bool.or_assoc
abbrev qN:=@Bool.or_eq_false_iff
abbrev qZ:=@Bool.or_eq_true
abbrev pw:=@Bool.or_false
abbrev pp:=@Bool.or_true
abbrev ye:=@Bool.true_and
abbrev uz:=@Classical.byContradiction
abbrev yG:=@Int.emod_eq_of_lt
abbrev pX:=@Int.tdiv_eq_ediv_of_nonneg
abbrev ql:=@Int.tmod_eq_emod_of_nonneg
abbrev xD:=@Int.toNat_natCast
abbrev pW:=@IntKind.wrap_u64
abbrev yO:=@List.all_cons
abbrev xI:=@List.all_eq_true
abbrev uL:=@List.any_append
abbrev q9:=@List.any_cons
abbrev yj:=@List.append_assoc
abbrev xQ:=@List.append_nil
abbrev yM:=@List.cons.injEq
abbrev yn:=@List.cons_append
abbrev pr:=@List.drop_append_of_le_length
abbrev yb:=@List.drop_drop
abbrev yf:=@List.drop_eq_getElem_cons
abbrev yo:=@List.drop_eq_nil_of_le
abbrev q8:=@List.drop_left
abbrev pD:=@List.drop_length
abbrev qx:=@List.drop_take
abbrev yc:=@List.drop_zero
abbrev yE:=@List.eq_nil_of_length_eq_zero
abbrev ud:=@List.exists_cons_of_ne_nil
abbrev uH:=@List.filter_append
abbrev uN:=@List.filter_congr
abbrev yD:=@List.filter_cons
abbrev uI:=@List.filter_eq_nil_iff
abbrev qC:=@List.filter_map
abbrev uQ:=@List.findIdx?_eq_none_iff
abbrev pY:=@List.findIdx?_eq_some_iff_getElem
abbrev uG:=@List.findSome?_cons
abbrev ym:=@List.flatMap_append
abbrev xE:=@List.flatMap_cons
abbrev pO:=@List.flatMap_def
abbrev qm:=@List.flatMap_map
abbrev yS:=@List.flatMap_nil
abbrev pB:=@List.flatMap_singleton
abbrev qt:=@List.flatten_cons
abbrev yi:=@List.foldl_cons
abbrev ue:=@List.foldl_nil
abbrev p9:=@List.getD_eq_getElem?_getD
abbrev pJ:=@List.getElem?_append
abbrev uO:=@List.getElem?_cons_succ
abbrev qD:=@List.getElem?_drop
abbrev xN:=@List.getElem?_eq_getElem
abbrev yA:=@List.getElem?_eq_some_iff
abbrev qa:=@List.getElem?_map
abbrev yX:=@List.getElem?_take
abbrev uJ:=@List.getElem_cons_succ
abbrev uK:=@List.getElem_cons_zero
abbrev xB:=@List.getElem_mem
abbrev qE:=@List.getElem_of_mem
abbrev pq:=@List.headD_cons
abbrev pn:=@List.isEmpty_iff
abbrev xz:=@List.length_append
abbrev yk:=@List.length_cons
abbrev xR:=@List.length_drop
abbrev pA:=@List.length_eq_one_iff
abbrev pz:=@List.length_filter_le
abbrev pv:=@List.length_map
abbrev yv:=@List.length_nil
abbrev qe:=@List.length_pos_iff
abbrev pN:=@List.length_replicate
abbrev qv:=@List.length_singleton
abbrev xS:=@List.length_take
abbrev qK:=@List.mapM_cons
abbrev uo:=@List.mapM_toArray
abbrev qi:=@List.map_append
abbrev qk:=@List.map_congr_left
abbrev xJ:=@List.map_cons
abbrev yC:=@List.map_map
abbrev yL:=@List.map_nil
abbrev pf:=@List.map_singleton
abbrev pK:=@List.map_toArray
abbrev xF:=@List.mem_append
abbrev yq:=@List.mem_append_left
abbrev yl:=@List.mem_append_right
abbrev xy:=@List.mem_cons
abbrev xu:=@List.mem_cons_of_mem
abbrev xt:=@List.mem_cons_self
abbrev xW:=@List.mem_filter
abbrev qh:=@List.mem_flatMap
abbrev xA:=@List.mem_map
abbrev yP:=@List.mem_map_of_mem
abbrev qS:=@List.mem_of_getElem?
abbrev pi:=@List.mem_of_mem_drop
abbrev uh:=@List.mem_of_mem_take
abbrev xY:=@List.mem_singleton
abbrev xH:=@List.nil_append
abbrev pS:=@List.nodup_cons
abbrev qr:=@List.nodup_nil
abbrev xL:=@List.not_mem_nil
abbrev yd:=@List.pairwise_cons
abbrev ur:=@List.set_eq_take_append_cons_drop
abbrev uC:=@List.singleton_append
abbrev qf:=@List.size_toArray
abbrev qQ:=@List.sum_cons
abbrev pu:=@List.takeWhile_append_dropWhile
abbrev uF:=@List.takeWhile_cons
abbrev uB:=@List.take_add_one
abbrev qV:=@List.take_append
abbrev qn:=@List.take_append_drop
abbrev ul:=@List.take_append_of_le_length
abbrev uA:=@List.take_eq_take_iff
abbrev yY:=@List.take_left
abbrev uf:=@List.take_length
abbrev yR:=@List.take_of_length_le
abbrev yZ:=@List.take_succ_cons
abbrev pZ:=@List.take_succ_eq_append_getElem
abbrev qo:=@List.take_take
abbrev qA:=@List.take_zero
abbrev qW:=@Nat.add_assoc
abbrev pU:=@Nat.add_comm
abbrev pL:=@Nat.add_sub_cancel
abbrev uy:=@Nat.add_sub_cancel_left
abbrev yz:=@Nat.add_zero
abbrev uP:=@Nat.and_two_pow_sub_one_eq_mod
abbrev uu:=@Nat.ble_eq_true_of_le
abbrev xG:=@Nat.eq_of_beq_eq_true
abbrev ph:=@Nat.eq_zero_or_pos
abbrev xP:=@Nat.le_of_ble_eq_true
abbrev qg:=@Nat.le_of_not_lt
abbrev xx:=@Nat.le_refl
abbrev yg:=@Nat.le_trans
abbrev ui:=@Nat.lt_irrefl
abbrev xV:=@Nat.lt_of_lt_of_le
abbrev qL:=@Nat.lt_of_succ_le
abbrev yB:=@Nat.lt_or_ge
abbrev yU:=@Nat.min_eq_left
abbrev qu:=@Nat.mod_eq_of_lt
abbrev q6:=@Nat.mul_assoc
abbrev qd:=@Nat.mul_comm
abbrev pV:=@Nat.mul_le_mul
abbrev up:=@Nat.mul_le_mul_left
abbrev yI:=@Nat.mul_le_mul_right
abbrev yT:=@Nat.mul_one
abbrev qw:=@Nat.not_lt
abbrev qH:=@Nat.one_pos
abbrev pT:=@Nat.or_comm
abbrev q7:=@Nat.pow_le_pow_right
abbrev yH:=@Nat.pow_succ
abbrev qF:=@Nat.sub_zero
abbrev qI:=@Nat.succ_mul
abbrev xK:=@Nat.zero_add
abbrev xC:=@Nat.zero_le
abbrev qG:=@Oper.upon_enter
abbrev ut:=@Oper.upon_skip
abbrev qU:=@Oper.wpIn_mono
abbrev pl:=@Option.getD_some
abbrev pR:=@Option.map_none
abbrev qM:=@Option.map_some
abbrev qO:=@Option.some.inj
abbrev yr:=@Option.some.injEq
abbrev pt:=@Prod.ext
abbrev yy:=@Prod.mk.injEq
abbrev ya:=@Result.andThen_ok
abbrev xX:=@Sem.run_bind
abbrev yw:=@Sem.run_pure
abbrev uM:=@Sum.inr.injEq
abbrev pI:=@World.cell?_of_block
abbrev pM:=@World.ownsRow_nil
abbrev qy:=@and_true
abbrev qP:=@beq_iff_eq
abbrev qJ:=@callsIn_wide
abbrev pm:=@calls_of_wp
abbrev yW:=@cell_of_row
abbrev qB:=@decide_eq_decide
abbrev xU:=@decide_eq_false
abbrev uE:=@decide_eq_false_iff_not
abbrev xO:=@decide_eq_true
abbrev xT:=@decide_eq_true_eq
abbrev pC:=@eq_false_of_ne_true
abbrev pG:=@grownCap_ge
abbrev uj:=@grownCap_le_maxLen
abbrev yV:=@heap_alloc_new
abbrev yp:=@if_false
abbrev xq:=@if_neg
abbrev xr:=@if_pos
abbrev yu:=@if_true
abbrev qT:=@mem_ready
abbrev yK:=@ne_eq
abbrev yQ:=@not_true_eq_false
abbrev uc:=@of_decide_eq_false
abbrev yx:=@of_decide_eq_true
abbrev xM:=@or_false
abbrev uv:=@run_part_plain
abbrev pP:=@run_storeCells_at
abbrev qb:=@run_underlying
abbrev qq:=@setRow_heap
abbrev qR:=@setRow_other
abbrev po:=@size_madeCells
abbrev pH:=@size_zeroCells
abbrev qz:=@true_and
abbrev qX:=@wpIn_mono
def ziX {σ ρ:Type} (body:σ->Option (σ⊕ρ)):Nat->σ->Option ρ
 | 0,_=>none
 | n+1,s=>match body s with
  | none=>none
  | some (.inl s')=>ziX body n s'
  | some (.inr r)=>some r
open Classical in
noncomputable def zW {σ ρ:Type} (body:σ->Option (σ⊕ρ)) (s:σ):Option ρ:=
 match ziX body 9999 s with
 | some r=>some r
 | none=>if h:∃n r,ziX body n s=some r then ziX body h.choose s else none
theorem zGE {σ ρ:Type} {body:σ->Option (σ⊕ρ)} {n:Nat} {s:σ} {r:ρ} (h:ziX body n s=some r):ziX body (n+1) s=some r:=by
 induction n generalizing s with
 | zero=>simp [ziX] at h
 | succ n ih=>
  rw [ziX] at h|-
  grind
theorem zEw {σ ρ:Type} {body:σ->Option (σ⊕ρ)} {n m:Nat} {s:σ} {r:ρ} (h:ziX body n s=some r) (hm:n<=m):ziX body m s=some r:=by
 obtain ⟨k,rfl⟩:=Nat.exists_eq_add_of_le hm;clear hm
 induction k with
 | zero=>exact h
 | succ k ih=>exact zGE ih
theorem zwb {σ ρ:Type} {body:σ->Option (σ⊕ρ)} {n:Nat} {s:σ} {r:ρ} (h:ziX body n s=some r):zW body s=some r:=by
 have one:∀{m:Nat} {q:ρ},ziX body m s=some q->q=r:=fun {m q} hm=>by
  have h1:=zEw hm (Nat.le_max_left m n);have h2:=zEw h (Nat.le_max_right m n)
  grind
 have hex:∃n r,ziX body n s=some r:=⟨n,r,h⟩;obtain ⟨q,hq⟩:=hex.choose_spec;unfold zW;split
 ·rename_i hm;rw [one hm]
 ·rw [dif_pos hex,hq,one hq]
theorem zyx {σ ρ:Type} {body:σ->Option (σ⊕ρ)} {s:σ} {r:ρ} (h:zW body s=some r):∃n,ziX body n s=some r:=by
 unfold zW at h;split at h
 ·rename_i hm;exact ⟨_,hm.trans h⟩
 ·split at h
  ·exact ⟨_,h⟩
  ·cases h
theorem zz {σ ρ:Type} {body:σ->Option (σ⊕ρ)} {s s':σ} (h:body s=some (.inl s')):zW body s=zW body s':=by
 cases hw:zW body s' with
 | some r=>
  obtain ⟨n,hn⟩:=zyx hw;exact zwb (n:=n+1) (by rw [ziX,h];exact hn)
 | none=>
  cases hw':zW body s with
  | none=>rfl
  | some r=>
   obtain ⟨n,hn⟩:=zyx hw';cases n with
   | zero=>simp [ziX] at hn
   | succ n=>rw [ziX,h] at hn;rw [zwb hn] at hw;cases hw
theorem zA {σ ρ:Type} {body:σ->Option (σ⊕ρ)} {s:σ} {r:ρ} (h:body s=some (.inr r)):zW body s=some r:=
 zwb (n:=1) (by rw [ziX,h])
def upB {α:Type} (le:α->α->Bool):List α->Bool
 | []=>true
 | a::l=>l.all (le a)&&upB le l
def srt {α:Type} (le:α->α->Bool) (l:List α):List α:=if upB le l then l else l.mergeSort le
theorem zME {α:Type} {le:α->α->Bool}:∀{l:List α},upB le l=true->l.Pairwise fun a b=>le a b=true
 | [],_=> .nil
 | a::l,h=>by
  rw [upB,xw,xI] at h;exact .cons h.1 (zME h.2)
theorem zHo {α:Type} (le:α->α->Bool) (l:List α):srt le l=l.mergeSort le:=by
 unfold srt;split
 ·rw [List.mergeSort_of_pairwise (zME (by assumption))]
 ·rfl
def zoA {ν:Type} (m:List (Int×ν)):Option (List Int):=
 if (m.all fun p=>(Lit.int .i64 p.1).wf)=true/\m.length*8<=140737488355328 then some (srt (fun x y=>decide (x<=y)) (m.map Prod.fst)) else none
abbrev Rnd (σ χ:Type):=σ->χ->Option (Bool×σ)
def rnd {σ ρ χ:Type} (kb:σ->χ->Option (σ⊕ρ)):Rnd (σ⊕ρ) χ
 | .inl s,x=>match kb s x with
  | some (.inl s')=>some (true,.inl s')
  | some (.inr r)=>some (false,.inr r)
  | none=>none
 | .inr _,_=>none
theorem zGk {α β:Type} {x:Option α} {f:α->Option β} {r:β} (h:(x>>=f)=some r):∃a,x=some a/\f a=some r:=by
 cases x with
 | none=>cases h
 | some a=>exact ⟨a,rfl,h⟩
theorem zjw {α:Type} {c:Bool} {x y:Option α} {r:α} (h:(if c then x else y)=some r):(c=true/\x=some r)\/(c=false/\y=some r):=by
 grind
def idx {α:Type} (xs:List α) (i:Int):Option α:=if 0<=i then xs[i.toNat]? else none
def cut {α:Type} (xs:List α) (i j:Int):Option (List α):=if 0<=i/\i<=j/\j<=xs.length then some ((xs.drop i.toNat).take (j.toNat - i.toNat)) else none
def insO (xs:List UInt8) (i:Int) (ys:List UInt8):Option (List UInt8):=if 0<=i/\i<=xs.length/\xs.length+ys.length<=140737488355328 then some (xs.take i.toNat++ys++xs.drop i.toNat) else none
inductive LV where
 | int (k:IntKind) (n:Int)
 | bool (b:Bool)
 | str (l:List UInt8)
 | sl (n size:Nat) (ls:List LV)
 | val (v:Value)
abbrev Fp:=Nat->Prop
inductive zat (F:Fp) (w:World):LV->Value->Prop
 | int (k:IntKind) (n:Int):zat F w (.int k n) (.int k n)
 | bool (b:Bool):zat F w (.bool b) (.bool b)
 | str (l:List UInt8):zat F w (.str l) (.string ⟨l.toArray⟩)
 | val (v:Value) (h:v.oneCell'=true):zat F w (.val v) v
 | sl (n size:Nat) (ls:List LV) (A:Option Addr) (c:Nat) (cs:List Value) (hl:ls.length=n*size) (hcs:cs.length=n*size) (hc:n<=c) (hm:c<=maxLen)
   (hA:0<n->∃b off,A=some ⟨b,off,none⟩/\F b/\b<w.heap.size/\∀i,i<n*size->w.cell? ⟨b,off+i,none⟩=cs[i]?)
   (hr:∀(i:Nat) (l:LV) (u:Value),ls[i]? =some l->cs[i]? =some u->zat F w l u):
   zat F w (.sl n size ls) (.slice A n c)
def zX (F:Fp) (w:World) (ls:List LV) (cs:List Value):Prop:=ls.length=cs.length/\∀(i:Nat) (l:LV) (u:Value),ls[i]? =some l->cs[i]? =some u->zat F w l u
structure zxF (F:Fp) (w w':World):Prop where
 size:w.heap.size<=w'.heap.size
 block:∀b,b<w.heap.size->F b->w'.heap[b]? =w.heap[b]?
section
variable {F G:Fp} {w w':World}
theorem zxF.cell (h:zxF F w w') (hb:a.block<w.heap.size) (hF:F a.block):w'.cell? a=w.cell? a:=pI (h.block _ hb hF)
theorem zat.keep (h:zat F w l v) (hk:zxF F w w'):zat F w' l v:=by
 induction h with
 | int k n=>exact .int k n
 | bool b=>exact .bool b
 | str l=>exact .str l
 | val v h=>exact .val v h
 | sl n size ls A c cs hl hcs hc hm hA hr ih=>
  refine .sl n size ls A c cs hl hcs hc hm (fun hn=>?_) ih;obtain ⟨b,off,e,hF,hb,hcell⟩:=hA hn;exact ⟨b,off,e,hF,xV hb hk.size,fun i hi=>(hk.cell (a:=⟨b,off+i,none⟩) hb hF).trans (hcell i hi)⟩
theorem zat.mono (h:zat F w l v) (hG:∀b,b<w.heap.size->F b->G b):zat G w l v:=by
 induction h with
 | int k n=>exact .int k n
 | bool b=>exact .bool b
 | str l=>exact .str l
 | val v h=>exact .val v h
 | sl n size ls A c cs hl hcs hc hm hA hr ih=>
  refine .sl n size ls A c cs hl hcs hc hm (fun hn=>?_) ih
  grind
theorem zat.one (h:zat F w l v):v.oneCell'=true:=by
 cases h<;>first| rfl| assumption
theorem zX.keep (h:zX F w ls cs) (hk:zxF F w w'):zX F w' ls cs:=⟨h.1,fun i l u h1 h2=>(h.2 i l u h1 h2).keep hk⟩
theorem zX.mono (h:zX F w ls cs) (hG:∀b,b<w.heap.size->F b->G b):zX G w ls cs:=⟨h.1,fun i l u h1 h2=>(h.2 i l u h1 h2).mono hG⟩
theorem zX.nil:zX F w [] []:=⟨rfl,fun i l u h1=>by simp at h1⟩
theorem zX.append (h:zX F w ls cs) (k:zX F w ms ds):zX F w (ls++ms) (cs++ds):=by
 refine ⟨by rw [xz,xz,h.1,k.1],fun i l u h1 h2=>?_⟩;rw [pJ] at h1 h2;rw [h.1] at h1;split at h1
 ·rename_i hi;rw [xr hi] at h2;exact h.2 i l u h1 h2
 ·rename_i hi;rw [xq hi] at h2;exact k.2 _ l u h1 h2
theorem zX.drop (h:zX F w ls cs) (k:Nat):zX F w (ls.drop k) (cs.drop k):=
 ⟨by simp [h.1],fun i l u h1 h2=>h.2 (k+i) l u (by simpa using h1) (by simpa using h2)⟩
theorem zX.take (h:zX F w ls cs) (k:Nat):zX F w (ls.take k) (cs.take k):=by
 refine ⟨by simp [h.1],fun i l u h1 h2=>?_⟩;rw [yX] at h1 h2;split at h1
 ·rename_i hi;rw [xr hi] at h2;exact h.2 i l u h1 h2
 ·cases h1
theorem zX.cons (h:zat F w l v) (k:zX F w ls cs):zX F w (l::ls) (v::cs):=
 zX.append (ls:=[l]) (cs:=[v]) ⟨rfl,fun i l' u h1 h2=>by
  cases i with
  | zero=>simp at h1 h2;subst h1 h2;exact h
  | succ i=>simp at h1⟩ k
theorem zX.one (h:zX F w ls cs):∀u∈cs,u.oneCell'=true:=by
 intro u hu;obtain ⟨i,hi,rfl⟩:=qE hu;exact (h.2 i _ _ (xN (by rw [h.1];exact hi)) (xN hi)).one
theorem zX.head (h:zX F w (l::ls) cs):∃v cs',cs=v::cs'/\zat F w l v/\zX F w ls cs':=by
 cases cs with
 | nil=>have:=h.1;simp at this
 | cons v cs'=>exact ⟨v,cs',rfl,h.2 0 l v rfl rfl,h.drop 1⟩
theorem zX.single (h:zX F w [l] cs):∃v,cs=[v]/\zat F w l v:=by
 obtain ⟨v,cs',rfl,h1,h2⟩:=h.head;have:=h2.1;cases cs' with
 | nil=>exact ⟨v,rfl,h1⟩
 | cons=>simp at this
end
structure Rp (α:Type) where
 size:Nat
 agg:Bool
 lv:α->List LV
 len:∀x,(lv x).length=size
 pos:0<size
theorem Rp.flat {α:Type} (r:Rp α) (xs:List α):(xs.flatMap r.lv).length=xs.length*r.size:=by
 induction xs with
 | nil=>simp
 | cons x xs ih=>simp only [xE,xz,ih,r.len,yk,qI];omega
theorem Rp.flat_drop {α:Type} (r:Rp α) (xs:List α) (k:Nat):(xs.drop k).flatMap r.lv=(xs.flatMap r.lv).drop (k*r.size):=by
 induction k generalizing xs with
 | zero=>simp
 | succ k ih=>
  cases xs with
  | nil=>simp
  | cons x xs=>
   have hx:=r.len x;rw [List.drop_succ_cons,ih,xE,List.drop_append,hx,qI];simp_all
theorem Rp.flat_take {α:Type} (r:Rp α) (xs:List α) (k:Nat):(xs.take k).flatMap r.lv=(xs.flatMap r.lv).take (k*r.size):=by
 induction k generalizing xs with
 | zero=>simp
 | succ k ih=>
  cases xs with
  | nil=>simp
  | cons x xs=>
   have hx:=r.len x;rw [yZ,xE,ih,xE,qV,hx,qI]
   grind
theorem Rp.flat_at {α:Type} (r:Rp α) (xs:List α) (k:Nat) (x:α) (h:xs[k]? =some x):((xs.flatMap r.lv).drop (k*r.size)).take r.size=r.lv x:=by
 rw [<-r.flat_drop];have hk:k<xs.length:=(yA.1 h).1;have e:xs.drop k=x::xs.drop (k+1):=by
  rw [yf hk]
  grind
 have hx:=r.len x
 grind
def Rp.byte:Rp UInt8:=⟨1,false,fun c=>[.int .u8 c.toNat],fun _=>rfl,qH⟩
def Rp.int (k:IntKind):Rp Int:=⟨1,false,fun n=>[.int k n],fun _=>rfl,qH⟩
def Rp.bool:Rp Bool:=⟨1,false,fun n=>[.bool n],fun _=>rfl,qH⟩
def Rp.str:Rp (List UInt8):=⟨1,false,fun n=>[.str n],fun _=>rfl,qH⟩
def Rp.list {α:Type} (r:Rp α):Rp (List α):=⟨1,false,fun xs=>[.sl xs.length r.size (xs.flatMap r.lv)],fun _=>rfl,qH⟩
structure Gh where
 col:Nat->Nat
 box:Nat->Nat
def Gh.F (γ:Gh) (C:List Nat):Fp:=fun b=>γ.col b∈C
structure Cu where
 R:List Nat->List Nat->Nat->Gh->World->Value->Prop
 one:∀{C1 C2:List Nat} {ℓ:Nat} {γ:Gh} {w:World} {v:Value},R C1 C2 ℓ γ w v->v.oneCell'=true
 move:∀{C1 C2 C1' C2':List Nat} {ℓ ℓ':Nat} {γ γ':Gh} {w w':World} {v:Value},w.heap.size<=w'.heap.size->(∀b,b<w.heap.size->γ.col b∈ℓ::(C1++C2)->w'.heap[b]? =w.heap[b]?)->(∀b,b<w.heap.size->γ.col b=ℓ->γ'.col b=ℓ')->
  (∀b,b<w.heap.size->γ.F C1 b->γ'.F C1' b)->(∀b,b<w.heap.size->γ.F C2 b->γ'.F C2' b)->γ'.box ℓ'=γ.box ℓ->R C1 C2 ℓ γ w v->R C1' C2' ℓ' γ' w' v
inductive AV:Type 1 where
 | any
 | lf (l:LV)
 | sl {α:Type} (r:Rp α) (C:List Nat) (xs:List α)
 | own {α:Type} (r:Rp α) (e:TypeId) (ℓ:Nat) (C:List Nat) (xs:List α)
 | rc {α:Type} (r:Rp α) (C:List Nat) (x:α)
 | ep {α:Type} (r:Rp α) (C:List Nat) (x:α) (off:Nat)
 | ptr (ℓ off:Nat)
 | mp {κ ν:Type} (rk:Rp κ) (rv:Rp ν) (C:List Nat) (m:List (κ×ν))
 | om {κ ν:Type} (rk:Rp κ) (rv:Rp ν) (ℓ:Nat) (C:List Nat) (m:List (κ×ν))
 | tup (l:List AV)
 | ag (l:List AV)
 | fv (g:Nat) (l:List AV)
 | bp {α:Type} (r:Rp α) (t:TypeId) (ℓ:Nat) (C:List Nat) (x:α)
 | it {κ ν:Type} (rk:Rp κ) (rv:Rp ν) (ℓ:Nat) (C:List Nat) (last left:List (κ×ν))
 | bs (ℓ n:Nat)
 | tl (ℓ off n:Nat)
 | qp {α:Type} (r:Rp α) (C:List Nat) (o:Option α)
 | em {κ ν:Type} (rk:Rp κ) (rv:Rp ν) (C:List Nat) (m:List (κ×ν))
 | mo {κ α:Type} [DecidableEq κ] (rk:Rp κ) (r:Rp α) (e:TypeId) (ℓ:Nat) (C:List Nat) (m:List (κ×List α))
 | cu (c:Cu) (ℓ:Nat) (C1 C2:List Nat)
def LV.plain:LV->Bool
 | .sl ..=>false
 | _=>true
theorem zat.plain (h:zat F w l v) (hp:l.plain=true):zat G w' l v:=by
 cases h with
 | int k n=>exact .int k n
 | bool b=>exact .bool b
 | str l=>exact .str l
 | val v h=>exact .val v h
 | sl=>cases hp
def VRel {α:Type} (F:Fp) (w:World) (r:Rp α) (x:α) (v:Value):Prop:=zX F w (r.lv x) v.cells.toList/\(r.agg=true->∃cs:List Value,v= .agg cs.toArray)/\(r.agg=false->v.cells=#[v])
theorem VRel.mono {α:Type} {F G:Fp} {w:World} {r:Rp α} {x:α} {v:Value} (h:VRel F w r x v) (hG:∀b,b<w.heap.size->F b->G b):VRel G w r x v:=⟨h.1.mono hG,h.2⟩
theorem VRel.keep {α:Type} {F:Fp} {w w':World} {r:Rp α} {x:α} {v:Value} (h:VRel F w r x v) (hk:zxF F w w'):VRel F w' r x v:=⟨h.1.keep hk,h.2⟩
inductive zda {κ ν:Type} (F:Fp) (w:World) (rk:Rp κ) (rv:Rp ν):List (κ×ν)->List MapEntry->Prop
 | nil:zda F w rk rv [] []
 | cons {p:κ×ν} {m:List (κ×ν)} {e:MapEntry} {es:List MapEntry} (h1:VRel F w rk p.1 e.key) (h2:VRel F w rv p.2 e.val) (h:zda F w rk rv m es):zda F w rk rv (p::m) (e::es)
theorem zda.mono {κ ν:Type} {F G:Fp} {w:World} {rk:Rp κ} {rv:Rp ν} {m:List (κ×ν)} {es:List MapEntry} (h:zda F w rk rv m es) (hG:∀b,b<w.heap.size->F b->G b):zda G w rk rv m es:=by
 induction h with
 | nil=>exact .nil
 | cons h1 h2 _ ih=>exact .cons (h1.mono hG) (h2.mono hG) ih
theorem zda.keep {κ ν:Type} {F:Fp} {w w':World} {rk:Rp κ} {rv:Rp ν} {m:List (κ×ν)} {es:List MapEntry} (h:zda F w rk rv m es) (hk:zxF F w w'):zda F w' rk rv m es:=by
 induction h with
 | nil=>exact .nil
 | cons h1 h2 _ ih=>exact .cons (h1.keep hk) (h2.keep hk) ih
def StOk {κ ν:Type} (m:List (κ×ν)) (es:Array MapEntry) (cl:Nat):Prop:=(∀x∈es.toList,x.born<cl)/\(es.toList.map (·.born)).Nodup/\(m.map Prod.fst).Nodup
def mget {κ ν:Type} [DecidableEq κ]:List (κ×ν)->κ->Option ν
 | [],_=>none
 | p::m,k=>if k=p.1 then some p.2 else mget m k
def mput {κ ν:Type} [DecidableEq κ]:List (κ×ν)->κ->ν->List (κ×ν)
 | [],k,x=>[(k,x)]
 | p::m,k,x=>if k=p.1 then (k,x)::m else p::mput m k x
def Rp.valR:Rp Value:=⟨1,false,fun v=>[.val v],fun _=>rfl,by decide⟩
def zsL {α:Type} (γ:Gh) (w:World) (r:Rp α) (e:TypeId) (ℓ:Nat) (C:List Nat) (xs:List α) (v:Value):Prop:=
 ∃cs,w.ownsRow 0 e r.size v xs.length cs/\(∀g,v.ownBlock=some g->γ.col g=ℓ)/\zX (γ.F C) w (xs.flatMap r.lv) cs
def zMR {α:Type} (γ:Gh) (w:World) (r:Rp α) (C:List Nat) (xs:List α) (v:Value):Prop:=
 (∃A,v= .slice A xs.length xs.length)/\zat (γ.F C) w (.sl xs.length r.size (xs.flatMap r.lv)) v
def RowX {α:Type} (γ:Gh) (w:World) (r:Rp α) (e:TypeId) (ℓ:Nat) (C:List Nat) (o:Prop) (xs:List α) (v:Value):Prop:=
 (o/\zsL γ w r e ℓ C xs v)\/(¬o/\zMR γ w r C xs v)
def zCg (u v:Value):Prop:=∀g,u.ownBlock=some g->v.ownBlock≠some g
structure zOV {κ α:Type} [DecidableEq κ] (γ:Gh) (w:World) (r:Rp α) (e:TypeId) (ℓ:Nat) (C:List Nat) (S O:κ->Prop) (m:List (κ×List α)) (n:List (κ×Value)):Prop where
 keys:m.map Prod.fst=n.map Prod.fst
 row:∀k xs u,mget m k=some xs->mget n k=some u->S k->RowX γ w r e ℓ C (O k) xs u
 apart:∀j k u v,j≠k->mget n j=some u->mget n k=some v->S j->S k->O j->O k->zCg u v
def MoIn {κ α:Type} [DecidableEq κ] (γ:Gh) (w:World) (rk:Rp κ) (r:Rp α) (e:TypeId) (ℓ:Nat) (C:List Nat) (S O:κ->Prop) (m:List (κ×List α)) (b:Nat) (n:List (κ×Value)):Prop:=
 ∃es cl,(γ.col b=ℓ/\γ.box ℓ=b)/\b<w.heap.size/\w.heap[b]? =some (.map es cl)/\StOk n es cl/\zda (γ.F C) w rk Rp.valR n es.toList/\zOV γ w r e ℓ C S O m n/\ℓ∉C
def zQm {κ ν:Type} (F:Fp) (w:World) (rk:Rp κ) (rv:Rp ν) (last left:List (κ×ν)) (b r:Nat):Prop:=
 ∃es cl seen since c0 ls la,w.heap[r]? =some (.mapIter (some b) since seen c0)/\w.heap[b]? =some (.map es cl)/\(∀x∈es.toList,x.born<since)/\(es.toList.map (·.born)).Nodup/\since<=c0/\since<=cl/\
  ls.Perm (leftOf es seen).toList/\zda F w rk rv left ls/\zda F w rk rv last la/\∀e∈la,e∈es.toList/\(∃se:Array Nat,seen=se.push e.born)/\c0=cl
mutual
def AV.rel (γ:Gh) (w:World):AV->Value->Prop
 | .any,_=>True
 | .lf l,v=>l.plain=true/\zat (fun _=>False) w l v
 | .sl r C xs,v=>zat (γ.F C) w (.sl xs.length r.size (xs.flatMap r.lv)) v
 | .own r e ℓ C xs,v=>∃cs,w.ownsRow 0 e r.size v xs.length cs/\(∀g,v.ownBlock=some g->γ.col g=ℓ/\γ.box ℓ=g)/\zX (γ.F C) w (xs.flatMap r.lv) cs/\ℓ∉C
 | .rc r C x,v=>∃cs,v= .agg cs.toArray/\zX (γ.F C) w (r.lv x) cs
 | .ep r C x off,v=>∃b o cs,v= .pointer (some ⟨b,o+off,none⟩)/\γ.col b∈C/\b<w.heap.size/\zX (γ.F C) w (r.lv x) cs/\∀i,i<cs.length->w.cell? ⟨b,o+i,none⟩=cs[i]?
 | .ptr ℓ off,v=>v= .pointer (some ⟨γ.box ℓ,off,none⟩)
 | .bs ℓ n,v=>v= .slice (some ⟨γ.box ℓ,0,none⟩) n n
 | .tl ℓ off n,v=>∃A c,v= .slice A n c/\(0<n->A=some ⟨γ.box ℓ,off,none⟩)
 | .qp r C o,v=>match o with
  | none=>v= .pointer none
  | some x=>∃b cs,v= .pointer (some ⟨b,0,none⟩)/\γ.col b∈C/\b<w.heap.size/\zX (γ.F C) w (r.lv x) cs/\∀i,i<cs.length->w.cell? ⟨b,0+i,none⟩=cs[i]?
 | .mp rk rv C m,v=>∃b es cl,v= .map (some b)/\γ.col b∈C/\b<w.heap.size/\(w.heap[b]? =some (.map es cl)/\StOk m es cl)/\zda (γ.F C) w rk rv m es.toList
 | .em rk rv C m,v=>∃a b es cl,v= .pointer (some ⟨a,0,none⟩)/\γ.col a∈C/\a<w.heap.size/\w.cell? ⟨a,0,none⟩=some (.map (some b))/\γ.col b∈C/\b<w.heap.size/\(w.heap[b]? =some (.map es cl)/\StOk m es cl)/\zda (γ.F C) w rk rv m es.toList
 | .om rk rv ℓ C m,v=>∃b es cl,v= .map (some b)/\(γ.col b=ℓ/\γ.box ℓ=b)/\b<w.heap.size/\(w.heap[b]? =some (.map es cl)/\StOk m es cl)/\zda (γ.F C) w rk rv m es.toList/\ℓ∉C
 | @AV.mo _ _ _ rk r e ℓ C m,v=>∃b n O,v= .map (some b)/\MoIn γ w rk r e ℓ C (fun _=>True) O m b n
 | .cu c ℓ C1 C2,v=>c.R C1 C2 ℓ γ w v
 | .tup l,v=>∃vs:List Value,v= .tuple vs.toArray/\AV.relL γ w l vs
 | .ag l,v=>∃vs:List Value,v= .agg vs.toArray/\AV.relL γ w l vs/\∀u∈vs,u.oneCell'=true
 | .fv g l,v=>∃vs:List Value,v= .func (.func g) #[] vs.toArray/\AV.relL γ w l vs
 | .bp r t ℓ C x,v=>∃b cs,v= .pointer (some ⟨b,0,none⟩)/\(γ.col b=ℓ/\γ.box ℓ=b)/\b<w.heap.size/\w.heap[b]? =some (.cells cs t (0,0))/\(∀u∈cs.toList,u.oneCell'=true)/\zX (γ.F C) w (r.lv x) cs.toList
 | .it rk rv ℓ C last left,v=>∃r b,v= .pointer (some ⟨r,0,none⟩)/\(γ.col r=ℓ/\γ.box ℓ=r)/\r<w.heap.size/\γ.col b∈C/\b<w.heap.size/\zQm (γ.F C) w rk rv last left b r/\ℓ∉C
def AV.relL (γ:Gh) (w:World):List AV->List Value->Prop
 | [],vs=>vs=[]
 | a::l,vs=>∃v vs',vs=v::vs'/\AV.rel γ w a v/\AV.relL γ w l vs'
end
mutual
/-- The colors that a reading looks at. -/
def AV.cols:AV->List Nat
 | .any| .lf _| .ptr _ _| .bs _ _| .tl _ _ _=>[]
 | .sl _ C _| .rc _ C _| .ep _ C _ _| .qp _ C _=>C
 | .own _ _ ℓ C _=>ℓ::C
 | .mp _ _ C _| .em _ _ C _=>C
 | .om _ _ ℓ C _=>ℓ::C
 | @AV.mo _ _ _ _ _ _ ℓ C _=>ℓ::C
 | .cu _ ℓ C1 C2=>ℓ::(C1++C2)
 | .tup l=>AV.colsL l
 | .ag l=>AV.colsL l
 | .fv _ l=>AV.colsL l
 | .bp _ _ ℓ C _=>ℓ::C
 | .it _ _ ℓ C _ _=>ℓ::C
def AV.colsL:List AV->List Nat
 | []=>[]
 | a::l=>AV.cols a++AV.colsL l
end
mutual
/-- The boxes that it points into. -/
def AV.labs:AV->List Nat
 | .ptr ℓ _=>[ℓ]
 | .bs ℓ _=>[ℓ]
 | .tl ℓ _ _=>[ℓ]
 | .own _ _ ℓ _ _=>[ℓ]
 | .om _ _ ℓ _ _=>[ℓ]
 | @AV.mo _ _ _ _ _ _ ℓ _ _=>[ℓ]
 | .cu _ ℓ _ _=>[ℓ]
 | .tup l=>AV.labsL l
 | .ag l=>AV.labsL l
 | .fv _ l=>AV.labsL l
 | .bp _ _ ℓ _ _=>[ℓ]
 | .it _ _ ℓ _ _ _=>[ℓ]
 | _=>[]
def AV.labsL:List AV->List Nat
 | []=>[]
 | a::l=>AV.labs a++AV.labsL l
end
structure Tr (W V:List Nat) (γ:Gh) (w:World) (γ':Gh) (w':World):Prop where
 os:w'.os=w.os
 tape:w'.tape=w.tape
 output:w'.output=w.output
 size:w.heap.size<=w'.heap.size
 block:∀b,b<w.heap.size->γ.col b∉W->w'.heap[b]? =w.heap[b]?
 col:∀b,b<w.heap.size->γ'.col b=γ.col b
 box:∀ℓ,ℓ∉V->γ'.box ℓ=γ.box ℓ
 fresh:∀b,w.heap.size<=b->b<w'.heap.size->γ'.col b=0->0∈W\/0∈V
section
variable {W V:List Nat} {γ γ':Gh} {w w':World}
theorem Tr.refl (W V:List Nat) (γ:Gh) (w:World):Tr W V γ w γ w:=⟨rfl,rfl,rfl,xx _,fun _ _ _=>rfl,fun _ _=>rfl,fun _ _=>rfl,fun b h1 h2=>by omega⟩
theorem Tr.lv (h:Tr W V γ w γ' w') (hC:∀c∈C,c∉W) (hl:zat (γ.F C) w l v):zat (γ'.F C) w' l v:=by
 have h1:zat (fun b=>γ.F C b/\b<w.heap.size) w l v:=hl.mono fun b hb hF=>⟨hF,hb⟩
 refine (h1.keep (w':=w') ⟨h.size,fun b hb hF=>h.block b hb (hC _ hF.1)⟩).mono fun b hb hF=>?_
 show γ'.col b∈C;rw [h.col b hF.2];exact hF.1
theorem Tr.all (h:Tr W V γ w γ' w') (hC:∀c∈C,c∉W) (hl:zX (γ.F C) w ls cs):zX (γ'.F C) w' ls cs:=
 ⟨hl.1,fun i l u h1 h2=>h.lv hC (hl.2 i l u h1 h2)⟩
theorem Tr.es (h:Tr W V γ w γ' w') {C:List Nat} (hC:∀c∈C,c∉W) {κ ν:Type} {rk:Rp κ} {rv:Rp ν} {m:List (κ×ν)} {es:List MapEntry} (hl:zda (γ.F C) w rk rv m es):zda (γ'.F C) w' rk rv m es:=by
 induction hl with
 | nil=>exact .nil
 | cons h1 h2 _ ih=>exact .cons ⟨h.all hC h1.1,h1.2⟩ ⟨h.all hC h2.1,h2.2⟩ ih
theorem zjC (ho:w.ownsRow base e size v n cs) (hb:∀g,v.ownBlock=some g->w'.heap[g]? =w.heap[g]?):w'.ownsRow base e size v n cs:=by
 refine ⟨ho.1,?_⟩;rcases ho.2 with hn| ⟨g,kC,kM,rfl,hg,hh,kl⟩
 ·exact .inl hn
 ·exact .inr ⟨g,kC,kM,rfl,hg,(hb g rfl).trans hh,kl⟩
theorem MoIn.off {κ α:Type} [DecidableEq κ] {γ:Gh} {w:World} {rk:Rp κ} {r:Rp α} {e:TypeId} {ℓ:Nat} {C:List Nat} {S O:κ->Prop} {m:List (κ×List α)} {b:Nat} {n:List (κ×Value)} (h:MoIn γ w rk r e ℓ C S O m b n):ℓ∉C:=by
 obtain ⟨es,cl,_,_,_,_,_,_,hn⟩:=h;exact hn
theorem RowX.regh {α:Type} {γ γ':Gh} {w:World} {r:Rp α} {e:TypeId} {ℓ ℓ':Nat} {C C':List Nat} {o:Prop} {xs:List α} {v:Value} (h1:∀b,b<w.heap.size->γ.col b=ℓ->γ'.col b=ℓ')
  (h2:∀b,b<w.heap.size->γ.col b∈C->γ'.col b∈C') (h:RowX γ w r e ℓ C o xs v):RowX γ' w r e ℓ' C' o xs v:=by
 rcases h with ⟨ho,cs,hw,hg,hA⟩| ⟨ho,hv,hL⟩
 ·exact .inl ⟨ho,cs,hw,fun g kH=>h1 g (hw.lt g kH).2 (hg g kH),hA.mono h2⟩
 ·exact .inr ⟨ho,hv,hL.mono h2⟩
theorem MoIn.regh {κ α:Type} [DecidableEq κ] {γ γ':Gh} {w:World} {rk:Rp κ} {r:Rp α} {e:TypeId} {ℓ ℓ':Nat} {C C':List Nat} {S O:κ->Prop} {m:List (κ×List α)} {b:Nat} {n:List (κ×Value)} (h1:∀b,b<w.heap.size->γ.col b=ℓ->γ'.col b=ℓ')
  (h2:∀b,b<w.heap.size->γ.col b∈C->γ'.col b∈C') (h3:γ'.box ℓ'=γ.box ℓ) (h4:ℓ'∉C') (h:MoIn γ w rk r e ℓ C S O m b n):MoIn γ' w rk r e ℓ' C' S O m b n:=by
 obtain ⟨es,cl,⟨g1,g2⟩,hb,hh,hO,hE,hR,_⟩:=h;exact ⟨es,cl,⟨h1 b hb g1,h3.trans g2⟩,hb,hh,hO,hE.mono h2,⟨hR.keys,fun k xs u a1 a2 a3=>(hR.row k xs u a1 a2 a3).regh h1 h2,hR.apart⟩,h4⟩
theorem zsL.keep (h:Tr W V γ w γ' w') {α:Type} {r:Rp α} {e:TypeId} {ℓ:Nat} {C:List Nat} {xs:List α} {v:Value} (h1:ℓ∉W) (h2:∀c∈C,c∉W) (hr:zsL γ w r e ℓ C xs v):zsL γ' w' r e ℓ C xs v:=by
 obtain ⟨cs,ho,hg,hA⟩:=hr;have km:=ho.lt;exact ⟨cs,zjC ho fun g kH=>h.block g (km g kH).2 (by rw [hg g kH];exact h1),fun g kH=>by rw [h.col g (km g kH).2];exact hg g kH,h.all h2 hA⟩
theorem RowX.keep (h:Tr W V γ w γ' w') {α:Type} {r:Rp α} {e:TypeId} {ℓ:Nat} {C:List Nat} {o:Prop} {xs:List α} {v:Value} (h1:ℓ∉W) (h2:∀c∈C,c∉W) (hr:RowX γ w r e ℓ C o xs v):RowX γ' w' r e ℓ C o xs v:=by
 rcases hr with ⟨ho,hr⟩| ⟨ho,hv,hL⟩
 ·exact .inl ⟨ho,hr.keep h h1 h2⟩
 ·exact .inr ⟨ho,hv,h.lv h2 hL⟩
theorem MoIn.keep (h:Tr W V γ w γ' w') {κ α:Type} [DecidableEq κ] {rk:Rp κ} {r:Rp α} {e:TypeId} {ℓ:Nat} {C:List Nat} {S O:κ->Prop} {m:List (κ×List α)} {b:Nat} {n:List (κ×Value)} (h1:ℓ∉W) (h2:∀c∈C,c∉W) (h3:ℓ∉V)
  (hr:MoIn γ w rk r e ℓ C S O m b n):MoIn γ' w' rk r e ℓ C S O m b n:=by
 obtain ⟨es,cl,⟨g1,g2⟩,hb,hh,hO,hE,hR,hn⟩:=hr;exact ⟨es,cl,⟨by rw [h.col b hb];exact g1,by rw [h.box ℓ h3];exact g2⟩,xV hb h.size,(h.block b hb (by rw [g1];exact h1)).trans hh,hO,h.es h2 hE,⟨hR.keys,fun k xs u a1 a2 a3=>(hR.row k xs u a1 a2 a3).keep h h1 h2,hR.apart⟩,hn⟩
mutual
theorem AV.keep (a:AV) {v:Value} (h:Tr W V γ w γ' w') (hc:∀c∈a.cols,c∉W) (hl:∀c∈a.labs,c∉V) (hr:a.rel γ w v):a.rel γ' w' v:=by
 match a with
 | .any=>trivial
 | .lf l=>exact ⟨hr.1,hr.2.plain hr.1⟩
 | .sl r C xs=>exact h.lv hc hr
 | .own r e ℓ C xs=>
  obtain ⟨cs,ho,hg,hA,hn⟩:=hr;have km:=ho.lt;refine ⟨cs,zjC ho fun g kH=>h.block g (km g kH).2 ?_,fun g kH=>?_,h.all (fun c hC=>hc c (xu _ hC)) hA,hn⟩
  ·rw [(hg g kH).1];exact hc ℓ xt
  ·rw [h.col g (km g kH).2,h.box ℓ (hl ℓ xt)];exact hg g kH
 | .rc r C x=>
  obtain ⟨cs,hv,hA⟩:=hr;exact ⟨cs,hv,h.all hc hA⟩
 | .ep r C x off=>
  obtain ⟨b,o,cs,hv,hF,hb,hA,hcell⟩:=hr;refine ⟨b,o,cs,hv,by rw [h.col b hb];exact hF,xV hb h.size,h.all hc hA,fun i hi=>?_⟩;rw [<-hcell i hi];exact pI (h.block b hb (hc _ hF))
 | .ptr ℓ off=>
  show v=_;rw [h.box ℓ (hl ℓ xt)];exact hr
 | .bs ℓ n=>
  show v=_;rw [h.box ℓ (hl ℓ xt)];exact hr
 | .tl ℓ off n=>
  obtain ⟨A,c,hv,hA⟩:=hr;exact ⟨A,c,hv,fun hn=>by rw [h.box ℓ (hl ℓ xt)];exact hA hn⟩
 | .qp r C o=>
  cases o with
  | none=>exact hr
  | some x=>
   obtain ⟨b,cs,hv,hF,hb,hA,hcell⟩:=hr;refine ⟨b,cs,hv,by rw [h.col b hb];exact hF,xV hb h.size,h.all hc hA,fun i hi=>?_⟩;rw [<-hcell i hi];exact pI (h.block b hb (hc _ hF))
 | .mp rk rv C m=>
  obtain ⟨b,es,cl,hv,hF,hb,hh,hE⟩:=hr;exact ⟨b,es,cl,hv,by rw [h.col b hb];exact hF,xV hb h.size,⟨(h.block b hb (hc _ hF)).trans hh.1,hh.2⟩,h.es hc hE⟩
 | .em rk rv C m=>
  obtain ⟨a,b,es,cl,hv,hFa,ha,hc1,hF,hb,hh,hE⟩:=hr;exact ⟨a,b,es,cl,hv,by rw [h.col a ha];exact hFa,xV ha h.size,(pI (h.block a ha (hc _ hFa))).trans hc1,by rw [h.col b hb];exact hF,xV hb h.size,⟨(h.block b hb (hc _ hF)).trans hh.1,hh.2⟩,h.es hc hE⟩
 | .om rk rv ℓ C m=>
  obtain ⟨b,es,cl,hv,⟨hF,hbx⟩,hb,hh,hE,hn⟩:=hr;exact ⟨b,es,cl,hv,⟨by rw [h.col b hb];exact hF,by rw [h.box ℓ (hl ℓ xt)];exact hbx⟩,xV hb h.size,⟨(h.block b hb (by rw [hF];exact hc ℓ xt)).trans hh.1,hh.2⟩,h.es (fun c hC=>hc c (xu _ hC)) hE,hn⟩
 | @AV.mo _ _ _ rk r e ℓ C m=>
  obtain ⟨b,n,O,hv,hm⟩:=hr;exact ⟨b,n,O,hv,hm.keep h (hc ℓ xt) (fun c hC=>hc c (xu _ hC)) (hl ℓ xt)⟩
 | .cu c ℓ C1 C2=>
  refine c.move h.size (fun b hb hc'=>h.block b hb (hc _ hc')) (fun b hb e=>by rw [h.col b hb];exact e) (fun b hb hF=>?_) (fun b hb hF=>?_) (h.box ℓ (hl ℓ xt)) hr
  ·show γ'.col b∈C1;rw [h.col b hb];exact hF
  ·show γ'.col b∈C2;rw [h.col b hb];exact hF
 | .tup l=>
  obtain ⟨vs,hv,hL⟩:=hr;exact ⟨vs,hv,AV.keepL l h hc hl hL⟩
 | .ag l=>
  obtain ⟨vs,hv,hL,h1⟩:=hr;exact ⟨vs,hv,AV.keepL l h hc hl hL,h1⟩
 | .fv g l=>
  obtain ⟨vs,hv,hL⟩:=hr;exact ⟨vs,hv,AV.keepL l h hc hl hL⟩
 | .bp r t ℓ C x=>
  obtain ⟨b,cs,hv,⟨hF,hbx⟩,hb,hh,h1,hA⟩:=hr;exact ⟨b,cs,hv,⟨by rw [h.col b hb];exact hF,by rw [h.box ℓ (hl ℓ xt)];exact hbx⟩,xV hb h.size,(h.block b hb (by rw [hF];exact hc ℓ xt)).trans hh,h1,h.all (fun c hC=>hc c (xu _ hC)) hA⟩
 | .it rk rv ℓ C last left=>
  obtain ⟨r,b,hv,⟨g1,g2⟩,hr',hF,hb,⟨es,cl,seen,since,c0,ls,la,i1,i2,i3,i4,i5,i6,i7,i8,i9,i10⟩,hn⟩:=hr;have hC:∀c∈C,c∉W:=fun c h1=>hc c (xu _ h1)
  exact ⟨r,b,hv,⟨by rw [h.col r hr'];exact g1,by rw [h.box ℓ (hl ℓ xt)];exact g2⟩,xV hr' h.size,by rw [h.col b hb];exact hF,xV hb h.size,
   ⟨es,cl,seen,since,c0,ls,la,(h.block r hr' (by rw [g1];exact hc ℓ xt)).trans i1,(h.block b hb (hC _ hF)).trans i2,i3,i4,i5,i6,i7,h.es hC i8,h.es hC i9,i10⟩,hn⟩
theorem AV.keepL (l:List AV) (h:Tr W V γ w γ' w') (hc:∀c∈AV.colsL l,c∉W) (hl:∀c∈AV.labsL l,c∉V) (hr:AV.relL γ w l vs):AV.relL γ' w' l vs:=by
 match l with
 | []=>exact hr
 | a::l=>
  obtain ⟨v,vs',rfl,h1,h2⟩:=hr
  exact ⟨v,vs',rfl,AV.keep a h (fun c hC=>hc c (yq _ hC)) (fun c hC=>hl c (yq _ hC)) h1,
   AV.keepL l h (fun c hC=>hc c (yl _ hC)) (fun c hC=>hl c (yl _ hC)) h2⟩
end
theorem Tr.trans (h:Tr W V γ w γ' w') (k:Tr W' V' γ' w' γ'' w''):Tr (W++W') (V++V') γ w γ'' w'':=by
 refine ⟨k.os.trans h.os,k.tape.trans h.tape,k.output.trans h.output,yg h.size k.size,fun b hb hn=>?_,fun b hb=>?_,fun ℓ hn=>?_,fun b h1 h2 h0=>?_⟩
 ·simp only [xF,not_or] at hn;rw [k.block b (xV hb h.size) (by rw [h.col b hb];exact hn.2),h.block b hb hn.1]
 ·rw [k.col b (xV hb h.size),h.col b hb]
 ·simp only [xF,not_or] at hn;rw [k.box ℓ hn.2,h.box ℓ hn.1]
 ·simp only [xF];by_cases hb:b<w'.heap.size
  ·rcases h.fresh b h1 hb (by rw [<-k.col b hb];exact h0) with e| e
   ·grind
   grind
  ·rcases k.fresh b (qg hb) h2 h0 with e| e
   ·grind
   grind
end
structure Bx where
 lab:Nat
 typ:TypeId
 avs:List AV
def Bx.rel (γ:Gh) (w:World) (b:Bx):Prop:=
 γ.col (γ.box b.lab)=b.lab/\∃cs:List Value,w.heap[γ.box b.lab]? =some (.cells cs.toArray b.typ (0,0))/\AV.relL γ w b.avs cs/\∀u∈cs,u.oneCell'=true
structure Env where
 sl:List (Nat×AV)
 bx:List Bx
def memN (c:Nat):List Nat->Bool
 | []=>false
 | x::l=>Nat.beq c x|| memN c l
theorem zaf :memN c l=true↔c∈l:=by
 induction l with
 | nil=>simp [memN]
 | cons x l ih=>simp [memN,ih]
def AV.free (W V:List Nat) (a:AV):Bool:=a.cols.all (fun c=> !memN c W)&&a.labs.all (fun c=> !memN c V)
theorem AV.free_spec {W V:List Nat} {a:AV} (h:a.free W V=true):(∀c∈a.cols,c∉W)/\∀c∈a.labs,c∉V:=by
 unfold AV.free at h;simp only [xw,xI,xZ] at h;refine ⟨fun c hc hw=>?_,fun c hc hw=>?_⟩
 ·have:=h.1 c hc;rw [zaf.2 hw] at this;cases this
 ·have:=h.2 c hc;rw [zaf.2 hw] at this;cases this
def lookup:List (Nat×AV)->Nat->Option AV
 | [],_=>none
 | p::l,k=>match Nat.beq p.1 k with
  | true=>some p.2
  | false=>lookup l k
theorem zdC (h:lookup l k=some a):(k,a)∈l:=by
 induction l with
 | nil=>cases h
 | cons p l ih=>
  rw [lookup] at h;split at h
  ·rename_i hb;have:=xG hb
   grind
  grind
def zrU:Value->Option AV
 | .int k n=>some (.lf (.int k n))
 | .bool b=>some (.lf (.bool b))
 | .string s=>some (.lf (.str s.data.toList))
 | .slice none n c=>some (.lf (.val (.slice none n c)))
 | .nilFunc=>some (.lf (.val .nilFunc))
 | .pointer none=>some (.lf (.val (.pointer none)))
 | .map none=>some (.lf (.val (.map none)))
 | .nilIface=>some (.lf (.val .nilIface))
 | _=>none
theorem znn (h:zrU v=some a) (γ:Gh) (w:World):a.rel γ w v:=by
 unfold zrU at h;split at h
 all_goals cases h
 ·exact ⟨rfl,.int _ _⟩
 ·exact ⟨rfl,.bool _⟩
 ·rename_i s;refine ⟨rfl,?_⟩;have:=zat.str (F:=fun _=>False) (w:=w) s.data.toList;simpa using this
 all_goals exact ⟨rfl,.val _ rfl⟩
def Env.opd (E:Env):Operand->Option AV
 | .tmp t=>lookup E.sl t
 | .const v=>zrU v
 | .func f=>some (.lf (.val (.func (.func f) #[] #[])))
 | .global _=>none
def spB (c:Nat):Bool:=Nat.ble 800000 c&&Nat.ble c 899999
theorem zIK {c:Nat}:spB c=true↔800000<=c/\c<=899999:=by simp [spB]
structure zxC (γ γ':Gh):Prop where
 zero:∀b,γ.col b=0->γ'.col b=0
 one:∀b,γ.col b=1->γ'.col b=1
 back:∀b,γ'.col b=0->γ.col b=0
 old:∀b,spB (γ.col b)=true->γ'.col b=γ.col b
structure Ext where
 X:Gh->World->Prop
 tr:∀{γ γ':Gh} {w w':World} {W V:List Nat},X γ w->Tr W V γ w γ' w'->(∀c∈W,2<=c)->(∀c∈V,2<=c)->X γ' w'
 ren:∀{γ γ':Gh} {w:World},X γ w->zxC γ γ'->X γ' w
 base:Nat
 le:∀{γ:Gh} {w:World},X γ w->base<=w.heap.size
def fnX (w0:World) (F:Fp):Ext where
 X γ w:=Below w0.heap.size w0 w/\(∀b,b<w0.heap.size->(γ.col b=0/\F b)\/γ.col b=1)/\∀b,w0.heap.size<=b->b<w.heap.size->γ.col b≠0
 tr:=fun {γ γ' w w' W V} h t hW hV=>by
  have km:∀b,b<w0.heap.size->b<w.heap.size:=fun b hb=>xV hb h.1.size
  have hn:∀b,b<w0.heap.size->γ.col b∉W:=fun b hb hc=>by
   have:=hW _ hc;rcases h.2.1 b hb with ⟨h0,_⟩| h0<;>omega
  refine ⟨⟨t.os.trans h.1.os,t.tape.trans h.1.tape,t.output.trans h.1.output,yg h.1.size t.size,fun b hb=>?_⟩,fun b hb=>?_,fun b h1 h2 h0=>?_⟩
  ·rw [t.block b (km b hb) (hn b hb)];exact h.1.block b hb
  ·rw [t.col b (km b hb)];exact h.2.1 b hb
  ·by_cases hb:b<w.heap.size
   ·exact h.2.2 b h1 hb (by rw [<-t.col b hb];exact h0)
   ·rcases t.fresh b (qg hb) h2 h0 with e| e
    ·have:=hW _ e;omega
    ·have:=hV _ e;omega
 ren:=fun {γ γ' w} h k=>⟨h.1,fun b hb=>(h.2.1 b hb).imp (fun ⟨h0,hF⟩=>⟨k.zero b h0,hF⟩) (k.one b),fun b h1 h2 h0=>h.2.2 b h1 h2 (k.back b h0)⟩
 base:=w0.heap.size
 le:=fun h=>h.1.size
def ztM (n0:Nat) (γ:Gh) (w:World) (ds:List Deferred):Prop:=
 ∃Ds:List Nat,ds=Ds.map (fun D=>{target:= .collected D,args:=#[]})/\Ds.Nodup/\∀D∈Ds,n0<=D/\w.heap[D]? =some (.deferred (some []))/\γ.col D=1
theorem ztM.tr (h:ztM n0 γ w ds) (t:Tr W V γ w γ' w') (hW:∀c∈W,2<=c):ztM n0 γ' w' ds:=by
 obtain ⟨Ds,e,hn,h⟩:=h;refine ⟨Ds,e,hn,fun D hD=>?_⟩;obtain ⟨h0,h1,h2⟩:=h D hD;have km:=(yh.1 h1).1;refine ⟨h0,?_,(t.col D km).trans h2⟩;rw [t.block D km (fun hc=>by have:=hW _ hc;omega)];exact h1
theorem ztM.ren (h:ztM n0 γ w ds) (k:zxC γ γ'):ztM n0 γ' w ds:=by
 obtain ⟨Ds,e,hn,h⟩:=h;exact ⟨Ds,e,hn,fun D hD=>⟨(h D hD).1,(h D hD).2.1,k.one D (h D hD).2.2⟩⟩
structure Lim where
 n:Nat
 keep:List Nat
structure Cx where
 n:Lim
 X:Ext
 marked:Bool
 old:Array Value
structure Base (cx:Cx) (γ:Gh) (a:Act) (w:World):Prop where
 defers:ztM cx.X.base γ w a.defers
 clean:cx.marked=false->a.defers=[]
 size:a.tmps.size=cx.n.n
 kept:∀k∈cx.n.keep,a.tmps.getD k undef=cx.old.getD k undef
 ext:cx.X.X γ w
def Sl (γ:Gh) (w:World) (a:Act) (l:List (Nat×AV)):Prop:=∀p∈l,p.2.rel γ w (a.tmps.getD p.1 undef)
def Bxs (γ:Gh) (w:World) (l:List Bx):Prop:=∀b∈l,b.rel γ w
def Sx (cx:Cx) (E:Env) (a:Act) (w:World):Prop:=∃γ,Base cx γ a w/\Sl γ w a E.sl/\Bxs γ w E.bx
theorem Env.opd_rel {E:Env} {x:Operand} {av:AV} (h:E.opd x=some av) {γ:Gh} {w:World} {a:Act} (hs:Sl γ w a E.sl):av.rel γ w (a.eval x):=by
 cases x with
 | tmp t=>exact hs _ (zdC h)
 | const v=>exact znn h γ w
 | global g=>cases h
 | func f=>cases h;exact ⟨rfl,.val _ rfl⟩
def zjd (d:Option Nat) (av:AV) (l:List (Nat×AV)):List (Nat×AV):=
 match d with
 | none=>l
 | some d=>(d,av)::l.filter fun p=> !Nat.beq p.1 d
def zGv (d:Option Nat) (l:List (Nat×AV)):List (Nat×AV):=
 match d with
 | none=>l
 | some d=>l.filter fun p=> !Nat.beq p.1 d
theorem zjv {a:Act} {d k:Nat} {v:Value} (h:k≠d):(a.put (some d) v).tmps.getD k undef=a.tmps.getD k undef:=by
 simp only [Act.put,yF]
 grind
theorem zdt {a:Act} {d:Nat} {v:Value} (h:d<a.tmps.size):(a.put (some d) v).tmps.getD d undef=v:=by
 simp only [Act.put,yF]
 grind
theorem zhR (a:Act) (d:Option Nat) (v:Value):(a.put d v).defers=a.defers:=by cases d<;>rfl
theorem zoG (a:Act) (d:Option Nat) (v:Value):(a.put d v).tmps.size=a.tmps.size:=by cases d<;>simp [Act.put]
theorem Base.put {cx:Cx} {γ:Gh} {a:Act} {w:World} (h:Base cx γ a w) (d:Option Nat) (v:Value) (hk:∀k,d=some k->k∉cx.n.keep):Base cx γ (a.put d v) w:=
 ⟨by rw [zhR];exact h.defers,fun e=>by rw [zhR];exact h.clean e,(zoG a d v).trans h.size,fun k hm=>by
  cases d with
  | none=>exact h.kept k hm
  | some d=>
   have kO:k≠d:=fun e=>hk d rfl (by rw [<-e];exact hm)
   rw [zjv kO];exact h.kept k hm,h.ext⟩
theorem Sl.drop {γ:Gh} {w:World} {a:Act} {l:List (Nat×AV)} (h:Sl γ w a l) (d:Option Nat) (v:Value):Sl γ w (a.put d v) (zGv d l):=by
 cases d with
 | none=>exact h
 | some d=>
  intro p hp;simp only [zGv,xW,xZ] at hp;rw [zjv (fun e=>by rw [e] at hp;simp at hp)];exact h p hp.1
theorem Sl.put {γ:Gh} {w:World} {a:Act} {l:List (Nat×AV)} (h:Sl γ w a l) {d:Option Nat} {v:Value} {av:AV} (hd:∀k,d=some k->k<a.tmps.size) (hv:av.rel γ w v):Sl γ w (a.put d v) (zjd d av l):=by
 cases d with
 | none=>exact h
 | some d=>
  intro p hp;simp only [zjd,xy] at hp;rcases hp with rfl| hp
  ·simp only;rw [zdt (hd d rfl)];exact hv
  ·exact h.drop (some d) v p hp
def zuk (j k:IntKind):Bool:=match j,k with
 | .i8,.i8| .i16,.i16| .i32,.i32| .i64,.i64| .u8,.u8| .u16,.u16| .u32,.u32| .u64,.u64=>true
 | _,_=>false
theorem zul (h:zuk j k=true):j=k:=by cases j<;>cases k<;>first| rfl| cases h
def andI (k:IntKind) (x y:Int):Int:=k.wrap (BitVec.ofInt k.bits x&&&BitVec.ofInt k.bits y).toNat
def orI (k:IntKind) (x y:Int):Int:=k.wrap (BitVec.ofInt k.bits x||| BitVec.ofInt k.bits y).toNat
def xorI (k:IntKind) (x y:Int):Int:=k.wrap (BitVec.ofInt k.bits x^^^BitVec.ofInt k.bits y).toNat
def zMU (k:IntKind) (x y:Int):Int:=k.wrap (BitVec.ofInt k.bits x&&&~~~BitVec.ofInt k.bits y).toNat
def shlI (k:IntKind) (x y:Int):Int:=k.wrap (x*2^(min y.toNat k.bits))
def shrI (k:IntKind) (x y:Int):Int:=x.fdiv (2^(min y.toNat k.bits))
def zCj (op:BinOp) (k:IntKind) (x y:Int):Option LV:=
 match op with
 | .add=>some (.int k (k.wrap (x+y)))
 | .sub=>some (.int k (k.wrap (x - y)))
 | .mul=>some (.int k (k.wrap (x*y)))
 | .and=>some (.int k (andI k x y))
 | .or=>some (.int k (orI k x y))
 | .xor=>some (.int k (xorI k x y))
 | .andNot=>some (.int k (zMU k x y))
 | .eql=>some (.bool (x==y))
 | .neq=>some (.bool (x !=y))
 | .lss=>some (.bool (decide (x<y)))
 | .leq=>some (.bool (decide (x<=y)))
 | .gtr=>some (.bool (decide (x>y)))
 | .geq=>some (.bool (decide (x>=y)))
 | .quo=>match y with
  | .ofNat (n+1)=>some (.int k (k.wrap (x.tdiv (.ofNat (n+1)))))
  | _=>none
 | .rem=>match y with
  | .ofNat (n+1)=>some (.int k (x.tmod (.ofNat (n+1))))
  | _=>none
 | .shl| .shr=>none
theorem zGi (h:zCj op k x y=some l) (P:Program) (w:World) (t:TypeId):
  ∃v,(binOp op t (.int k x) (.int k y)).run P w= .ok v w/\l.plain=true/\zat (fun _=>False) w l v:=by
 have hk:¬(k≠k):=fun h=>h rfl
 unfold zCj at h;split at h
 case h_14=>
  split at h
  ·rename_i n;cases h;have hn:¬(Int.ofNat (n+1)=0):=by simp;omega
   exact ⟨_,by simp only [binOp,Op.intDiv];rw [xq hk,xq hn];rfl,rfl,.int _ _⟩
  ·cases h
 case h_15=>
  split at h
  ·rename_i n;cases h;have hn:¬(Int.ofNat (n+1)=0):=by simp;omega
   exact ⟨_,by simp only [binOp,Op.intDiv];rw [xq hk,xq hn];rfl,rfl,.int _ _⟩
  ·cases h
 all_goals first
  | (cases h;done)
  | (cases h;exact ⟨_,by simp only [binOp];rw [xq hk];rfl,rfl,.int _ _⟩)
  | (cases h;exact ⟨_,by simp only [binOp];rw [xq hk];rfl,rfl,.bool _⟩)
  | (cases h;exact ⟨_,by simp only [binOp,Op.intBits];rw [xq hk];rfl,rfl,.int _ _⟩)
def zgW:List Bx->Nat->Option Bx
 | [],_=>none
 | b::l,k=>match Nat.beq b.lab k with
  | true=>some b
  | false=>zgW l k
theorem zdO (h:zgW l k=some b):b∈l/\b.lab=k:=by
 induction l with
 | nil=>cases h
 | cons c l ih=>
  rw [zgW] at h;split at h
  ·simp_all
  grind
def zCk (op:BinOp) (x y:List UInt8):Option LV:=
 match op with
 | .eql=>some (.bool (x==y))
 | .neq=>some (.bool (!(x==y)))
 | .lss=>some (.bool (Op.bytesLess x y))
 | .leq=>some (.bool (Op.bytesLess x y|| x==y))
 | .gtr=>some (.bool (!(Op.bytesLess x y|| x==y)))
 | .geq=>some (.bool (!(Op.bytesLess x y)))
 | _=>none
def zxb (op:BinOp) (d:Option TypeDesc) (x y:Bool):Option LV:=
 match op,d with
 | .eql,some .bool=>some (.bool (x==y))
 | .neq,some .bool=>some (.bool (!(x==y)))
 | _,_=>none
def ztZ (P:Program) (s:TypeId) (f:Nat):Option Nat:=
 match P.underlying s with
 | some (.struct fs)=>match fs[f]? with
  | some fd=>match P.info? fd.type with
   | some i=>match Nat.beq i.size 0 with
    | true=>none
    | false=>some fd.offset
   | none=>none
  | none=>none
 | _=>none
def zdS (P:Program) (t:TypeId):Bool:=
 match P.underlying t with
 | some (.struct _)| some (.array _ _)| none=>false
 | some _=>true
def zLq (d:Option TypeDesc) (x:AV):Option AV:=
 match d,x with
 | some (.slice _),.sl _ _ xs=>some (.lf (.int .i64 xs.length))
 | some (.slice _),.own _ _ _ _ xs=>some (.lf (.int .i64 xs.length))
 | some (.slice _),.lf (.val (.slice _ n _))=>some (.lf (.int .i64 n))
 | some .string,.lf (.str l)=>some (.lf (.int .i64 l.length))
 | _,_=>none
def zGn (P:Program) (ρ:Operand->Option AV) (c:Callee) (args:List Operand) (ts:List TypeId):Option AV:=
 match c,args,ts with
 | .builtin .len,[x],[t]=>match ρ x with
  | some av=>zLq (P.underlying t) av
  | none=>none
 | .builtin .min,[x,y],_=>match ρ x,ρ y with
  | some (.lf (.int k m)),some (.lf (.int j n))=>match zuk k j with
   | true=>some (.lf (.int k (if n<m then n else m)))
   | false=>none
  | _,_=>none
 | .builtin .max,[x,y],_=>match ρ x,ρ y with
  | some (.lf (.int k m)),some (.lf (.int j n))=>match zuk k j with
   | true=>some (.lf (.int k (if m<n then n else m)))
   | false=>none
  | _,_=>none
 | _,_,_=>none
def zvt (P:Program) (ρ:Operand->Option AV) (bx:List Bx):Op->Option AV
 | .move x| .assign x=>ρ x
 | .pick c a b=>match ρ c with
  | some (.lf (.bool true))=>ρ a
  | some (.lf (.bool false))=>ρ b
  | _=>none
 | .binOp op t x y _=>match ρ x,ρ y with
  | some (.lf (.int k m)),some (.lf (.int j n))=>match zuk k j with
   | true=>(zCj op k m n).map .lf
   | false=>none
  | some (.lf (.str l)),some (.lf (.str m))=>(zCk op l m).map .lf
  | some (.lf (.bool a)),some (.lf (.bool b))=>(zxb op (P.underlying t) a b).map .lf
  | _,_=>none
 | .unOp op _ x=>match op,ρ x with
  | .not,some (.lf (.bool b))=>some (.lf (.bool (!b)))
  | .neg,some (.lf (.int k n))=>some (.lf (.int k (k.wrap (0 - n))))
  | _,_=>none
 | .convert s d x=>match P.underlying s,P.underlying d,ρ x with
  | some _,some (.int k),some (.lf (.int _ n))=>some (.lf (.int k (k.wrap n)))
  | some .string,some .string,some (.lf (.str l))=>some (.lf (.str l))
  | _,_,_=>none
 | .extract x i=>match ρ x with
  | some (.tup l)=>l[i]?
  | _=>none
 | .call c=>zGn P ρ c.callee c.args.toList c.argTypes.toList
 | .fieldAddr s x f=>match ztZ P s f,ρ x with
  | some o,some (.ptr ℓ off)=>some (.ptr ℓ (off+o))
  | some o,some (.ep r C y off)=>some (.ep r C y (off+o))
  | _,_=>none
 | .load t x=>match zdS P t,ρ x with
  | true,some (.ptr ℓ off)=>match zgW bx ℓ with
   | some b=>b.avs[off]?
   | none=>none
  | true,some (.ep r _ y off)=>match (r.lv y)[off]? with
   | some l=>match l.plain with
    | true=>some (.lf l)
    | false=>none
   | none=>none
  | _,_=>none
 | .nilCheck x=>match ρ x with
  | some (.ptr ℓ off)=>some (.ptr ℓ off)
  | some (.ep r C y off)=>some (.ep r C y off)
  | _=>none
 | _=>none
theorem zFq {γ:Gh} {w:World} {l:List AV} {vs:List Value} (h:AV.relL γ w l vs) {i:Nat} {a:AV} (hi:l[i]? =some a):∃v,vs[i]? =some v/\a.rel γ w v:=by
 induction l generalizing vs i with
 | nil=>cases hi
 | cons b l ih=>
  obtain ⟨v,vs',rfl,h1,h2⟩:=h;cases i with
  | zero=>cases hi;exact ⟨v,rfl,h1⟩
  | succ i=>exact ih h2 hi
theorem zbx (h:AV.relL γ w l vs):vs.length=l.length:=by
 induction l generalizing vs with
 | nil=>cases h;rfl
 | cons b l ih=>obtain ⟨v,vs',rfl,h1,h2⟩:=h;simp [ih h2]
theorem zdU (h:AV.rel γ w (.lf (.int k n)) v):v= .int k n:=by cases h.2;rfl
theorem zlD (h:AV.rel γ w (.lf (.bool b)) v):v= .bool b:=by cases h.2;rfl
theorem ztn (h:AV.rel γ w (.lf (.str l)) v):v= .string ⟨l.toArray⟩:=by cases h.2;rfl
theorem zqU (h:AV.rel γ w (.lf (.val u)) v):v=u:=by cases h.2;rfl
theorem zjA (γ:Gh) (w:World) (k:IntKind) (n:Int):AV.rel γ w (.lf (.int k n)) (.int k n):=⟨rfl,.int _ _⟩
theorem zIr (γ:Gh) (w:World) (b:Bool):AV.rel γ w (.lf (.bool b)) (.bool b):=⟨rfl,.bool _⟩
theorem zLB (γ:Gh) (w:World) (l:List UInt8):AV.rel γ w (.lf (.str l)) (.string ⟨l.toArray⟩):=⟨rfl,.str _⟩
theorem zOd {γ:Gh} {w:World} {α:Type} {r:Rp α} {C:List Nat} {xs:List α} {v:Value} (h:AV.rel γ w (.sl r C xs) v):∃A c,v= .slice A xs.length c/\xs.length<=c/\c<=maxLen:=by
 have h':zat (γ.F C) w (.sl xs.length r.size (xs.flatMap r.lv)) v:=h;cases h' with
 | sl _ _ _ A c cs _ _ hc hm=>exact ⟨A,c,rfl,hc,hm⟩
theorem zBu {γ:Gh} {w:World} {α:Type} {r:Rp α} {e:TypeId} {ℓ:Nat} {C:List Nat} {xs:List α} {v:Value} (h:AV.rel γ w (.own r e ℓ C xs) v):∃A c,v= .slice A xs.length c/\xs.length<=c/\c<=maxLen:=by
 obtain ⟨cs,ho,_⟩:=h;rcases ho.2 with ⟨rfl,h0⟩| ⟨g,kC,kM,rfl,_,_,hc,hm,_⟩
 ·grind
 grind
theorem zGj (h:zCk op x y=some l) (P:Program) (w:World) (t:TypeId):
  ∃v,(binOp op t (.string ⟨x.toArray⟩) (.string ⟨y.toArray⟩)).run P w= .ok v w/\l.plain=true/\zat (fun _=>False) w l v:=by
 unfold zCk at h;split at h
 all_goals first
  | (cases h;done)
  | (cases h;exact ⟨_,by simp only [binOp,Op.stringOp,ByteArray.toList_mk];rfl,rfl,.bool _⟩)
theorem zDO (h:zxb op (P.underlying t) x y=some l) (w:World):
    ∃v,(binOp op t (.bool x) (.bool y)).run P w= .ok v w/\l.plain=true/\zat (fun _=>False) w l v:=by
  unfold zxb at h;split at h
  all_goals first
    | (cases h;done)
    | (rename_i hu;cases h
       have hd:∀d:Nat,(Op.equalIn (d+1) t (.bool x) (.bool y)).run P w= .ok (x==y) w:=fun d=>by simp [Op.equalIn,run_underlying hu]
       exact ⟨_,by simp only [binOp];simp [Op.equal,Op.maxDepth,hd 9999],rfl,.bool _⟩)
theorem zJy {P:Program} {t:TypeId} {x av:AV} (h:zLq (P.underlying t) x=some av) {γ:Gh} {w:World} {v:Value} (hx:x.rel γ w v) (ty:TypeId):
  ∃u,(Builtin.len_ #[t] ty #[v]).run P w= .ok u w/\av.rel γ w u:=by
 unfold zLq at h;split at h
 ·rename_i hu;cases h;obtain ⟨A,c,rfl,_⟩:=zOd hx;exact ⟨_,by simp [Builtin.len_,run_underlying hu,goInt],zjA _ _ _ _⟩
 ·rename_i hu;cases h;obtain ⟨A,c,rfl,_⟩:=zBu hx;exact ⟨_,by simp [Builtin.len_,run_underlying hu,goInt],zjA _ _ _ _⟩
 ·rename_i hu;cases h;rw [zqU hx];exact ⟨_,by simp [Builtin.len_,run_underlying hu,goInt],zjA _ _ _ _⟩
 ·rename_i hu;cases h;rw [ztn hx];exact ⟨_,by simp [Builtin.len_,run_underlying hu,goInt,ByteArray.size_mk'],zjA _ _ _ _⟩
 ·cases h
def Opds (ρ:Operand->Option AV) (γ:Gh) (w:World) (ev:Operand->Value) (l:List Operand):Prop:=∀x∈l,∀av,ρ x=some av->av.rel γ w (ev x)
theorem zno (P:Program) (op:BinOp) (t:TypeId) (x y:Operand) (k:IntKind) (n:Int) (b:Value) (w:World):(eqGuard op t x y (.int k n) b).run P w= .ok () w:=by
 unfold eqGuard;split<;>rfl
theorem zNc (P:Program) (op:BinOp) (t:TypeId) (x y:Operand) (s:ByteArray) (b:Value) (w:World):(eqGuard op t x y (.string s) b).run P w= .ok () w:=by
 unfold eqGuard;split<;>rfl
theorem zKL (P:Program) (op:BinOp) (t:TypeId) (x y:Operand) (s:Bool) (b:Value) (w:World):(eqGuard op t x y (.bool s) b).run P w= .ok () w:=by
 unfold eqGuard;split<;>rfl
theorem zAk (h:ztZ P s f=some o):∃fs fd i,P.underlying s=some (.struct fs)/\fs[f]? =some fd/\P.info? fd.type=some i/\i.size≠0/\fd.offset=o:=by
 unfold ztZ at h;split at h
 ·rename_i fs hs;split at h
  ·rename_i fd hf;split at h
   ·rename_i i hi;split at h
    ·cases h
    ·rename_i hb;cases h;exact ⟨fs,fd,i,hs,hf,hi,fun e=>by rw [e] at hb;simp at hb,rfl⟩
   ·cases h
  ·cases h
 ·cases h
theorem zfU (b o n:Nat):(⟨b,o,none⟩:Addr).add n=⟨b,o+n,none⟩:=by unfold Addr.add;split<;>simp_all
theorem zwE (h:ztZ P s f=some o) (b off:Nat) (w:World):(Instr.fieldAt s (.pointer (some ⟨b,off,none⟩)) f).run P w= .ok (.pointer (some ⟨b,off+o,none⟩)) w:=by
 obtain ⟨fs,fd,i,hs,hf,hi,hn,rfl⟩:=zAk h;simp [Instr.fieldAt,run_underlying hs,hf,Instr.sureAddr,fieldPlace,sizeOf,typeInfo,hi,hn,zfU]
theorem zjH (h:zdS P t=true) (hc:w.cell? ⟨b,off,none⟩=some v):(Instr.loadAt t (.pointer (some ⟨b,off,none⟩))).run P w= .ok v w:=by
 unfold zdS at h;split at h
 ·cases h
 ·cases h
 ·cases h
 ·rename_i d h1 h2 hu;have hi:(isAgg t).run P w= .ok false w:=by
   cases d<;>simp [isAgg,run_underlying hu]<;>first| (exact h1 _ rfl)| (exact h2 _ _ rfl)| rfl
  simp [Instr.loadAt,Instr.sureAddr,loadVar,hi,load,Sem.run,hc]
theorem zwR (h:zdS P t=true) (hc:w.cell? ⟨b,off,none⟩=some v):(loadVar t ⟨b,off,none⟩).run P w= .ok v w:=by
 unfold zdS at h;split at h
 ·cases h
 ·cases h
 ·cases h
 ·rename_i d h1 h2 hu;have hi:(isAgg t).run P w= .ok false w:=by
   cases d<;>simp [isAgg,run_underlying hu]<;>first| (exact h1 _ rfl)| (exact h2 _ _ rfl)| rfl
  simp [loadVar,hi,load,Sem.run,hc]
theorem Bx.cell {γ:Gh} {w:World} {b:Bx} (h:b.rel γ w) {off:Nat} {a:AV} (ha:b.avs[off]? =some a):∃v,w.cell? ⟨γ.box b.lab,off,none⟩=some v/\a.rel γ w v:=by
 obtain ⟨_,cs,hh,hr,_⟩:=h;obtain ⟨v,hv,ha⟩:=zFq hr ha;exact ⟨v,by rw [yW w _ off _ _ _ hh];simpa using hv,ha⟩
theorem zMf (P:Program) (w:World) (k j:IntKind) (m n:Int) (ts:Array TypeId) (ty:TypeId):(Builtin.min_ ts ty #[.int k m,.int j n]).run P w= .ok (.int k (if n<m then n else m)) w:=by
 rfl
theorem zMe (P:Program) (w:World) (k j:IntKind) (m n:Int) (ts:Array TypeId) (ty:TypeId):(Builtin.max_ ts ty #[.int k m,.int j n]).run P w= .ok (.int k (if m<n then n else m)) w:=by
 rfl
theorem zaG (ho:o.op= .call c) (hc:c.callee= .builtin b) (ha:c.args.toList=args) (ht:c.argTypes.toList=ts) 
  (h:∀consts,(Go.builtin b ts.toArray o.type consts (args.map ev).toArray).run P w= .ok (.value v) w'):(execOp ev o).run P w= .ok (.value v) w':=by
 obtain ⟨callee,args',ts'⟩:=c;simp only at hc ha ht;subst hc;have e1:args'=args.toArray:=by rw [<-ha]
 have e2:ts'=ts.toArray:=by rw [<-ht]
 subst e1 e2;simp only [execOp,ho,resolve,xX,yw,ya,invoke,pK];exact h _
theorem zGo (ho:o.op= .call c) (h:zGn P ρ c.callee c.args.toList c.argTypes.toList=some av)
  (hρ:Opds ρ γ w ev c.args.toList):∃v,(execOp ev o).run P w= .ok (.value v) w/\av.rel γ w v:=by
 generalize ha:c.args.toList=args at h hρ
 generalize ht:c.argTypes.toList=ts at h
 generalize hc:c.callee=cal at h
 unfold zGn at h;split at h
 ·rename_i x t;split at h
  ·rename_i a hx;obtain ⟨v,hv,hr⟩:=zJy h (hρ x xt a hx) o.type;exact ⟨v,zaG ho hc ha ht fun consts=>by simp [builtin,hv],hr⟩
  ·cases h
 ·rename_i x y;split at h
  ·rename_i k m j n hx hy;split at h
   ·rename_i hk;cases h;have h1:=zdU (hρ x xt _ hx);have h2:=zdU (hρ y (xu _ xt) _ hy);exact ⟨_,zaG ho hc ha ht fun consts=>by simp [builtin,h1,h2,zMf],zjA _ _ _ _⟩
   ·cases h
  ·cases h
 ·rename_i x y;split at h
  ·rename_i k m j n hx hy;split at h
   ·rename_i hk;cases h;have h1:=zdU (hρ x xt _ hx);have h2:=zdU (hρ y (xu _ xt) _ hy);exact ⟨_,zaG ho hc ha ht fun consts=>by simp [builtin,h1,h2,zMe],zjA _ _ _ _⟩
   ·cases h
  ·cases h
 ·cases h
theorem ztj {P:Program} {ρ:Operand->Option AV} {bx:List Bx} {o:Oper} {av:AV} (h:zvt P ρ bx o.op=some av) {γ:Gh} {w:World} {ev:Operand->Value}
  (hρ:Opds ρ γ w ev o.op.operands.toList) (hb:Bxs γ w bx):∃v,(execOp ev o).run P w= .ok (.value v) w/\av.rel γ w v:=by
 generalize hop:o.op=op at h hρ
 unfold zvt at h;split at h
 case h_1 x=>exact ⟨_,by simp [execOp,hop],hρ x (by simp [Op.operands]) _ h⟩
 case h_2 x=>exact ⟨_,by simp [execOp,hop],hρ x (by simp [Op.operands]) _ h⟩
 case h_3 c a b=>
  split at h
  ·rename_i hc;have:=zlD (hρ c (by simp [Op.operands]) _ hc);exact ⟨_,by simp [execOp,hop,this,asBool],hρ a (by simp [Op.operands]) _ h⟩
  ·rename_i hc;have:=zlD (hρ c (by simp [Op.operands]) _ hc);exact ⟨_,by simp [execOp,hop,this,asBool],hρ b (by simp [Op.operands]) _ h⟩
  ·cases h
 case h_4 bop t x y yt=>
  split at h
  ·rename_i k m j n hx hy;have h1:=zdU (hρ x (by simp [Op.operands]) _ hx);have h2:=zdU (hρ y (by simp [Op.operands]) _ hy);split at h
   ·rename_i hk;have:=zul hk;subst this;cases hl:zCj bop k m n with
    | none=>rw [hl] at h;cases h
    | some l=>
     rw [hl] at h;cases h;obtain ⟨v,hv,hp,hr⟩:=zGi hl P w t;exact ⟨v,by simp [execOp,hop,h1,h2,zno,hv],hp,hr⟩
   ·cases h
  ·rename_i l m hx hy;have h1:=ztn (hρ x (by simp [Op.operands]) _ hx);have h2:=ztn (hρ y (by simp [Op.operands]) _ hy);cases hl:zCk bop l m with
   | none=>rw [hl] at h;cases h
   | some l'=>
    rw [hl] at h;cases h;obtain ⟨v,hv,hp,hr⟩:=zGj hl P w t;exact ⟨v,by simp [execOp,hop,h1,h2,zNc,hv],hp,hr⟩
  ·rename_i a b hx hy;have h1:=zlD (hρ x (by simp [Op.operands]) _ hx);have h2:=zlD (hρ y (by simp [Op.operands]) _ hy);cases hl:zxb bop (P.underlying t) a b with
   | none=>rw [hl] at h;cases h
   | some l'=>
    rw [hl] at h;cases h;obtain ⟨v,hv,hp,hr⟩:=zDO hl w;exact ⟨v,by simp [execOp,hop,h1,h2,zKL,hv],hp,hr⟩
  ·cases h
 case h_5 uop t x=>
  split at h
  ·rename_i b hx;cases h;have h1:=zlD (hρ x (by simp [Op.operands]) _ hx);exact ⟨_,by simp [execOp,hop,h1,Op.unary],zIr _ _ _⟩
  ·rename_i k n hx;cases h;have h1:=zdU (hρ x (by simp [Op.operands]) _ hx);exact ⟨_,by simp [execOp,hop,h1,Op.unary,Op.intArith],zjA _ _ _ _⟩
  ·cases h
 case h_6 s d x=>
  split at h
  ·rename_i k _ n hs hd hx;cases h;have h1:=zdU (hρ x (by simp [Op.operands]) _ hx);exact ⟨_,by simp [execOp,hop,h1,convert,run_underlying hs,run_underlying hd,Conv.intToInt],zjA _ _ _ _⟩
  ·rename_i l hs hd hx;cases h;have h1:=ztn (hρ x (by simp [Op.operands]) _ hx);exact ⟨_,by simp [execOp,hop,h1,convert,run_underlying hs,run_underlying hd],zLB _ _ _⟩
  ·cases h
 case h_7 x i=>
  split at h
  ·rename_i l hx;obtain ⟨vs,hv,hL⟩:=hρ x (by simp [Op.operands]) _ hx;obtain ⟨v,hv',hr⟩:=zFq hL h;exact ⟨v,by simp [execOp,hop,hv,Instr.extract,hv'],hr⟩
  ·cases h
 case h_8 c=>exact zGo hop h (fun x hx=>hρ x (by simp only [Op.operands,Call.operands];simp;exact .inr (by simpa using hx)))
 case h_9 s x f=>
  split at h
  ·rename_i n ℓ off hf hx;cases h;have h1:ev x=_:=hρ x (by simp [Op.operands]) _ hx;exact ⟨_,by simp [execOp,hop,h1,zwE hf],rfl⟩
  ·rename_i n α r C y off hf hx;cases h;obtain ⟨b,o',cs,hv,hF,km,hA,hc⟩:=hρ x (by simp [Op.operands]) _ hx;exact ⟨_,by simp [execOp,hop,hv,zwE hf];rfl,b,o',cs,by rw [qW],hF,km,hA,hc⟩
  ·cases h
 case h_10 t x=>
  split at h
  ·rename_i ℓ off ht hx;have h1:ev x=_:=hρ x (by simp [Op.operands]) _ hx;split at h
   ·rename_i b hfb;obtain ⟨hm,rfl⟩:=zdO hfb;obtain ⟨v,hv,hr⟩:=Bx.cell (hb b hm) h;exact ⟨v,by simp [execOp,hop,h1,zjH ht hv],hr⟩
   ·cases h
  ·rename_i α r C y off ht hx;obtain ⟨b,o',cs,hv,hF,km,hA,hc⟩:=hρ x (by simp [Op.operands]) _ hx;split at h
   ·rename_i l hl;split at h
    ·rename_i hp;cases h;have ku:off<cs.length:=by rw [<-hA.1];exact (yA.1 hl).1
     have hr:=hA.2 off l _ hl (xN ku);have hcell:=hc off ku;rw [xN ku] at hcell;exact ⟨_,by simp [execOp,hop,hv,zjH ht hcell],hp,hr.plain hp⟩
    ·cases h
   ·cases h
  ·cases h
 case h_11 x=>
  split at h
  ·rename_i ℓ off hx;cases h;have h1:ev x= .pointer (some ⟨γ.box ℓ,off,none⟩):=hρ x (by simp [Op.operands]) _ hx;exact ⟨_,by simp [execOp,hop,h1],rfl⟩
  ·rename_i α r C y off hx;cases h;have h1:=hρ x (by simp [Op.operands]) _ hx;obtain ⟨b,o',cs,hv,hrest⟩:=h1;exact ⟨_,by simp [execOp,hop,hv],b,o',cs,rfl,hrest⟩
  ·cases h
 case h_12=>cases h
def okW:List Nat->Bool
 | []=>true
 | c::l=>Nat.ble 2 c&&okW l
theorem zuy (h:okW W=true):∀c∈W,2<=c:=by
 induction W with
 | nil=>intro c hc;cases hc
 | cons d W ih=>
  simp only [okW,xw] at h;intro c hc;cases hc with
  | head=>exact xP h.1
  | tail _ hc=>exact ih h.2 c hc
def zjZ (N:Lim):Option Nat->Bool
 | none=>true
 | some d=>Nat.blt d N.n&& !memN d N.keep
theorem zhQ (h:zjZ N d=true):∀k,d=some k->k<N.n:=by
 rintro k rfl;simp only [zjZ,xw] at h;simp_all
theorem zfC (h:zjZ N d=true):∀k,d=some k->k∉N.keep:=by
 rintro k rfl hk;simp only [zjZ,xw] at h;rw [zaf.2 hk] at h;cases h.2
def zqP (W V:List Nat) (l:List (Nat×AV)):List (Nat×AV):=l.filter fun p=>p.2.free W V
def AV.clear (W V:List Nat) (a:AV):AV:=match a.free W V with
 | true=>a
 | false=> .any
def Bx.clear (W V:List Nat) (b:Bx):Bx:=⟨b.lab,b.typ,b.avs.map (AV.clear W V)⟩
def zgZ (W V:List Nat) (l:List Bx):List Bx:=(l.filter fun b=> !memN b.lab W&& !memN b.lab V).map (Bx.clear W V)
def Env.step (W V:List Nat) (d:Option Nat) (av:AV) (bs:List Bx) (E:Env):Env:=⟨zjd d av (zqP W V E.sl),bs++zgZ W V E.bx⟩
section
variable {W V:List Nat} {γ γ':Gh} {w w':World} {cx:Cx} {a:Act}
theorem Base.tr (h:Base cx γ a w) (t:Tr W V γ w γ' w') (hW:okW W=true) (hV:okW V=true):Base cx γ' a w':=
 ⟨h.defers.tr t (zuy hW),h.clean,h.size,h.kept,cx.X.tr h.ext t (zuy hW) (zuy hV)⟩
theorem Sl.tr {l:List (Nat×AV)} (h:Sl γ w a l) (t:Tr W V γ w γ' w'):Sl γ' w' a (zqP W V l):=by
 intro p hp;simp only [zqP,xW] at hp;obtain ⟨h1,h2⟩:=AV.free_spec hp.2;exact p.2.keep t h1 h2 (h p hp.1)
theorem zmB {l:List AV} {vs:List Value} (h:AV.relL γ w l vs) (t:Tr W V γ w γ' w'):AV.relL γ' w' (l.map (AV.clear W V)) vs:=by
 induction l generalizing vs with
 | nil=>exact h
 | cons b l ih=>
  obtain ⟨v,vs',rfl,h1,h2⟩:=h;refine ⟨v,vs',rfl,?_,ih h2⟩;unfold AV.clear;cases hf:b.free W V with
  | true=>obtain ⟨f1,f2⟩:=AV.free_spec hf;exact b.keep t f1 f2 h1
  | false=>trivial
theorem zec (h:(!memN c l)=true):c∉l:=fun hc=>by rw [zaf.2 hc] at h;cases h
theorem Bxs.tr (h:Bxs γ w l) (t:Tr W V γ w γ' w'):Bxs γ' w' (zgZ W V l):=by
 intro b hb;simp only [zgZ,xA,xW,xw] at hb;obtain ⟨b,⟨hm,h1,h2⟩,rfl⟩:=hb;obtain ⟨hc,cs,hh,hr,h1c⟩:=h b hm;have km:γ.box b.lab<w.heap.size:=(yh.1 hh).1;refine ⟨?_,cs,?_,zmB hr t,h1c⟩
 ·show γ'.col (γ'.box b.lab)=b.lab;rw [t.box _ (zec h2),t.col _ km];exact hc
 ·show w'.heap[γ'.box b.lab]? =_;rw [t.box _ (zec h2),t.block _ km (by rw [hc];exact zec h1)];exact hh
end
def zB (P:Program) (o:Oper) (ins:List (Operand×AV)) (bxs:List Bx) (W V:List Nat) (av:AV) (bs:List Bx):Prop:=
 ∀(γ:Gh) (a:Act) (w:World),(∀p∈ins,p.2.rel γ w (a.eval p.1))->Bxs γ w bxs->
  ∀(next:Act->World->Prop) (Q:Exit->Act->World->Prop),(∀γ' w' v,Tr W V γ w γ' w'->av.rel γ' w' v->Bxs γ' w' bs->next (a.put o.dst v) w')->o.wp P a w next Q
theorem zF 
  (h:∀(γ:Gh) (ev:Operand->Value) (w:World),(∀p∈ins,p.2.rel γ w (ev p.1))->Bxs γ w bxs->
   ∃v w' γ',(execOp ev o).run P w= .ok (.value v) w'/\Tr W V γ w γ' w'/\av.rel γ' w' v/\Bxs γ' w' bs):zB P o ins bxs W V av bs:=by
 intro γ a w hi hb next Q hk;obtain ⟨v,w',γ',hr,ht,hv,hb'⟩:=h γ a.eval w hi hb;unfold Oper.wp;rw [hr];exact hk γ' w' v ht hv hb'
def zqr (E:Env):List (Operand×AV)->Prop
 | []=>True
 | p::l=>E.opd p.1=some p.2/\zqr E l
theorem zqr.rel (h:zqr E l) (hs:Sl γ w a E.sl):∀p∈l,p.2.rel γ w (a.eval p.1):=by
 induction l with
 | nil=>intro p hp;cases hp
 | cons q l ih=>
  intro p hp;cases hp with
  | head=>exact Env.opd_rel h.1 hs
  | tail _ hp=>exact ih h.2 p hp
def zAG (E:Env):List Bx->Prop
 | []=>True
 | b::l=>zgW E.bx b.lab=some b/\zAG E l
theorem zAG.rel (h:zAG E l) (hs:Bxs γ w E.bx):Bxs γ w l:=by
 induction l with
 | nil=>intro p hp;cases hp
 | cons q l ih=>
  intro p hp;cases hp with
  | head=>exact hs _ (zdO h.1).1
  | tail _ hp=>exact ih h.2 p hp
def zgy (ops:Array Oper) (E:Env) (o:Oper):Option Bool:=
 match o.guard with
 | none=>some true
 | some (j,want)=>match ops.toList[j]? with
  | some g=>match g.dst with
   | some t=>match lookup E.sl t,want with
    | some (.lf (.bool true)),true=>some true
    | some (.lf (.bool false)),false=>some true
    | some (.lf (.bool true)),false=>some false
    | some (.lf (.bool false)),true=>some false
    | some (.tup []),_=>some false
    | _,_=>none
   | none=>none
  | none=>none
theorem zgX (h:zgy ops E o=some b) (hs:Sl γ w a E.sl):Region.wanted o (yielded ops a.tmps)=b:=by
 unfold zgy at h;unfold Region.wanted;split at h
 ·grind
 ·rename_i j want hg;rw [hg];split at h
  ·rename_i g hj;split at h
   ·rename_i t ht;have key:∀c,lookup E.sl t=some (.lf (.bool c))->yielded ops a.tmps j=some c:=fun c hc=>by
     have hv:=zlD (hs _ (zdC hc));simp only at hv;have hj':ops[j]? =some g:=by rw [<-uk];exact hj
     have htm:a.tmps[t]? =some (.bool c):=by
      rw [yF] at hv;cases he:a.tmps[t]? with
      | none=>rw [he] at hv;cases hv
      | some u=>rw [he] at hv;simp at hv;rw [hv]
     simp [yielded,hj',ht,htm]
    split at h
    ·grind
    ·grind
    ·grind
    ·grind
    ·rename_i hl;cases h;obtain ⟨vs,hv,hL⟩:=hs _ (zdC hl);have hL':vs=[]:=hL;subst hL';have hj':ops[j]? =some g:=by rw [<-uk];exact hj
     have:yielded ops a.tmps j=none:=by
      rw [yF] at hv;cases he:a.tmps[t]? with
      | none=>simp [yielded,hj',ht,he]
      | some u=>rw [he] at hv;simp at hv;simp [yielded,hj',ht,he,hv]
     grind
    ·cases h
   ·cases h
  ·cases h
theorem Sl.put_undef {γ:Gh} {w:World} {a:Act} {l:List (Nat×AV)} (h:Sl γ w a l) (d:Option Nat):Sl γ w (a.put d undef) (zjd d (.tup []) l):=by
 cases d with
 | none=>exact h
 | some d=>
  intro p hp;simp only [zjd,xy] at hp;rcases hp with rfl| hp
  ·refine ⟨[],?_,rfl⟩;by_cases hd:d<a.tmps.size
   ·exact zdt hd
   ·simp only [Act.put,yF];rw [Array.getElem?_eq_none (by simp;omega)];rfl
  ·have hp':=xW.1 hp;rw [zjv (fun e=>by have:=hp'.2;rw [e] at this;simp at this)];exact h p hp'.1
def RF (ro:Option Nat):Fence:={fn:=fun _=>True,depth:=none,alive:=false,round:=ro}
theorem ztf :CallsIn (RF ro) n P f args w R↔Calls P f args w R:=qJ (n:=n)
theorem zJY :RowsIn (RF ro) n P row args w R↔Rows P row args w R:=
 ⟨fun h c cs=>let ⟨v,w',r,s⟩:=h c cs (room_wide _);⟨v,w',r,stepsIn_wide.1 s⟩,fun h c cs _=>let ⟨v,w',r,s⟩:=h c cs;⟨v,w',r,stepsIn_wide.2 s⟩⟩
def opq (P:Program) (o:Oper) (a:Act) (w:World) (next:Act->World->Prop) (Q:Exit->Act->World->Prop):Prop:=∀ro,o.wpIn (RF ro) 0 P a w next Q
def zmr (P:Program) (ops:Array Oper) (Q:Exit->Act->World->Prop) (l:List Oper) (a:Act) (w:World):Prop:=∀ro,wpListIn (RF ro) 0 P ops Q l a w
def wq (m:Bool) (P:Program) (c:Code) (Q:Exit->Act->World->Prop) (a:Act) (w:World):Prop:=∀ro,(m=true->ro=none)->c.wpIn (RF ro) 0 P Q a w
section
variable {m:Bool} {P:Program} {o:Oper} {a:Act} {w w':World} {next next':Act->World->Prop} {Q Q':Exit->Act->World->Prop} {ops:Array Oper} {l:List Oper} {x y c:Code}
theorem zxn (h:∀(next:Act->World->Prop) (Q:Exit->Act->World->Prop),(∀v w',next (a.put o.dst v) w')->o.wp P a w next Q):∀c,o.op≠ .defer c:=by
 intro c hc;have h1:=h (fun a' _=>a'.defers=a.defers) (fun _ _ _=>False) (fun v _=>zhR a o.dst v);unfold Oper.wp at h1;have e:(execOp a.eval o).run P w=((resolve a.eval c o.type).run P w).andThen fun d w=> .ok (.defer d) w:=by
  simp [execOp,hc]
 rw [e] at h1;cases hr:(resolve a.eval c o.type).run P w with
 | ok d w1=>
  rw [hr] at h1;have h2:((({a with defers:=d::a.defers}:Act).put o.dst undef).defers)=a.defers:=h1;rw [zhR] at h2;simp_all
 | halt x w1=>
  rw [hr] at h1;cases x<;>exact h1
theorem zrg (hd:∀c,o.op≠ .defer c) (h:o.wp P a w next Q):opq P o a w next Q:=by
 intro ro;refine ⟨fun _ _=>trivial,?_⟩;rw [Oper.semAt_eq _ _ _ hd];unfold Oper.wp at h
 generalize (execOp a.eval o).run P w=r at h
 cases r with
 | ok x w1=>
  cases x with
  | value v=>exact h
  | skip=>exact h
  | defer d=>exact h
  | enter f args=>exact ⟨nofun,ztf.2 (Calls.mono h (fun e w2 hq=>by cases e<;>exact hq))⟩
  | row row args=>exact ⟨nofun,zJY.2 h⟩
  | _=>exact h.elim
 | halt x w1=>cases x<;>exact h
theorem zkt (hr:(execOp a.eval o).run P w= .ok (.value v) w') (h:next (a.put o.dst v) w'):opq P o a w next Q:=by
 refine zrg (zxn (P:=P) (a:=a) (w:=w) (fun nx Qx hn=>?_)) ?_
 ·unfold Oper.wp;rw [hr];exact hn v w'
 ·unfold Oper.wp;rw [hr];exact h
theorem zyW (hr:(execOp a.eval o).run P w= .ok .skip w') (h:next (a.put o.dst undef) w'):opq P o a w next Q:=by
 refine zrg (zxn (P:=P) (a:=a) (w:=w) (fun nx Qx hn=>?_)) ?_
 ·unfold Oper.wp;rw [hr];exact hn undef w'
 ·unfold Oper.wp;rw [hr];exact h
theorem zLJ (h:opq P o a w next Q) (k:∀a w,next a w->next' a w):opq P o a w next' Q:=fun ro=>qU k (h ro)
theorem zjx (hw:Region.wanted o (yielded ops a.tmps)=true) (h:opq P o a w (zmr P ops Q l) Q):zmr P ops Q (o::l) a w:=fun ro=>by
 unfold wpListIn;rw [xr hw];exact qU (fun a w h=>h ro) (h ro)
theorem zGJ (hw:Region.wanted o (yielded ops a.tmps)=false) (h:zmr P ops Q l (a.put o.dst undef) w):zmr P ops Q (o::l) a w:=fun ro=>by
 unfold wpListIn;rw [xq (by rw [hw];exact Bool.false_ne_true)];exact ⟨fun _ _=>trivial,h ro⟩
theorem znD (h:wq m P c Q a w) (k:∀e a w,Q e a w->Q' e a w):wq m P c Q' a w:=fun ro hm=>qX (h ro hm) k
theorem zxA (h:Q .normal a w):wq m P .skip Q a w:=fun _ _=>wpIn_skip h
theorem zAc (h:Q .ret a w):wq m P .ret Q a w:=fun _ _=>wpIn_ret h
theorem zJb {id:Nat} (h:Q (.exit id) a w):wq m P (.exit id) Q a w:=fun _ _=>wpIn_exit h
theorem zfH (h:wq m P x (Exit.then (wq m P y Q) Q) a w):wq m P (.seq x y) Q a w:=fun ro hm=>wpIn_seq (qX (h ro hm) fun e a w hq=>by cases e<;>first| exact hq ro hm| exact hq)
theorem zMO {id:Nat} (h:wq m P c (Exit.inBlock id Q) a w):wq m P (.block id c) Q a w:=fun ro hm=>wpIn_block (h ro hm)
theorem zjU (hc:a.eval v= .bool true) (h:wq m P x Q a w):wq m P (.cond v x y) Q a w:=fun ro hm=>wpIn_cond_true hc (h ro hm)
theorem zkK (hc:a.eval v= .bool false) (h:wq m P y Q a w):wq m P (.cond v x y) Q a w:=fun ro hm=>wpIn_cond_false hc (h ro hm)
theorem zaD {id:Nat} (h:zmr P l.toArray Q l a w):wq m P (.region id l.toArray false) Q a w:=fun ro _=>wpIn_region_lit (h ro)
def anyq (P:Program) (ops:Array Oper) (Q:Exit->Act->World->Prop) (fuel:Nat) (kD:Array Bool) (a:Act) (w:World):Prop:=∀ro,wpAnyIn (RF ro) 0 P .any ops Q fuel kD a w
theorem zta {id:Nat} (hm:P.follows .mixedOrders=true) (h:anyq P ops Q ops.size (Array.replicate ops.size false) a {w with drawn:=w.drawn+1}):wq m P (.region id ops true) Q a w:=fun ro _=>wpIn_region_any hm (h ro)
def zuK (m:Bool) (P:Program) (c:Code) (Q:Exit->Act->World->Prop):Nat->Act->World->Prop
 | 0,_,_=>False
 | n+1,a,w=>wq m P c (Exit.then (zuK m P c Q n) Q) a w
theorem zzx (hm:m=true->ro=none):∀(n:Nat) (a:Act) (w:World),zuK m P c Q n a w->Code.roundsIn (RF ro) 0 P c Q n a w
 | 0,_,_,h=>h
 | n+1,a,w,h=>by
  rw [roundsIn_succ];exact qX (h ro hm) fun e a w hq=>by cases e<;>first| exact zzx hm n a w hq| exact hq
theorem zAb (n:Nat) (h:zuK m P c Q n a w):wq m P (.loop c) Q a w:=fun _ hm=>wpIn_loop_rounds n (zzx hm n a w h)
theorem zFZ (h:wq m P c Q a w):c.wp P Q a w:=wpIn_wide.1 (h none fun _=>rfl:c.wpIn Fence.wide 0 P Q a w)
end
def zaM (P:Program) (N:Lim) (ops:Array Oper) (kl:List Oper) (E E':Env):Prop:=
 ∀(cx:Cx) (a:Act) (w:World) (Q:Exit->Act->World->Prop),cx.n=N->Sx cx E a w->(∀a' w',Sx cx E' a' w'->Q .normal a' w')->zmr P ops Q kl a w
section
variable {P:Program} {N:Lim} {ops:Array Oper} {kl:List Oper} {E E1 E':Env} {o:Oper}
theorem zPM:zaM P N ops [] E E:=fun _ _ _ _ _ hs hQ _=>hQ _ _ hs
theorem zxv (hg:zgy ops E o=some true) (hl:zB P o ins bxs W V av bs) (hi:zqr E ins) (hb:zAG E bxs)
  (hW:okW W=true) (hV:okW V=true) (hd:zjZ N o.dst=true) (k:zaM P N ops kl (E.step W V o.dst av bs) E'):zaM P N ops (o::kl) E E':=by
 intro cx a w Q hn hs hQ;obtain ⟨γ,hB,hS,hX⟩:=hs;refine zjx (zgX hg hS) (zrg (zxn (P:=P) (a:=a) (w:=w) fun nx Qx hn=>hl γ a w (hi.rel hS) (hb.rel hX) nx Qx fun _ w' v _ _ _=>hn v w') (hl γ a w (hi.rel hS) (hb.rel hX) _ Q fun γ' w' v ht hv hbs=>?_));refine k cx _ _ Q hn ⟨γ',(hB.tr ht hW hV).put _ _ (by rw [hn];exact zfC hd),?_,?_⟩ hQ
 ·exact (hS.tr ht).put (fun k hk=>by rw [hB.size,hn];exact zhQ hd k hk) hv
 ·intro b hb';simp only [Env.step,xF] at hb';rcases hb' with h| h
  ·exact hbs b h
  ·exact hX.tr ht b h
theorem zOb (hg:zgy ops E o=some false) (hd:zjZ N o.dst=true) (k:zaM P N ops kl ⟨zjd o.dst (.tup []) E.sl,E.bx⟩ E'):zaM P N ops (o::kl) E E':=by
 intro cx a w Q hn hs hQ;obtain ⟨γ,hB,hS,hX⟩:=hs;refine zGJ (zgX hg hS) ?_;exact k cx _ _ Q hn ⟨γ,hB.put _ _ (by rw [hn];exact zfC hd),hS.put_undef _,hX⟩ hQ
theorem zMa (t:Nat) (b:Bool) (hl:lookup E.sl t=some (.lf (.bool b))) (h1:b=true->zaM P N ops kl ⟨zjd (some t) (.lf (.bool true)) E.sl,E.bx⟩ E')
  (h0:b=false->zaM P N ops kl ⟨zjd (some t) (.lf (.bool false)) E.sl,E.bx⟩ E'):zaM P N ops kl E E':=by
 intro cx a w Q hn hs hQ;obtain ⟨γ,hB,hS,hX⟩:=hs;have hv:=hS _ (zdC hl);have hput:∀c,b=c->Sl γ w a (zjd (some t) (.lf (.bool c)) E.sl):=by
  rintro c rfl p hp;simp only [zjd,xy] at hp;rcases hp with rfl| hp
  ·exact hv
  ·exact hS p (xW.1 hp).1
 cases hb:b with
 | true=>exact h1 hb cx a w Q hn ⟨γ,hB,hput _ hb,hX⟩ hQ
 | false=>exact h0 hb cx a w Q hn ⟨γ,hB,hput _ hb,hX⟩ hQ
def AV.le (a b:AV):Prop:=∀γ w v,a.rel γ w v->b.rel γ w v
def zDa (l:List (Nat×AV)):List Nat->Option (List (Nat×AV))
 | []=>some []
 | k::r=>match lookup l k,zDa l r with
  | some a,some r'=>some ((k,a)::r')
  | _,_=>none
theorem zpD :∀(ks:List Nat) (r:List (Nat×AV)),zDa l ks=some r->∀p∈r,p∈l
 | [],r,h,p,hp=>by cases h;cases hp
 | k::ks,r,h,p,hp=>by
  rw [zDa] at h;split at h
  ·rename_i a r' hl hr;cases h;cases hp with
   | head=>exact zdC hl
   | tail _ hp=>exact zpD ks _ hr p hp
  ·cases h
def zrq (l:List Bx):List Nat->Option (List Bx)
 | []=>some []
 | k::r=>match zgW l k,zrq l r with
  | some a,some r'=>some (a::r')
  | _,_=>none
theorem zpC :∀(ks:List Nat) (r:List Bx),zrq l ks=some r->∀p∈r,p∈l
 | [],r,h,p,hp=>by cases h;cases hp
 | k::ks,r,h,p,hp=>by
  rw [zrq] at h;split at h
  ·rename_i a r' hl hr;cases h;cases hp with
   | head=>exact (zdO hl).1
   | tail _ hp=>exact zpC ks _ hr p hp
  ·cases h
def Env.pick (E:Env) (ks bs:List Nat):Option Env:=
 match zDa E.sl ks,zrq E.bx bs with
 | some s,some b=>some ⟨s,b⟩
 | _,_=>none
theorem Sx.pick (h:E.pick ks bs=some E') (hs:Sx cx E a w):Sx cx E' a w:=by
 unfold Env.pick at h;split at h
 ·rename_i s b h1 h2;cases h;obtain ⟨γ,hB,hS,hX⟩:=hs;exact ⟨γ,hB,fun p hp=>hS p (zpD _ _ h1 p hp),fun p hp=>hX p (zpC _ _ h2 p hp)⟩
 ·cases h
theorem zPL (ks bs:List Nat) (h:E.pick ks bs=some E'):zaM P N ops [] E E':=fun _ _ _ _ _ hs hQ _=>hQ _ _ (hs.pick h)
end
def J (m:Bool) (P:Program) (c:Code) (S:Act->World->Prop) (Q:Exit->Act->World->Prop):Prop:=∀a w,S a w->wq m P c Q a w
section
variable {m:Bool} {P:Program} {S S' M:Act->World->Prop} {Q Q':Exit->Act->World->Prop} {x y c:Code}
theorem J.mono (h:J m P c S Q) (hS:∀a w,S' a w->S a w) (hQ:∀e a w,Q e a w->Q' e a w):J m P c S' Q':=fun a w hs=>znD (h a w (hS a w hs)) hQ
theorem J.post (h:J m P c S Q) (hQ:∀e a w,Q e a w->Q' e a w):J m P c S Q':=h.mono (fun _ _ h=>h) hQ
theorem zPi {σ ρ:Type} (body:σ->Option (σ⊕ρ)) (Es:σ->Act->World->Prop) (R:ρ->Exit->Act->World->Prop)
  (hb:∀s o,body s=some o->J m P c (Es s) (match o with
   | .inl s'=>fun e a w=>e= .normal/\Es s' a w
   | .inr r=>fun e a w=>e≠ .normal/\R r e a w))
  {s:σ} {r:ρ} (h:zW body s=some r) (hS:∀a w,S a w->Es s a w) (hQ:∀e a w,R r e a w->Q e a w):J m P (.loop c) S Q:=by
 obtain ⟨n,hn⟩:=zyx h;have key:∀n s,ziX body n s=some r->∀a w,Es s a w->zuK m P c (R r) n a w:=by
  intro n
  induction n with
  | zero=>intro s hn;cases hn
  | succ n ih=>
   intro s hn a w hs;rw [zuK];rw [ziX] at hn;split at hn
   ·cases hn
   ·rename_i s' hbs;refine znD (hb s _ hbs a w hs) fun e a' w' hq=>?_
    obtain ⟨rfl,hE⟩:=hq;exact ih s' hn a' w' hE
   ·rename_i r' hbs;cases hn;refine znD (hb s _ hbs a w hs) fun e a' w' hq=>?_
    cases e<;>first| exact absurd rfl hq.1| exact hq.2
 exact fun a w hs=>znD (zAb n (key n s hn a w (hS a w hs))) hQ
end
open Classical in
noncomputable def gh0 (F:Fp):Gh:=⟨fun b=>if F b then 0 else 1,fun _=>0⟩
def ziM:List Value->Value
 | [u]=>u
 | us=> .tuple us.toArray
def FnOk (P:Program) (f:FuncId) (ins ky:List AV):Prop:=
 ∀(w:World) (F:Fp) (vs:List Value),AV.relL (gh0 F) w ins vs->Calls P f vs.toArray w fun e w'=>∃γ us,e= .returned (ziM us)/\Below w.heap.size w w'/\
  ((∀b,b<w.heap.size->(γ.col b=0/\F b)\/γ.col b=1)/\∀b,w.heap.size<=b->b<w'.heap.size->γ.col b≠0)/\AV.relL γ w' ky us
def AV.toLV:AV->Option LV
 | .lf l=>some l
 | .sl r _ xs=>some (.sl xs.length r.size (xs.flatMap r.lv))
 | .own r _ _ _ xs=>some (.sl xs.length r.size (xs.flatMap r.lv))
 | _=>none
def subN (a b:List Nat):Bool:=a.all fun c=>memN c b
theorem zad (h:subN a b=true):∀c∈a,c∈b:=by
 intro c hc;simp only [subN,xI] at h;exact zaf.1 (h c hc)
theorem zrk {γ:Gh} {w:World} {α:Type} {r:Rp α} {e:TypeId} {ℓ:Nat} {C:List Nat} {xs:List α} {v:Value} (h:AV.rel γ w (.own r e ℓ C xs) v):zat (γ.F (ℓ::C)) w (.sl xs.length r.size (xs.flatMap r.lv)) v:=by
 obtain ⟨cs,ho,hg,hA,hn⟩:=h;have hA':zX (γ.F (ℓ::C)) w (xs.flatMap r.lv) cs:=hA.mono fun b _ hb=>xu _ hb
 have hl:=r.flat xs;obtain ⟨A,c,hv,hc,hm⟩:=zBu (γ:=γ) (w:=w) (r:=r) (e:=e) (ℓ:=ℓ) (C:=C) ⟨cs,ho,hg,hA,hn⟩;rw [hv];refine .sl _ _ _ A c cs hl (by rw [<-hA.1];exact hl) hc hm (fun h0=>?_) hA'.2;have hcells:=fun g hg=>ho.cells (g:=g) hg
 have km:=ho.lt;rcases ho.2 with ⟨rfl,h00⟩| ⟨g,kC,kM,hv',_⟩
 ·omega
 ·rw [hv'] at hv;injection hv with e1 e2 e3;subst e1;have hob:v.ownBlock=some g:=by rw [hv'];rfl
  refine ⟨g,0,rfl,?_,(km g hob).2,fun i hi=>?_⟩
  ·show γ.col g∈ℓ::C
   grind
  ·have ku:i<cs.length:=by rw [<-hA.1,hl];exact hi
   rw [xN ku];have:=hcells g hob i _ (xN ku);rw [zfU] at this;exact this
theorem zFH {a:AV} {l:LV} (h:a.toLV=some l) {γ:Gh} {w:World} {v:Value} (hr:a.rel γ w v) {C:List Nat} (hC:∀c∈a.cols,c∈C):zat (γ.F C) w l v:=by
 cases a with
 | lf l'=>cases h;exact hr.2.plain hr.1
 | sl r C' xs=>cases h;exact zat.mono hr fun b _ hb=>hC _ hb
 | own r e ℓ C' xs=>cases h;exact (zrk hr).mono fun b _ hb=>hC _ hb
 | any=>cases h
 | rc=>cases h
 | ep=>cases h
 | ptr=>cases h
 | bs=>cases h
 | tl=>cases h
 | qp=>cases h
 | em=>cases h
 | mo=>cases h
 | cu=>cases h
 | mp=>cases h
 | om=>cases h
 | tup=>cases h
 | ag=>cases h
 | fv=>cases h
 | bp=>cases h
 | it=>cases h
def zgv:List AV->Option (List LV)
 | []=>some []
 | a::l=>match a.toLV,zgv l with
  | some x,some r=>some (x::r)
  | _,_=>none
theorem zlU {l:List AV} {ls:List LV} (h:zgv l=some ls) {γ:Gh} {w:World} {vs:List Value} (hr:AV.relL γ w l vs) {C:List Nat} (hC:∀c∈AV.colsL l,c∈C):zX (γ.F C) w ls vs:=by
 induction l generalizing ls vs with
 | nil=>cases h;cases hr;exact .nil
 | cons a l ih=>
  obtain ⟨v,vs',rfl,h1,h2⟩:=hr;rw [zgv] at h;split at h
  ·rename_i x r hx hr';cases h;exact .cons (zFH hx h1 fun c hc=>hC c (yq _ hc)) (ih hr' h2 fun c hc=>hC c (yl _ hc))
  ·cases h
def zsQ (C:List Nat):AV->Bool
 | .lf x=>x.plain
 | .sl _ C' _=>subN C C'
 | _=>false
theorem zkJ (h:zgv l=some ls) (hr:zX (γ.F C) w ls vs) (hC:l.all (zsQ C)=true):AV.relL γ w l vs:=by
 induction l generalizing ls vs with
 | nil=>
  cases h;have:=hr.1;simp at this;exact yE this.symm
 | cons a l ih=>
  rw [zgv] at h;simp only [yO,xw] at hC;split at h
  ·rename_i x r hx hr';cases h;obtain ⟨v,vs',rfl,h1,h2⟩:=hr.head;refine ⟨v,vs',rfl,?_,ih hr' h2 hC.2⟩;cases a with
   | lf y=>cases hx;exact ⟨hC.1,h1.plain hC.1⟩
   | sl r' C' xs=>cases hx;exact zat.mono h1 fun b _ hb=>zad hC.1 _ hb
   | any=>cases hx
   | own=>exact absurd hC.1 (by simp [zsQ])
   | rc=>cases hx
   | ep=>cases hx
   | ptr=>cases hx
   | bs=>cases hx
   | tl=>cases hx
   | qp=>cases hx
   | em=>cases hx
   | mo=>cases hx
   | cu=>cases hx
   | mp=>cases hx
   | om=>cases hx
   | tup=>cases hx
   | ag=>cases hx
   | fv=>cases hx
   | bp=>cases hx
   | it=>cases hx
  ·cases h
def znS:Nat->List AV->List (Nat×AV)
 | _,[]=>[]
 | n,a::l=>(n,a)::znS (n+1) l
theorem zpm (h:AV.relL γ w l vs) (pre post:List Value):
  ∀p∈znS pre.length l,p.2.rel γ w ((pre++vs++post).toArray.getD p.1 undef):=by
 induction l generalizing vs pre with
 | nil=>intro p hp;cases hp
 | cons a l ih=>
  obtain ⟨v,vs',rfl,h1,h2⟩:=h;intro p hp;cases hp with
  | head=>simpa using h1
  | tail _ hp=>
   have hp':p∈znS (pre.length+1) l:=hp;have:=ih h2 (pre++[v]) p (by simpa using hp');simpa using this
structure AggT (P:Program) (t:TypeId) (n:Nat):Prop where
 agg:∀w,(isAgg t).run P w= .ok true w
 size:∀w,(sizeOf t).run P w= .ok n w
theorem zhn {P:Program} {t:TypeId} {n:Nat} (h:AggT P t n) {w:World} {b o:Nat} {cs:List Value} (hn:cs.length=n) (hc:∀i,i<cs.length->w.cell? ⟨b,o+i,none⟩=cs[i]?):
  (loadVar t ⟨b,o,none⟩).run P w= .ok (.agg cs.toArray) w:=by
 have hl:(loadCells ⟨b,o,none⟩ cs.length).run P w= .ok cs.toArray w:=run_loadCells_list (P:=P) w ⟨b,o,none⟩ cs fun j v hv=>by
  rw [zfU,hc j (yA.1 hv).1];exact hv
 rw [hn] at hl;simp [loadVar,h.agg,h.size,hl]
def zlY (P:Program) (E:Env):List ResultVar->List AV->Prop
 | [],[]=>True
 | .tmp t::rs,a::l=>lookup E.sl t=some a/\zlY P E rs l
 | .cell x t::rs,.rc r C y::l=>(∃ℓ b,lookup E.sl x=some (.ptr ℓ 0)/\zgW E.bx ℓ=some b/\zgv b.avs=some (r.lv y)/\subN (AV.colsL b.avs) C=true/\AggT P t r.size)/\zlY P E rs l
 | .cell x t::rs,.ag m::l=>(∃ℓ b,lookup E.sl x=some (.ptr ℓ 0)/\zgW E.bx ℓ=some b/\b.avs=m/\AggT P t m.length)/\zlY P E rs l
 | .cell x t::rs,.lf y::l=>(∃ℓ b,lookup E.sl x=some (.ptr ℓ 0)/\zgW E.bx ℓ=some b/\b.avs=[.lf y]/\zdS P t=true)/\zlY P E rs l
 | .cell x t::rs,.sl r C y::l=>(∃ℓ b,lookup E.sl x=some (.ptr ℓ 0)/\zgW E.bx ℓ=some b/\b.avs=[.sl r C y]/\zdS P t=true)/\zlY P E rs l
 | .cell x t::rs,.own r e q C y::l=>(∃ℓ b,lookup E.sl x=some (.ptr ℓ 0)/\zgW E.bx ℓ=some b/\b.avs=[.own r e q C y]/\zdS P t=true)/\zlY P E rs l
 | _,_=>False
def resF (tmps:Array Value):ResultVar->Sem Value
 | .tmp t=>pure (tmps.getD t undef)
 | .cell x t=>do loadVar t (<-asAddr (tmps.getD x undef))
theorem zvV {P:Program} {E:Env} {γ:Gh} {w:World} {a:Act} {x:Tmp} {t:TypeId} {av:AV} (hs:Sl γ w a E.sl) (hx:Bxs γ w E.bx) (h:∃ℓ b,lookup E.sl x=some (.ptr ℓ 0)/\zgW E.bx ℓ=some b/\b.avs=[av]/\zdS P t=true):
  ∃u,(resF a.tmps (.cell x t)).run P w= .ok u w/\av.rel γ w u:=by
 obtain ⟨ℓ,b,h1,h2,h3,h5⟩:=h;obtain ⟨hm,rfl⟩:=zdO h2;have hp:a.tmps.getD x undef= .pointer (some ⟨γ.box b.lab,0,none⟩):=hs _ (zdC h1);obtain ⟨u,hc,hr⟩:=Bx.cell (hx b hm) (off:=0) (a:=av) (by rw [h3];rfl);have hld:=zwR (P:=P) h5 hc;have ha:(asAddr (.pointer (some ⟨γ.box b.lab,0,none⟩))).run P w= .ok ⟨γ.box b.lab,0,none⟩ w:=rfl;exact ⟨u,by simp only [resF,xX,hp,ha,hld,ya],hr⟩
theorem zkx {P:Program} {E:Env} {γ:Gh} {w:World} {a:Act} (hs:Sl γ w a E.sl) (hx:Bxs γ w E.bx):∀(rs:List ResultVar) (l:List AV),zlY P E rs l->
  ∃us,(rs.mapM (resF a.tmps)).run P w= .ok us w/\AV.relL γ w l us
 | [],[],_=>⟨[],rfl,rfl⟩
 | .tmp t::rs,x::l,h=>by
  obtain ⟨us,hu,hr⟩:=zkx hs hx rs l h.2;refine ⟨a.tmps.getD t undef::us,?_,_,us,rfl,hs _ (zdC h.1),hr⟩;simp only [qK,resF,xX,yw,ya];rw [hu];rfl
 | .cell x t::rs,.rc r C y::l,h=>by
  obtain ⟨us,hu,hr⟩:=zkx hs hx rs l h.2;obtain ⟨ℓ,b,h1,h2,h3,h4,h5⟩:=h.1;obtain ⟨hm,rfl⟩:=zdO h2;have hp:a.tmps.getD x undef= .pointer (some ⟨γ.box b.lab,0,none⟩):=hs _ (zdC h1);obtain ⟨kR,cs,hh,hL,_⟩:=hx b hm;have hA:=zlU h3 hL (zad h4);have hld:=zhn h5 (w:=w) (b:=γ.box b.lab) (o:=0) (cs:=cs) (by rw [<-hA.1];exact r.len y) fun i hi=>by rw [yW w _ _ _ _ _ hh];simp
  refine ⟨.agg cs.toArray::us,?_,_,us,rfl,⟨cs,rfl,hA⟩,hr⟩;have ha:(asAddr (.pointer (some ⟨γ.box b.lab,0,none⟩))).run P w= .ok ⟨γ.box b.lab,0,none⟩ w:=rfl;simp only [qK,resF,xX,hp,ha,hld,yw,ya];rw [hu];rfl
 | .cell x t::rs,.ag m::l,h=>by
  obtain ⟨us,hu,hr⟩:=zkx hs hx rs l h.2;obtain ⟨ℓ,b,h1,h2,h3,h5⟩:=h.1;obtain ⟨hm,rfl⟩:=zdO h2;subst h3;have hp:a.tmps.getD x undef= .pointer (some ⟨γ.box b.lab,0,none⟩):=hs _ (zdC h1);obtain ⟨kR,cs,hh,hL,hone⟩:=hx b hm;have hld:=zhn h5 (w:=w) (b:=γ.box b.lab) (o:=0) (cs:=cs) (zbx hL) fun i hi=>by rw [yW w _ _ _ _ _ hh];simp
  refine ⟨.agg cs.toArray::us,?_,_,us,rfl,⟨cs,rfl,hL,hone⟩,hr⟩;have ha:(asAddr (.pointer (some ⟨γ.box b.lab,0,none⟩))).run P w= .ok ⟨γ.box b.lab,0,none⟩ w:=rfl;simp only [qK,resF,xX,hp,ha,hld,yw,ya];rw [hu];rfl
 | .cell x t::rs,.lf y::l,h=>by
  obtain ⟨us,hu,hr⟩:=zkx hs hx rs l h.2;obtain ⟨u,h1,h2⟩:=zvV hs hx h.1;exact ⟨u::us,by simp only [qK,xX,h1,ya,hu,yw],u,us,rfl,h2,hr⟩
 | .cell x t::rs,.sl r C y::l,h=>by
  obtain ⟨us,hu,hr⟩:=zkx hs hx rs l h.2;obtain ⟨u,h1,h2⟩:=zvV hs hx h.1;exact ⟨u::us,by simp only [qK,xX,h1,ya,hu,yw],u,us,rfl,h2,hr⟩
 | .cell x t::rs,.own r e q C y::l,h=>by
  obtain ⟨us,hu,hr⟩:=zkx hs hx rs l h.2;obtain ⟨u,h1,h2⟩:=zvV hs hx h.1;exact ⟨u::us,by simp only [qK,xX,h1,ya,hu,yw],u,us,rfl,h2,hr⟩
 | [],_::_,h=>h.elim
 | .cell _ _::_,[],h=>h.elim
 | .cell _ _::_,.any::_,h=>h.elim
 | .cell _ _::_,.ep ..::_,h=>h.elim
 | .cell _ _::_,.ptr ..::_,h=>h.elim
 | .cell _ _::_,.bs ..::_,h=>h.elim
 | .cell _ _::_,.tl ..::_,h=>h.elim
 | .cell _ _::_,.qp ..::_,h=>h.elim
 | .cell _ _::_,.em ..::_,h=>h.elim
 | .cell _ _::_,@AV.mo _ _ _ _ _ _ _ _ _::_,h=>h.elim
 | .cell _ _::_,.cu ..::_,h=>h.elim
 | .cell _ _::_,.mp ..::_,h=>h.elim
 | .cell _ _::_,.om ..::_,h=>h.elim
 | .cell _ _::_,.tup ..::_,h=>h.elim
 | .cell _ _::_,.fv ..::_,h=>h.elim
 | .cell _ _::_,.bp ..::_,h=>h.elim
 | .cell _ _::_,.it ..::_,h=>h.elim
 | .tmp _::_,[],h=>h.elim
theorem zjg (hs:Sl γ w a E.sl) (hx:Bxs γ w E.bx) (h:zlY P E fn.results.toList l):
  ∃us,(results fn a.tmps).run P w= .ok (ziM us) w/\AV.relL γ w l us:=by
 obtain ⟨us,hu,hr⟩:=zkx (P:=P) hs hx _ _ h;refine ⟨us,?_,hr⟩;have e:results fn a.tmps=(fn.results.mapM (resF a.tmps))>>=fun vs=>pure (if h:vs.size=1 then vs[0] else .tuple vs):=by
  rfl
 rw [e,<-qY (xs:=fn.results),uo,xX,Sem.run_map,hu];simp only [ya,yw];congr 1
 match us with
 | []=>rfl
 | [u]=>rfl
 | u::v::r=>
  rfl
theorem zKS (hf:P.funcs[f]? =some fn) (hb:fn.body=some c) (ku:ins.length<=fn.ntmps) (hres:zlY P E fn.results.toList ky)
  (hj:∀X:Ext,J true P c (Sx ⟨⟨fn.ntmps,[]⟩,X,false,#[]⟩ ⟨znS 0 ins,[]⟩) fun e a w=>e= .ret/\Sx ⟨⟨fn.ntmps,[]⟩,X,false,#[]⟩ E a w):FnOk P f ins ky:=by
 intro w F vs hr;have hl:=zbx hr;refine pm hf hb (wp_mono (zFZ (hj (fnX w F) _ w ⟨gh0 F,⟨⟨[],rfl,qr,fun D hD=>by cases hD⟩,fun _=>rfl,?_,(fun k hk=>by cases hk),Below.refl _ _,fun b _=>?_,fun b h1 h2=>by omega⟩,?_,fun b hb=>by cases hb⟩)) ?_)
 ·simp [hl];omega
 ·by_cases hF:F b<;>simp [gh0,hF]
 ·intro p hp;have:=zpm hr [] (List.replicate (fn.ntmps - vs.length) undef) p hp;simp only [xH] at this;have e:(vs++List.replicate (fn.ntmps - vs.length) undef).toArray=vs.toArray++Array.replicate (fn.ntmps - vs.toArray.size) undef:=by simp
  grind
 ·rintro e a w' ⟨rfl,γ,hB,hS,hX⟩;obtain ⟨us,hu,hu'⟩:=zjg (P:=P) (fn:=fn) hS hX hres;exact ⟨hB.clean rfl,ziM us,hu,γ,us,rfl,hB.ext.1,hB.ext.2,hu'⟩
def zyv:AV->AV
 | .lf l=> .lf l
 | .sl r _ xs=> .sl r [0] xs
 | .own r _ _ _ xs=> .sl r [0] xs
 | .rc r _ x=> .rc r [0] x
 | .ep r _ x off=> .ep r [0] x off
 | .qp r _ o=> .qp r [0] o
 | .mp rk rv _ m=> .mp rk rv [0] m
 | .em rk rv _ m=> .em rk rv [0] m
 | .om rk rv _ _ m=> .mp rk rv [0] m
 | _=> .any
def inAV:AV->AV
 | .ag l=> .ag (l.map zyv)
 | .fv g l=> .fv g (l.map zyv)
 | a=>zyv a
def zrY:AV->List Nat
 | .sl _ C _| .rc _ C _| .ep _ C _ _| .qp _ C _=>C
 | .own _ _ ℓ C _=>ℓ::C
 | .mp _ _ C _| .em _ _ C _=>C
 | .om _ _ ℓ C _=>ℓ::C
 | _=>[]
def zvA:AV->List Nat
 | .ag l=>l.flatMap zrY
 | .fv _ l=>l.flatMap zrY
 | a=>zrY a
theorem zHV (F:Fp) (b:Nat) (h:F b):(gh0 F).col b=0:=by simp [gh0,h]
theorem zhr {γ:Gh} {w:World} {a:AV} {v:Value} {D:List Nat} (h:a.rel γ w v) (hD:∀c∈zrY a,c∈D):(zyv a).rel (gh0 (γ.F D)) w v:=by
 have key:∀(C:List Nat),(∀c∈C,c∈D)->∀b,b<w.heap.size->γ.F C b->(gh0 (γ.F D)).F [0] b:=fun C hC b _ hb=>by
  show (gh0 (γ.F D)).col b∈[0];have hF:γ.F D b:=hC _ hb;rw [zHV (γ.F D) b hF];exact xt
 cases a with
 | any=>trivial
 | lf l=>exact h
 | sl r C xs=>exact zat.mono h (key C hD)
 | own r e ℓ C xs=>exact (zrk h).mono (key _ hD)
 | rc r C x=>obtain ⟨cs,hv,hA⟩:=h;exact ⟨cs,hv,hA.mono (key C hD)⟩
 | mp rk rv C m=>
  obtain ⟨b,es,cl,hv,hF,hb,hh,hE⟩:=h;exact ⟨b,es,cl,hv,key C hD b hb hF,hb,hh,hE.mono (key C hD)⟩
 | em rk rv C m=>
  obtain ⟨a,b,es,cl,hv,hFa,ha,hc1,hF,hb,hh,hE⟩:=h;exact ⟨a,b,es,cl,hv,key C hD a ha hFa,ha,hc1,key C hD b hb hF,hb,hh,hE.mono (key C hD)⟩
 | mo=>trivial
 | cu=>trivial
 | om rk rv ℓ C m=>
  obtain ⟨b,es,cl,hv,⟨hF,hbx⟩,hb,hh,hE,hn⟩:=h;exact ⟨b,es,cl,hv,key (ℓ::C) hD b hb (by show γ.col b∈ℓ::C;rw [hF];exact xt),hb,hh,(hE.mono (fun b _ hb=>xu _ hb)).mono (key (ℓ::C) hD)⟩
 | ep r C x off=>
  obtain ⟨b,o,cs,hv,hF,hb,hA,hc⟩:=h;exact ⟨b,o,cs,hv,key C hD b hb hF,hb,hA.mono (key C hD),hc⟩
 | qp r C o=>
  cases o with
  | none=>exact h
  | some x=>
   obtain ⟨b,cs,hv,hF,hb,hA,hc⟩:=h;exact ⟨b,cs,hv,key C hD b hb hF,hb,hA.mono (key C hD),hc⟩
 | bs=>trivial
 | tl=>trivial
 | ptr=>trivial
 | tup=>trivial
 | ag=>trivial
 | fv=>trivial
 | bp=>trivial
 | it=>trivial
theorem ztl :∀{l:List AV} {vs:List Value},AV.relL γ w l vs->(∀c∈l.flatMap zrY,c∈D)->AV.relL (gh0 (γ.F D)) w (l.map zyv) vs
 | [],_,h,_=>h
 | a::l,_,h,hD=>by
  obtain ⟨v,vs',rfl,h1,h2⟩:=h;exact ⟨v,vs',rfl,zhr h1 (fun c hc=>hD c (by rw [xE];exact yq _ hc)),ztl h2 (fun c hc=>hD c (by rw [xE];exact yl _ hc))⟩
theorem zEn (h:a.rel γ w v) (hD:∀c∈zvA a,c∈D):(inAV a).rel (gh0 (γ.F D)) w v:=by
 cases a with
 | ag l=>obtain ⟨vs,hv,hL,h1⟩:=h;exact ⟨vs,hv,ztl hL hD,h1⟩
 | fv g l=>obtain ⟨vs,hv,hL⟩:=h;exact ⟨vs,hv,ztl hL hD⟩
 | any=>trivial
 | lf l=>exact zhr h hD
 | sl r C xs=>exact zhr h hD
 | own r e ℓ C xs=>exact zhr h hD
 | rc r C x=>exact zhr h hD
 | mp rk rv C m=>exact zhr h hD
 | om rk rv ℓ C m=>exact zhr h hD
 | ep r C x off=>exact zhr h hD
 | qp r C o=>exact zhr h hD
 | em rk rv C m=>exact zhr h hD
 | mo=>trivial
 | cu=>trivial
 | bs=>trivial
 | tl=>trivial
 | ptr=>trivial
 | tup=>trivial
 | bp=>trivial
 | it=>trivial
def outC (D:List Nat) (s:Nat):List Nat->List Nat
 | []=>[]
 | c::C=>(match c with
  | 0=>D
  | c+1=>[c+1+s])++outC D s C
def zvM (D:List Nat) (s:Nat):AV->AV
 | .lf l=> .lf l
 | .sl r C xs=> .sl r (outC D s C) xs
 | .own r e ℓ C xs=> .own r e (ℓ+s) (outC D s C) xs
 | .rc r C x=> .rc r (outC D s C) x
 | .qp r C o=> .qp r (outC D s C) o
 | .mp rk rv C m=> .mp rk rv (outC D s C) m
 | .om rk rv ℓ C m=> .om rk rv (ℓ+s) (outC D s C) m
 | .bp r t ℓ C x=> .bp r t (ℓ+s) (outC D s C) x
 | .cu c ℓ C1 C2=> .cu c (ℓ+s) (outC D s C1) (outC D s C2)
 | _=> .any
def zhG (K C:List Nat):Bool:=K.all fun k=> !memN k C
theorem zmk (h:zhG K C=true):∀k∈K,k∉C:=fun k hk hc=>by
 simp only [zhG,xI] at h;have:=h k hk;rw [zaf.2 hc] at this;cases this
def zoa (K D:List Nat) (s:Nat):AV->Bool
 | .sl _ C _| .rc _ C _| .qp _ C _=>zhG K C
 | .own _ _ ℓ C _=>zhG K C&&Nat.ble 2 ℓ&& !memN ℓ K&& !memN (ℓ+s) (outC D s C)
 | .mp _ _ C _=>zhG K C
 | .om _ _ ℓ C _=>zhG K C&&Nat.ble 2 ℓ&& !memN ℓ K&& !memN (ℓ+s) (outC D s C)
 | .bp _ _ ℓ C _=>zhG K C&&Nat.ble 2 ℓ&& !memN ℓ K
 | .cu _ ℓ C1 C2=>zhG K C1&&zhG K C2&&Nat.ble 2 ℓ&& !memN ℓ K
 | _=>true
def zkI (s:Nat):AV->List Nat
 | .own _ _ ℓ _ _=>[ℓ+s]
 | .om _ _ ℓ _ _=>[ℓ+s]
 | .bp _ _ ℓ _ _=>[ℓ+s]
 | .cu _ ℓ _ _=>[ℓ+s]
 | _=>[]
def zpO (D:List Nat) (s:Nat):AV->AV
 | .ag l=> .ag (l.map (zvM D s))
 | .fv g l=> .fv g (l.map (zvM D s))
 | a=>zvM D s a
def zwx (K D:List Nat) (s:Nat):AV->Bool
 | .ag l=>l.all (zoa K D s)
 | .fv _ l=>l.all (zoa K D s)
 | a=>zoa K D s a
def zhe (s:Nat):AV->List Nat
 | .ag l=>l.flatMap (zkI s)
 | .fv _ l=>l.flatMap (zkI s)
 | a=>zkI s a
theorem zyZ (h:c∈C):(c=0->∀d∈D,d∈outC D s C)/\(c≠0->c+s∈outC D s C):=by
 induction C with
 | nil=>cases h
 | cons x C ih=>
  cases h with
  | head=>
   refine ⟨?_,?_⟩
   ·rintro rfl d hd;simp [outC,hd]
   ·intro hc;cases c with
    | zero=>exact absurd rfl hc
    | succ c=>simp [outC]
  | tail _ h=>
   obtain ⟨h1,h2⟩:=ih h;exact ⟨fun h0 d hd=>by simp only [outC,xF];exact .inr (h1 h0 d hd),fun h0=>by simp only [outC,xF];exact .inr (h2 h0)⟩
open Classical in
noncomputable def zfK (γ γc:Gh) (n:Nat) (D:List Nat) (s:Nat) (V:List Nat):Gh:=
 ⟨fun b=>if b<n then γ.col b else if γc.col b=0 then D.headD 1 else if γc.col b=1 then 1 else γc.col b+s,fun ℓ=>if ℓ∈V then γc.box (ℓ - s) else γ.box ℓ⟩
def zxD (γ γc:Gh) (n:Nat) (K D:List Nat):Prop:=∀b,b<n->(γc.col b=0/\γ.F D b)\/γc.col b∈K
theorem outF (hold:zxD γ γc n K D) (h1:∀k∈K,k∉C) (hk1:1∈K) (hb:γc.F C b) (hD:0∈C->D=[]->False\/b<n):
  (zfK γ γc n D s V).F (outC D s C) b:=by
 show (zfK γ γc n D s V).col b∈outC D s C;have hb':γc.col b∈C:=hb;unfold zfK;simp only;by_cases hn:b<n
 ·rw [xr hn];rcases hold b hn with ⟨h0,hF⟩| h0
  ·rw [h0] at hb';exact (zyZ hb').1 rfl _ hF
  grind
 ·rw [xq hn];by_cases h0:γc.col b=0
  ·rw [xr h0];rw [h0] at hb';cases D with
   | nil=>rcases hD hb' rfl with h| h;exact h.elim;exact absurd h hn
   | cons d D=>exact (zyZ hb').1 rfl d xt
  ·rw [xq h0];by_cases h2:γc.col b=1
   ·grind
   ·rw [xq h2];exact (zyZ hb').2 h0
theorem zyY {γ γc:Gh} {n:Nat} {K D:List Nat} {s:Nat} {V:List Nat} {w':World} {a:AV} {v:Value} (hold:zxD γ γc n K D) (hk1:1∈K) (hD:D≠[])
  (kz:zoa K D s a=true) (hV:∀c∈zkI s a,c∈V) (h:a.rel γc w' v):(zvM D s a).rel (zfK γ γc n D s V) w' v:=by
 have hF:∀C,zhG K C=true->∀b,b<w'.heap.size->γc.F C b->(zfK γ γc n D s V).F (outC D s C) b:=fun C h1 b _ hb=>outF hold (zmk h1) hk1 hb (fun _ e=>absurd e hD)
 have hnew:∀(ℓ g:Nat),2<=ℓ->memN ℓ K=false->γc.col g=ℓ->¬g<n:=fun ℓ g hℓ hm g1 km=>by
  rcases hold g km with ⟨h0,_⟩| h0
  ·omega
  ·rw [g1] at h0;rw [zaf.2 h0] at hm;cases hm
 cases a with
 | any=>trivial
 | lf l=>exact h
 | sl r C xs=>exact zat.mono h (hF C kz)
 | rc r C x=>
  obtain ⟨cs,hv,hA⟩:=h;exact ⟨cs,hv,hA.mono (hF C kz)⟩
 | own r e ℓ C xs=>
  obtain ⟨cs,ho,hg,hA,hnot⟩:=h;simp only [zoa,xw,xZ] at kz;obtain ⟨⟨⟨k1,k2⟩,k4⟩,k3⟩:=kz;have hℓ:2<=ℓ:=xP k2;refine ⟨cs,ho,fun g kH=>?_,hA.mono (hF C k1),fun hc=>by rw [zaf.2 hc] at k3;cases k3⟩;obtain ⟨g1,g2⟩:=hg g kH;refine ⟨?_,?_⟩
  ·unfold zfK
   grind
  ·unfold zfK;simp only;rw [xr (hV _ (by simp [zkI])),pL];exact g2
 | mp rk rv C m=>
  obtain ⟨b,es,cl,hv,hF',hb,hh,hE⟩:=h;exact ⟨b,es,cl,hv,hF C kz b hb hF',hb,hh,hE.mono (hF C kz)⟩
 | om rk rv ℓ C m=>
  obtain ⟨b,es,cl,hv,⟨g1,g2⟩,hb,hh,hE,hnot⟩:=h;simp only [zoa,xw,xZ] at kz;obtain ⟨⟨⟨k1,k2⟩,k4⟩,k3⟩:=kz;have hℓ:2<=ℓ:=xP k2;refine ⟨b,es,cl,hv,⟨?_,?_⟩,hb,hh,hE.mono (hF C k1),fun hc=>by rw [zaf.2 hc] at k3;cases k3⟩
  ·unfold zfK
   grind
  ·unfold zfK;simp only;rw [xr (hV _ (by simp [zkI])),pL];exact g2
 | ep=>trivial
 | ptr=>trivial
 | bs=>trivial
 | tl=>trivial
 | qp r C o=>
  cases o with
  | none=>exact h
  | some x=>
   obtain ⟨b,cs,hv,hF',hb,hA,hc⟩:=h;exact ⟨b,cs,hv,hF C kz b hb hF',hb,hA.mono (hF C kz),hc⟩
 | em=>trivial
 | mo=>trivial
 | cu c ℓ C1 C2=>
  simp only [zoa,xw,xZ] at kz;obtain ⟨⟨⟨k0,k1⟩,k2⟩,k4⟩:=kz;have hℓ:2<=ℓ:=xP k2;refine c.move (xx _) (fun _ _ _=>rfl) (fun b _ g1=>?_) (hF C1 k0) (hF C2 k1) ?_ h
  ·unfold zfK
   grind
  ·unfold zfK;simp only;rw [xr (hV _ (by simp [zkI])),pL]
 | tup=>trivial
 | ag=>trivial
 | fv=>trivial
 | it=>trivial
 | bp r t ℓ C x=>
  obtain ⟨b,cs,hv,⟨g1,g2⟩,hb,hh,h1c,hA⟩:=h;simp only [zoa,xw,xZ] at kz;obtain ⟨⟨k1,k2⟩,k4⟩:=kz;have hℓ:2<=ℓ:=xP k2;refine ⟨b,cs,hv,⟨?_,?_⟩,hb,hh,h1c,hA.mono (hF C k1)⟩
  ·unfold zfK
   grind
  ·unfold zfK;simp only;rw [xr (hV _ (by simp [zkI])),pL];exact g2
theorem zts (hold:zxD γ γc n K D) (hk1:1∈K) (hD:D≠[]):∀(l:List AV) (vs:List Value),
  l.all (zoa K D s)=true->(∀c∈l.flatMap (zkI s),c∈V)->AV.relL γc w' l vs->AV.relL (zfK γ γc n D s V) w' (l.map (zvM D s)) vs
 | [],vs,_,_,h=>h
 | a::l,vs,kz,hV,h=>by
  obtain ⟨v,vs',rfl,h1,h2⟩:=h;simp only [yO,xw] at kz
  exact ⟨v,vs',rfl,zyY hold hk1 hD kz.1 (fun c hc=>hV c (by simp only [xE,xF];exact .inl hc)) h1,
   zts hold hk1 hD l vs' kz.2 (fun c hc=>hV c (by simp only [xE,xF];exact .inr hc)) h2⟩
theorem zvN (hold:zxD γ γc n K D) (hk1:1∈K) (hD:D≠[])
  (kz:zwx K D s a=true) (hV:∀c∈zhe s a,c∈V) (h:a.rel γc w' v):(zpO D s a).rel (zfK γ γc n D s V) w' v:=by
 have key:zpO D s a=zvM D s a->zwx K D s a=zoa K D s a->zhe s a=zkI s a->(zpO D s a).rel (zfK γ γc n D s V) w' v:=fun e1 e2 e3=>by
  rw [e1];exact zyY hold hk1 hD (e2▸kz) (e3▸hV) h
 cases a with
 | ag l=>obtain ⟨vs,hv,hL,h1⟩:=h;exact ⟨vs,hv,zts hold hk1 hD l vs kz hV hL,h1⟩
 | fv g l=>obtain ⟨vs,hv,hL⟩:=h;exact ⟨vs,hv,zts hold hk1 hD l vs kz hV hL⟩
 | bp r t ℓ C x=>exact key rfl rfl rfl
 | it=>exact key rfl rfl rfl
 | bs=>exact key rfl rfl rfl
 | tl=>exact key rfl rfl rfl
 | qp=>exact key rfl rfl rfl
 | em=>exact key rfl rfl rfl
 | mo=>exact key rfl rfl rfl
 | cu=>exact key rfl rfl rfl
 | any=>exact key rfl rfl rfl
 | lf l=>exact key rfl rfl rfl
 | sl r C xs=>exact key rfl rfl rfl
 | own r e ℓ C xs=>exact key rfl rfl rfl
 | rc r C x=>exact key rfl rfl rfl
 | ep r C x off=>exact key rfl rfl rfl
 | ptr ℓ off=>exact key rfl rfl rfl
 | mp rk rv C m=>exact key rfl rfl rfl
 | om rk rv ℓ C m=>exact key rfl rfl rfl
 | tup l=>exact key rfl rfl rfl
def zoJ:List AV->AV
 | [a]=>a
 | l=> .tup l
theorem zrx (h:AV.relL γ w l vs) (hf:∀a∈l,∀v,a.rel γ w v->(f a).rel γ' w' v):AV.relL γ' w' (l.map f) vs:=by
 induction l generalizing vs with
 | nil=>exact h
 | cons a l ih=>
  obtain ⟨v,vs',rfl,h1,h2⟩:=h;exact ⟨v,vs',rfl,hf a xt v h1,ih h2 fun b hb=>hf b (xu _ hb)⟩
theorem zsm (h:AV.relL γ w l us):(zoJ l).rel γ w (ziM us):=by
 match l,us,h with
 | [],us,h=>cases h;exact ⟨[],rfl,rfl⟩
 | [a],us,h=>obtain ⟨v,vs',rfl,h1,h2⟩:=h;cases h2;exact h1
 | a::b::l,us,h=>
  have h':=h;obtain ⟨v,vs',rfl,h1,v2,vs2,rfl,h2,h3⟩:=h;exact ⟨_,rfl,h'⟩
theorem zIk {P:Program} {o:Oper} {f:FuncId} {args:List Operand} {ts:Array TypeId} {ins ky:List AV} (xs:List AV) (D:List Nat) (s:Nat)
  (ho:o.op= .call ⟨.value (.func f),args.toArray,ts⟩) (hc:∀as w,(callFunc f as).run P w= .ok (.enter f as) w) (ok:FnOk P f ins ky)
  (hin:xs.map inAV=ins) (ku:xs.length=args.length) (hD:(xs.all fun a=>subN (zvA a) D)=true) (hD0:D.isEmpty=false) (hout:(ky.all (zwx [1] D s))=true):
  zB P o (args.zip xs) [] [] (ky.flatMap (zhe s)) (zoJ (ky.map (zpO D s))) []:=by
 intro γ a w hi hb next Q hk;have hvs:AV.relL (gh0 (γ.F D)) w ins (args.map a.eval):=by
  subst hin;clear hb hk hout ok ho;simp only [xI] at hD
  induction xs generalizing args with
  | nil=>cases args<;>first| rfl| (simp at ku)
  | cons x xs ih=>
   cases args with
   | nil=>simp at ku
   | cons y args=>
    exact ⟨_,_,rfl,zEn (hi (y,x) (by simp)) (zad (hD x xt)),
     ih (by simpa using ku) (fun p hp=>hi p (xu _ hp)) (fun b hb=>hD b (xu _ hb))⟩
 have hcall:=ok w (γ.F D) _ hvs;have kF:(execOp a.eval o).run P w= .ok (.enter f (args.map a.eval).toArray) w:=by
  simp [execOp,ho,resolve,Act.eval,Deferred.ofValue,invoke,hc]
 unfold Oper.wp;rw [kF,qG];refine hcall.mono fun e w' ⟨γc,us,he,hB,⟨hold,hfr⟩,hr⟩=>?_
 subst he;have hDne:D≠[]:=fun e=>by rw [e] at hD0;cases hD0
 simp only [xI] at hout;refine hk (zfK γ γc w.heap.size D s (ky.flatMap (zhe s))) w' _ ⟨hB.os,hB.tape,hB.output,hB.size,fun b hb _=>hB.block b hb,fun b hb=>?_,fun ℓ hℓ=>?_,fun b h1 h2 h0=>?_⟩ (zsm (zrx hr fun x hx v hv=>?_)) (fun b hb=>by cases hb)
 ·show (if b<w.heap.size then γ.col b else _)=_;rw [xr hb]
 ·show (if ℓ∈ky.flatMap (zhe s) then _ else γ.box ℓ)=_;rw [xq hℓ]
 ·exfalso;have kO:=hfr b h1 h2;have h0':(if b<w.heap.size then γ.col b else if γc.col b=0 then D.headD 1 else if γc.col b=1 then 1 else γc.col b+s)=0:=h0
  grind
 ·exact zvN (K:=[1]) (fun b hb=>(hold b hb).imp id fun h=>by simp [h]) (by simp) hDne (hout x hx) (fun c hc=>qh.2 ⟨x,hx,hc⟩) hv
structure ElT (P:Program) (t e:TypeId) (size bytes:Nat):Prop where
 u:P.underlying t=some (.slice e)
 ex:∃i z,P.info? e=some i/\i.zero=some z/\i.size=size/\i.bytes=bytes/\z.cells.size=size
theorem ElT.size {P:Program} {t e:TypeId} {size bytes:Nat} (h:ElT P t e size bytes) (w:World):(sizeOf e).run P w= .ok size w:=by
 obtain ⟨i,z,h1,h2,h3,h4,h5⟩:=h.ex;simp [sizeOf,typeInfo,h1,h3]
section
variable {γ:Gh} {w:World} {α:Type} {r:Rp α} {C:List Nat} {xs:List α} {v:Value} {D:List Nat}
theorem znB (h:zat (γ.F D) w (.sl xs.length r.size (xs.flatMap r.lv)) v):∃A c cs,v= .slice A xs.length c/\xs.length<=c/\c<=maxLen/\zX (γ.F D) w (xs.flatMap r.lv) cs/\cs.length=xs.length*r.size/\
  (0<xs.length->∃b off,A=some ⟨b,off,none⟩/\γ.F D b/\b<w.heap.size/\∀i,i<xs.length*r.size->w.cell? ⟨b,off+i,none⟩=cs[i]?):=by
 cases h with
 | sl _ _ _ A c cs hl hcs hc hm hA hr=>exact ⟨A,c,cs,rfl,hc,hm,⟨by rw [hl,hcs],hr⟩,hcs,hA⟩
theorem zuh {α:Type} {xs:List α} {i:Int} {x:α} (h:idx xs i=some x):0<=i/\i<xs.length/\xs[i.toNat]? =some x:=by
 unfold idx at h
 grind
theorem zMX (h:zat (γ.F D) w (.sl xs.length r.size (xs.flatMap r.lv)) v) {i:Int} {x:α} (hx:idx xs i=some x):∃b off cs c,v= .slice (some ⟨b,off,none⟩) xs.length c/\γ.F D b/\b<w.heap.size/\
  zX (γ.F D) w (r.lv x) cs/\∀j,j<cs.length->w.cell? ⟨b,off+i.toNat*r.size+j,none⟩=cs[j]? :=by
 obtain ⟨h0,h1,h2⟩:=zuh hx;obtain ⟨A,c,cs,rfl,hc,hm,hA,hcs,hcell⟩:=znB h;obtain ⟨b,off,rfl,hF,hb,hcell⟩:=hcell (by omega);have hA':=(hA.drop (i.toNat*r.size)).take r.size;rw [r.flat_at xs _ x h2] at hA';refine ⟨b,off,_,c,rfl,hF,hb,hA',fun j hj=>?_⟩;have hj':j<r.size:=by rw [<-hA'.1,r.len] at hj;exact hj
 have hle:(i.toNat+1)*r.size<=xs.length*r.size:=yI _ (by omega);rw [qI] at hle;rw [yX,xr hj',qD,qW];exact hcell _ (by omega)
end
def isSl {α:Type} (r:Rp α) (xs:List α) (D:List Nat) (a:AV):Prop:=∀γ w v,a.rel γ w v->zat (γ.F D) w (.sl xs.length r.size (xs.flatMap r.lv)) v
theorem zbd {α:Type} (r:Rp α) (xs:List α) (C:List Nat):isSl r xs C (.sl r C xs):=fun _ _ _ h=>h
theorem zbv {α:Type} (r:Rp α) (xs:List α) (e:TypeId) (ℓ:Nat) (C:List Nat):isSl r xs (ℓ::C) (.own r e ℓ C xs):=fun _ _ _ h=>zrk h
theorem zEu {α:Type} (r:Rp α) (C:List Nat):isSl r [] C (.lf (.val (.slice none 0 0))):=fun γ w v h=>by
 rw [zqU h];exact .sl 0 _ [] none 0 [] (by simp) (by simp) (xx _) (xC _) (fun h=>absurd h (by omega)) (fun i l u h=>by simp at h)
theorem zwF {P:Program} {t e:TypeId} {size bytes:Nat} (hT:ElT P t e size bytes) (w:World) (b off n c:Nat) (k:IntKind) (i:Int) (h0:0<=i) (h1:i<n):
  (Instr.indexAt t (.slice (some ⟨b,off,none⟩) n c) (.int k i)).run P w= .ok (.pointer (some ⟨b,off+i.toNat*size,none⟩)) w:=by
 simp [Instr.indexAt,asIntOf,run_underlying hT.u,hT.size,h0,h1,zfU]
theorem zhI {P:Program} {o:Oper} {α:Type} {r:Rp α} {xs:List α} {D:List Nat} {a:AV} {k:IntKind} {i:Int} {x:α} {t e:TypeId} {y z:Operand} {bytes:Nat}
  (ho:o.op= .indexAddr t y z) (hT:ElT P t e r.size bytes) (hs:isSl r xs D a) (hx:idx xs i=some x):zB P o [(y,a),(z,.lf (.int k i))] [] [] [] (.ep r D x 0) []:=by
 refine zF fun γ ev w hi _=>?_
 have h1:=hs γ w _ (hi (y,a) (by simp));have h2:=zdU (hi (z,.lf (.int k i)) (by simp));simp only at h1 h2;obtain ⟨b,off,cs,c,hv,hF,hb,hA,hc⟩:=zMX h1 hx;obtain ⟨i0,i1,_⟩:=zuh hx;exact ⟨_,w,γ,by simp [execOp,ho,hv,h2,zwF hT w b off _ c k i i0 i1],Tr.refl _ _ _ _,⟨b,off+i.toNat*r.size,cs,rfl,hF,hb,hA,hc⟩,fun b hb=>by cases hb⟩
theorem zGK {P:Program} {o:Oper} {α:Type} {r:Rp α} {D:List Nat} {x:α} {t:TypeId} {y:Operand}
  (ho:o.op= .load t y) (hT:AggT P t r.size):zB P o [(y,.ep r D x 0)] [] [] [] (.rc r D x) []:=by
 refine zF fun γ ev w hi _=>?_
 obtain ⟨b,off,cs,hv,hF,hb,hA,hc⟩:=hi (y,.ep r D x 0) (by simp);simp only at hv;have hl:=zhn hT (w:=w) (b:=b) (o:=off) (cs:=cs) (by rw [<-hA.1];exact r.len x) hc;exact ⟨_,w,γ,by simp [execOp,ho,hv,Instr.loadAt,Instr.sureAddr,hl],Tr.refl _ _ _ _,⟨cs,rfl,hA⟩,fun b hb=>by cases hb⟩
theorem zPy {P:Program} {o:Oper} {α β:Type} {r:Rp α} {D:List Nat} {x:α} {t:TypeId} {y:Operand} {off:Nat} (r':Rp β) (xs:List β)
  (ho:o.op= .load t y) (hT:zdS P t=true) (hs:(r.lv x)[off]? =some (.sl xs.length r'.size (xs.flatMap r'.lv))):zB P o [(y,.ep r D x off)] [] [] [] (.sl r' D xs) []:=by
 refine zF fun γ ev w hi _=>?_
 obtain ⟨b,o',cs,hv,hF,hb,hA,hc⟩:=hi (y,.ep r D x off) (by simp);simp only at hv;have ku:off<cs.length:=by rw [<-hA.1];exact (yA.1 hs).1
 have hr:=hA.2 off _ _ hs (xN ku);have hcell:=hc off ku;rw [xN ku] at hcell;exact ⟨_,w,γ,by simp [execOp,ho,hv,zjH hT hcell],Tr.refl _ _ _ _,hr,fun b hb=>by cases hb⟩
theorem zqy {α:Type} {xs ys:List α} {i j:Int} (h:cut xs i j=some ys):0<=i/\i<=j/\j<=xs.length/\ys=(xs.drop i.toNat).take (j.toNat - i.toNat):=by
 unfold cut at h
 grind
theorem zCt {α:Type} {xs ys:List α} {i j:Int} (h:cut xs i j=some ys):ys.length=j.toNat - i.toNat:=by
 obtain ⟨h0,h1,h2,rfl⟩:=zqy h;simp;omega
theorem zcS (w:World) (k:IntKind) (i:Int) (y:Nat) (code:BoundsCode) (h0:0<=i) (h1:i<=y):(Instr.sliceBound (.int k i) y code).run P w= .ok i.toNat w:=by
 simp [Instr.sliceBound,asIntOf,h0,h1]
def loOf:Option AV->Option Int
 | none=>some 0
 | some (.lf (.int _ i))=>some i
 | _=>none
def hiOf (n:Int):Option AV->Option Int
 | none=>some n
 | some (.lf (.int _ i))=>some i
 | _=>none
def zIz:Option Operand->Option AV->List (Operand×AV)
 | some x,some a=>[(x,a)]
 | _,_=>[]
theorem zDm {P:Program} {t e:TypeId} {size bytes:Nat} (hT:ElT P t e size bytes) (w:World) (A:Option Addr) (n c:Nat) (hc:n<=c) (lo hi:Option Value) (i j:Int)
  (hlo:(lo=none/\i=0)\/∃k,lo=some (.int k i)) (hhi:(hi=none/\j=n)\/∃k,hi=some (.int k j)) (h0:0<=i) (h1:i<=j) (h2:j<=n):
  (Instr.sliceAt t (.slice A n c) lo hi none).run P w= .ok (.slice (if c=i.toNat then A else A.map (·.add (i.toNat*size))) (j.toNat - i.toNat) (c - i.toNat)) w:=by
 have key:(Instr.sliceBounds true n c lo hi none).run P w= .ok (i.toNat,j.toNat,c) w:=by
  rcases hlo with ⟨rfl,rfl⟩| ⟨k,rfl⟩<;>rcases hhi with ⟨rfl,rfl⟩| ⟨k',rfl⟩
  ·rfl
  ·simp [Instr.sliceBounds,zcS w k' j c _ (by omega) (by omega)]
  ·simp [Instr.sliceBounds,zcS w k i n _ h0 h1]
  ·have:=zcS (P:=P) w k i j.toNat .sliceB h0 (by omega);simp [Instr.sliceBounds,zcS w k' j c _ (by omega) (by omega),this]
 simp [Instr.sliceAt,Instr.slice,run_underlying hT.u,key,hT.size]
theorem zHM {γ:Gh} {w:World} {α:Type} {r:Rp α} {xs ys:List α} {D:List Nat} {A:Option Addr} {c:Nat} (h:zat (γ.F D) w (.sl xs.length r.size (xs.flatMap r.lv)) (.slice A xs.length c)) {i j:Int} (hy:cut xs i j=some ys):
  zat (γ.F D) w (.sl ys.length r.size (ys.flatMap r.lv)) (.slice (if c=i.toNat then A else A.map (·.add (i.toNat*r.size))) (j.toNat - i.toNat) (c - i.toNat)):=by
 obtain ⟨A',c',cs,hv,hc,hm,hA,hcs,hcell⟩:=znB h;injection hv with e1 _ e3;subst e1 e3;obtain ⟨h0,h1,h2,e⟩:=zqy hy;have hl:=zCt hy;rw [hl];have hf:ys.flatMap r.lv=((xs.flatMap r.lv).drop (i.toNat*r.size)).take ((j.toNat - i.toNat)*r.size):=by rw [e,r.flat_take,r.flat_drop]
 have hA':=(hA.drop (i.toNat*r.size)).take ((j.toNat - i.toNat)*r.size);rw [<-hf] at hA';have ku:(ys.flatMap r.lv).length=(j.toNat - i.toNat)*r.size:=by rw [r.flat,hl]
 refine .sl _ _ _ _ _ _ ku (by rw [<-hA'.1,ku]) (by omega) (by omega) (fun hn=>?_) hA'.2;have hpos:0<xs.length:=by omega
 have kO:¬c=i.toNat:=by omega
 obtain ⟨b,off,rfl,hF,hb,hcell⟩:=hcell hpos;rw [xq kO];refine ⟨b,off+i.toNat*r.size,by simp [zfU],hF,hb,fun k hk=>?_⟩;have hle:j.toNat*r.size<=xs.length*r.size:=yI _ (by omega);have hji:(j.toNat - i.toNat)*r.size=j.toNat*r.size - i.toNat*r.size:=Nat.sub_mul ..;have hij:i.toNat*r.size<=j.toNat*r.size:=yI _ (by omega);rw [yX,xr hk,qD,qW];exact hcell _ (by omega)
theorem zfO {P:Program} {o:Oper} {α:Type} {r:Rp α} {xs ys:List α} {D:List Nat} {a:AV} {i j:Int} {t e:TypeId} {x:Operand} {lo hi:Option Operand} (lov hiv:Option AV) {bytes:Nat}
  (ho:o.op= .slice t x lo hi none) (hT:ElT P t e r.size bytes) (hs:isSl r xs D a) (hlo:lo.isSome=lov.isSome/\loOf lov=some i) (hhi:hi.isSome=hiv.isSome/\hiOf xs.length hiv=some j) (hy:cut xs i j=some ys):
  zB P o ((x,a)::(zIz lo lov++zIz hi hiv)) [] [] [] (.sl r D ys) []:=by
 refine zF fun γ ev w hin _=>?_
 have h1:=hs γ w _ (hin (x,a) (by simp));simp only at h1;obtain ⟨A,c,cs,hv,hc,hm,_⟩:=znB h1;obtain ⟨c0,c1,c2,_⟩:=zqy hy;have hlo':(lo.map ev=none/\i=0)\/∃k,lo.map ev=some (.int k i):=by
  cases lo with
  | none=>
   cases lov with
   | none=>left;exact ⟨rfl,by simpa [loOf] using hlo.2.symm⟩
   | some a=>simp at hlo
  | some y=>
   cases lov with
   | none=>simp at hlo
   | some b=>
    have hb:=hin (y,b) (by simp [zIz]);have h2:=hlo.2;unfold loOf at h2;split at h2
    ·grind
    ·rename_i k i' heq;cases heq;cases h2;right;exact ⟨k,by simp [zdU hb]⟩
    ·cases h2
 have hhi':(hi.map ev=none/\j=(xs.length:Int))\/∃k,hi.map ev=some (.int k j):=by
  cases hi with
  | none=>
   cases hiv with
   | none=>left;exact ⟨rfl,by simpa [hiOf] using hhi.2.symm⟩
   | some a=>simp at hhi
  | some y=>
   cases hiv with
   | none=>simp at hhi
   | some b=>
    have hb:=hin (y,b) (by simp [zIz]);have h2:=hhi.2;unfold hiOf at h2;split at h2
    ·grind
    ·rename_i k i' heq;cases heq;cases h2;right;exact ⟨k,by simp [zdU hb]⟩
    ·cases h2
 rw [hv] at h1;exact ⟨_,w,γ,by simp [execOp,ho,hv,zDm hT w A _ c hc _ _ i j hlo' hhi' c0 c1 c2],Tr.refl _ _ _ _,zHM h1 hy,fun b hb=>by cases hb⟩
def Rp.Plain {α:Type} (r:Rp α):Prop:=∀x l,l∈r.lv x->l.plain=true
theorem zX.plain (h:zX F w ls cs) (hp:∀l∈ls,l.plain=true):zX G w' ls cs:=
 ⟨h.1,fun i l u h1 h2=>(h.2 i l u h1 h2).plain (hp l (qS h1))⟩
theorem Rp.Plain.flat {α:Type} {r:Rp α} (h:r.Plain) (xs:List α):∀l∈xs.flatMap r.lv,l.plain=true:=by
 intro l hl;obtain ⟨x,_,hx⟩:=qh.1 hl;exact h x l hx
def zIa {α:Type} (r:Rp α) (e:TypeId) (ℓ:Nat) (C:List Nat) (xs:List α) (a:AV):Prop:=∀γ w v,a.rel γ w v->AV.rel γ w (.own r e ℓ C xs) v
theorem zoy {α:Type} (r:Rp α) (e:TypeId) (ℓ:Nat) (C:List Nat) (xs:List α):zIa r e ℓ C xs (.own r e ℓ C xs):=fun _ _ _ h=>h
theorem zBe {α:Type} (r:Rp α) (e:TypeId) (ℓ:Nat) (C:List Nat) (h:memN ℓ C=false):zIa r e ℓ C [] (.lf (.val (.slice none 0 0))):=fun γ w v hv=>by
 rw [zqU hv];refine ⟨[],pM w 0 e r.size,?_,zX.nil,fun hc=>by rw [zaf.2 hc] at h;cases h⟩;intro g hg;cases hg
theorem zyC {α:Type} (r:Rp α) (e:TypeId) (ℓ:Nat) (C:List Nat) (h:memN ℓ C=false):AV.le (.lf (.val (.slice none 0 0))) (.own r e ℓ C []):=zBe r e ℓ C h
theorem ziZ {α:Type} (r:Rp α) (C:List Nat):AV.le (.lf (.val (.slice none 0 0))) (.sl r C []):=zEu r C
theorem zQD {α:Type} (r:Rp α) (C C':List Nat) (xs:List α) (h:subN C C'=true):AV.le (.sl r C xs) (.sl r C' xs):=fun _ _ _ hv=>zat.mono hv fun _ _ hb=>zad h _ hb
def LIM:Nat:=140737488355328
def app {α:Type} (bytes:Nat) (xs ys:List α):Option (List α):=if (xs.length+ys.length)*bytes<=LIM then some (xs++ys) else none
theorem zxM {α:Type} {bytes:Nat} {xs ys zs:List α} (h:app bytes xs ys=some zs):(xs.length+ys.length)*bytes<=140737488355328/\zs=xs++ys:=by
 unfold app at h;split at h
 ·rename_i hl;cases h;exact ⟨hl,rfl⟩
 ·cases h
def zcD (γ:Gh) (n ℓ g:Nat):Gh:=⟨fun b=>if b<n then γ.col b else ℓ,fun k=>if k=ℓ then g else γ.box k⟩
theorem ztx {P:Program} {t e:TypeId} {size bytes:Nat} (hT:ElT P t e size bytes) (ty:TypeId) (w:World) (base:Nat) (v:Value) (n:Nat) (xs:List Value) (kQ:w.ownsRow base e size v n xs) (c:Nat):
  (Builtin.append_ #[t,t] ty #[v,.slice none 0 c]).run P w= .ok v w:=by
 obtain ⟨i,z,hi,hz,hs,hb,hzs⟩:=hT.ex;rcases kQ.2 with ⟨rfl,rfl⟩| ⟨g,kC,kM,rfl,_,_,hnc,_⟩
 ·simp [Builtin.append_,run_underlying hT.u,sizeOf,typeInfo,hi,Builtin.lenOf,Builtin.firstCells]
 ·simp [Builtin.append_,run_underlying hT.u,sizeOf,typeInfo,hi,Builtin.lenOf,Builtin.firstCells,hnc,storeCells]
theorem zxw {P:Program} {t e:TypeId} {size bytes:Nat} (hT:ElT P t e size bytes) (hpos:0<size) (hbp:0<bytes) (ty:TypeId) (w:World) (v:Value) (n:Nat) (xs:List Value) (kQ:w.ownsRow 0 e size v n xs)
  (A:Option Addr) (m c:Nat) (news:List Value) (hl:news.length=m*size) (hA:0<m->∃b off,A=some ⟨b,off,none⟩/\∀i,i<m*size->w.cell? ⟨b,off+i,none⟩=news[i]?) (h1:∀u∈news,u.oneCell'=true)
  (hlim:(n+m)*bytes<=140737488355328):
  ∃v' w',(Builtin.append_ #[t,t] ty #[v,.slice A m c]).run P w= .ok v' w'/\w'.ownsRow 0 e size v' (n+m) (xs++news)/\w.grownBy w' v.ownBlock/\(v'.ownBlock=v.ownBlock\/v'.ownBlock=some w.heap.size):=by
 obtain ⟨i,z,hi,hz,hs,hb,hzs⟩:=hT.ex;have hnm:n+m<=maxLen:=by
  have:(n+m)*1<=(n+m)*bytes:=up _ hbp;unfold maxLen;omega
 rcases A with _| ad
 ·have hm:m=0:=by
   grind
  subst hm;have hn:news=[]:=yE (by simpa using hl);subst hn;exact ⟨v,w,ztx hT ty w 0 v n xs kQ c,by simpa using kQ,⟨rfl,rfl,rfl,xx _,fun _ _ _=>rfl⟩,.inl rfl⟩
 ·have hnews:∀j u,news[j]? =some u->w.cell? (ad.add j)=some u:=by
   intro j u hu;have hj:j<m*size:=by rw [<-hl];exact (yA.1 hu).1
   have hm:0<m:=by
    grind
   obtain ⟨b,off,h,hc⟩:=hA hm;cases h;rw [zfU,hc j hj];exact hu
  obtain ⟨v',w',hr,ho,hg,_,hbk⟩:=run_append_own_at (P:=P) w 0 t ty e i z size bytes hT.u hi hz hs hb hzs hpos v n xs kQ ad m c news hl hnews h1 hnm hlim (xC _)
  grind
theorem zHs {γ:Gh} {w w':World} {e:TypeId} {size n:Nat} {ℓ:Nat} {v v':Value} {cs:List Value} (ho:w.ownsRow 0 e size v n cs) (hg:∀g,v.ownBlock=some g->γ.col g=ℓ/\γ.box ℓ=g) (hgr:w.grownBy w' v.ownBlock)
  (hbk:v'.ownBlock=v.ownBlock\/v'.ownBlock=some w.heap.size):
  ∃γ',Tr [ℓ] [ℓ] γ w γ' w'/\(∀g,v'.ownBlock=some g->γ'.col g=ℓ/\γ'.box ℓ=g):=by
 refine ⟨zcD γ w.heap.size ℓ (v'.ownBlock.getD (γ.box ℓ)),⟨hgr.os,hgr.tape,hgr.output,hgr.size,fun b hb hn=>hgr.block b hb fun e=>?_,fun b hb=>?_,fun k hk=>?_,fun b hb _ h=> .inr (by simp [zcD,Nat.not_lt.2 hb] at h;simp [h])⟩,fun g kH=>⟨?_,?_⟩⟩
 ·grind
 ·simp [zcD,hb]
 ·simp only [xy,xL,xM] at hk;simp [zcD,hk]
 ·rcases hbk with h| h
  ·rw [h] at kH;have:=(ho.lt g kH).2;simp [zcD,this,(hg g kH).1]
  ·rw [h] at kH;cases kH;simp [zcD]
 ·simp [zcD,kH]
theorem zCK {P:Program} {o:Oper} {α:Type} {r:Rp α} {xs ys zs:List α} {C D:List Nat} {a b:AV} {t e:TypeId} {x y:Operand} {bytes:Nat} (ℓ:Nat) (C2:List Nat)
  (ho:o.op= .call ⟨.builtin .append,#[x,y],#[t,t]⟩) (hT:ElT P t e r.size bytes) (hb:Nat.blt 0 bytes=true) (hx:zIa r e ℓ C xs a) (hy:isSl r ys D b) (hz:app bytes xs ys=some zs)
  (hC:r.Plain\/(subN C C2&&subN D C2)=true) (hℓ:memN ℓ C2=false):zB P o [(x,a),(y,b)] [] [ℓ] [ℓ] (.own r e ℓ C2 zs) []:=by
 refine zF fun γ ev w hi _=>?_
 obtain ⟨cs,kQ,hg,hA,hnot⟩:=hx γ w _ (hi (x,a) (by simp));have h2:=hy γ w _ (hi (y,b) (by simp));simp only at kQ hg h2;obtain ⟨A,c,cs',hv,hc,hm,hA',hcs',hcell⟩:=znB h2;obtain ⟨hlim,rfl⟩:=zxM hz
 obtain ⟨v',w',hr,ho',hgr,hbk⟩:=zxw hT r.pos (qL (xP hb)) o.type w _ _ _ kQ A ys.length c cs' hcs'
  (fun hm=>by obtain ⟨b,off,e,_,_,hc⟩:=hcell hm;exact ⟨b,off,e,hc⟩) hA'.one hlim
 obtain ⟨γ',ht,hg'⟩:=zHs kQ hg hgr hbk;refine ⟨v',w',γ',?_,ht,⟨cs++cs',by rw [xz];exact ho',hg',?_,fun hc=>by rw [zaf.2 hc] at hℓ;cases hℓ⟩,fun b hb=>by cases hb⟩
 ·refine zaG (args:=[x,y]) (ts:=[t,t]) ho rfl rfl rfl fun consts=>?_
  simp [builtin,hv,hr]
 ·rw [ym];rcases hC with hp| hC
  ·exact (hA.plain (hp.flat xs)).append (hA'.plain (hp.flat ys))
  ·simp only [xw] at hC;have hn2:∀c∈C2,c∉[ℓ]:=fun c hc h=>by
    simp only [xy,xL,xM] at h;subst h;rw [zaf.2 hc] at hℓ;cases hℓ
   have k1:=ht.all (C:=C2) hn2 (hA.mono fun b _ hb=>zad hC.1 _ hb);have k2:=ht.all (C:=C2) hn2 (hA'.mono fun b _ hb=>zad hC.2 _ hb);exact k1.append k2
def zok:LV->Value->Bool
 | .int k n,.int k' n'=>zuk k k'&&decide (n=n')
 | .bool b,.bool b'=>(b&&b')|| (!b&& !b')
 | .str l,.string s=>l.isEmpty&&Nat.beq s.data.toList.length 0
 | .sl n _ ls,.slice none 0 0=>Nat.beq n 0&&ls.isEmpty
 | .val (.slice none 0 0),.slice none 0 0=>true
 | .val (.pointer none),.pointer none=>true
 | .val (.map none),.map none=>true
 | .val .nilFunc,.nilFunc=>true
 | .val .nilIface,.nilIface=>true
 | _,_=>false
theorem zJe (h:zok l v=true) (F:Fp) (w:World):zat F w l v:=by
 unfold zok at h;split at h
 ·simp only [xw,xT] at h;have:=zul h.1;rw [this,h.2];exact .int _ _
 ·rename_i b b';cases b<;>cases b'<;>first| exact .bool _| cases h
 ·rename_i l s;simp only [xw,pn] at h;obtain ⟨rfl,h2⟩:=h;have h3:s.data.toList=[]:=yE (xG h2);have:s=⟨([]:List UInt8).toArray⟩:=by
   obtain ⟨d⟩:=s
   grind
  rw [this];exact .str []
 ·simp only [xw,pn] at h;obtain ⟨h1,rfl⟩:=h;have:=xG h1;subst this;exact .sl 0 _ [] none 0 [] (by simp) (by simp) (xx _) (xC _) (fun h=>absurd h (by omega)) (fun i l u h=>by simp at h)
 ·exact .val _ rfl
 ·exact .val _ rfl
 ·exact .val _ rfl
 ·exact .val _ rfl
 ·exact .val _ rfl
 ·cases h
def zokL:List LV->List Value->Bool
 | [],[]=>true
 | l::ls,v::vs=>zok l v&&zokL ls vs
 | _,_=>false
theorem zAg (h:zokL ls vs=true) (F:Fp) (w:World):zX F w ls vs:=by
 induction ls generalizing vs with
 | nil=>cases vs<;>first| exact .nil| cases h
 | cons l ls ih=>
  cases vs with
  | nil=>cases h
  | cons v vs=>
   simp only [zokL,xw] at h;exact .cons (zJe h.1 F w) (ih h.2)
structure ZeT (P:Program) {α:Type} (t e:TypeId) (r:Rp α) (bytes:Nat) (x0:α):Prop where
 u:P.underlying t=some (.slice e)
 ex:∃i z,P.info? e=some i/\i.zero=some z/\i.size=r.size/\i.bytes=bytes/\z.cells.size=r.size/\zokL (r.lv x0) z.cells.toList=true
theorem ZeT.el {P:Program} {α:Type} {t e:TypeId} {r:Rp α} {bytes:Nat} {x0:α} (h:ZeT P t e r bytes x0):ElT P t e r.size bytes:=by
 obtain ⟨i,z,h1,h2,h3,h4,h5,_⟩:=h.ex;exact ⟨h.u,i,z,h1,h2,h3,h4,h5⟩
def zeB (P:Program) {α:Type} (e:TypeId) (r:Rp α) (bytes:Nat) (x0:α):Bool:=match P.info? e with
 | some i=>match i.zero with
  | some z=>Nat.beq i.size r.size&&Nat.beq i.bytes bytes&&Nat.beq z.cells.size r.size&&zokL (r.lv x0) z.cells.toList
  | none=>false
 | none=>false
theorem ZeT.ofB {P:Program} {α:Type} {t e:TypeId} {r:Rp α} {bytes:Nat} {x0:α} (hu:P.underlying t=some (.slice e)) (h:zeB P e r bytes x0=true):ZeT P t e r bytes x0:=by
 unfold zeB at h;split at h
 ·rename_i i hi;split at h
  ·rename_i z hz;simp only [xw] at h;exact ⟨hu,i,z,hi,hz,xG h.1.1.1,xG h.1.1.2,xG h.1.2,h.2⟩
  ·cases h
 ·cases h
theorem zNZ {β:Type} (l:List β) (n i:Nat) (h:i<n*l.length):((List.replicate n l).flatten)[i]? =l[i%l.length]? :=by
 induction n generalizing i with
 | zero=>omega
 | succ n ih=>
  rw [List.replicate_succ,qt,pJ];split
  ·rename_i hi;rw [qu hi]
  ·rename_i hi;rw [qI] at h;rw [ih _ (by omega)];congr 1;rw [<-Nat.mod_eq_sub_mod (by omega)]
theorem zyI {α:Type} {r:Rp α} {x0:α} {z:Value} (hs:z.cells.size=r.size) (hz:zokL (r.lv x0) z.cells.toList=true) (F:Fp) (w:World) (n m:Nat) (hnm:n<=m):
  zX F w ((List.replicate n x0).flatMap r.lv) ((madeCells z.cells (m*r.size)).toList.take (n*r.size)):=by
 have hr:=zAg hz F w;have hl:(madeCells z.cells (m*r.size)).toList.length=m*r.size:=by rw [yJ,po]
 have hle:n*r.size<=m*r.size:=yI _ hnm;refine ⟨by rw [r.flat,pN,xS,hl];omega,fun i l u h1 h2=>?_⟩;have hi:i<n*r.size:=by have:=(yA.1 h1).1;rw [r.flat,pN] at this;exact this
 have e1:(List.replicate n x0).flatMap r.lv=(List.replicate n (r.lv x0)).flatten:=by rw [pO,List.map_replicate]
 rw [e1,zNZ _ _ _ (by rw [r.len];exact hi),r.len] at h1;rw [yX,xr hi] at h2;have hmod:i%r.size<z.cells.size:=by rw [hs];exact Nat.mod_lt _ r.pos
 have e2:(madeCells z.cells (m*r.size)).toList[i]? =z.cells.toList[i%r.size]? :=by
  have him:i<m*r.size:=by omega
  simp only [madeCells,Array.toList_map,Array.toList_range,qa,List.getElem?_range him,qM,hs]
  grind
 rw [e2] at h2;exact hr.2 _ l u h1 h2
def mkO {α:Type} (bytes:Nat) (x0:α) (n m:Int):Option (List α):=if 0<=n/\n<=m/\m*bytes<=LIM then some (List.replicate n.toNat x0) else none
theorem zIn {P:Program} {o:Oper} {α:Type} {r:Rp α} {t e:TypeId} {x y:Operand} {bytes:Nat} {x0:α} {k k':IntKind} {n m:Int} {xs:List α} (ℓ:Nat)
  (ho:o.op= .makeSlice t x y) (hT:ZeT P t e r bytes x0) (hb:Nat.blt 0 bytes=true) (hm:mkO bytes x0 n m=some xs):zB P o [(x,.lf (.int k n)),(y,.lf (.int k' m))] [] [] [ℓ] (.own r e ℓ [] xs) []:=by
 refine zF fun γ ev w hi _=>?_
 have h1:=zdU (hi (x,.lf (.int k n)) (by simp));have h2:=zdU (hi (y,.lf (.int k' m)) (by simp));simp only at h1 h2;unfold mkO at hm;split at hm
 case isFalse=>cases hm
 rename_i hh;obtain ⟨h0,hnm,hlim⟩:=hh;cases hm;obtain ⟨i,z,hi',hz,hs,hby,hzs,hzo⟩:=hT.ex;have hbp:0<bytes:=qL (xP hb);have hmb:m<=m*bytes:=by
  have:m*1<=m*(bytes:Int):=Int.mul_le_mul_of_nonneg_left (by omega) (by omega);omega
 have hL:(LIM:Int)=140737488355328:=rfl;have hr:=run_make (P:=P) w t e i z hT.u hi' hz k k' n m h0 hnm (by rw [hby,Int.mul_comm];omega) (by omega);rw [hs] at hr;have hnew:=yV w (.cells (madeCells z.cells (m.toNat*r.size)) e)
 refine ⟨.slice (some ⟨w.heap.size,0,none⟩) n.toNat m.toNat,w.alloc (.cells (madeCells z.cells (m.toNat*r.size)) e),zcD γ w.heap.size ℓ w.heap.size,by simp [execOp,ho,h1,h2,hr],⟨rfl,rfl,rfl,by simp,fun b hb _=>Below.heap_alloc w _ b hb,fun b hb=>by simp [zcD,hb],fun k hk=>?_,fun b hb _ h=> .inr (by simp [zcD,Nat.not_lt.2 hb] at h;simp [h])⟩,
  ⟨(madeCells z.cells (m.toNat*r.size)).toList.take (n.toNat*r.size),?_,fun g hg=>?_,?_,by simp⟩,fun b hb=>by cases hb⟩
 ·simp only [xy,xL,xM] at hk;simp [zcD,hk]
 ·rw [pN];have hle:n.toNat*r.size<=m.toNat*r.size:=yI _ (by omega);have hml:m.toNat<=maxLen:=by unfold maxLen;omega
  refine ⟨by rw [xS,yJ,po];omega,.inr ⟨w.heap.size,m.toNat,_,rfl,xC _,hnew,by omega,hml,by rw [po],rfl⟩⟩
 ·cases hg;simp [zcD]
 ·exact zyI hzs hzo _ _ _ _ (by omega)
def zuP {β:Type} (cs:List β) (off:Nat) (vs:List β):List β:=cs.take off++vs++cs.drop (off+vs.length)
theorem zyo (off:Nat):∀(vs:List Value) (k:Nat) (cs:Array Value),off+k+vs.length<=cs.size->
  ((vs.zipIdx k).foldl (fun (cs:Array Value) (p:Value×Nat)=>cs.setIfInBounds (off+p.2) p.1) cs).toList=cs.toList.take (off+k)++vs++cs.toList.drop (off+k+vs.length)
 | [],k,cs,_=>by simp
 | v::vs,k,cs,h=>by
  simp only [yk] at h;rw [List.zipIdx_cons,yi,zyo off vs (k+1) _ (by simp;omega)];have:=list_seg_step cs.toList (off+k) v vs (by simp;omega)
  grind
def zrm:AV->Option (List LV)
 | .rc r _ x=>some (r.lv x)
 | .ag l=>zgv l
 | a=>match a.toLV with
  | some l=>some [l]
  | none=>none
theorem ztt (h:zrm a=some ls) (hr:a.rel γ w v) (hC:subN a.cols C=true):zX (γ.F C) w ls v.cells.toList:=by
 have leaf:∀l,a.toLV=some l->zX (γ.F C) w [l] v.cells.toList:=fun l hl=>by
  have h1:=zFH hl hr (zad hC);have:v.cells=#[v]:=by
   have h1c:=h1.one;cases v<;>first| rfl| cases h1c
  rw [this];exact .cons h1 .nil
 cases a with
 | rc r C' x=>
  cases h;obtain ⟨cs,rfl,hA⟩:=hr;exact hA.mono fun b _ hb=>zad hC _ hb
 | ag l=>
  obtain ⟨vs,rfl,hL,_⟩:=hr;exact zlU h hL (zad hC)
 | any=>cases h
 | lf l=>cases h;exact leaf _ rfl
 | sl=>cases h;exact leaf _ rfl
 | own=>cases h;exact leaf _ rfl
 | ep=>cases h
 | ptr=>cases h
 | bs=>cases h
 | tl=>cases h
 | qp=>cases h
 | em=>cases h
 | mo=>cases h
 | cu=>cases h
 | mp=>cases h
 | om=>cases h
 | tup=>cases h
 | fv=>cases h
 | bp=>cases h
 | it=>cases h
def zAS (place:Nat->Option (Nat×Nat)) (cs:List LV):List (Nat×List LV)->Option (List LV)
 | []=>some cs
 | (i,vs)::kl=>match place i with
  | none=>none
  | some (off,size)=>match Nat.beq vs.length size&&Nat.ble (off+vs.length) cs.length with
   | true=>zAS place (zuP cs off vs) kl
   | false=>none
theorem zvu :∀(ps:List (Nat×List LV)) (vs:List (Nat×Value)) (cs:List LV) (cells:Array Value) (out:List LV),zAS place cs ps=some out->
  zX F w cs cells.toList->ps.length=vs.length->(∀(k:Nat) (p:Nat×List LV) (v:Nat×Value),ps[k]? =some p->vs[k]? =some v->p.1=v.1/\zX F w p.2 v.2.cells.toList)->
  ∃cells',Instr.fill place cells vs=some cells'/\zX F w out cells'.toList
 | [],vs,cs,cells,out,h,hA,hl,_=>by
  cases h;cases vs with
  | nil=>exact ⟨cells,rfl,hA⟩
  | cons=>simp at hl
 | (i,ls)::ps,vs,cs,cells,out,h,hA,hl,hp=>by
  cases vs with
  | nil=>simp at hl
  | cons v vs=>
   obtain ⟨j,v⟩:=v;obtain ⟨hij,hv⟩:=hp 0 (i,ls) (j,v) rfl rfl;simp only at hij hv;subst hij;rw [zAS] at h;split at h
   ·cases h
   ·rename_i off size hpl;split at h
    ·rename_i hb;simp only [xw] at hb;have e1:=xG hb.1;have e2:=xP hb.2;have kG:v.cells.size=ls.length:=by rw [hv.1];simp
     have hcl:cells.size=cs.length:=by rw [hA.1];simp
     have hset:=zyo off v.cells.toList 0 cells (by simp;omega);simp only [yz] at hset;have hA2:zX F w (zuP cs off ls) (v.cells.toList.zipIdx.foldl (fun (cs:Array Value) (p:Value×Nat)=>cs.setIfInBounds (off+p.2) p.1) cells).toList:=by
      rw [hset];unfold zuP;rw [hv.1];exact ((hA.take off).append hv).append (hA.drop _)
     obtain ⟨cells',hf,hr⟩:=zvu ps vs _ _ out h hA2 (by simpa using hl) (fun k p u h1 h2=>hp (k+1) p u h1 h2);refine ⟨cells',?_,hr⟩;rw [Instr.fill,hpl];simp only;rw [xq (by simp;omega)];rw [<-hf];congr 1;rw [<-uq];simp
    ·cases h
def zsh:List (Nat×Operand)->List AV->Option (List (Nat×List LV))
 | [],[]=>some []
 | (i,_)::l,a::as=>match zrm a,zsh l as with
  | some ls,some r=>some ((i,ls)::r)
  | _,_=>none
 | _,_=>none
theorem zrn {γ:Gh} {w:World} {ev:Operand->Value} {C:List Nat}:∀(l:List (Nat×Operand)) (as:List AV) (ps:List (Nat×List LV)),zsh l as=some ps->(∀p∈(l.map (·.2)).zip as,p.2.rel γ w (ev p.1))->
  subN (AV.colsL as) C=true->ps.length=(l.map fun p=>(p.1,ev p.2)).length/\∀(k:Nat) (p:Nat×List LV) (v:Nat×Value),ps[k]? =some p->(l.map fun p=>(p.1,ev p.2))[k]? =some v->p.1=v.1/\zX (γ.F C) w p.2 v.2.cells.toList
 | [],[],ps,h,_,_=>by cases h;exact ⟨rfl,fun k p v h=>by simp at h⟩
 | (i,x)::l,a::as,ps,h,hr,hC=>by
  rw [zsh] at h;split at h
  ·rename_i ls r h1 h2;cases h;have hC1:subN a.cols C=true:=by
    simp only [subN,xI,AV.colsL] at hC|-
    grind
   have hC2:subN (AV.colsL as) C=true:=by
    simp only [subN,xI,AV.colsL] at hC|-
    grind
   obtain ⟨g1,g2⟩:=zrn l as r h2 (fun p hp=>hr p (by simp [hp])) hC2;refine ⟨by simp [g1],fun k p v hp hv=>?_⟩;cases k with
   | zero=>
    simp at hp hv;subst hp hv;exact ⟨rfl,ztt h1 (hr (x,a) (by simp)) hC1⟩
   | succ k=>exact g2 k p v (by simpa using hp) (by simpa using hv)
  ·cases h
 | [],_::_,ps,h,_,_=>by cases h
 | _::_,[],ps,h,_,_=>by cases h
def zEc (place:Nat->Option (Nat×Nat)) (zl:List LV) (k5:List (Nat×Operand)) (as:List AV):Option (List LV):=match zsh k5 as with
 | some ps=>zAS place zl ps
 | none=>none
theorem zyf {k5:List (Nat×Operand)} (h:zEc place zl k5 as=some out):∃ps,zsh k5 as=some ps/\zAS place zl ps=some out:=by
 unfold zEc at h
 grind
structure StT (P:Program) (t:TypeId) (places:List (Nat×Nat)) (zl:List LV):Prop where
 ex:∃fs z,P.underlying t=some (.struct fs)/\(∀w,(zeroValue t).run P w= .ok z w)/\(∀w,(fs.mapM (m:=Sem) fun (f:Field)=>do pure (f.offset,<-sizeOf f.type)).run P w= .ok places.toArray w)/\zokL zl z.cells.toList=true
theorem zM {P:Program} {o:Oper} {α:Type} {r:Rp α} {t:TypeId} {k5:List (Nat×Operand)} {places:List (Nat×Nat)} {zl:List LV} (as:List AV) (C:List Nat) (x:α)
  (ho:o.op= .build t k5.toArray) (hT:StT P t places zl) (hC:subN (AV.colsL as) C=true) (hf:zEc (fun i=>places[i]?) zl k5 as=some (r.lv x)):
  zB P o ((k5.map (·.2)).zip as) [] [] [] (.rc r C x) []:=by
 refine zF fun γ ev w hi _=>?_
 obtain ⟨ps,hp,hf⟩:=zyf hf;obtain ⟨fs,z,hu,hz,hpl,hzo⟩:=hT.ex;obtain ⟨g1,g2⟩:=zrn k5 as ps hp hi hC;obtain ⟨cells',hfill,hA⟩:=zvu ps _ zl z.cells _ hf (zAg hzo _ w) g1 g2;have hfill':Instr.fill (fun i=>places.toArray[i]?) z.cells (k5.map fun p=>(p.1,ev p.2))=some cells':=by
  simp_all
 refine ⟨.agg cells',w,γ,?_,Tr.refl _ _ _ _,⟨cells'.toList,by simp,hA⟩,fun b hb=>by cases hb⟩;simp only [execOp,ho,Instr.build,xX,hz,qb hu,ya,hpl,pK];have e:(List.map (fun (x:Nat×Operand)=>(x.1,ev x.2)) k5)=k5.map fun p=>(p.1,ev p.2):=rfl
 simp only [hfill',yw,ya]
theorem zLW {α:Type} {r:Rp α} {x0:α} {z:Value} (hs:z.cells.size=r.size) (hz:zokL (r.lv x0) z.cells.toList=true) (F:Fp) (w:World) (n:Nat):
  zX F w ((List.replicate n x0).flatMap r.lv) (madeCells z.cells (n*r.size)).toList:=by
 have:=zyI hs hz F w n n (xx _)
 rwa [yR (by rw [yJ,po];exact xx _)] at this
theorem zfe {P:Program} {o:Oper} {α:Type} {r:Rp α} {t e:TypeId} {n:Nat} {k5:List (Nat×Operand)} {bytes:Nat} {x0:α} (as:List AV) (ℓ:Nat) (C:List Nat) (xs:List α)
  (ho:o.op= .buildSlice t n k5.toArray) (hT:ZeT P t e r bytes x0) (hn:(Nat.beq n xs.length&&Nat.ble (n*r.size) 16777216)=true) (hC:subN (AV.colsL as) C=true) (hℓ:memN ℓ C=false)
  (hf:zEc (fun i=>some (i*r.size,r.size)) ((List.replicate n x0).flatMap r.lv) k5 as=some (xs.flatMap r.lv)):zB P o ((k5.map (·.2)).zip as) [] [] [ℓ] (.own r e ℓ C xs) []:=by
 refine zF fun γ ev w hi _=>?_
 obtain ⟨ps,hp,hf⟩:=zyf hf;obtain ⟨i,z,hi',hz,hs,hby,hzs,hzo⟩:=hT.ex;simp only [xw] at hn;have e1:=xG hn.1;have e2:=xP hn.2;obtain ⟨g1,g2⟩:=zrn k5 as ps hp hi hC;obtain ⟨cells',hfill,hA⟩:=zvu ps _ _ (madeCells z.cells (n*r.size)) _ hf (zLW hzs hzo _ w n) g1 g2;have kG:(sizeOf e).run P w= .ok r.size w:=hT.el.size w;have hcs:cells'.size=n*r.size:=by rw [<-yJ,<-hA.1,r.flat,e1]
 have hzero:(zeroValue e).run P w= .ok z w:=by simp [zeroValue,typeInfo,hi',hz]
 have ht:Tr [] [ℓ] γ w (zcD γ w.heap.size ℓ w.heap.size) (w.alloc (.cells cells' e)):=⟨rfl,rfl,rfl,by simp,fun b hb _=>Below.heap_alloc w _ b hb,fun b hb=>by simp [zcD,hb],fun k hk=>by
  simp only [xy,xL,xM] at hk;simp [zcD,hk],fun b hb _ h=> .inr (by simp [zcD,Nat.not_lt.2 hb] at h;simp [h])⟩
 refine ⟨.slice (some ⟨w.heap.size,0,none⟩) n n,w.alloc (.cells cells' e),_,?_,ht,
  ⟨cells'.toList,?_,fun g hg=>?_,?_,fun hc=>by rw [zaf.2 hc] at hℓ;cases hℓ⟩,fun b hb=>by cases hb⟩
 ·have hgt:¬(n*r.size>2^24):=by omega
  simp only [execOp,ho,Instr.buildSlice,xX,qb hT.u,ya,kG,xq hgt,yw,pK];by_cases h0:n*r.size=0
  ·have:n=0:=by rcases Nat.mul_eq_zero.1 h0 with h| h;exact h;exact absurd h (by have:=r.pos;omega)
   have hm0:madeCells z.cells (n*r.size)=#[]:=by rw [h0];simp [madeCells]
   rw [hm0] at hfill;rw [xr h0];have hr0:Array.range 0=#[]:=rfl;simp only [h0,hr0,Array.map_empty,hfill];simp [newRow]
  ·have hm0:madeCells z.cells (n*r.size)=(Array.range (n*r.size)).map (fun x=>z.cells[x%z.cells.size]!):=rfl;rw [hm0] at hfill;simp only [xq h0,xX,hzero,yw,ya,hfill];simp [newRow]
 ·rw [<-e1];refine World.ownsRow_lit w cells' n (xC _) ?_ hcs;have:n*1<=n*r.size:=up _ r.pos;unfold maxLen;omega
 ·cases hg;simp [zcD]
 ·exact ht.all (fun c _ h=>by cases h) hA
def zokA:AV->Value->Bool
 | .lf l,v=>l.plain&&zok l v
 | .sl _ _ xs,.slice none 0 0=>xs.isEmpty
 | .own _ _ ℓ C xs,.slice none 0 0=>xs.isEmpty&& !memN ℓ C
 | _,_=>false
theorem zMP (h:zokA a v=true) (γ:Gh) (w:World):a.rel γ w v/\v.oneCell'=true:=by
 unfold zokA at h;split at h
 ·simp only [xw] at h;have:=zJe h.2 (fun _=>False) w;exact ⟨⟨h.1,this⟩,this.one⟩
 ·rename_i α r C xs;have hx:xs=[]:=pn.1 h;subst hx;exact ⟨zEu r C γ w _ ⟨rfl,.val _ rfl⟩,rfl⟩
 ·rename_i α r e ℓ C xs;simp only [xw,xZ] at h;have hx:xs=[]:=pn.1 h.1;subst hx;exact ⟨zBe r e ℓ C h.2 γ w _ ⟨rfl,.val _ rfl⟩,rfl⟩
 ·cases h
def zBZ:List AV->List Value->Bool
 | [],[]=>true
 | a::l,v::vs=>zokA a v&&zBZ l vs
 | _,_=>false
theorem zCa (h:zBZ l vs=true) (γ:Gh) (w:World):AV.relL γ w l vs/\∀u∈vs,u.oneCell'=true:=by
 induction l generalizing vs with
 | nil=>cases vs<;>first| exact ⟨rfl,fun u hu=>by cases hu⟩| cases h
 | cons a l ih=>
  cases vs with
  | nil=>cases h
  | cons v vs=>
   simp only [zBZ,xw] at h;obtain ⟨h1,h2⟩:=zMP h.1 γ w;obtain ⟨h3,h4⟩:=ih h.2;refine ⟨⟨v,vs,rfl,h1,h3⟩,fun u hu=>?_⟩;cases hu with
   | head=>exact h2
   | tail _ hu=>exact h4 u hu
theorem zrH (γ:Gh) (w:World) (ℓ:Nat) (o:Obj):Tr [] [ℓ] γ w (zcD γ w.heap.size ℓ w.heap.size) (w.alloc o):=
 ⟨rfl,rfl,rfl,by simp,fun b hb _=>Below.heap_alloc w _ b hb,fun b hb=>by simp [zcD,hb],fun k hk=>by
  simp only [xy,xL,xM] at hk;simp [zcD,hk],fun b hb _ h=> .inr (by simp [zcD,Nat.not_lt.2 hb] at h;simp [h])⟩
theorem zeM (γ:Gh) (n ℓ g:Nat):(zcD γ n ℓ g).box ℓ=g:=by simp [zcD]
theorem zko (γ:Gh) (n ℓ g:Nat):(zcD γ n ℓ g).col n=ℓ:=by simp [zcD]
theorem zqW (ℓ:Nat) (as:List AV) (ho:o.op= .alloc t) (hz:∀w,(zeroValue t).run P w= .ok z w) (hs:zBZ as z.cells.toList=true):
  zB P o [] [] [] [ℓ] (.ptr ℓ 0) [⟨ℓ,t,as⟩]:=by
 refine zF fun γ ev w hi _=>?_
 refine ⟨.pointer (some ⟨w.heap.size,0,none⟩),w.alloc (.cells z.cells t),_,?_,zrH γ w ℓ _,?_,fun b hb=>?_⟩
 ·simp [execOp,ho,Instr.alloc,Sem.run_bind,hz,newVar,newRow]
 ·show _=_;rw [zeM]
 ·simp only [xy,xL,xM] at hb;subst hb;have h:=zCa hs (zcD γ w.heap.size ℓ w.heap.size) (w.alloc (.cells z.cells t));refine ⟨by rw [zeM,zko],z.cells.toList,?_,h.1,h.2⟩;rw [zeM,qY];exact yV w _
theorem zjy (ℓ:Nat) (as:List AV) (C:List Nat) (ho:o.op= .box t x) (hp:zrm a=some ls) (hC:subN a.cols C=true) (ha:zgv as=some ls) (hl:as.all (zsQ C)=true):
  zB P o [(x,a)] [] [] [ℓ] (.ptr ℓ 0) [⟨ℓ,t,as⟩]:=by
 refine zF fun γ ev w hi _=>?_
 have hA:=ztt hp (hi (x,a) (by simp)) hC;refine ⟨.pointer (some ⟨w.heap.size,0,none⟩),w.alloc (.cells (ev x).cells t),_,?_,zrH γ w ℓ _,?_,fun b hb=>?_⟩
 ·simp [execOp,ho,Instr.box,newVar,newRow]
 ·show _=_;rw [zeM]
 ·simp only [xy,xL,xM] at hb;subst hb;have hA':=(zrH γ w ℓ (.cells (ev x).cells t)).all (fun c _ h=>by cases h) hA;refine ⟨by rw [zeM,zko],(ev x).cells.toList,?_,zkJ ha hA' hl,hA.one⟩;rw [zeM,qY];exact yV w _
theorem zCM {P:Program} {o:Oper} {α:Type} {r:Rp α} {t:TypeId} {y:Operand} {b:Bx} {off:Nat} (x:α) (C:List Nat) (ho:o.op= .load t y) (hT:AggT P t r.size) (hs:zgv ((b.avs.drop off).take r.size)=some (r.lv x))
  (hC:subN (AV.colsL ((b.avs.drop off).take r.size)) C=true):zB P o [(y,.ptr b.lab off)] [b] [] [] (.rc r C x) []:=by
 refine zF fun γ ev w hi hb=>?_
 have h1:ev y=_:=hi (y,.ptr b.lab off) (by simp);obtain ⟨kR,cs,hh,hL,hone⟩:=hb b (by simp);have sub:∀(l:List AV) (vs:List Value) (k:Nat),AV.relL γ w l vs->AV.relL γ w (l.drop k) (vs.drop k):=by
  intro l
  induction l with
  | nil=>intro vs k h;cases h;cases k<;>rfl
  | cons a l ih=>
   intro vs k h;cases k with
   | zero=>exact h
   | succ k=>obtain ⟨v,vs',rfl,h1,h2⟩:=h;exact ih vs' k h2
 have tak:∀(l:List AV) (vs:List Value) (k:Nat),AV.relL γ w l vs->AV.relL γ w (l.take k) (vs.take k):=by
  intro l
  induction l with
  | nil=>intro vs k h;cases h;cases k<;>rfl
  | cons a l ih=>
   intro vs k h;obtain ⟨v,vs',rfl,h1,h2⟩:=h;cases k with
   | zero=>rfl
   | succ k=>exact ⟨v,_,rfl,h1,ih vs' k h2⟩
 have hL':=tak _ _ r.size (sub _ _ off hL);have hA:=zlU hs hL' (zad hC);have ku:((cs.drop off).take r.size).length=r.size:=by rw [<-hA.1];exact r.len x
 have hl:=zhn hT (w:=w) (b:=γ.box b.lab) (o:=off) (cs:=(cs.drop off).take r.size) ku fun i hi=>by
  rw [ku] at hi;rw [yW w _ _ _ _ _ hh,yX,xr hi,qD];simp
 exact ⟨_,w,γ,by simp [execOp,ho,h1,Instr.loadAt,Instr.sureAddr,hl],Tr.refl _ _ _ _,⟨_,rfl,hA⟩,fun b hb=>by cases hb⟩
theorem zLX (h:AV.relL γ w l vs) (k:Nat) (ha:a.rel γ w v):AV.relL γ w (l.set k a) (vs.set k v):=by
 induction l generalizing vs k with
 | nil=>cases h;exact rfl
 | cons b l ih=>
  obtain ⟨u,vs',rfl,h1,h2⟩:=h;cases k with
  | zero=>exact ⟨v,vs',rfl,ha,h2⟩
  | succ k=>exact ⟨u,_,rfl,h1,ih h2 k⟩
theorem zDz (kR:γ.col (γ.box ℓ)=ℓ) (cs:Array Value):Tr [ℓ] [] γ w γ (w.setRow (γ.box ℓ) cs):=
 ⟨rfl,rfl,rfl,by simp,fun b hb hn=>qR w _ b cs (fun e=>hn (by rw [e,kR];exact xt)),fun _ _=>rfl,fun _ _=>rfl,fun b h1 h2=>absurd h2 (by simp;omega)⟩
def zpt:AV->Bool
 | .lf _| .sl ..| .own ..| .ptr ..| .bs ..| .qp ..| .ep ..| .em ..| .mp ..| .om ..| .fv ..| .cu ..=>true
 | _=>false
theorem zun (h:zpt a=true) (hr:a.rel γ w v):v.oneCell'=true/\v.cells=#[v]:=by
 have key:v.oneCell'=true:=by
  cases a with
  | lf l=>exact hr.2.one
  | sl r C xs=>exact zat.one hr
  | own r e ℓ C xs=>exact (zrk hr).one
  | ptr ℓ off=>have:v=_:=hr;rw [this];rfl
  | bs ℓ n=>have:v=_:=hr;rw [this];rfl
  | tl=>cases h
  | qp r C o=>
   cases o with
   | none=>have:v=_:=hr;rw [this];rfl
   | some x=>obtain ⟨b,cs,hv,_⟩:=hr;rw [hv];rfl
  | ep r C x off=>obtain ⟨b,o,cs,hv,_⟩:=hr;rw [hv];rfl
  | em rk rv C m=>obtain ⟨a,b,es,cl,hv,_⟩:=hr;rw [hv];rfl
  | mo=>cases h
  | cu c ℓ C1 C2=>exact c.one hr
  | any=>cases h
  | rc=>cases h
  | mp rk rv C m=>obtain ⟨b,es,cl,hv,_⟩:=hr;rw [hv];rfl
  | om rk rv ℓ C m=>obtain ⟨b,es,cl,hv,_⟩:=hr;rw [hv];rfl
  | tup=>cases h
  | ag=>cases h
  | fv g l=>obtain ⟨vs,hv,_⟩:=hr;rw [hv];rfl
  | bp=>cases h
  | it=>cases h
 refine ⟨key,?_⟩;cases v<;>first| rfl| cases key
theorem zGL (ho:o.op= .store t y z) (kG:∀w,(sizeOf t).run P w= .ok 1 w) (hoff:Nat.blt off b.avs.length=true) (ha:zpt a=true)
  (hf:a.free [b.lab] []=true):zB P o [(y,.ptr b.lab off),(z,a)] [b] [b.lab] [] .any [⟨b.lab,b.typ,(b.avs.map (AV.clear [b.lab] [])).set off a⟩]:=by
 intro γ av w hi hb next Q hk;have h1:av.eval y=_:=hi (y,.ptr b.lab off) (by simp);have h2:=hi (z,a) (by simp);simp only at h2;obtain ⟨hone',hcells⟩:=zun ha h2;obtain ⟨kR,cs,hh,hL,hone⟩:=hb b (by simp);have hoff':off<cs.length:=by rw [zbx hL];exact qL (xP hoff)
 have hst:=pP P (γ.box b.lab) off b.typ [av.eval z] 0 cs.toArray w hh (by simp;omega) (by simpa using hone');simp only [yz,qv] at hst;have kF:(execOp av.eval o).run P w= .ok .skip (w.setRow (γ.box b.lab) (cs.set off (av.eval z)).toArray):=by
  have e:cs.take off++[av.eval z]++cs.drop (off+1)=cs.set off (av.eval z):=by
   rw [ur,xr hoff',yj];rfl
  rw [e] at hst;simp [execOp,ho,h1,Instr.storeAt,Instr.sureAddr,storeVar,kG,hcells,hst]
 unfold Oper.wp;rw [kF,ut];have ht:=zDz (w:=w) kR (cs.set off (av.eval z)).toArray;obtain ⟨f1,f2⟩:=AV.free_spec hf;refine hk γ _ undef ht trivial fun b' hb'=>?_
 simp only [xy,xL,xM] at hb';subst hb';refine ⟨kR,cs.set off (av.eval z),qq w _ _ _ _ _ hh,zLX (zmB hL ht) off (a.keep ht f1 f2 h2),fun u hu=>?_⟩;rcases List.mem_or_eq_of_mem_set hu with h| h
 ·exact hone u h
 ·grind
theorem zjf (h:AV.relL γ w l vs) (k:AV.relL γ w m us):AV.relL γ w (l++m) (vs++us):=by
 induction l generalizing vs with
 | nil=>cases h;exact k
 | cons a l ih=>obtain ⟨v,vs',rfl,h1,h2⟩:=h;exact ⟨v,_,rfl,h1,ih h2⟩
theorem zoH :∀(l:List AV) (vs:List Value) (k:Nat),AV.relL γ w l vs->AV.relL γ w (l.drop k) (vs.drop k)
 | [],vs,k,h=>by cases h;cases k<;>rfl
 | a::l,vs,0,h=>h
 | a::l,vs,k+1,h=>by obtain ⟨v,vs',rfl,h1,h2⟩:=h;exact zoH l vs' k h2
theorem zoI :∀(l:List AV) (vs:List Value) (k:Nat),AV.relL γ w l vs->AV.relL γ w (l.take k) (vs.take k)
 | [],vs,k,h=>by cases h;cases k<;>rfl
 | a::l,vs,0,h=>rfl
 | a::l,vs,k+1,h=>by obtain ⟨v,vs',rfl,h1,h2⟩:=h;exact ⟨v,_,rfl,h1,zoI l vs' k h2⟩
theorem zto {P:Program} {o:Oper} {α:Type} {r:Rp α} {t:TypeId} {y z:Operand} {b:Bx} {off:Nat} {x:α} {C:List Nat} (as:List AV) (ho:o.op= .store t y z) (kG:∀w,(sizeOf t).run P w= .ok r.size w)
  (hoff:Nat.ble (off+r.size) b.avs.length=true) (hC:memN b.lab C=false) (ha:zgv as=some (r.lv x)) (hl:as.all (zsQ C)=true):
  zB P o [(y,.ptr b.lab off),(z,.rc r C x)] [b] [b.lab] [] .any [⟨b.lab,b.typ,(b.avs.map (AV.clear [b.lab] [])).take off++as++(b.avs.map (AV.clear [b.lab] [])).drop (off+r.size)⟩]:=by
 intro γ av w hi hb next Q hk;have h1:av.eval y=_:=hi (y,.ptr b.lab off) (by simp);obtain ⟨us,hv,hA⟩:=hi (z,.rc r C x) (by simp);simp only at hv;obtain ⟨kR,cs,hh,hL,hone⟩:=hb b (by simp);have hus:us.length=r.size:=by rw [<-hA.1];exact r.len x
 have hoff':off+r.size<=cs.length:=by rw [zbx hL];exact xP hoff
 have hst:=pP P (γ.box b.lab) off b.typ us 0 cs.toArray w hh (by simp;omega) hA.one;simp only [yz,hus] at hst;have kF:(execOp av.eval o).run P w= .ok .skip (w.setRow (γ.box b.lab) (cs.take off++us++cs.drop (off+r.size)).toArray):=by
  simp [execOp,ho,h1,hv,Instr.storeAt,Instr.sureAddr,storeVar,kG,Value.cells,hus,hst]
 unfold Oper.wp;rw [kF,ut];have ht:=zDz (w:=w) kR (cs.take off++us++cs.drop (off+r.size)).toArray;have hA':=ht.all (C:=C) (fun c hc h=>by
  simp only [xy,xL,xM] at h;subst h;rw [zaf.2 hc] at hC;cases hC) hA
 have hL':=zmB hL ht;refine hk γ _ undef ht trivial fun b' hb'=>?_
 simp only [xy,xL,xM] at hb';subst hb';refine ⟨kR,cs.take off++us++cs.drop (off+r.size),qq w _ _ _ _ _ hh,zjf (zjf (zoI _ _ _ hL') (zkJ ha hA' hl)) (zoH _ _ _ hL'),fun u hu=>?_⟩;simp only [xF] at hu;rcases hu with (h| h)| h
 ·grind
 ·exact hA.one u h
 ·grind
theorem zvo (l:List UInt8):l.flatMap Rp.byte.lv=l.map fun c=>LV.int .u8 c.toNat:=by
 induction l with
 | nil=>rfl
 | cons c l ih=>rw [xE,ih];rfl
theorem zqX {src dst e:TypeId} (ho:o.op= .convert src dst x) (hs:P.underlying src=some (.slice e)) (he:P.underlying e=some (.int .u8)) (hd:P.underlying dst=some .string)
  (hx:isSl Rp.byte l D a):zB P o [(x,a)] [] [] [] (.lf (.str l)) []:=by
 refine zF fun γ ev w hi _=>?_
 have h:=hx γ w _ (hi (x,a) (by simp));simp only at h;obtain ⟨A,c,cs,hv,hc,hm,hA,hcs,hcell⟩:=znB h;rw [zvo] at hA;have hget:∀j (hj:j<l.length),cs[j]? =some (.int .u8 (l[j].toNat:Int)):=fun j hj=>by
  have hj':j<cs.length:=by rw [hcs];simpa [Rp.byte] using hj
  have:=hA.2 j (.int .u8 (l[j].toNat:Int)) cs[j] (by simp [hj]) (xN hj');rw [xN hj']
  generalize cs[j]=u at this
  cases this;rfl
 have kF:(convert src dst (.slice A l.length c)).run P w= .ok (.string ⟨l.toArray⟩) w:=by
  rcases ph l.length with h0| h0
  ·have:l=[]:=yE h0;subst this;rcases A with _| ad
   ·exact run_convert_bytes_nil w src e hs he 0 c dst hd
   ·exact run_convert_bytes_back w src dst e ad c [] hs he hd (fun j hj=>absurd hj (by simp))
  ·obtain ⟨b,off,rfl,_,_,hc'⟩:=hcell h0;refine run_convert_bytes_back w src dst e _ c l hs he hd fun j hj=>?_
   rw [zfU,hc' j (by simpa [Rp.byte] using hj)];exact hget j hj
 exact ⟨_,w,γ,by simp [execOp,ho,hv,kF],Tr.refl _ _ _ _,zLB _ _ _,fun b hb=>by cases hb⟩
theorem zPA {src dst e:TypeId} (ℓ:Nat) (ho:o.op= .convert src dst x) (hs:P.underlying src=some .string) (hd:P.underlying dst=some (.slice e)) (he:P.underlying e=some (.int .u8)) (hl:Nat.ble l.length 9223372036854775807=true):
  zB P o [(x,.lf (.str l))] [] [] [ℓ] (.sl Rp.byte [ℓ] l) []:=by
 refine zF fun γ ev w hi _=>?_
 have h:=ztn (hi (x,.lf (.str l)) (by simp));simp only at h;have kG:(⟨l.toArray⟩:ByteArray).size=l.length:=by simp [ByteArray.size_mk']
 have hr:=run_bytes_of_string (P:=P) w src dst e ⟨l.toArray⟩ hs hd he;rw [kG] at hr
 generalize hcap:grownCap w l.length 0 e=kC at hr
 have hll:l.length<=maxLen:=by unfold maxLen;exact xP hl
 have hc1:l.length<=kC:=by rw [<-hcap];exact pG _ _ _ _
 have hc2:kC<=maxLen:=by rw [<-hcap];exact uj _ _ _ _ hll
 generalize hrow:bytesRow ⟨l.toArray⟩ kC=row at hr
 have hnew:(w.drew.alloc (.cells row e (row.size,row.size+1))).heap[w.heap.size]? =some (.cells row e (row.size,row.size+1)):=yV w.drew _
 have ht:Tr [] [ℓ] γ w (zcD γ w.heap.size ℓ w.heap.size) (w.drew.alloc (.cells row e (row.size,row.size+1))):=
  ⟨rfl,rfl,rfl,by simp,fun b hb _=>Below.heap_alloc w.drew _ b hb,fun b hb=>by simp [zcD,hb],fun k hk=>by
   simp only [xy,xL,xM] at hk;simp [zcD,hk],fun b hb _ h=> .inr (by simp [zcD,Nat.not_lt.2 hb] at h;simp [h])⟩
 refine ⟨.slice (some ⟨w.heap.size,0,none⟩) l.length kC,w.drew.alloc (.cells row e (row.size,row.size+1)),_,by simp [execOp,ho,h,hr],ht,?_,fun b hb=>by cases hb⟩;show zat _ _ (.sl l.length 1 (l.flatMap Rp.byte.lv)) _;rw [zvo];refine .sl _ _ _ _ _ (l.map fun c=>Value.int .u8 c.toNat) (by simp) (by simp) hc1 hc2 (fun h0=>⟨w.heap.size,0,rfl,?_,by simp,fun i hi=>?_⟩) (fun i lv u h1 h2=>?_)
 ·show (zcD γ w.heap.size ℓ w.heap.size).col w.heap.size∈[ℓ];rw [zko];exact xt
 ·rw [yW _ _ _ _ _ _ hnew,<-hrow];have hi':i<l.length:=by omega
  rw [xK,bytesRow_at ⟨l.toArray⟩ kC i (by simpa using hi')];simp [hi']
 ·simp only [qa,Option.map_eq_some_iff] at h1 h2;obtain ⟨c,hc,rfl⟩:=h1;obtain ⟨c',hc',rfl⟩:=h2;rw [hc] at hc';cases hc';exact .int _ _
theorem zCL {P:Program} {o:Oper} {t:TypeId} {x y:Operand} {l:List UInt8} {k:IntKind} {i:Int} {c:UInt8} (ho:o.op= .index t x y) (ht:P.underlying t=some .string) (hx:idx l i=some c):
  zB P o [(x,.lf (.str l)),(y,.lf (.int k i))] [] [] [] (.lf (.int .u8 c.toNat)) []:=by
 refine zF fun γ ev w hi _=>?_
 have h1:=ztn (hi (x,.lf (.str l)) (by simp));have h2:=zdU (hi (y,.lf (.int k i)) (by simp));simp only at h1 h2;obtain ⟨i0,i1,i2⟩:=zuh hx;have hb:(⟨l.toArray⟩:ByteArray)[i.toNat]? =some c:=by
  have km:i.toNat<(⟨l.toArray⟩:ByteArray).size:=by simp [ByteArray.size_mk'];omega
  rw [ByteArray.getElem?_lt' _ _ km];congr 1;have:=(yA.1 i2).2;rw [<-this];rfl
 exact ⟨_,w,γ,by simp [execOp,ho,h1,h2,Instr.index,asIntOf,run_underlying ht,i0,hb],Tr.refl _ _ _ _,zjA _ _ _ _,fun b hb=>by cases hb⟩
def remI (x y:Int):Option Int:=if y=0 then none else some (x.tmod y)
def shlO (k:IntKind) (x y:Int):Option Int:=if y<0 then none else some (shlI k x y)
def shrO (k:IntKind) (x y:Int):Option Int:=if y<0 then none else some (shrI k x y)
theorem zPz (ho:o.op= .binOp .rem t x y t') (hz:remI m n=some z):zB P o [(x,.lf (.int k m)),(y,.lf (.int k n))] [] [] [] (.lf (.int k z)) []:=by
 refine zF fun γ ev w hi _=>?_
 have h1:=zdU (hi (x,.lf (.int k m)) (by simp));have h2:=zdU (hi (y,.lf (.int k n)) (by simp));simp only at h1 h2;unfold remI at hz;split at hz
 ·cases hz
 ·rename_i hn;cases hz;have hk:¬(k≠k):=fun h=>h rfl
  exact ⟨_,w,γ,by simp only [execOp,ho,h1,h2,xX,zno,ya,binOp,xq hk,Op.intDiv,xq hn,yw],Tr.refl _ _ _ _,zjA _ _ _ _,fun b hb=>by cases hb⟩
theorem zCN (ho:o.op= .binOp .shl t x y t') (hz:shlO k m n=some z):zB P o [(x,.lf (.int k m)),(y,.lf (.int j n))] [] [] [] (.lf (.int k z)) []:=by
 refine zF fun γ ev w hi _=>?_
 have h1:=zdU (hi (x,.lf (.int k m)) (by simp));have h2:=zdU (hi (y,.lf (.int j n)) (by simp));simp only at h1 h2;unfold shlO at hz;split at hz
 ·cases hz
 ·rename_i hn;cases hz;exact ⟨_,w,γ,by simp only [execOp,ho,h1,h2,xX,zno,ya,binOp,Op.shift,xq hn,yw];rfl,Tr.refl _ _ _ _,zjA _ _ _ _,fun b hb=>by cases hb⟩
theorem zjz (ho:o.op= .binOp .shr t x y t') (hz:shrO k m n=some z):zB P o [(x,.lf (.int k m)),(y,.lf (.int j n))] [] [] [] (.lf (.int k z)) []:=by
 refine zF fun γ ev w hi _=>?_
 have h1:=zdU (hi (x,.lf (.int k m)) (by simp));have h2:=zdU (hi (y,.lf (.int j n)) (by simp));simp only at h1 h2;unfold shrO at hz;split at hz
 ·cases hz
 ·rename_i hn;cases hz;exact ⟨_,w,γ,by simp only [execOp,ho,h1,h2,xX,zno,ya,binOp,Op.shift,xq hn,yw];rfl,Tr.refl _ _ _ _,zjA _ _ _ _,fun b hb=>by cases hb⟩
inductive It where
 | c (x:Code)
 | e (id:Nat)
def zju:Code->List It->List It
 | .seq a b,l=>zju a (zju b l)
 | .skip,l=>l
 | x,l=> .c x::l
def zsO (id:Nat):List It->Option (List It)
 | []=>none
 | .c _::l=>zsO id l
 | .e k::l=>match Nat.beq k id with
  | true=>some l
  | false=>zsO id l
structure Sem2 where
 n:Act->World->Prop
 x:Nat->Act->World->Prop
def semI (m:Bool) (P:Program) (Q:Exit->Act->World->Prop):List It->Sem2
 | []=>⟨Q .normal,fun id=>Q (.exit id)⟩
 | .c x::l=>⟨wq m P x fun e a w=>match e with
  | .normal=>(semI m P Q l).n a w
  | .exit id=>(semI m P Q l).x id a w
  | e=>Q e a w,(semI m P Q l).x⟩
 | .e k::l=>⟨(semI m P Q l).n,fun id a w=>if k=id then (semI m P Q l).n a w else (semI m P Q l).x id a w⟩
def wpI (m:Bool) (P:Program) (Q:Exit->Act->World->Prop) (l:List It) (a:Act) (w:World):Prop:=(semI m P Q l).n a w
def wpX (m:Bool) (P:Program) (Q:Exit->Act->World->Prop) (id:Nat) (l:List It) (a:Act) (w:World):Prop:=(semI m P Q l).x id a w
def zhA (m:Bool) (P:Program) (Q:Exit->Act->World->Prop) (l:List It):Exit->Act->World->Prop:=fun e a w=>match e with
 | .normal=>wpI m P Q l a w
 | .exit id=>wpX m P Q id l a w
 | e=>Q e a w
def JI (m:Bool) (P:Program) (l:List It) (S:Act->World->Prop) (Q:Exit->Act->World->Prop):Prop:=∀a w,S a w->wpI m P Q l a w
section
variable {m:Bool} {P:Program} {Q Q':Exit->Act->World->Prop} {S:Act->World->Prop} {l:List It} {x y c:Code}
theorem zrS :wpI m P Q (.c x::l) a w=wq m P x (zhA m P Q l) a w:=rfl
theorem zMN {a:Act} {w:World} {id k:Nat}:wpX m P Q id (.e k::l) a w=if k=id then wpI m P Q l a w else wpX m P Q id l a w:=rfl
theorem zvg {id:Nat} {a:Act} {w:World}:∀{l l':List It},zsO id l=some l'->wpI m P Q l' a w->wpX m P Q id l a w
 | [],_,h,_=>by cases h
 | .c _::l,_,h,k=>zvg (l:=l) h k
 | .e _::l,_,h,k=>by
  rw [zMN];rw [zsO] at h;split at h
  ·simp_all
  ·rename_i hb;rw [xq (fun e=>by rw [e] at hb;simp at hb)];exact zvg h k
theorem zKQ:∀(x:Code) (l:List It) (id:Nat) (a:Act) (w:World),wpX m P Q id (zju x l) a w->wpX m P Q id l a w
 | .seq p q,l,id,a,w,h=>zKQ q l id a w (zKQ p (zju q l) id a w h)
 | .skip,_,_,_,_,h=>h
 | .region _ _ _,_,_,_,_,h=>h
 | .cond _ _ _,_,_,_,_,h=>h
 | .block _ _,_,_,_,_,h=>h
 | .loop _,_,_,_,_,h=>h
 | .rangeFunc _ _ _ _,_,_,_,_,h=>h
 | .exit _,_,_,_,_,h=>h
 | .scope _,_,_,_,_,h=>h
 | .label _,_,_,_,_,h=>h
 | .goto _,_,_,_,_,h=>h
 | .ret,_,_,_,_,h=>h
 | .refuse _,_,_,_,_,h=>h
theorem zkm:∀(x:Code) (l:List It) (a:Act) (w:World),wpI m P Q (zju x l) a w->wq m P x (zhA m P Q l) a w
 | .seq p q,l,a,w,h=>by
  have h1:=zkm p (zju q l) a w h;refine zfH (znD h1 fun e a' w' hq=>?_);cases e with
  | normal=>exact zkm q l a' w' hq
  | exit id=>exact zKQ q l id a' w' hq
  | goto l=>exact hq
  | ret=>exact hq
  | panic ch=>exact hq
  | outgrown=>exact hq
 | .skip,_,_,_,h=>zxA h
 | .region _ _ _,_,_,_,h=>h
 | .cond _ _ _,_,_,_,h=>h
 | .block _ _,_,_,_,h=>h
 | .loop _,_,_,_,h=>h
 | .rangeFunc _ _ _ _,_,_,_,h=>h
 | .exit _,_,_,_,h=>h
 | .scope _,_,_,_,h=>h
 | .label _,_,_,_,h=>h
 | .goto _,_,_,_,h=>h
 | .ret,_,_,_,h=>h
 | .refuse _,_,_,_,h=>h
theorem zbE (h:JI m P (zju c []) S Q):J m P c S Q:=fun a w hs=>znD (zkm c [] a w (h a w hs)) fun e a w hq=>by
 cases e with
 | normal=>exact hq
 | exit id=>exact hq
 | goto l=>exact hq
 | ret=>exact hq
 | panic ch=>exact hq
 | outgrown=>exact hq
theorem zLh (h:∀a w,S a w->Q .normal a w):JI m P [] S Q:=fun a w hs=>h a w hs
theorem zK {id:Nat} (h:JI m P l S Q):JI m P (.e id::l) S Q:=fun a w hs=>h a w hs
theorem zlK {cx:Cx} {E:Env} {id:Nat} {ops:List Oper} (E':Env) (h:zaM P cx.n ops.toArray ops E E') (k:JI m P l (Sx cx E') Q):JI m P (.c (.region id ops.toArray false)::l) (Sx cx E) Q:=
 fun a w hs=>by rw [zrS];exact zaD (h cx a w _ rfl hs fun a' w' hs'=>k a' w' hs')
theorem zLf (hl:E.opd o=some (.lf (.bool b))) (hb:b=true) (k:JI m P (zju x l) (Sx cx E) Q):JI m P (.c (.cond o x y)::l) (Sx cx E) Q:=fun a w hs=>by
 rw [zrS];obtain ⟨γ,hB,hS,hX⟩:=hs;subst hb;exact zjU (zlD (Env.opd_rel hl hS)) (zkm x l a w (k a w ⟨γ,hB,hS,hX⟩))
theorem zLe (hl:E.opd o=some (.lf (.bool b))) (hb:b=false) (k:JI m P (zju y l) (Sx cx E) Q):JI m P (.c (.cond o x y)::l) (Sx cx E) Q:=fun a w hs=>by
 rw [zrS];obtain ⟨γ,hB,hS,hX⟩:=hs;subst hb;exact zkK (zlD (Env.opd_rel hl hS)) (zkm y l a w (k a w ⟨γ,hB,hS,hX⟩))
theorem zyy (h:∀a w,S a w->Q .ret a w):JI m P (.c .ret::l) S Q:=fun a w hs=>by rw [zrS];exact zAc (h a w hs)
theorem zNq {id:Nat} (l':List It) (he:zsO id l=some l') (k:JI m P l' S Q):JI m P (.c (.exit id)::l) S Q:=fun a w hs=>by
 rw [zrS];exact zJb (zvg he (k a w hs))
theorem zll {id:Nat} {a:Act} {w:World}:∀{l:List It},zsO id l=none->Q (.exit id) a w->wpX m P Q id l a w
 | [],_,k=>k
 | .c _::l,h,k=>zll (l:=l) h k
 | .e _::l,h,k=>by
  rw [zsO] at h;split at h
  ·cases h
  ·rename_i hb;rw [zMN,xq (fun e=>by rw [e] at hb;simp at hb)];exact zll h k
theorem zLg {id:Nat} (he:zsO id l=none) (h:∀a w,S a w->Q (.exit id) a w):JI m P (.c (.exit id)::l) S Q:=fun a w hs=>by
 rw [zrS];exact zJb (zll he (h a w hs))
theorem zr {id:Nat} (k:JI m P (zju c (.e id::l)) S Q):JI m P (.c (.block id c)::l) S Q:=fun a w hs=>by
 rw [zrS];refine zMO (znD (zkm c (.e id::l) a w (k a w hs)) fun e a' w' hq=>?_);cases e with
 | normal=>exact hq
 | exit j=>
  have hq':wpX m P Q j (.e id::l) a' w':=hq;rw [zMN] at hq';by_cases hj:j=id
  ·rw [xr hj.symm] at hq';simp only [Exit.inBlock,xr hj];exact hq'
  ·rw [xq (fun e=>hj e.symm)] at hq';simp only [Exit.inBlock,xq hj];exact hq'
 | goto l=>exact hq
 | ret=>exact hq
 | panic ch=>exact hq
 | outgrown=>exact hq
end
def zdM (E E':Env):Prop:=∀cx a w,Sx cx E a w->Sx cx E' a w
theorem zxk (ks bs:List Nat) (h:E.pick ks bs=some E'):zdM E E':=fun _ _ _ hs=>hs.pick h
theorem zdM.go (h:zdM E E') (hs:Sx cx E a w):Sx cx E' a w:=h cx a w hs
theorem zdM.trans (h:zdM E E1) (k:zdM E1 E'):zdM E E':=fun cx a w hs=>k cx a w (h cx a w hs)
theorem zqO (h:zdM E E') (k:JI m P l (Sx cx E') Q):JI m P l (Sx cx E) Q:=fun a w hs=>k a w (h cx a w hs)
section
variable {P:Program} {N:Lim} {ops:Array Oper} {kl:List Oper} {E E1 E':Env}
theorem zQL (h:zdM E E1) (k:zaM P N ops kl E1 E'):zaM P N ops kl E E':=fun cx a w Q hn hs hQ=>k cx a w Q hn (h cx a w hs) hQ
end
inductive Fact where
 | sl (k:Nat) (a:AV)
 | bx (b:Bx)
 | rs (k ℓ n:Nat)
 | ms (k ℓ:Nat)
 | lk {κ α:Type} [DecidableEq κ] (k:Nat) (rk:Rp κ) (r:Rp α) (e:TypeId) (ℓ:Nat) (C:List Nat) (m:List (κ×List α)) (q:κ)
 | ap {κ α:Type} [DecidableEq κ] (k:Nat) (rk:Rp κ) (r:Rp α) (e:TypeId) (ℓ:Nat) (C:List Nat) (m:List (κ×List α)) (q:κ) (ys:List α)
def Fact.rel (γ:Gh) (a:Act) (w:World):Fact->Prop
 | .sl k v=>v.rel γ w (a.tmps.getD k undef)
 | .bx b=>b.rel γ w
 | .rs k ℓ n=>0<n->∃c,a.tmps.getD k undef= .slice (some ⟨γ.box ℓ,0,none⟩) n c
 | .ms k ℓ=>a.tmps.getD k undef= .map (some (γ.box ℓ))
 | @Fact.lk _ _ _ k rk r e ℓ C m q=>∃b n O,MoIn γ w rk r e ℓ C (fun _=>True) O m b n/\a.tmps.getD k undef=(mget n q).getD (.slice none 0 0)
 | @Fact.ap _ _ _ k rk r e ℓ C m q ys=>∃b n O,MoIn γ w rk r e ℓ C (fun j=>j≠q) O m b n/\RowX γ w r e ℓ C (O q) ys (a.tmps.getD k undef)/\∀j u,j≠q->O j->O q->mget n j=some u->zCg u (a.tmps.getD k undef)
structure OpD where
 want:Bool
 req:List Fact
 W:List Nat
 V:List Nat
 dst:Option Nat
 prod:List Fact
def zrh (d:Option Nat) (k:Nat):Bool:=match d with
 | some x=>Nat.beq x k
 | none=>false
def OpD.kills (d:OpD):Fact->Bool
 | .sl k a=>zrh d.dst k|| !a.free d.W d.V
 | .bx b=>memN b.lab d.W|| memN b.lab d.V|| !(b.avs.all fun a=>a.free d.W d.V)
 | .rs k ℓ _=>zrh d.dst k|| memN ℓ d.V
 | .ms k ℓ=>zrh d.dst k|| memN ℓ d.V
 | @Fact.lk _ _ _ k _ _ _ ℓ C _ _=>zrh d.dst k|| !((ℓ::C).all fun c=> !memN c d.W)|| memN ℓ d.V
 | @Fact.ap _ _ _ k _ _ _ ℓ C _ _ _=>zrh d.dst k|| !((ℓ::C).all fun c=> !memN c d.W)|| memN ℓ d.V
def zyJ (d:OpD) (L:List Fact):List Fact:=d.prod++L.filter fun f=> !d.kills f
theorem zBC (h:AV.relL γ w l vs) (t:Tr W V γ w γ' w') (hf:(l.all fun a=>a.free W V)=true):AV.relL γ' w' l vs:=by
 induction l generalizing vs with
 | nil=>exact h
 | cons a l ih=>
  obtain ⟨v,vs',rfl,h1,h2⟩:=h;simp only [yO,xw] at hf;obtain ⟨f1,f2⟩:=AV.free_spec hf.1;exact ⟨v,vs',rfl,a.keep t f1 f2 h1,ih h2 hf.2⟩
theorem zuF {d:Option Nat} {k:Nat} {a:Act} {v:Value} (h:zrh d k=false):(a.put d v).tmps.getD k undef=a.tmps.getD k undef:=by
 cases d with
 | none=>rfl
 | some x=>exact zjv (fun e=>by rw [e] at h;simp [zrh] at h)
theorem offW {l W:List Nat} (h:(l.all fun c=> !memN c W)=true):∀c∈l,c∉W:=fun c hc hw=>by
 simp only [xI,xZ] at h;have:=h c hc;rw [zaf.2 hw] at this;cases this
theorem Fact.keep {d:OpD} {f:Fact} {γ γ':Gh} {a:Act} {w w':World} (h:f.rel γ a w) (t:Tr d.W d.V γ w γ' w') (hk:d.kills f=false) (v:Value):f.rel γ' (a.put d.dst v) w':=by
 cases f with
 | sl k av=>
  simp only [OpD.kills,qN,pQ] at hk;obtain ⟨f1,f2⟩:=AV.free_spec hk.2;have hr:=av.keep t f1 f2 h;show av.rel γ' w' ((a.put d.dst v).tmps.getD k undef);cases hd:d.dst with
  | none=>exact hr
  | some x=>
   rw [hd] at hk;rw [zjv (fun e=>by rw [e] at hk;simp [zrh] at hk)];exact hr
 | bx b=>
  simp only [OpD.kills,qN,pQ] at hk;obtain ⟨⟨h1,h2⟩,h3⟩:=hk;obtain ⟨hc,cs,hh,hL,hone⟩:=h;have km:γ.box b.lab<w.heap.size:=(yh.1 hh).1;have n1:b.lab∉d.W:=fun hm=>by rw [zaf.2 hm] at h1;cases h1
  have n2:b.lab∉d.V:=fun hm=>by rw [zaf.2 hm] at h2;cases h2
  refine ⟨by rw [t.box _ n2,t.col _ km];exact hc,cs,?_,zBC hL t h3,hone⟩;rw [t.box _ n2,t.block _ km (by rw [hc];exact n1)];exact hh
 | rs k ℓ n=>
  simp only [OpD.kills,qN] at hk;intro hn;obtain ⟨c,hc⟩:=h hn;have n2:ℓ∉d.V:=fun hm=>by have:=hk.2;rw [zaf.2 hm] at this;cases this
  refine ⟨c,?_⟩;rw [t.box _ n2,<-hc];cases hd:d.dst with
  | none=>rfl
  | some x=>rw [zjv (fun e=>by have:=hk.1;rw [hd,e] at this;simp [zrh] at this)]
 | ms k ℓ=>
  simp only [OpD.kills,qN] at hk;have n2:ℓ∉d.V:=fun hm=>by have:=hk.2;rw [zaf.2 hm] at this;cases this
  show _=_;rw [t.box _ n2,zuF hk.1];exact h
 | lk k rk r e ℓ C m q=>
  simp only [OpD.kills,qN,pQ] at hk;obtain ⟨b,n,O,hm,hv⟩:=h;have hW:=offW hk.1.2;exact ⟨b,n,O,hm.keep t (hW ℓ xt) (fun c hc=>hW c (xu _ hc)) (fun hc=>by have:=hk.2;rw [zaf.2 hc] at this;cases this),by rw [zuF hk.1.1];exact hv⟩
 | ap k rk r e ℓ C m q ys=>
  simp only [OpD.kills,qN,pQ] at hk;obtain ⟨b,n,O,hm,hr,ha⟩:=h;have hW:=offW hk.1.2;have h1:=hW ℓ xt;have h2:=fun c (hc:c∈C)=>hW c (xu _ hc)
  refine ⟨b,n,O,hm.keep t h1 h2 (fun hc=>by have:=hk.2;rw [zaf.2 hc] at this;cases this),?_,?_⟩
  ·rw [zuF hk.1.1];exact hr.keep t h1 h2
  ·rw [zuF hk.1.1];exact ha
structure Does (P:Program) (ops:Array Oper) (cx:Cx) (i:Nat) (d:OpD):Prop where
 oper:∃o,ops[i]? =some o/\o.dst=d.dst/\∀(γ:Gh) (a:Act) (w:World),Base cx γ a w->(∀f∈d.req,f.rel γ a w)->Region.wanted o (yielded ops a.tmps)=d.want/\
  (d.want=true->∀(next:Act->World->Prop) (Q:Exit->Act->World->Prop),(∀γ' w' v,Tr d.W d.V γ w γ' w'->(∀f∈d.prod,f.rel γ' (a.put d.dst v) w')->next (a.put d.dst v) w')->opq P o a w next Q)/\
  (d.want=false->∀f∈d.prod,f.rel γ (a.put d.dst undef) w)
 okW:okW d.W=true
 okV:YtaglemhabeipfaaGreat.okW d.V=true
 kept:∀k,d.dst=some k->k∉cx.n.keep
 none_:d.want=false->d.W=[]/\d.V=[]
def zvI (acc:List Nat):List Edge->Nat
 | []=>0
 | e::l=>match Region.binds .any e with
  | true=>2^e.on||| acc.getD e.on 0||| zvI acc l
  | false=>zvI acc l
def zra:List Oper->List Nat->List Nat
 | [],acc=>acc
 | o::l,acc=>zra l (acc++[zvI acc o.after.toList])
def znE (ops:Array Oper) (D:Nat->Prop):Prop:=∀(j:Nat) (o:Oper),ops[j]? =some o->D j->∀e∈o.after,Region.binds .any e=true->D e.on
theorem zqZ {D:Nat->Prop} {acc:List Nat} (hacc:∀k m,acc[k]? =some m->D k->∀i,m.testBit i=true->D i):∀(l:List Edge),(∀e∈l,Region.binds .any e=true->D e.on)->∀i,(zvI acc l).testBit i=true->D i
 | [],_,i,h=>by simp [zvI] at h
 | e::l,hl,i,h=>by
  rw [zvI] at h;split at h
  ·rename_i hb;have he:=hl e xt hb;rw [Nat.testBit_or,Nat.testBit_or,qZ,qZ] at h;rcases h with (h| h)| h
   ·grind
   ·grind
   ·exact zqZ hacc l (fun x hx=>hl x (xu _ hx)) i h
  ·exact zqZ hacc l (fun x hx=>hl x (xu _ hx)) i h
theorem zpv {ops:Array Oper} {D:Nat->Prop} (hD:znE ops D):∀(l:List Oper) (acc:List Nat),(∀j,l[j]? =ops[acc.length+j]?)->(∀k m,acc[k]? =some m->D k->∀i,m.testBit i=true->D i)->
  ∀k m,(zra l acc)[k]? =some m->D k->∀i,m.testBit i=true->D i
 | [],acc,_,h=>h
 | o::l,acc,hl,h=>by
  have ho:ops[acc.length]? =some o:=by have:=hl 0;simpa using this.symm
  refine zpv hD l _ (fun j=>by have:=hl (j+1);simp at this;rw [this];congr 1;simp;omega) fun k m hk hDk=>?_
  rw [pJ] at hk;split at hk
  ·grind
  ·rename_i hkl;have hk0:k - acc.length=0:=by
    grind
   rw [hk0] at hk;simp at hk;have hke:k=acc.length:=by omega
   subst hke hk;exact zqZ h _ fun e he hb=>hD _ o ho hDk e (by simpa using he) hb
def ziV (di dj:OpD):Bool:=(di.req++di.prod).any dj.kills|| (dj.req++dj.prod).any di.kills
def zqw:List OpD->List Fact->List (List Fact)
 | [],_=>[]
 | d::ds,L=>L::zqw ds (zyJ d L)
def endF:List OpD->List Fact->List Fact
 | [],L=>L
 | d::ds,L=>endF ds (zyJ d L)
def From (ds:List OpD) (L0:List Fact) (n:Nat) (f:Fact):Prop:=
 (f∈L0/\∀j d,j<n->ds[j]? =some d->d.kills f=false)\/∃p dp,p<n/\ds[p]? =some dp/\f∈dp.prod/\∀j d,p<j->j<n->ds[j]? =some d->d.kills f=false
theorem zJn (hd:ds[n]? =some d) (h:∀f∈L,From ds L0 n f):∀f∈zyJ d L,From ds L0 (n+1) f:=by
 intro f hf;simp only [zyJ,xF,xW,xZ] at hf;rcases hf with hf| ⟨hf,hk⟩
 ·exact .inr ⟨n,d,by omega,hd,hf,fun j dj h1 h2=>by omega⟩
 ·rcases h f hf with ⟨h0,hn⟩| ⟨p,dp,hp,hdp,hfp,hn⟩
  ·refine .inl ⟨h0,fun j dj hj hdj=>?_⟩
   grind
  ·refine .inr ⟨p,dp,by omega,hdp,hfp,fun j dj h1 h2 hdj=>?_⟩
   grind
theorem zyq :∀(ds:List OpD) (n:Nat) (L:List Fact),(∀j,ds[j]? =ds0[n+j]?)->(∀f∈L,From ds0 L0 n f)->
  (∀j Lj,(zqw ds L)[j]? =some Lj->∀f∈Lj,From ds0 L0 (n+j) f)/\∀f∈endF ds L,From ds0 L0 (n+ds.length) f
 | [],n,L,_,h=>⟨fun j Lj hj=>by simp [zqw] at hj,fun f hf=>h f hf⟩
 | d::ds,n,L,hds,h=>by
  have hd:ds0[n]? =some d:=by have:=hds 0;simpa using this.symm
  obtain ⟨g1,g2⟩:=zyq ds (n+1) (zyJ d L) (fun j=>by have:=hds (j+1);simp at this;rw [this];congr 1;omega) (zJn hd h);refine ⟨fun j Lj hj=>?_,fun f hf=>?_⟩
  ·cases j with
   | zero=>simp [zqw] at hj;subst hj;exact h
   | succ j=>
    have:=g1 j Lj (by simpa [zqw] using hj)
    grind
  ·have:=g2 f hf
   grind
def zxq (ms:List Nat):Nat->OpD->Nat->List OpD->Bool
 | _,_,_,[]=>true
 | i,di,j,dj::l=>(match ziV di dj with
  | true=>(ms.getD j 0).testBit i
  | false=>true)&&zxq ms i di (j+1) l
def zri (ms:List Nat):Nat->List OpD->Bool
 | _,[]=>true
 | i,d::l=>zxq ms i d (i+1) l&&zri ms (i+1) l
theorem zuz :∀(l:List OpD) (j:Nat),zxq ms i di j l=true->∀k dk,l[k]? =some dk->ziV di dk=true->(ms.getD (j+k) 0).testBit i=true
 | [],j,_,k,dk,hk,_=>by simp at hk
 | d::l,j,h,k,dk,hk,hc=>by
  simp only [zxq,xw] at h;cases k with
  | zero=>
   grind
  | succ k=>
   have:=zuz l (j+1) h.2 k dk (by simpa using hk) hc
   grind
theorem zrj :∀(l:List OpD) (n:Nat),zri ms n l=true->∀i k di dk,i<k->l[i]? =some di->l[k]? =some dk->ziV di dk=true->(ms.getD (n+k) 0).testBit (n+i)=true
 | [],n,_,i,k,di,dk,_,hi,_,_=>by simp at hi
 | d::l,n,h,i,k,di,dk,hik,hi,hk,hc=>by
  simp only [zri,xw] at h;cases k with
  | zero=>omega
  | succ k=>
   cases i with
   | zero=>
    simp at hi;subst hi;have:=zuz l (n+1) h.1 k dk (by simpa using hk) hc
    grind
   | succ i=>
    have:=zrj l (n+1) h.2 i k di dk (by omega) (by simpa using hi) (by simpa using hk) hc
    grind
def zAH (ds:List OpD) (L0:List Fact) (D:Nat->Prop) (γ:Gh) (a:Act) (w:World):Prop:=
 (∀f∈L0,(∀j d,D j->ds[j]? =some d->d.kills f=false)->f.rel γ a w)/\
 ∀i di,D i->ds[i]? =some di->∀f∈di.prod,(∀j d,D j->i<j->ds[j]? =some d->d.kills f=false)->f.rel γ a w
theorem znV (hf:f∈di.req\/f∈di.prod) (hk:dj.kills f=true):ziV di dj=true/\ziV dj di=true:=by
 have:f∈di.req++di.prod:=by simpa using hf
 have h1:(di.req++di.prod).any dj.kills=true:=List.any_eq_true.2 ⟨f,this,hk⟩;exact ⟨by rw [ziV,h1];rfl,by rw [ziV,h1,pp]⟩
section
variable {P:Program} {ops:Array Oper} {ds:List OpD} {L0:List Fact} {D:Nat->Prop} {cx:Cx}
theorem zET (hms:ms=zra ops.toList []) (ho:zri ms 0 ds=true) (hD:znE ops D) (hij:i<j) (hi:ds[i]? =some di) (hj:ds[j]? =some dj) (hc:ziV di dj=true) (hDj:D j):D i:=by
 have hb:=zrj ds 0 ho i j di dj hij hi hj hc;simp only [xK] at hb;cases hm:ms[j]? with
 | none=>simp [List.getD,hm] at hb
 | some m=>
  simp [List.getD,hm] at hb;subst hms;exact zpv hD ops.toList [] (fun j=>by simp) (fun k m hk=>by simp at hk) j m hm hDj i hb
theorem zJp (hms:ms=zra ops.toList []) (ho:zri ms 0 ds=true) (hD:znE ops D) (hi:ds[i]? =some di) (hDi:¬D i) (hpre:∀j,j<i->(ms.getD i 0).testBit j=true->D j)
  (hfrom:∀f∈di.req,From ds L0 i f) (hprod:∀(j:Nat) (d:OpD) (f:Fact),ds[j]? =some d->f∈d.prod->d.kills f=true) (h:zAH ds L0 D γ a w):∀f∈di.req,f.rel γ a w:=by
 intro f hf;have later:∀j d,D j->ds[j]? =some d->d.kills f=true->j<i:=fun j d hDj hj hk=>by
  rcases Nat.lt_trichotomy j i with h| h| h
  ·exact h
  ·grind
  ·exact absurd (zET hms ho hD h hi hj (znV (.inl hf) hk).1 hDj) hDi
 rcases hfrom f hf with ⟨h0,hn⟩| ⟨p,dp,hp,hdp,hfp,hn⟩
 ·refine h.1 f h0 fun j d hDj hj=>?_
  grind
 ·have hk:=hprod p dp f hdp hfp;have hb:=zrj ds 0 ho p i dp di hp hdp hi (znV (.inl hf) hk).2;simp only [xK] at hb;have hDp:D p:=hpre p hp hb;refine h.2 p dp hDp hdp f hfp fun j d hDj hpj hj=>?_
  grind
theorem zGB (hms:ms=zra ops.toList []) (ho:zri ms 0 ds=true) (hD:znE ops D) (hi:ds[i]? =some di) (hDi:¬D i) (h:zAH ds L0 D γ a w)
  (ht:Tr di.W di.V γ w γ' w') (hp:∀f∈di.prod,f.rel γ' (a.put di.dst v) w'):zAH ds L0 (fun j=>D j\/j=i) γ' (a.put di.dst v) w':=by
 refine ⟨fun f hf hk=>?_,fun p dp hDp hdp f hf hk=>?_⟩
 ·exact Fact.keep (h.1 f hf fun j d hDj hj=>hk j d (.inl hDj) hj) ht (hk i di (.inr rfl) hi) v
 ·by_cases hpi:p=i
  ·grind
  ·have hDp':D p:=hDp.resolve_right hpi;refine Fact.keep (h.2 p dp hDp' hdp f hf fun j d hDj hpj hj=>hk j d (.inl hDj) hpj hj) ht ?_ v;rcases yB p i with km| hge
   ·grind
   ·cases hkk:di.kills f with
    | false=>rfl
    | true=>exact absurd (zET hms ho hD (by omega) hi hdp (znV (.inr hf) hkk).2 hDp') hDi
def zcn (kD:Array Bool):Nat->Prop:=fun i=>kD.getD i false=true
theorem zlz (hD:znE ops (zcn kD)) (hr:i∈Region.ready .any ops kD):znE ops fun j=>zcn kD j\/j=i:=by
 intro j o hj hDj e he hb;rcases hDj with hDj| rfl
 ·exact .inl (hD j o hj hDj e he hb)
 ·obtain ⟨_,o',ho',hall⟩:=qT.1 hr;rw [hj] at ho';cases ho';exact .inl (hall e he hb)
theorem zyD (hi:i<kD.size) (j:Nat):zcn (kD.setIfInBounds i true) j↔zcn kD j\/j=i:=by
 unfold zcn;simp only [yF]
 grind
theorem zxL (hs:kD.size=ops.size) (hdown:∀(i:Nat) (o:Oper),ops[i]? =some o->∀e∈o.after,Region.binds .any e=true->e.on<i) (hr:Region.ready .any ops kD=[]):∀i,i<ops.size->zcn kD i:=by
 intro i
 induction i using Nat.strongRecOn with
 | _ i ih=>
  intro hi;cases hl:kD.getD i false with
  | true=>exact hl
  | false=>
   exfalso;have:i∈Region.ready .any ops kD:=by
    refine qT.2 ⟨?_,ops[i],pE hi,fun e he hb=>?_⟩
    ·grind
    ·have:=hdown i ops[i] (pE hi) e he hb;exact ih e.on this (by omega)
   grind
theorem zCf (hms:ms=zra ops.toList []) (ho:zri ms 0 ds=true) (ku:ds.length=ops.size) (hdoes:∀i di,ds[i]? =some di->Does P ops cx i di)
  (hfrom:∀i di,ds[i]? =some di->∀f∈di.req,From ds L0 i f) (hprod:∀(j:Nat) (d:OpD) (f:Fact),ds[j]? =some d->f∈d.prod->d.kills f=true)
  (hdown:∀(i:Nat) (o:Oper),ops[i]? =some o->∀e∈o.after,Region.binds .any e=true->e.on<i) 
  (hQ:∀γ a w,Base cx γ a w->zAH ds L0 (fun j=>j<ops.size) γ a w->Q .normal a w):
  ∀(fuel:Nat) (kD:Array Bool) (γ:Gh) (a:Act) (w:World),kD.size=ops.size->znE ops (zcn kD)->(kD.toList.filter (·==false)).length<=fuel->
   Base cx γ a w->zAH ds L0 (zcn kD) γ a w->anyq P ops Q fuel kD a w:=by
 have fin:∀(kD:Array Bool) (γ:Gh) (a:Act) (w:World),kD.size=ops.size->Region.ready .any ops kD=[]->Base cx γ a w->zAH ds L0 (zcn kD) γ a w->Q .normal a w:=by
  intro kD γ a w hs hr hB hH;have hall:=zxL hs hdown hr;have km:∀j d,ds[j]? =some d->j<ops.size:=fun j d hj=>by rw [<-ku];exact (yA.1 hj).1
  exact hQ γ a w hB ⟨fun f hf hk=>hH.1 f hf fun j d _ hj=>hk j d (km j d hj) hj,fun i di _ hdi f hf hk=>hH.2 i di (hall i (km i di hdi)) hdi f hf fun j d _ hij hj=>hk j d (km j d hj) hij hj⟩
 intro fuel
 induction fuel with
 | zero=>
  intro kD γ a w hs hD hcnt hB hH;have hr:Region.ready .any ops kD=[]:=by
   cases hre:Region.ready .any ops kD with
   | nil=>rfl
   | cons i l=>
    exfalso;have hi:i∈Region.ready .any ops kD:=by rw [hre];exact xt
    obtain ⟨hun,o,hoi,_⟩:=qT.1 hi;have hil:i<kD.size:=by rw [hs];exact (yh.1 hoi).1
    have hm:false∈kD.toList:=by
     simp only [yF,pE hil,pl] at hun
     grind
    simp_all
  exact fun _=>⟨hr,fin kD γ a w hs hr hB hH⟩
 | succ fuel ih=>
  intro kD γ a w hs hD hcnt hB hH;refine fun ro=>⟨fun hr=>fin kD γ a w hs hr hB hH,fun i hi=>?_⟩
  obtain ⟨hun,o,hoi,hall⟩:=qT.1 hi;have hilt:i<ops.size:=(yh.1 hoi).1;have hil:i<kD.size:=by omega
  have hid:i<ds.length:=by omega
  have hdi:ds[i]? =some ds[i]:=xN hid;have hnot:¬zcn kD i:=by
   unfold zcn
   grind
  obtain ⟨o',ho',hdst,hdo⟩:=(hdoes i _ hdi).oper;rw [hoi] at ho';cases ho';have hreq:=zJp hms ho hD hdi hnot (fun j hj hb=>by
   have hm:=zpv (zlz hD hi) ops.toList [] (fun j=>by simp) (fun k m hk=>by simp at hk);cases hk:ms[i]? with
   | none=>simp [List.getD,hk] at hb
   | some m=>
    simp [List.getD,hk] at hb;subst hms;rcases hm i m hk (.inr rfl) j hb with h| h
    ·exact h
    ·omega) (hfrom i _ hdi) hprod hH
  obtain ⟨hw,hT,hF⟩:=hdo γ a w hB hreq;have next:∀(γ':Gh) (w':World) (v:Value),Tr (ds[i]).W (ds[i]).V γ w γ' w'->(∀f∈(ds[i]).prod,f.rel γ' (a.put (ds[i]).dst v) w')->anyq P ops Q fuel (kD.setIfInBounds i true) (a.put o.dst v) w':=by
   intro γ' w' v ht hp;have hcnt':((kD.setIfInBounds i true).toList.filter (·==false)).length<=fuel:=by
    have hli:kD.toList[i]? =some false:=by
     simp_all
    have key:∀(l:List Bool) (i:Nat),l[i]? =some false->((l.set i true).filter (·==false)).length+1=(l.filter (·==false)).length:=by
     intro l
     induction l with
     | nil=>intro i h;simp at h
     | cons x l ihl=>
      intro i h;cases i with
      | zero=>simp at h;subst h;simp
      | succ i=>
       grind
    grind
   rw [hdst];have hB':=(hB.tr ht (hdoes i _ hdi).okW (hdoes i _ hdi).okV).put (ds[i]).dst v (hdoes i _ hdi).kept;have hH':=zGB hms ho hD hdi hnot hH ht hp;have hset:∀j,zcn (kD.setIfInBounds i true) j↔zcn kD j\/j=i:=zyD hil;have hD':znE ops (zcn (kD.setIfInBounds i true)):=fun j o hj hDj e he hb=>(hset _).2 (zlz hD hi j o hj ((hset j).1 hDj) e he hb)
   exact ih _ γ' _ w' (by simp [hs]) hD' hcnt' hB' ⟨fun f hf hk=>hH'.1 f hf fun j d hDj hj=>hk j d ((hset j).2 hDj) hj,fun p dp hDp hdp f hf hk=>hH'.2 p dp ((hset p).1 hDp) hdp f hf fun j d hDj hpj hj=>hk j d ((hset j).2 hDj) hpj hj⟩
  unfold wpOpIn;rw [hoi];simp only;cases hwant:(ds[i]).want with
  | true=>
   rw [xr (by rw [hw,hwant])];refine qU (fun a w h=>h ro) (hT hwant (anyq P ops Q fuel (kD.setIfInBounds i true)) Q (fun γ' w' v ht hp=>?_) ro)
   grind
  | false=>
   rw [xq (by rw [hw,hwant];exact Bool.false_ne_true)];obtain ⟨e1,e2⟩:=(hdoes i _ hdi).none_ hwant;exact ⟨fun _ _=>trivial,next γ w undef (by rw [e1,e2];exact Tr.refl _ _ _ _) (hF hwant) ro⟩
end
def rsOf:List (Nat×AV)->List Fact
 | []=>[]
 | (k,.own _ _ ℓ _ xs)::l=> .rs k ℓ xs.length::rsOf l
 | (k,@AV.mo _ _ _ _ _ _ ℓ _ _)::l=> .ms k ℓ::rsOf l
 | _::l=>rsOf l
def zrW (E:Env):List Fact:=E.sl.map (fun p=>Fact.sl p.1 p.2)++E.bx.map Fact.bx++rsOf E.sl
theorem zso:∀{l:List (Nat×AV)} {f:Fact},f∈rsOf l->(∃k ℓ n,f= .rs k ℓ n)\/∃k ℓ,f= .ms k ℓ
 | [],f,h=>by cases h
 | (k,x)::l,f,h=>by
  cases x with
  | own r e ℓ C xs=>
   simp only [rsOf,xy] at h;rcases h with rfl| h
   ·grind
   ·exact zso h
  | mo rk r e ℓ C m=>
   simp only [rsOf,xy] at h;rcases h with rfl| h
   ·grind
   ·exact zso h
  | _=>exact zso (l:=l) h
theorem zFt :∀{l:List (Nat×AV)},Sl γ w a l->∀f∈rsOf l,f.rel γ a w
 | [],_,f,hf=>by cases hf
 | (k,x)::l,h,f,hf=>by
  have hx:x.rel γ w (a.tmps.getD k undef):=h (k,x) xt;have ht:=fun f hf=>zFt (l:=l) (fun p hp=>h p (xu _ hp)) f hf
  cases x with
  | own r e ℓ C xs=>
   simp only [rsOf,xy] at hf;rcases hf with rfl| hf
   ·intro hn;obtain ⟨cs,ho,hg,_⟩:=hx;rcases ho.2 with ⟨_,h0⟩| ⟨g,kC,kM,hv,_⟩
    ·omega
    ·exact ⟨kC,by rw [hv,(hg g (by rw [hv];rfl)).2]⟩
   ·exact ht f hf
  | mo rk r e ℓ C m=>
   simp only [rsOf,xy] at hf;rcases hf with rfl| hf
   ·obtain ⟨b,n,O,hv,es,cl,⟨g1,g2⟩,_⟩:=hx;show _=_
    grind
   ·exact ht f hf
  | _=>exact ht f hf
def zgh:List Fact->Env
 | []=>⟨[],[]⟩
 | .sl k a::l=>⟨(k,a)::(zgh l).sl,(zgh l).bx⟩
 | .bx b::l=>⟨(zgh l).sl,b::(zgh l).bx⟩
 | .rs _ _ _::l=>zgh l
 | .ms _ _::l=>zgh l
 | @Fact.lk _ _ _ _ _ _ _ _ _ _ _::l=>zgh l
 | @Fact.ap _ _ _ _ _ _ _ _ _ _ _ _::l=>zgh l
theorem zlI :(∀p∈(zgh L).sl,Fact.sl p.1 p.2∈L)/\∀b∈(zgh L).bx,Fact.bx b∈L:=by
 induction L with
 | nil=>
  refine ⟨?_,?_⟩
  ·intro p hp;cases hp
  ·intro b hb;cases hb
 | cons f L ih=>
  cases f with
  | sl k a=>
   refine ⟨fun p hp=>?_,fun b hb=>xu _ (ih.2 b hb)⟩;cases hp with
   | head=>exact xt
   | tail _ hp=>exact xu _ (ih.1 p hp)
  | bx b=>
   refine ⟨fun p hp=>xu _ (ih.1 p hp),fun c hc=>?_⟩;cases hc with
   | head=>exact xt
   | tail _ hc=>exact xu _ (ih.2 c hc)
  | rs k ℓ n=>exact ⟨fun p hp=>xu _ (ih.1 p hp),fun b hb=>xu _ (ih.2 b hb)⟩
  | ms k ℓ=>exact ⟨fun p hp=>xu _ (ih.1 p hp),fun b hb=>xu _ (ih.2 b hb)⟩
  | lk=>exact ⟨fun p hp=>xu _ (ih.1 p hp),fun b hb=>xu _ (ih.2 b hb)⟩
  | ap=>exact ⟨fun p hp=>xu _ (ih.1 p hp),fun b hb=>xu _ (ih.2 b hb)⟩
inductive zlu where
 | ev
 | ex (bl:List Nat) (W V:List Nat) (av:AV) (bs:List Bx)
 | raw (ix W V:List Nat) (prod:List Fact)
structure DIn where
 ins:List (Operand×AV)
 bxs:List Bx
 rq:List Fact
def nthF:List Fact->Nat->Option Fact
 | [],_=>none
 | f::_,0=>some f
 | _::l,n+1=>nthF l n
theorem zES:∀{l:List Fact} {n:Nat} {f:Fact},nthF l n=some f->f∈l
 | [],_,_,h=>by cases h
 | _::_,0,_,h=>by cases h;exact xt
 | _::l,n+1,f,h=>xu _ (zES (l:=l) (n:=n) h)
def zIw (L:List Fact):List Nat->Option (List Fact)
 | []=>some []
 | n::l=>match nthF L n,zIw L l with
  | some f,some r=>some (f::r)
  | _,_=>none
theorem zBp :∀{ix:List Nat} {r:List Fact},zIw L ix=some r->∀f∈r,f∈L
 | [],r,h,f,hf=>by cases h;cases hf
 | n::ix,r,h,f,hf=>by
  rw [zIw] at h;split at h
  ·rename_i x r' hx hr;cases h;cases hf with
   | head=>exact zES hx
   | tail _ hf=>exact zBp hr f hf
  ·cases h
def ztN (P:Program) (o:Oper) (rq:List Fact) (W V:List Nat) (prod:List Fact):Prop:=
 ∀(γ:Gh) (a:Act) (w:World),(∀k,o.dst=some k->k<a.tmps.size)->(∀f∈rq,f.rel γ a w)->∀(next:Act->World->Prop) (Q:Exit->Act->World->Prop),
  (∀γ' w' v,Tr W V γ w γ' w'->(∀f∈prod,f.rel γ' (a.put o.dst v) w')->next (a.put o.dst v) w')->opq P o a w next Q
def zla:List (Operand×AV)->List Fact
 | []=>[]
 | (.tmp k,a)::l=> .sl k a::zla l
 | _::l=>zla l
def slOf (d:Option Nat) (a:AV):List Fact:=match d with
 | some k=>[.sl k a]
 | none=>[]
def zkW (ops:Array Oper) (E:Env) (o:Oper):List Fact:=match o.guard with
 | none=>[]
 | some (j,_)=>match ops.toList[j]? with
  | some g=>match g.dst with
   | some t=>match lookup E.sl t with
    | some a=>[.sl t a]
    | none=>[]
   | none=>[]
  | none=>[]
def zmo (E:Env):List Operand->List (Operand×AV)
 | []=>[]
 | x::l=>match E.opd x with
  | some a=>(x,a)::zmo E l
  | none=>zmo E l
def ztP (E:Env):Op->List Bx
 | .load _ x=>match E.opd x with
  | some (.ptr ℓ _)=>match zgW E.bx ℓ with
   | some b=>[b]
   | none=>[]
  | _=>[]
 | _=>[]
def zBq (P:Program) (ops:Array Oper) (L:List Fact) (o:Oper) (s:zlu):Option (OpD×List DIn):=match zgy ops (zgh L) o with
 | some true=>match s with
  | .ev=>match zvt P (zgh L).opd (ztP (zgh L) o.op) o.op with
   | some av=>some (⟨true,zkW ops (zgh L) o++(zla (zmo (zgh L) o.op.operands.toList)++(ztP (zgh L) o.op).map .bx),[],[],o.dst,slOf o.dst av⟩,[])
   | none=>none
  | .ex bl W V av bs=>match zrq (zgh L).bx bl with
   | some bxs=>some (⟨true,zkW ops (zgh L) o++(zla (zmo (zgh L) o.op.operands.toList)++bxs.map .bx),W,V,o.dst,slOf o.dst av++bs.map .bx⟩,[⟨zmo (zgh L) o.op.operands.toList,bxs,[]⟩])
   | none=>none
  | .raw ix W V prod=>match zIw L ix with
   | some rq=>some (⟨true,zkW ops (zgh L) o++rq,W,V,o.dst,prod⟩,[⟨[],[],rq⟩])
   | none=>none
 | some false=>match s with
  | .ev=>some (⟨false,zkW ops (zgh L) o,[],[],o.dst,slOf o.dst (.tup [])⟩,[])
  | .ex ..=>none
  | .raw ..=>none
 | none=>none
def zxf (P:Program) (N:Lim) (ops:Array Oper):List Oper->List zlu->List Fact->Option (List OpD×List Fact×List DIn)
 | [],_,L=>some ([],L,[])
 | o::l,ss,L=>match zBq P ops L o (ss.headD .ev) with
  | some (d,i)=>match zjZ N o.dst&&(okW d.W&&okW d.V)&&d.prod.all d.kills with
   | true=>match zxf P N ops l ss.tail (zyJ d L) with
    | some (ds,L',is)=>some (d::ds,L',i++is)
    | none=>none
   | false=>none
  | none=>none
def zHO:Nat->List Oper->Bool
 | _,[]=>true
 | i,o::l=>(o.after.toList.all fun e=> !Region.binds .any e|| Nat.blt e.on i)&&zHO (i+1) l
def zxe (P:Program) (N:Lim) (ops:List Oper) (ss:List zlu) (E:Env) (ks bs:List Nat):Option (Env×List DIn):=
 match zxf P N ops.toArray ops ss (zrW E) with
 | some (ds,L,is)=>match zri (zra ops []) 0 ds&&zHO 0 ops with
  | true=>match (zgh L).pick ks bs with
   | some E'=>some (E',is)
   | none=>none
  | false=>none
 | none=>none
def zbZ (P:Program):List Oper->List zlu->List DIn->Prop
 | _::l,.ev::ss,is=>zbZ P l ss is
 | o::l,.ex _ W V av bs::ss,i::is=>(zB P o i.ins i.bxs W V av bs/\zbZ P l ss is)
 | o::l,.raw _ W V prod::ss,i::is=>(ztN P o i.rq W V prod/\zbZ P l ss is)
 | _,[],_=>True
 | _,_,[]=>True
 | [],_,_=>True
theorem zsl :∀(l:List Operand),(∀f∈zla (zmo E l),f.rel γ a w)->(∀p∈zmo E l,p.2.rel γ w (a.eval p.1))/\Opds E.opd γ w a.eval l
 | [],_=>⟨fun p hp=>by simp [zmo] at hp,fun x hx=>by cases hx⟩
 | x::l,h=>by
  rw [zmo] at h|-;cases hx:E.opd x with
  | none=>
   rw [hx] at h;obtain ⟨h1,h2⟩:=zsl l h;refine ⟨h1,fun y hy av hav=>?_⟩;cases hy with
   | head=>rw [hx] at hav;cases hav
   | tail _ hy=>exact h2 y hy av hav
  | some av=>
   rw [hx] at h;simp only at h;have hhd:av.rel γ w (a.eval x):=by
    cases x with
    | tmp k=>exact h (.sl k av) (by simp [zla])
    | const v=>exact znn hx γ w
    | global g=>cases hx
    | func f=>cases hx;exact ⟨rfl,.val _ rfl⟩
   obtain ⟨h1,h2⟩:=zsl (γ:=γ) (a:=a) (w:=w) (E:=E) l (fun f hf=>h f (by cases x<;>simp [zla,hf]));refine ⟨fun p hp=>?_,fun y hy av' hav=>?_⟩
   ·grind
   ·cases hy with
    | head=>rw [hx] at hav;cases hav;exact hhd
    | tail _ hy=>exact h2 y hy av' hav
theorem zkH (h:zgy ops E o=some b) (hs:∀f∈zkW ops E o,f.rel γ a w):Region.wanted o (yielded ops a.tmps)=b:=by
 have h0:=h;unfold zgy at h;unfold zkW at hs;split at h
 ·rename_i hg;cases h;unfold Region.wanted;rw [hg]
 ·rename_i j want hg;rw [hg] at hs;simp only at hs;split at h
  ·rename_i g hj;rw [hj] at hs;simp only at hs;split at h
   ·rename_i t ht;rw [ht] at hs;simp only at hs;cases hl:lookup E.sl t with
    | none=>rw [hl] at h;cases want<;>cases h
    | some av=>
     rw [hl] at hs;have hav:av.rel γ w (a.tmps.getD t undef):=hs (.sl t av) xt;have h1:zgy ops ⟨[(t,av)],[]⟩ o=some b:=by
      unfold zgy;rw [hg];simp only;rw [hj];simp only;rw [ht];simp only;have:lookup [(t,av)] t=some av:=by simp [lookup]
      grind
     exact zgX (γ:=γ) (w:=w) h1 (fun p hp=>by simp at hp;subst hp;exact hav)
   ·cases h
  ·cases h
theorem zzD (hB:Base cx γ a w) (hd:zjZ cx.n d=true) (hv:av.rel γ' w' v):∀f∈slOf d av,f.rel γ' (a.put d v) w':=by
 intro f hf;cases d with
 | none=>cases hf
 | some k=>
  simp only [slOf,xy,xL,xM] at hf;subst hf;show av.rel γ' w' ((a.put (some k) v).tmps.getD k undef);rw [zdt (by rw [hB.size];exact zhQ hd k rfl)];exact hv
theorem zkp :∀(l:List Operand),f∈zla (zmo (zgh L) l)->f∈L
 | [],h=>by cases h
 | x::l,h=>by
  rw [zmo] at h;cases hx:(zgh L).opd x with
  | none=>rw [hx] at h;exact zkp l h
  | some av=>
   rw [hx] at h;cases x with
   | tmp k=>
    simp only [zla,xy] at h;rcases h with rfl| h
    ·exact zlI.1 (k,av) (zdC hx)
    ·exact zkp l h
   | const v=>exact zkp l h
   | global g=>exact zkp l h
   | func g=>exact zkp l h
theorem zlB (h:f∈zkW ops (zgh L) o):f∈L:=by
 unfold zkW at h;split at h
 ·cases h
 ·split at h
  ·split at h
   ·split at h
    ·rename_i hl;simp only [xy,xL,xM] at h;subst h;exact zlI.1 (_,_) (zdC hl)
    ·cases h
   ·cases h
  ·cases h
theorem zJg (h:b∈ztP (zgh L) op):Fact.bx b∈L:=by
 unfold ztP at h;split at h
 ·split at h
  ·split at h
   ·rename_i b' hb;simp only [xy,xL,xM] at h;subst h;exact zlI.2 _ (zdO hb).1
   ·cases h
  ·cases h
 ·cases h
theorem zGV (h:zBq P ops L o s=some (d,i)) (hn:ops[n]? =some o) (hd:zjZ cx.n o.dst=true)
  (hl:∀bl W V av bs,s= .ex bl W V av bs->∀x,i=[x]->zB P o x.ins x.bxs W V av bs) (hl2:∀ix W V prod,s= .raw ix W V prod->∀x,i=[x]->ztN P o x.rq W V prod) (hW:okW d.W=true) (hV:okW d.V=true):Does P ops cx n d/\∀f∈d.req,f∈L:=by
 unfold zBq at h;split at h
 ·rename_i hg;split at h
  ·split at h
   ·rename_i av he;cases h;refine ⟨⟨⟨o,hn,rfl,fun γ a w hB hreq=>⟨zkH hg fun f hf=>hreq f (yq _ hf),fun _ next Q hk=>?_,fun h=>by cases h⟩⟩,hW,hV,zfC hd,fun h=>by cases h⟩,fun f hf=>?_⟩
    ·obtain ⟨h1,h2⟩:=zsl (γ:=γ) (a:=a) (w:=w) (E:=zgh L) o.op.operands.toList fun f hf=>hreq f (yl _ (yq _ hf))
     obtain ⟨v,hr,hv⟩:=ztj he h2 (fun b hb=>hreq (.bx b) (yl _ (yl _ (yP hb))));refine zkt hr ?_;exact hk γ w v (Tr.refl _ _ _ _) (zzD hB hd hv)
    ·simp only [xF] at hf;rcases hf with hf| hf| hf
     ·exact zlB hf
     ·exact zkp _ hf
     ·obtain ⟨b,hb,rfl⟩:=xA.1 hf;exact zJg hb
   ·cases h
  ·rename_i bl W V av bs;split at h
   ·rename_i bxs hbx;cases h;have hlaw:=hl bl W V av bs rfl _ rfl;refine ⟨⟨⟨o,hn,rfl,fun γ a w hB hreq=>⟨zkH hg fun f hf=>hreq f (yq _ hf),fun _ next Q hk=>?_,fun h=>by cases h⟩⟩,hW,hV,zfC hd,fun h=>by cases h⟩,fun f hf=>?_⟩
    ·obtain ⟨h1,h2⟩:=zsl (γ:=γ) (a:=a) (w:=w) (E:=zgh L) o.op.operands.toList fun f hf=>hreq f (yl _ (yq _ hf))
     have hbb:Bxs γ w bxs:=fun b hb=>hreq (.bx b) (yl _ (yl _ (yP hb)))
     refine zrg (zxn (P:=P) (a:=a) (w:=w) fun nx Qx hn=>hlaw γ a w h1 hbb nx Qx fun _ w' v _ _ _=>hn v w') (hlaw γ a w h1 hbb next Q fun γ' w' v ht hv hbs=>hk γ' w' v ht fun f hf=>?_);simp only [xF] at hf;rcases hf with hf| hf
     ·exact zzD hB hd hv f hf
     ·obtain ⟨b,hb,rfl⟩:=xA.1 hf;exact hbs b hb
    ·simp only [xF] at hf;rcases hf with hf| hf| hf
     ·exact zlB hf
     ·exact zkp _ hf
     ·obtain ⟨b,hb,rfl⟩:=xA.1 hf;exact zlI.2 _ (zpC _ _ hbx b hb)
   ·cases h
  ·rename_i ix W V prod;split at h
   ·rename_i rq hrq;cases h;have hlaw:=hl2 ix W V prod rfl _ rfl;refine ⟨⟨⟨o,hn,rfl,fun γ a w hB hreq=>⟨zkH hg fun f hf=>hreq f (yq _ hf),fun _ next Q hk=>?_,fun h=>by cases h⟩⟩,hW,hV,zfC hd,fun h=>by cases h⟩,fun f hf=>?_⟩
    ·exact hlaw γ a w (fun k hk=>by rw [hB.size];exact zhQ hd k hk) (fun f hf=>hreq f (yl _ hf)) next Q hk
    ·rcases xF.1 hf with hf| hf
     ·exact zlB hf
     ·exact zBp hrq f hf
   ·cases h
 ·rename_i hg;split at h
  ·cases h;refine ⟨⟨⟨o,hn,rfl,fun γ a w hB hreq=>⟨zkH hg hreq,fun h=>(by cases h),fun _=>zzD hB hd ⟨[],rfl,rfl⟩⟩⟩,hW,hV,zfC hd,fun _=>⟨rfl,rfl⟩⟩,fun f hf=>zlB hf⟩
  ·cases h
  ·cases h
 ·cases h
theorem ztU :∀(l:List Oper) (ss:List zlu) (L:List Fact) (n:Nat) (ds:List OpD) (L':List Fact) (is:List DIn),zxf P cx.n ops l ss L=some (ds,L',is)->
  (∀j,l[j]? =ops[n+j]?)->zbZ P l ss is->
  ds.length=l.length/\L'=endF ds L/\∀k d,ds[k]? =some d->Does P ops cx (n+k) d/\(∀f∈d.prod,d.kills f=true)/\∃Lk,(zqw ds L)[k]? =some Lk/\∀f∈d.req,f∈Lk
 | [],ss,L,n,ds,L',is,h,_,_=>by
  cases h;exact ⟨rfl,rfl,fun k d hk=>by simp at hk⟩
 | o::l,ss,L,n,ds,L',is,h,hl,hlaw=>by
  have hn:ops[n]? =some o:=by have:=hl 0;simpa using this.symm
  rw [zxf] at h;split at h
  ·rename_i d i hd;split at h
   ·rename_i hc;simp only [xw] at hc;obtain ⟨⟨hc1,hc2⟩,hc3⟩:=hc;split at h
    ·rename_i ds' L2 is' hr;cases h;have hsplit:(∀bl W V av bs,ss.headD .ev= .ex bl W V av bs->∀x,i=[x]->zB P o x.ins x.bxs W V av bs)/\(∀ix W V prod,ss.headD .ev= .raw ix W V prod->∀x,i=[x]->ztN P o x.rq W V prod)/\zbZ P l ss.tail is':=by
      cases ss with
      | nil=>
       refine ⟨fun bl W V av bs he=>by simp at he,fun ix W V prod he=>by simp at he,?_⟩;cases l<;>cases is'<;>trivial
      | cons s ss=>
       cases s with
       | ev=>
        have hi:i=[]:=by
         simp only [pq,zBq] at hd
         grind
        subst hi;refine ⟨fun bl W V av bs he=>by simp at he,fun ix W V prod he=>by simp at he,?_⟩;simpa [zbZ] using hlaw
       | ex bl W V av bs=>
        simp only [pq,zBq] at hd;split at hd
        ·split at hd
         ·cases hd;simp only [yn,xH,zbZ] at hlaw
          grind
         ·cases hd
        ·cases hd
        ·cases hd
       | raw ix W V prod=>
        simp only [pq,zBq] at hd;split at hd
        ·split at hd
         ·cases hd;simp only [yn,xH,zbZ] at hlaw
          grind
         ·cases hd
        ·cases hd
        ·cases hd
     obtain ⟨g1,g2,g3⟩:=ztU l ss.tail (zyJ d L) (n+1) ds' L' is' hr (fun j=>by have:=hl (j+1);simp at this;rw [this];congr 1;omega) hsplit.2.2;obtain ⟨e1,e2⟩:=zGV hd hn hc1 hsplit.1 hsplit.2.1 hc2.1 hc2.2;refine ⟨by simp [g1],g2,fun k d' hk=>?_⟩;cases k with
     | zero=>
      simp at hk;subst hk;exact ⟨e1,fun f hf=>by simp only [xI] at hc3;exact hc3 f hf,L,by simp [zqw],e2⟩
     | succ k=>
      have:=g3 k d' (by simpa using hk);rw [show n+(k+1)=n+1+k by omega];exact ⟨this.1,this.2.1,by simpa [zqw] using this.2.2⟩
    ·cases h
   ·cases h
  ·cases h
theorem zxZ:∀(l:List Oper) (n:Nat),zHO n l=true->∀k o,l[k]? =some o->∀e∈o.after,Region.binds .any e=true->e.on<n+k
 | [],n,_,k,o,hk=>by simp at hk
 | x::l,n,h,k,o,hk=>by
  simp only [zHO,xw,xI] at h;cases k with
  | zero=>
   simp at hk;subst hk;intro e he hb;have:=h.1 e (by simpa using he);simp_all
  | succ k=>
   have:=zxZ l (n+1) h.2 k o (by simpa using hk)
   grind
theorem zxj {m:Bool} {P:Program} {cx:Cx} {E:Env} {id:Nat} {ops:List Oper} {l:List It} {Q:Exit->Act->World->Prop} (E':Env) (ss:List zlu) (is:List DIn) (ks bs:List Nat)
  (hm:P.follows .mixedOrders=true) (h:zxe P cx.n ops ss E ks bs=some (E',is)) (hl:zbZ P ops ss is) (k:JI m P l (Sx cx E') Q):JI m P (.c (.region id ops.toArray true)::l) (Sx cx E) Q:=by
 intro a w hs;rw [zrS];obtain ⟨γ,hB,hS,hX⟩:=hs;unfold zxe at h;split at h
 ·rename_i ds L is' kF;split at h
  ·rename_i hc;split at h
   ·rename_i E2 hp;cases h;simp only [xw] at hc;obtain ⟨g1,g2,g3⟩:=ztU ops ss (zrW E) 0 ds L is kF (fun j=>by simp) hl;have hfc:=zyq (ds0:=ds) (L0:=zrW E) ds 0 (zrW E) (fun j=>by simp) (fun f hf=> .inl ⟨hf,fun j d hj=>by omega⟩)
    refine zta hm (zCf (cx:=cx) (L0:=zrW E) rfl (by simpa using hc.1) (by simpa using g1) (fun i di hi=>by have:=(g3 i di hi).1;rwa [xK] at this) (fun i di hi f hf=>?_) (fun j d f hj hf=>(g3 j d hj).2.1 f hf)
     (fun i o ho e he hb=>by have:=zxZ ops 0 hc.2 i o (by simpa using ho) e he hb;omega) (fun γ' a' w' hB' hH=>?_) _ _ γ a {w with drawn:=w.drawn+1} (by simp) (fun j o hj hD=>?_) ?_ ?_ ?_)
    ·grind
    ·-- what the walk's end knows
     have hend:∀f∈L,f.rel γ' a' w':=fun f hf=>by
      rw [g2] at hf;rcases hfc.2 f hf with ⟨h0,hn⟩| ⟨p,dp,hp',hdp,hfp,hn⟩
      ·exact hH.1 f h0 fun j d hj hjd=>hn j d (by simp only [qf] at hj;omega) hjd
      ·exact hH.2 p dp (by simp only [qf];omega) hdp f hfp fun j d hj hpj hjd=>hn j d hpj (by simp only [qf] at hj;omega) hjd
     refine k a' w' (Sx.pick hp ⟨γ',hB',fun p hp'=>?_,fun b hb=>?_⟩)
     ·exact hend _ (zlI.1 p hp')
     ·exact hend _ (zlI.2 b hb)
    ·unfold zcn at hD;simp only [yF] at hD
     grind
    ·grind
    ·exact ⟨hB.defers,hB.clean,hB.size,hB.kept,cx.X.tr hB.ext (⟨rfl,rfl,rfl,xx _,fun _ _ _=>rfl,fun _ _=>rfl,fun _ _=>rfl,fun b h1 h2=>absurd h2 (qw.2 h1)⟩:Tr [] [] γ w γ w.drew) (fun c hc=>by cases hc) (fun c hc=>by cases hc)⟩
    ·refine ⟨fun f hf _=>?_,fun i di hD=>?_⟩
     ·simp only [zrW,xF,xA] at hf;rcases hf with (⟨p,hp',rfl⟩| ⟨b,hb,rfl⟩)| hf
      ·have ht:Tr [] [] γ w γ w.drew:=⟨rfl,rfl,rfl,xx _,fun _ _ _=>rfl,fun _ _=>rfl,fun _ _=>rfl,fun b h1 h2=>absurd h2 (qw.2 h1)⟩;exact p.2.keep ht (fun c _ h=>by cases h) (fun c _ h=>by cases h) (hS p hp')
      ·have ht:Tr [] [] γ w γ w.drew:=⟨rfl,rfl,rfl,xx _,fun _ _ _=>rfl,fun _ _=>rfl,fun _ _=>rfl,fun b h1 h2=>absurd h2 (qw.2 h1)⟩;obtain ⟨kR,cs,hh,hL,hone⟩:=hX b hb;refine ⟨kR,cs,hh,zBC hL ht ?_,hone⟩;simp only [xI];intro x _;simp [AV.free,memN]
      ·have hf0:=zFt hS f hf;rcases zso hf with ⟨k,ℓ,n,rfl⟩| ⟨k,ℓ,rfl⟩<;>exact hf0
     ·exfalso;unfold zcn at hD;simp only [yF] at hD
      grind
   ·cases h
  ·cases h
 ·cases h
theorem zB.cons (p:Operand×AV) (h:zB P o ins bxs W V av bs):zB P o (p::ins) bxs W V av bs:=
 fun γ a w hi hb=>h γ a w (fun q hq=>hi q (xu _ hq)) hb
def renN (x o c:Nat):Nat:=match Nat.beq c x with
 | true=>o
 | false=>c
theorem zgJ (x o:Nat):renN x o x=o:=by simp [renN]
theorem zhg (h:c≠x):renN x o c=c:=by
 unfold renN;cases hb:Nat.beq c x with
 | true=>exact absurd (xG hb) h
 | false=>rfl
def zlw (γ:Gh) (x o:Nat):Gh:=⟨fun b=>renN x o (γ.col b),fun k=>match Nat.beq k o with
 | true=>γ.box x
 | false=>γ.box k⟩
theorem zfg (γ:Gh) (x o:Nat):(zlw γ x o).box o=γ.box x:=by simp [zlw]
theorem zdA (γ:Gh) (h:k≠o):(zlw γ x o).box k=γ.box k:=by
 show (match Nat.beq k o with
 | true=>γ.box x
 | false=>γ.box k)=_
 cases hb:Nat.beq k o with
 | true=>exact absurd (xG hb) h
 | false=>rfl
mutual
def AV.ren (x o:Nat):AV->AV
 | .any=> .any
 | .lf l=> .lf l
 | .sl r C xs=> .sl r (C.map (renN x o)) xs
 | .own r e ℓ C xs=>match Nat.beq ℓ x,Nat.beq ℓ o with
  | true,_=>match memN o (C.map (renN x o)) with
   | true=> .any
   | false=> .own r e o (C.map (renN x o)) xs
  | false,true=> .any
  | false,false=> .own r e ℓ (C.map (renN x o)) xs
 | .rc r C y=> .rc r (C.map (renN x o)) y
 | .ep r C y off=> .ep r (C.map (renN x o)) y off
 | .ptr ℓ off=>match Nat.beq ℓ x,Nat.beq ℓ o with
  | true,_=> .ptr o off
  | false,true=> .any
  | false,false=> .ptr ℓ off
 | .bs ℓ n=>match Nat.beq ℓ x,Nat.beq ℓ o with
  | true,_=> .bs o n
  | false,true=> .any
  | false,false=> .bs ℓ n
 | .tl ℓ off n=>match Nat.beq ℓ x,Nat.beq ℓ o with
  | true,_=> .tl o off n
  | false,true=> .any
  | false,false=> .tl ℓ off n
 | .qp r C y=> .qp r (C.map (renN x o)) y
 | .em rk rv C m=> .em rk rv (C.map (renN x o)) m
 | .mp rk rv C m=> .mp rk rv (C.map (renN x o)) m
 | .om rk rv ℓ C m=>match Nat.beq ℓ x,Nat.beq ℓ o with
  | true,_=>match memN o (C.map (renN x o)) with
   | true=> .any
   | false=> .om rk rv o (C.map (renN x o)) m
  | false,true=> .any
  | false,false=> .om rk rv ℓ (C.map (renN x o)) m
 | @AV.mo _ _ _ rk r e ℓ C m=>match Nat.beq ℓ x,Nat.beq ℓ o with
  | true,_=>match memN o (C.map (renN x o)) with
   | true=> .any
   | false=> .mo rk r e o (C.map (renN x o)) m
  | false,true=> .any
  | false,false=> .mo rk r e ℓ (C.map (renN x o)) m
 | .cu c ℓ C1 C2=>match Nat.beq ℓ x,Nat.beq ℓ o with
  | true,_=> .cu c o (C1.map (renN x o)) (C2.map (renN x o))
  | false,true=> .any
  | false,false=> .cu c ℓ (C1.map (renN x o)) (C2.map (renN x o))
 | .tup l=> .tup (AV.renL x o l)
 | .ag l=> .ag (AV.renL x o l)
 | .fv g l=> .fv g (AV.renL x o l)
 | .bp r t ℓ C y=>match Nat.beq ℓ x,Nat.beq ℓ o with
  | true,_=> .bp r t o (C.map (renN x o)) y
  | false,true=> .any
  | false,false=> .bp r t ℓ (C.map (renN x o)) y
 | .it rk rv ℓ C last left=>match Nat.beq ℓ x,Nat.beq ℓ o with
  | true,_=> .any
  | false,true=> .any
  | false,false=> .it rk rv ℓ (C.map (renN x o)) last left
def AV.renL (x o:Nat):List AV->List AV
 | []=>[]
 | a::l=>a.ren x o::AV.renL x o l
end
theorem zdz (h:γ.F C b):(zlw γ x o).F (C.map (renN x o)) b:=yP (f:=renN x o) h
mutual
theorem AV.ren_rel (a:AV) (h:a.rel γ w v):(a.ren x o).rel (zlw γ x o) w v:=by
 match a with
 | .any=>trivial
 | .lf l=>exact h
 | .sl r C xs=>exact zat.mono h fun b _ hb=>zdz hb
 | .rc r C y=>obtain ⟨cs,hv,hA⟩:=h;exact ⟨cs,hv,hA.mono fun b _ hb=>zdz hb⟩
 | .ep r C y off=>obtain ⟨b,o',cs,hv,hF,hb,hA,hc⟩:=h;exact ⟨b,o',cs,hv,zdz hF,hb,hA.mono fun b _ hb=>zdz hb,hc⟩
 | .qp r C none=>exact h
 | .em rk rv C m=>obtain ⟨a,b,es,cl,hv,hFa,ha,hc1,hF,hb,hh,hE⟩:=h;exact ⟨a,b,es,cl,hv,zdz hFa,ha,hc1,zdz hF,hb,hh,hE.mono fun b _ hb=>zdz hb⟩
 | .qp r C (some y)=>obtain ⟨b,cs,hv,hF,hb,hA,hc⟩:=h;exact ⟨b,cs,hv,zdz hF,hb,hA.mono fun b _ hb=>zdz hb,hc⟩
 | @AV.mo _ _ _ rk r e ℓ C m=>
  obtain ⟨b,n,O,hv,hm⟩:=h;rw [AV.ren];cases h1:Nat.beq ℓ x with
  | true=>
   have:=xG h1;subst this;cases hmm:memN o (C.map (renN ℓ o)) with
   | true=>trivial
   | false=>exact ⟨b,n,O,hv,hm.regh (fun b _ hc=>by show renN ℓ o (γ.col b)=o;rw [hc,zgJ]) (fun b _ hb=>zdz hb) (zfg γ _ _) fun hc=>by rw [zaf.2 hc] at hmm;cases hmm⟩
  | false=>
   have hx:ℓ≠x:=fun e=>by rw [e] at h1;simp at h1
   cases h2:Nat.beq ℓ o with
   | true=>trivial
   | false=>
    have hlo:ℓ≠o:=fun e=>by rw [e] at h2;simp at h2
    refine ⟨b,n,O,hv,hm.regh (fun b _ hc=>by show renN x o (γ.col b)=ℓ;rw [hc,zhg hx]) (fun b _ hb=>zdz hb) (zdA γ hlo) fun hc=>?_⟩;obtain ⟨c,hc,he⟩:=xA.1 hc;by_cases hcx:c=x
    ·rw [hcx,zgJ] at he;exact hlo he.symm
    ·rw [zhg hcx] at he;rw [he] at hc;exact hm.off hc
 | .cu c ℓ C1 C2=>
  rw [AV.ren];cases h1:Nat.beq ℓ x with
  | true=>
   have:=xG h1;subst this;exact c.move (xx _) (fun _ _ _=>rfl) (fun b _ hc=>by show renN ℓ o (γ.col b)=o;rw [hc,zgJ]) (fun b _ hb=>zdz hb) (fun b _ hb=>zdz hb) (zfg γ _ _) h
  | false=>
   have hx:ℓ≠x:=fun e=>by rw [e] at h1;simp at h1
   cases h2:Nat.beq ℓ o with
   | true=>trivial
   | false=>
    have hlo:ℓ≠o:=fun e=>by rw [e] at h2;simp at h2
    exact c.move (xx _) (fun _ _ _=>rfl) (fun b _ hc=>by show renN x o (γ.col b)=ℓ;rw [hc,zhg hx]) (fun b _ hb=>zdz hb) (fun b _ hb=>zdz hb) (zdA γ hlo) h
 | .tup l=>obtain ⟨vs,hv,hL⟩:=h;exact ⟨vs,hv,AV.renL_rel l hL⟩
 | .ag l=>obtain ⟨vs,hv,hL,h1⟩:=h;exact ⟨vs,hv,AV.renL_rel l hL,h1⟩
 | .fv g l=>obtain ⟨vs,hv,hL⟩:=h;exact ⟨vs,hv,AV.renL_rel l hL⟩
 | .bp r t ℓ C y=>
  obtain ⟨b,cs,hv,⟨g1,g2⟩,hb,hh,h1c,hA⟩:=h;have hA':zX ((zlw γ x o).F (C.map (renN x o))) w (r.lv y) cs.toList:=hA.mono fun b _ hb=>zdz hb
  rw [AV.ren];cases h1:Nat.beq ℓ x with
  | true=>
   have:=xG h1;subst this;refine ⟨b,cs,hv,⟨?_,?_⟩,hb,hh,h1c,hA'⟩
   ·show renN ℓ o (γ.col b)=o;rw [g1,zgJ]
   ·rw [zfg];exact g2
  | false=>
   have hx:ℓ≠x:=fun e=>by rw [e] at h1;simp at h1
   cases h2:Nat.beq ℓ o with
   | true=>trivial
   | false=>
    have hlo:ℓ≠o:=fun e=>by rw [e] at h2;simp at h2
    refine ⟨b,cs,hv,⟨?_,?_⟩,hb,hh,h1c,hA'⟩
    ·show renN x o (γ.col b)=ℓ;rw [g1,zhg hx]
    ·rw [zdA γ hlo];exact g2
 | .it rk rv ℓ C last left=>
  obtain ⟨r,b,hv,⟨g1,g2⟩,hr',hF,km,⟨es,cl,seen,since,c0,ls,la,i1,i2,i3,i4,i5,i6,i7,i8,i9,i10⟩,hn⟩:=h;rw [AV.ren];cases h1:Nat.beq ℓ x with
  | true=>trivial
  | false=>
   have hx:ℓ≠x:=fun e=>by rw [e] at h1;simp at h1
   cases h2:Nat.beq ℓ o with
   | true=>trivial
   | false=>
    have hlo:ℓ≠o:=fun e=>by rw [e] at h2;simp at h2
    refine ⟨r,b,hv,⟨?_,?_⟩,hr',zdz hF,km,⟨es,cl,seen,since,c0,ls,la,i1,i2,i3,i4,i5,i6,i7,i8.mono fun b _ hb=>zdz hb,i9.mono fun b _ hb=>zdz hb,i10⟩,fun hc=>?_⟩
    ·show renN x o (γ.col r)=ℓ;rw [g1,zhg hx]
    ·rw [zdA γ hlo];exact g2
    ·obtain ⟨c,hc,he⟩:=xA.1 hc;by_cases hcx:c=x
     ·rw [hcx,zgJ] at he;exact hlo he.symm
     ·rw [zhg hcx] at he;rw [he] at hc;exact hn hc
 | .mp rk rv C m=>obtain ⟨b,es,cl,hv,hF,hb,hh,hE⟩:=h;exact ⟨b,es,cl,hv,zdz hF,hb,hh,hE.mono fun b _ hb=>zdz hb⟩
 | .om rk rv ℓ C m=>
  obtain ⟨b,es,cl,hv,⟨g1,g2⟩,hb,hh,hE,hn⟩:=h;have hE':zda ((zlw γ x o).F (C.map (renN x o))) w rk rv m es.toList:=hE.mono fun b _ hb=>zdz hb
  rw [AV.ren];cases h1:Nat.beq ℓ x with
  | true=>
   have:=xG h1;subst this;cases hm:memN o (C.map (renN ℓ o)) with
   | true=>trivial
   | false=>
    refine ⟨b,es,cl,hv,⟨?_,?_⟩,hb,hh,hE',fun hc=>by rw [zaf.2 hc] at hm;cases hm⟩
    ·show renN ℓ o (γ.col b)=o;rw [g1,zgJ]
    ·rw [zfg];exact g2
  | false=>
   have hx:ℓ≠x:=fun e=>by rw [e] at h1;simp at h1
   cases h2:Nat.beq ℓ o with
   | true=>trivial
   | false=>
    have hlo:ℓ≠o:=fun e=>by rw [e] at h2;simp at h2
    refine ⟨b,es,cl,hv,⟨?_,?_⟩,hb,hh,hE',fun hc=>?_⟩
    ·show renN x o (γ.col b)=ℓ;rw [g1,zhg hx]
    ·rw [zdA γ hlo];exact g2
    ·obtain ⟨c,hc,he⟩:=xA.1 hc;by_cases hcx:c=x
     ·rw [hcx,zgJ] at he;exact hlo he.symm
     ·rw [zhg hcx] at he;rw [he] at hc;exact hn hc
 | .ptr ℓ off=>
  have hv:v= .pointer (some ⟨γ.box ℓ,off,none⟩):=h;rw [AV.ren];cases h1:Nat.beq ℓ x with
  | true=>
   have:=xG h1;subst this;show v=_;rw [zfg];exact hv
  | false=>
   cases h2:Nat.beq ℓ o with
   | true=>trivial
   | false=>
    show v=_;rw [zdA γ (fun e=>by rw [e] at h2;simp at h2)];exact hv
 | .tl ℓ off n=>
  obtain ⟨A,c,hv,hA⟩:=h;rw [AV.ren];cases h1:Nat.beq ℓ x with
  | true=>
   have:=xG h1;subst this;exact ⟨A,c,hv,fun hn=>by rw [zfg];exact hA hn⟩
  | false=>
   cases h2:Nat.beq ℓ o with
   | true=>trivial
   | false=>exact ⟨A,c,hv,fun hn=>by rw [zdA γ (fun e=>by rw [e] at h2;simp at h2)];exact hA hn⟩
 | .bs ℓ n=>
  have hv:v= .slice (some ⟨γ.box ℓ,0,none⟩) n n:=h;rw [AV.ren];cases h1:Nat.beq ℓ x with
  | true=>
   have:=xG h1;subst this;show v=_;rw [zfg];exact hv
  | false=>
   cases h2:Nat.beq ℓ o with
   | true=>trivial
   | false=>
    show v=_;rw [zdA γ (fun e=>by rw [e] at h2;simp at h2)];exact hv
 | .own r e ℓ C xs=>
  obtain ⟨cs,ho,hg,hA,hn⟩:=h;have hA':zX ((zlw γ x o).F (C.map (renN x o))) w (xs.flatMap r.lv) cs:=hA.mono fun b _ hb=>zdz hb
  rw [AV.ren];cases h1:Nat.beq ℓ x with
  | true=>
   have:=xG h1;subst this;cases hm:memN o (C.map (renN ℓ o)) with
   | true=>trivial
   | false=>
    refine ⟨cs,ho,fun g kH=>⟨?_,?_⟩,hA',fun hc=>by rw [zaf.2 hc] at hm;cases hm⟩
    ·show renN ℓ o (γ.col g)=o;rw [(hg g kH).1,zgJ]
    ·rw [zfg];exact (hg g kH).2
  | false=>
   have hx:ℓ≠x:=fun e=>by rw [e] at h1;simp at h1
   cases h2:Nat.beq ℓ o with
   | true=>trivial
   | false=>
    have hlo:ℓ≠o:=fun e=>by rw [e] at h2;simp at h2
    refine ⟨cs,ho,fun g kH=>⟨?_,?_⟩,hA',fun hc=>?_⟩
    ·show renN x o (γ.col g)=ℓ;rw [(hg g kH).1,zhg hx]
    ·rw [zdA γ hlo];exact (hg g kH).2
    ·obtain ⟨c,hc,he⟩:=xA.1 hc;by_cases hcx:c=x
     ·rw [hcx,zgJ] at he;exact hlo he.symm
     ·rw [zhg hcx] at he;rw [he] at hc;exact hn hc
theorem AV.renL_rel (l:List AV) (h:AV.relL γ w l vs):AV.relL (zlw γ x o) w (AV.renL x o l) vs:=by
 match l with
 | []=>exact h
 | a::l=>
  obtain ⟨v,vs',rfl,h1,h2⟩:=h;exact ⟨v,vs',rfl,AV.ren_rel a h1,AV.renL_rel l h2⟩
end
def zBD (x o:Nat):List Bx->List Bx
 | []=>[]
 | b::l=>match Nat.beq b.lab x,Nat.beq b.lab o with
  | true,_=>⟨o,b.typ,AV.renL x o b.avs⟩::zBD x o l
  | false,true=>zBD x o l
  | false,false=>⟨b.lab,b.typ,AV.renL x o b.avs⟩::zBD x o l
def Env.ren (x o:Nat) (E:Env):Env:=⟨E.sl.map fun p=>(p.1,p.2.ren x o),zBD x o E.bx⟩
theorem zPs (x o:Nat) (h:(Nat.ble 2 x&&Nat.ble 2 o&& !spB x)=true):zdM E (E.ren x o):=fun cx a w hs=>by
 obtain ⟨γ,hB,hS,hX⟩:=hs;simp only [xw] at h;have hx:=xP h.1.1;have ho:=xP h.1.2;have hal:zxC γ (zlw γ x o):=by
  refine ⟨fun b hb=>?_,fun b hb=>?_,fun b (hb:renN x o (γ.col b)=0)=>?_,fun b hb=>?_⟩
  ·show renN x o (γ.col b)=0;rw [zhg (by omega)];exact hb
  ·show renN x o (γ.col b)=1;rw [zhg (by omega)];exact hb
  ·by_cases e:γ.col b=x
   ·rw [e,zgJ] at hb;omega
   ·rw [zhg e] at hb;exact hb
  ·show renN x o (γ.col b)=_;refine zhg fun e=>?_
   grind
 refine ⟨zlw γ x o,⟨hB.defers.ren hal,hB.clean,hB.size,hB.kept,cx.X.ren hB.ext hal⟩,fun p hp=>?_,?_⟩
 ·obtain ⟨q,hq,rfl⟩:=xA.1 hp;exact AV.ren_rel q.2 (hS q hq)
 ·have key:∀l,Bxs γ w l->Bxs (zlw γ x o) w (zBD x o l):=by
   intro l
   induction l with
   | nil=>intro _ b hb;cases hb
   | cons c l ih=>
    intro hl b hb;have ih':=ih fun d hd=>hl d (xu _ hd)
    obtain ⟨hc,cs,hh,hL,hone⟩:=hl c xt;rw [zBD] at hb;cases h1:Nat.beq c.lab x with
    | true=>
     rw [h1] at hb;simp only [xy] at hb;rcases hb with rfl| hb
     ·have e1:=xG h1;refine ⟨?_,cs,?_,AV.renL_rel _ hL,hone⟩
      ·show renN x o (γ.col ((zlw γ x o).box o))=o;rw [zfg,<-e1,hc,e1,zgJ]
      ·show w.heap[(zlw γ x o).box o]? =_;rw [zfg,<-e1];exact hh
     ·exact ih' b hb
    | false=>
     rw [h1] at hb;have hnx:c.lab≠x:=fun e=>by rw [e] at h1;simp at h1
     cases h2:Nat.beq c.lab o with
     | true=>rw [h2] at hb;exact ih' b hb
     | false=>
      rw [h2] at hb;have hno:c.lab≠o:=fun e=>by rw [e] at h2;simp at h2
      simp only [xy] at hb;rcases hb with rfl| hb
      ·refine ⟨?_,cs,?_,AV.renL_rel _ hL,hone⟩
       ·show renN x o (γ.col ((zlw γ x o).box c.lab))=c.lab;rw [zdA γ hno,hc,zhg hnx]
       ·show w.heap[(zlw γ x o).box c.lab]? =_;rw [zdA γ hno];exact hh
      ·exact ih' b hb
  exact key E.bx hX
def zdu:LV->Value
 | .int k n=> .int k n
 | .bool b=> .bool b
 | .str l=> .string ⟨l.toArray⟩
 | .val v=>v
 | .sl ..=>undef
theorem zxT (h:zat F w l v) (hp:l.plain=true):v=zdu l:=by
 cases h<;>first| rfl| cases hp
theorem zDS (h:zX F w ls vs) (hp:ls.all LV.plain=true):vs=ls.map zdu:=by
 induction ls generalizing vs with
 | nil=>exact yE h.1.symm
 | cons l ls ih=>
  obtain ⟨v,vs',rfl,h1,h2⟩:=h.head;simp only [yO,xw] at hp;rw [zxT h1 hp.1,ih h2 hp.2];rfl
def leI:List (Operand×AV)->List (Operand×AV)->Prop
 | [],[]=>True
 | p::l,q::m=>(p.1=q.1/\AV.le p.2 q.2)/\leI l m
 | _,_=>False
theorem zCG {γ:Gh} {w:World} {a:Act}:∀(l m:List (Operand×AV)),leI l m->(∀p∈l,p.2.rel γ w (a.eval p.1))->∀p∈m,p.2.rel γ w (a.eval p.1)
 | [],[],_,_,p,hp=>by cases hp
 | q::l,x::m,h,hr,p,hp=>by
  obtain ⟨⟨h1,h2⟩,h3⟩:=h;cases hp with
  | head=>rw [<-h1];exact h2 γ w _ (hr q xt)
  | tail _ hp=>exact zCG l m h3 (fun y hy=>hr y (xu _ hy)) p hp
 | [],_::_,h,_,_,_=>h.elim
 | _::_,[],h,_,_,_=>h.elim
theorem zB.le (h:zB P o ins bxs W V av bs) (hl:leI ins' ins):zB P o ins' bxs W V av bs:=
 fun γ a w hi hb=>h γ a w (zCG _ _ hl hi) hb
def zhL (x:Int):Option UInt8:=if 0<=x/\x<256 then some (UInt8.ofNat x.toNat) else none
theorem zDR (h:zhL x=some c):x=(c.toNat:Int):=by
 unfold zhL at h;split at h
 ·rename_i hx;cases h;simp;omega
 ·cases h
theorem zha (h:zhL x=some c):AV.le (.lf (.int .u8 x)) (.lf (.int .u8 (c.toNat:Int))):=by rw [zDR h];exact fun _ _ _ hv=>hv
def lenO (l:List UInt8):Option (List UInt8):=if l.length<=9223372036854775807 then some l else none
theorem zNI {src dst e:TypeId} (ℓ:Nat) (ho:o.op= .convert src dst x) (hs:P.underlying src=some .string) (hd:P.underlying dst=some (.slice e)) (he:P.underlying e=some (.int .u8)) (hl:lenO l=some l'):
  zB P o [(x,.lf (.str l))] [] [] [ℓ] (.sl Rp.byte [ℓ] l') []:=by
 unfold lenO at hl;split at hl
 ·rename_i h;cases hl;exact zPA ℓ ho hs hd he (uu h)
 ·cases hl
theorem zaI:Rp.byte.Plain:=fun x l h=>by simp [Rp.byte] at h;subst h;rfl
theorem zjc (k:IntKind):(Rp.int k).Plain:=fun x l h=>by simp [Rp.int] at h;subst h;rfl
theorem zBy:Rp.str.Plain:=fun x l h=>by simp [Rp.str] at h;subst h;rfl
theorem iteT {α:Type} {c:Bool} {x y:Option α} {r:α} (h:(if c then x else y)=some r) (hc:c=true):x=some r:=by rw [hc] at h;exact h
theorem iteF {α:Type} {c:Bool} {x y:Option α} {r:α} (h:(if c then x else y)=some r) (hc:c=false):y=some r:=by rw [hc] at h;exact h
theorem AV.le_refl (a:AV):a.le a:=fun _ _ _ h=>h
theorem zQC {α:Type} (r:Rp α) (C C':List Nat) (x:α) (h:subN C C'=true):AV.le (.rc r C x) (.rc r C' x):=fun _ _ _ ⟨cs,hv,hA⟩=>⟨cs,hv,hA.mono fun _ _ hb=>zad h _ hb⟩
theorem zPr {α:Type} (r:Rp α) (e:TypeId) (ℓ:Nat) (C C':List Nat) (xs:List α) (h:subN C C'=true) (hn:memN ℓ C'=false):AV.le (.own r e ℓ C xs) (.own r e ℓ C' xs):=fun _ _ _ ⟨cs,ho,hg,hA,_⟩=>
 ⟨cs,ho,hg,hA.mono fun _ _ hb=>zad h _ hb,fun hc=>by rw [zaf.2 hc] at hn;cases hn⟩
theorem zPt {α:Type} (r:Rp α) (e:TypeId) (ℓ:Nat) (C C':List Nat) (xs:List α) (h:subN (ℓ::C) C'=true):AV.le (.own r e ℓ C xs) (.sl r C' xs):=fun _ _ _ hv=>zat.mono (zrk hv) fun _ _ hb=>zad h _ hb
theorem zPo (a:AV):AV.le a .any:=fun _ _ _ _=>trivial
def leL:List AV->List AV->Prop
 | [],[]=>True
 | a::l,b::m=>a.le b/\leL l m
 | _,_=>False
theorem zsb (h:leL l m) (hr:AV.relL γ w l vs):AV.relL γ w m vs:=by
 induction l generalizing m vs with
 | nil=>cases m<;>first| exact hr| exact h.elim
 | cons a l ih=>
  cases m with
  | nil=>exact h.elim
  | cons b m=>obtain ⟨v,vs',rfl,h1,h2⟩:=hr;exact ⟨v,vs',rfl,h.1 γ w v h1,ih h.2 h2⟩
theorem FnOk.le (h:FnOk P f ins ky) (hl:leL ins' ins):FnOk P f ins' ky:=fun w F vs hr=>h w F vs (zsb hl hr)
theorem zPu (E:Env) (h:zvt P E.opd (ztP E o.op) o.op=some (.lf (.bool c))) (hc:c=b):zB P o (zmo E o.op.operands.toList) (ztP E o.op) [] [] (.lf (.bool b)) []:=by
 subst hc;refine zF fun γ ev w hi hb=>?_
 have key:∀(l:List Operand),(∀p∈zmo E l,p.2.rel γ w (ev p.1))->Opds E.opd γ w ev l:=by
  intro l
  induction l with
  | nil=>intro _ x hx;cases hx
  | cons x l ih=>
   intro h y hy av hav;rw [zmo] at h;cases hx:E.opd x with
   | none=>
    rw [hx] at h;cases hy with
    | head=>rw [hx] at hav;cases hav
    | tail _ hy=>exact ih h y hy av hav
   | some a=>
    rw [hx] at h;cases hy with
    | head=>rw [hx] at hav;cases hav;exact h (x,_) xt
    | tail _ hy=>exact ih (fun p hp=>h p (xu _ hp)) y hy av hav
 obtain ⟨v,hr,hv⟩:=ztj h (key _ hi) hb;exact ⟨v,w,γ,hr,Tr.refl _ _ _ _,hv,fun b hb=>by cases hb⟩
section
variable {m:Bool} {P:Program} {Q:Exit->Act->World->Prop} {S M:Act->World->Prop} {l:List It} {c:Code}
theorem zIc (h:J m P c S R) (k:∀e a w,R e a w->zhA m P Q l e a w):JI m P (.c c::l) S Q:=fun a w hs=>by
 rw [zrS];exact znD (h a w hs) k
theorem zId {σ ρ:Type} (body:σ->Option (σ⊕ρ)) (Es:σ->Act->World->Prop) (R:ρ->Exit->Act->World->Prop)
  (hb:∀s o,body s=some o->J m P c (Es s) (match o with
   | .inl s'=>fun e a w=>e= .normal/\Es s' a w
   | .inr r=>fun e a w=>e≠ .normal/\R r e a w))
  {s:σ} {r:ρ} (h:zW body s=some r) (hS:∀a w,S a w->Es s a w) (k:∀e a w,R r e a w->zhA m P Q l e a w):JI m P (.c (.loop c)::l) S Q:=
 zIc (zPi body Es R hb h hS (fun _ _ _ hr=>hr)) k
theorem zez (k:JI m P l M Q):∀e a w,(e= .normal/\M a w)->zhA m P Q l e a w:=by
 rintro e a w ⟨rfl,h⟩;exact k a w h
theorem zar {id:Nat} (l':List It) (he:zsO id l=some l') (k:JI m P l' M Q):∀e a w,(e= .exit id/\M a w)->zhA m P Q l e a w:=by
 rintro e a w ⟨rfl,h⟩;exact zvg he (k a w h)
theorem zIg (k:∀a w,M a w->Q .ret a w):∀e a w,(e= .ret/\M a w)->zhA m P Q l e a w:=by
 rintro e a w ⟨rfl,h⟩;exact k a w h
end
theorem zAV (N:Nat) (hf:P.funcs[f]? =some fn) (hb:fn.body=some c) (hN:fn.ntmps=N) (ku:Nat.ble ins.length N=true) (hres:zlY P E fn.results.toList ky)
  (hj:∀X:Ext,J true P c (Sx ⟨⟨N,[]⟩,X,false,#[]⟩ ⟨znS 0 ins,[]⟩) fun e a w=>e= .ret/\Sx ⟨⟨N,[]⟩,X,false,#[]⟩ E a w):FnOk P f ins ky:=by
 subst hN;exact zKS hf hb (xP ku) hres hj
open Go.ChangeShapes Go.WideShapes
abbrev allF:Fp:=fun _=>True
def SzOk (P:Program) {H:Type} (t:TypeId) (d:DataW H):Prop:=∀m∈d.weights P t,m<=140737488351232
theorem zpU {H:Type} :∀{ds:List (DataW H)} {i:Nat} {d:DataW H},ds[i]? =some d->∀m∈d.weights P e,m∈DataW.weightsAll P e ds
 | d0::ds,0,d,hd,m,hm=>by
  simp only [List.getElem?_cons_zero,yr] at hd;subst hd;simp only [DataW.weightsAll,xF];exact Or.inl hm
 | d0::ds,i+1,d,hd,m,hm=>by
  simp only [uO] at hd;simp only [DataW.weightsAll,xF];exact Or.inr (zpU hd m hm)
 | [],_,_,hd,_,_=>by simp at hd
theorem SzOk.of_each {H:Type} {P:Program} {ts:List TypeId} {ds:List (DataW H)} (h:(DataW.weightsEach P ts ds).all (·<=reachBytes)=true) (j:Nat) {t:TypeId} {d:DataW H} (ht:ts[j]? =some t) (hd:ds[j]? =some d):SzOk P t d:=fun m hm=>by
 have:=xI.1 h _ (DataW.weights_mem_each ht hd m hm);exact yx this
def zsK (P:Program) {α:Type} (n:Nat) (t:TypeId) (r:Rp α) (W:α->Prop):Prop:=
 ∀{H:Type} (enc:TypeId×Value->H) (w:World) (spare:Nat->Bool) (held:Bool) (cs:List Value) (x:DataW H×List MemPlace),DataW.trod enc P w 0 spare held n t cs=some x->SzOk P t x.1->∃y:α,zX allF w (r.lv y) cs/\W y
section
variable {P:Program} {n:Nat} {t e:TypeId}
theorem zkf (h:zat F w l v):zX F w [l] [v]:= .cons h .nil
theorem zvL {k:IntKind} (hu:P.underlying t=some (.int k)):zsK P n t (Rp.int k) fun m=>(Lit.int k m).wf=true:=fun _ _ _ _ _ _ h _=>by
 obtain ⟨m,rfl,_,hw⟩:=DataW.trod_int hu h;exact ⟨m,zkf (.int k m),hw⟩
theorem zGW (hu:P.underlying t=some (.int .u8)):zsK P n t Rp.byte fun _=>True:=fun _ _ _ _ _ _ h _=>by
 obtain ⟨m,rfl,_,hw⟩:=DataW.trod_int hu h;have hb:0<=m/\m<=255:=by simpa [Lit.wf,IntKind.min,IntKind.max,IntKind.bits,IntKind.signed] using hw
 have e1:((UInt8.ofNat m.toNat).toNat:Int)=m:=by simp;omega
 refine ⟨UInt8.ofNat m.toNat,zkf ?_,trivial⟩;rw [e1];exact .int .u8 m
theorem zyU (hu:P.underlying t=some .bool):zsK P n t Rp.bool fun _=>True:=fun _ _ _ _ _ _ h _=>by
 obtain ⟨b,rfl,_⟩:=DataW.trod_bool hu h;exact ⟨b,zkf (.bool b),trivial⟩
theorem zBr (hu:P.underlying t=some .string):zsK P n t Rp.str fun l=>l.length<=140737488351232:=fun _ _ _ _ _ _ h hz=>by
 obtain ⟨s,rfl,rfl,hw⟩:=DataW.trod_string hu h;exact ⟨s.data.toList,zkf (by have:=zat.str (F:=allF) (w:=‹World›) s.data.toList;simpa using this),hz _ (by simp [DataW.weights])⟩
theorem zyV {α:Type} {r:Rp α} {W:α->Prop}:zsK P 0 t r W:=fun _ _ _ _ _ _ h _=>by simp [DataW.trod] at h
theorem zGM {w:World} {a:Addr} {v:Value} (h:w.cell? a=some v):a.block<w.heap.size/\a.spot=none:=by
 unfold World.cell? at h;split at h
 ·rename_i c e f hh;refine ⟨(yh.1 hh).1,?_⟩;split at h
  ·cases h
  ·rename_i hs;cases hsp:a.spot with
   | none=>rfl
   | some x=>rw [hsp] at hs;exact absurd rfl hs
 ·cases h
theorem zCd (a:Addr) (m k:Nat):(a.add m).add k=a.add (m+k):=by
 unfold Addr.add;by_cases h1:m=0
 ·subst h1;simp
 ·by_cases h2:k=0
  ·subst h2;simp
  ·have h3:¬(m+k=0):=by omega
   simp only [xq h1,xq h2,xq h3];congr 1;omega
theorem zAh {a:Addr} (h:a.spot=none) (i:Nat):a.add i=⟨a.block,a.off+i,none⟩:=by
 obtain ⟨b,o,s⟩:=a;simp only at h;subst h;unfold Addr.add;split
 ·rename_i h0;subst h0;rfl
 ·rfl
theorem zGX {α:Type} {r:Rp α} {W:α->Prop} {B:Nat} (hu:P.underlying t=some (.slice e)) (hc:P.cellsOf e=r.size) (hB:P.bytesOf e=B) (h:zsK P n e r W):zsK P (n+1) t r.list fun xs=>xs.length*B<=140737488351232/\∀x∈xs,W x:=by
 intro H enc w spare held cs x hx hz;rcases DataW.trod_slice hu hx with ⟨rfl,_⟩| ⟨a,len,kC,elems,kl,m,hm,rfl,rfl,_,hl,hcap,ku,hel,_⟩
 ·exact ⟨[],zkf (.sl 0 _ _ _ 0 [] (by simp) (by simp) (xx _) (xC _) (fun h=>absurd h (by omega)) (fun i l u h1=>by simp at h1)),by simp,fun x hx=>by cases hx⟩
 ·cases hm;rw [hc] at hel
  -- element by element
  have each:∀i,i<len->∃y cs',w.cells? 0 (a.add (i*r.size)) r.size=some cs'/\zX allF w (r.lv y) cs'/\W y:=by
   intro i hi;have h1:=hel i hi;rw [xN (show i<elems.length by omega),Option.bind_eq_some_iff] at h1;obtain ⟨cs',h2,h3⟩:=h1;obtain ⟨y,h4,h5⟩:=h enc w spare held cs' _ h3 fun m hm=>hz m (by
    simp only [DataW.weights,hu,xy,xF];refine .inr (.inl (zpU (i:=i) (d:=(elems[i]'(by omega)).1) ?_ m hm));rw [qa,xN (show i<elems.length by omega)];rfl)
   exact ⟨y,cs',h2,h4,h5⟩
  have rows:∀k,k<=len->∃(ys:List α) (ds:List Value),ys.length=k/\zX allF w (ys.flatMap r.lv) ds/\(∀y∈ys,W y)/\∀j,j<k*r.size->w.cell? (a.add j)=ds[j]? :=by
   intro k
   induction k with
   | zero=>exact fun _=>⟨[],[],rfl,.nil,(fun y hy=>by cases hy),fun j hj=>by omega⟩
   | succ k ih=>
    intro hk;obtain ⟨ys,ds,h1,h2,h3,h4⟩:=ih (by omega);obtain ⟨y,cs',h5,h6,h7⟩:=each k (by omega);obtain ⟨_,h8,h9⟩:=World.cells?_some h5;have hds:ds.length=k*r.size:=by rw [<-h2.1,r.flat,h1]
    refine ⟨ys++[y],ds++cs',by simp [h1],?_,?_,fun j hj=>?_⟩
    ·rw [ym];simp only [xE,yS,xQ];exact h2.append h6
    ·intro z hz;rcases xF.1 hz with hz| hz
     ·exact h3 z hz
     ·simp at hz;subst hz;exact h7
    ·rw [pJ];split
     ·rename_i hj';exact h4 j (by omega)
     ·rename_i hj';rw [qI] at hj;have:=h9 (j - ds.length) (by omega);rw [<-this,hds,zCd];congr 2;omega
  obtain ⟨ys,ds,h1,h2,h3,h4⟩:=rows len (xx _);have hds:ds.length=len*r.size:=by rw [<-h2.1,r.flat,h1]
  have kG:=hz ((elems.length+kl.length)*P.bytesOf e) (by simp [DataW.weights,hu]);rw [hB] at kG;refine ⟨ys,zkf ?_,yg (yI B (by omega)) kG,h3⟩;rw [h1];refine .sl len r.size _ (some a) kC ds (by rw [r.flat,h1]) hds hl hcap (fun h0=>?_) h2.2;have h0':0<len*r.size:=Nat.mul_pos h0 r.pos;have hc0:=h4 0 h0';rw [xN (show 0<ds.length by omega)] at hc0;obtain ⟨hb,hs⟩:=zGM hc0;have hs':a.spot=none:=by unfold Addr.add at hs;split at hs<;>simp_all
  have hb':a.block<w.heap.size:=by unfold Addr.add at hb;split at hb<;>simp_all
  refine ⟨a.block,a.off,by cases a;simp at hs';subst hs';rfl,trivial,hb',fun i hi=>?_⟩;have:=h4 i hi;rw [<-this];congr 1;exact (zAh hs' i).symm
def FOk (P:Program) (n:Nat) (fs:List Field) (off:Nat) (S:List LV->Prop):Prop:=
 ∀(H:Type) (enc:TypeId×Value->H) (w:World) (spare:Nat->Bool) (held:Bool) (cs:List Value),cs.length=off+(fs.map fun f=>P.cellsOf f.type).sum->
  (∀(i:Nat) (f:Field),fs[i]? =some f->∃x,DataW.trod enc P w 0 spare held n f.type ((cs.drop f.offset).take (P.cellsOf f.type))=some x/\SzOk P f.type x.1)->∃ls,zX allF w ls (cs.drop off)/\S ls
theorem zHU {off:Nat}:FOk P n [] off fun ls=>ls=[]:=fun _ _ _ _ _ cs hl _=>by
 have:cs.drop off=[]:=yo (by simp at hl;omega);exact ⟨[],by rw [this];exact .nil,rfl⟩
theorem zkV {α:Type} {r:Rp α} {W:α->Prop} {f:Field} {fs:List Field} {off:Nat} {S:List LV->Prop} (h:zsK P n f.type r W) (ho:f.offset=off) (hc:P.cellsOf f.type=r.size) (k:FOk P n fs (off+r.size) S):
  FOk P n (f::fs) off fun ls=>∃y ls',ls=r.lv y++ls'/\W y/\S ls':=by
 intro H enc w spare held cs hl hx;obtain ⟨x,hx0,hz0⟩:=hx 0 f rfl;rw [ho,hc] at hx0;obtain ⟨y,hy,hw⟩:=h enc w spare held _ _ hx0 hz0;obtain ⟨ls,h1,h2⟩:=k H enc w spare held cs (by simp [hc] at hl;omega) fun i g hg=>hx (i+1) g (by simpa using hg)
 refine ⟨r.lv y++ls,?_,y,ls,rfl,hw,h2⟩;have e:cs.drop off=(cs.drop off).take r.size++cs.drop (off+r.size):=by rw [<-yb,qn]
 rw [e];exact hy.append h1
theorem zCX {α:Type} {r:Rp α} {W:α->Prop} {fs:Array Field} {S:List LV->Prop} (hu:P.underlying t=some (.struct fs)) (hc:P.cellsOf t=(fs.toList.map fun f=>P.cellsOf f.type).sum) (hf:FOk P n fs.toList 0 S) (hy:∀ls,S ls->∃y,ls=r.lv y/\W y):zsK P (n+1) t r W:=by
 intro H enc w spare held cs x hx hz;obtain ⟨xs,m,hm,rfl,hl,hxl,hget⟩:=DataW.trod_struct hu hx;cases hm;obtain ⟨ls,h1,h2⟩:=hf H enc w spare held cs (by rw [hl,hc];omega) fun i f hif=>by
  have hi:i<xs.length:=by rw [hxl];have:=(yA.1 hif).1;simpa using this
  refine ⟨xs[i],by rw [hget i f (by simpa using hif),xN hi],fun m hm=>hz m ?_⟩;simp only [DataW.weights,hu];refine DataW.weights_mem_each (j:=i) (t:=f.type) (d:=xs[i].1) (by rw [qa,hif];rfl) (by rw [qa,xN hi];rfl) m hm
 obtain ⟨y,rfl,hw⟩:=hy ls h2;exact ⟨y,by simpa using h1,hw⟩
def zoZ (P:Program) {α:Type} (t:TypeId) (r:Rp α) (W:α->Prop):Prop:=∀n,zsK P n t r W
theorem zrf {α:Type} {r:Rp α} {W:α->Prop} {B:Nat} (hu:P.underlying t=some (.slice e)) (hc:P.cellsOf e=r.size) (hB:P.bytesOf e=B) (h:zoZ P e r W):zoZ P t r.list fun xs=>xs.length*B<=140737488351232/\∀x∈xs,W x
 | 0=>zyV
 | n+1=>zGX hu hc hB (h n)
theorem zsU {α:Type} {r:Rp α} {W:α->Prop} {fs:Array Field} {S:List LV->Prop} (hu:P.underlying t=some (.struct fs)) (hc:P.cellsOf t=(fs.toList.map fun f=>P.cellsOf f.type).sum) (hf:∀n,FOk P n fs.toList 0 S) (hy:∀ls,S ls->∃y,ls=r.lv y/\W y):zoZ P t r W
 | 0=>zyV
 | n+1=>zCX hu hc (hf n) hy
end
section
variable {P:Program} {H:Type} {enc:TypeId×Value->H} {w:World} {t e:TypeId} {v:Value} {d:DataW H} {ps:List MemPlace}
theorem zMT (h:zat allF w l v):zat ((gh0 allF).F [0]) w l v:=zat.mono h fun b _ _=>by
 show (gh0 allF).col b∈[0];rw [zHV allF b trivial];exact xt
theorem zCh {k:IntKind} (hu:P.underlying t=some (.int k)) (kX:Value.okWide P w .any 0 t v) (h:DataW.Trod enc P w 0 (fun _=>true) true t v d ps) (_hz:SzOk P t d):∃m:Int,AV.rel (gh0 allF) w (.lf (.int k m)) v/\(Lit.int k m).wf=true:=by
 obtain ⟨m,rfl,_,_,hw⟩:=open_int hu kX h;exact ⟨m,⟨rfl,.int k m⟩,hw⟩
theorem zKw {α:Type} {r:Rp α} {W:List α->Prop} (hu:P.underlying t=some (.slice e)) (ho:zoZ P t r.list W) (kX:Value.okWide P w .any 0 t v) (h:DataW.Trod enc P w 0 (fun _=>true) true t v d ps) (hz:SzOk P t d):∃xs:List α,AV.rel (gh0 allF) w (.sl r [0] xs) v/\W xs:=by
 obtain ⟨a,len,kC,rfl⟩:=okWide_slice hu kX;obtain ⟨fuel,hf⟩:=h;obtain ⟨y,hy,hw⟩:=ho fuel enc w _ _ _ _ hf hz;have hy':zX allF w [.sl y.length r.size (y.flatMap r.lv)] [.slice a len kC]:=hy;obtain ⟨u,hu',hl⟩:=hy'.single;cases hu';exact ⟨y,zMT hl,hw⟩
end
theorem zJv (h:FnOk P f ins [.lf (.bool b)]) (hb:b=true) (hr:AV.relL (gh0 allF) w ins vs):
  Calls P f vs.toArray w fun e w'=>e= .returned (.bool true)/\Below w.heap.size w w':=by
 subst hb;refine (h w allF vs hr).mono ?_;rintro e w' ⟨γ,us,rfl,hbel,_,v,us',rfl,hv,hu⟩;have hu':us'=[]:=hu;subst hu';exact ⟨by rw [zlD hv];rfl,hbel⟩
end Go.Proofs.YtaglemhabeipfaaGreat

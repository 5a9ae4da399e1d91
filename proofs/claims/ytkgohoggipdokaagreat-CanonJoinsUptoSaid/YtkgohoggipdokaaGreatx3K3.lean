/-
  What every proof here stands on. No condition.
-/
import Derived.Laws.Bits64b
import Derived.IntWalk
import Derived.RowKit
import Derived.Test.YtkgohoggipdokaaGreatx3K2
import Derived.Test.YtkgohoggipdokaaGreatx3K1
set_option autoImplicit true
set_option relaxedAutoImplicit true
namespace Go.Proofs.YtkgohoggipdokaaGreat
open Go.IntKind (i32 i64 u32 u64 u8)
open Go Go.RowKit
set_option linter.unusedVariables false
def nilA:AV->Bool
 | .lf (.val (.slice none 0 0))=>true
 | _=>false
theorem zBl (h:nilA a=true):a= .lf (.val (.slice none 0 0)):=by
 unfold nilA at h;split at h
 ·rfl
 ·cases h
def wk0 (a:AV):AV->AV
 | .any=> .any
 | .own r e ℓ C _=>match nilA a with
  | true=>match memN ℓ C with
   | false=> .own r e ℓ C []
   | true=>a
  | false=>match a with
   | .own r e ℓ D xs=>match subN D C&& !memN ℓ C with
    | true=> .own r e ℓ C xs
    | false=>a
   | _=>a
 | .sl r C _=>match nilA a with
  | true=> .sl r C []
  | false=>match a with
   | .own r e ℓ D xs=>match subN (ℓ::D) C with
    | true=> .sl r C xs
    | false=>a
   | .sl r D xs=>match subN D C with
    | true=> .sl r C xs
    | false=>a
   | _=>a
 | .rc _ C _=>match a with
  | .rc r D x=>match subN D C with
   | true=> .rc r C x
   | false=>a
  | _=>a
 | .qp r C _=>match a with
  | .lf (.val (.pointer none))=> .qp r C none
  | .qp r D o=>match subN D C with
   | true=> .qp r C o
   | false=>a
  | _=>a
 | .mp _ _ C _=>match a with
  | .mp rk rv D m=>match subN D C with
   | true=> .mp rk rv C m
   | false=>a
  | .om rk rv ℓ D m=>match subN (ℓ::D) C with
   | true=> .mp rk rv C m
   | false=>a
  | @AV.mo _ _ _ rk r _ ℓ D m=>match subN (ℓ::D) C with
   | true=> .mp rk (Rp.list r) C m
   | false=>a
  | _=>a
 | .om _ _ _ C _=>match a with
  | .om rk rv ℓ D m=>match subN D C&& !memN ℓ C with
   | true=> .om rk rv ℓ C m
   | false=>a
  | _=>a
 | @AV.mo _ _ _ _ _ _ _ C _=>match a with
  | @AV.mo _ _ _ rk r e ℓ D m=>match subN D C&& !memN ℓ C with
   | true=> .mo rk r e ℓ C m
   | false=>a
  | _=>a
 | _=>a
theorem andN (h:(a&& !b)=true):a=true/\b=false:=by simpa using h
theorem zKt (a b:AV):AV.le a (wk0 a b):=by
 unfold wk0;split
 ·exact zMJ _
 ·split
  ·rename_i h;rw [zBl h];split
   ·exact zmk _ _ _ _ ‹_›
   ·exact AV.le_refl _
  ·split
   ·split
    ·rename_i h;exact zoK _ _ _ _ _ _ (andN h).1 (andN h).2
    ·exact AV.le_refl _
   ·exact AV.le_refl _
 ·split
  ·rename_i h;rw [zBl h];exact zgx _ _
  ·split
   ·split
    ·exact zxk _ _ _ _ _ _ ‹_›
    ·exact AV.le_refl _
   ·split
    ·exact zNN _ _ _ _ ‹_›
    ·exact AV.le_refl _
   ·exact AV.le_refl _
 ·split
  ·split
   ·exact zNM _ _ _ _ ‹_›
   ·exact AV.le_refl _
  ·exact AV.le_refl _
 ·split
  ·exact zHo _ _
  ·split
   ·exact zNL _ _ _ _ ‹_›
   ·exact AV.le_refl _
  ·exact AV.le_refl _
 ·split
  ·split
   ·exact zJj _ _ _ ‹_›
   ·exact AV.le_refl _
  ·split
   ·exact zMM _ _ _ _ ‹_›
   ·exact AV.le_refl _
  ·split
   ·exact zML _ _ _ _ _ _ _ ‹_›
   ·exact AV.le_refl _
  ·exact AV.le_refl _
 ·split
  ·split
   ·rename_i h;exact zNJ _ _ _ _ (andN h).1 (andN h).2
   ·exact AV.le_refl _
  ·exact AV.le_refl _
 ·split
  ·split
   ·rename_i h;exact zNI _ _ _ _ _ _ _ (andN h).1 (andN h).2
   ·exact AV.le_refl _
  ·exact AV.le_refl _
 ·exact AV.le_refl _
theorem zyD (hf:∀a b,AV.le a (f a b)):∀{l m:List AV},l.length=m.length->leL l (zipA f l m)
 | [],[],_=>trivial
 | [],_::_,h=>by simp at h
 | _::_,[],h=>by simp at h
 | x::l,y::m,h=>⟨hf x y,zyD hf (by simpa using h)⟩
def wk1 (a:AV):AV->AV
 | .ag m=>match a with
  | .ag l=>match Nat.beq l.length m.length with
   | true=> .ag (zipA wk0 l m)
   | false=>a
  | _=>a
 | b=>wk0 a b
theorem zKu (a b:AV):AV.le a (wk1 a b):=by
 unfold wk1;split
 ·split
  ·split
   ·exact zJi (zyD zKt (xJ ‹_›))
   ·exact AV.le_refl _
  ·exact AV.le_refl _
 ·exact zKt _ _
def wkS (E:Env) (l:List (Nat×AV)):List (Nat×AV):=l.map fun p=>(p.1,match lookup E.sl p.1 with
 | some a=>wk1 a p.2
 | none=> .any)
def wkB (E:Env):List Bx->Option (List Bx)
 | []=>some []
 | b::l=>match zgg E.bx b.lab,wkB E l with
  | some c,some r=>match Nat.beq c.avs.length b.avs.length with
   | true=>some (⟨c.lab,c.typ,zipA wk1 c.avs b.avs⟩::r)
   | false=>none
  | _,_=>none
theorem zKv (h:Bxs γ w E.bx):∀{l r:List Bx},wkB E l=some r->Bxs γ w r
 | [],r,e=>by cases e;exact fun b hb=>by cases hb
 | b::l,r,e=>by
  rw [wkB] at e;split at e
  ·rename_i c r' h1 h2;split at e
   ·rename_i hn;cases e;intro x hx;cases hx with
    | head=>
     obtain ⟨g,cs,hh,hr,h1c⟩:=h c (zdv h1).1;exact ⟨g,cs,hh,zqS (zyD zKu (xJ hn)) hr,h1c⟩
    | tail _ hx=>exact zKv h h2 x hx
   ·cases e
  ·cases e
def wkE (E E':Env):Option Env:=match wkB E E'.bx with
 | some l=>some ⟨wkS E E'.sl,l⟩
 | none=>none
theorem lw (h:wkE E E'=some E':=by kernel_rfl):zcG E E':=by
 intro cx a w hs;obtain ⟨γ,hB,hS,hX⟩:=hs;unfold wkE at h;split at h
 ·rename_i l hl;have e:(⟨wkS E E'.sl,l⟩:Env)=E':=qb h;rw [<-e];refine ⟨γ,hB,fun p hp=>?_,zKv hX hl⟩;obtain ⟨q,_,rfl⟩:=xH.1 hp;simp only;split
  ·rename_i a0 ha;exact zKu _ _ _ _ _ (hS _ (zcW ha))
  ·exact trivial
 ·cases h
def zBY (fn:Func):Code:=match fn.body with
 | some c=>c
 | none=> .ret
def zxQ:List ResultVar->List AV->List (Nat×AV)
 | .tmp t::rs,a::l=>(t,a)::zxQ rs l
 | _,_=>[]
def hasT (t:Nat):List ResultVar->Bool
 | .tmp u::rs=>Nat.beq t u|| hasT t rs
 | _=>false
def ztn:List ResultVar->List AV->Bool
 | [],[]=>true
 | .tmp t::rs,_::l=> !hasT t rs&&ztn rs l
 | _,_=>false
theorem zzX :∀{rs:List ResultVar} {l:List AV},ztn rs l=true->lookup (zxQ rs l) u=some b->hasT u rs=true
 | [],[],_,h=>by cases h
 | [],_::_,n,_=>by cases n
 | .cell ..::_,_,n,_=>by simp [ztn] at n
 | .tmp t::rs,[],n,_=>by cases n
 | .tmp t::rs,a::l,n,h=>by
  simp only [ztn,xC,yb] at n;rw [zxQ,lookup] at h;rw [hasT];split at h
  ·rename_i e;have:=xJ e;simp only at this;simp [this]
  ·rw [zzX n.2 h];simp
theorem zDl :∀{rs:List ResultVar} {l:List AV},ztn rs l=true->(∀t a,lookup (zxQ rs l) t=some a->lookup E.sl t=some a)->zlV P E rs l
 | [],[],_,_=>trivial
 | [],_::_,n,_=>by cases n
 | .cell ..::_,_,n,_=>by simp [ztn] at n
 | .tmp t::rs,[],n,_=>by cases n
 | .tmp t::rs,a::l,n,h=>by
  simp only [ztn,xC,yb] at n;refine ⟨h t a (by rw [zxQ,lookup];simp),zDl n.2 fun u b hu=>h u b ?_⟩;rw [zxQ,lookup];have hne:Nat.beq t u=false:=by
   cases e:Nat.beq t u with
   | false=>rfl
   | true=>rw [xJ e,zzX n.2 hu] at n;simp at n
  simp only [hne];exact hu
section
variable {P:Program} {f:FuncId} {fn:Func} {ins wE:List AV}
def hdOk (N:Nat) (fn:Func) (ins wE:List AV):Bool:=fn.body.isSome&&Nat.beq fn.ntmps N&&Nat.ble ins.length N&&ztn fn.results.toList wE
theorem zHh (h:hdOk N fn ins wE=true):fn.body=some (zBY fn)/\fn.ntmps=N/\Nat.ble ins.length N=true/\ztn fn.results.toList wE=true:=by
 simp only [hdOk,xC] at h;obtain ⟨⟨⟨h1,h2⟩,h3⟩,h4⟩:=h;refine ⟨?_,xJ h2,h3,h4⟩;unfold zBY;cases e:fn.body with
 | none=>rw [e] at h1;cases h1
 | some c=>rfl
theorem fi (N:Nat) (hf:P.funcs[f]? =some fn) (hj:∀X:Ext,JI true P (zjz (zBY fn) []) (Sx ⟨⟨N,[]⟩,X,false,#[]⟩ ⟨znm 0 ins,[]⟩) fun e a w=>e= .ret/\Sx ⟨⟨N,[]⟩,X,false,#[]⟩ ⟨zxQ fn.results.toList wE,[]⟩ a w)
  (h:hdOk N fn ins wE=true:=by kernel_rfl):FnOk P f ins wE:=by
 obtain ⟨h1,h2,h3,h4⟩:=zHh h;exact zzx N hf h1 h2 h3 (zDl h4 fun _ _ e=>e) fun X=>zcm (hj X)
theorem fj (E:Env) (N:Nat) (hf:P.funcs[f]? =some fn) (hr:zlV P E fn.results.toList wE) (hj:∀X:Ext,JI true P (zjz (zBY fn) []) (Sx ⟨⟨N,[]⟩,X,false,#[]⟩ ⟨znm 0 ins,[]⟩) fun e a w=>e= .ret/\Sx ⟨⟨N,[]⟩,X,false,#[]⟩ E a w)
  (h:(fn.body.isSome&&Nat.beq fn.ntmps N&&Nat.ble ins.length N)=true:=by kernel_rfl):FnOk P f ins wE:=by
 simp only [xC] at h;refine zzx N hf ?_ (xJ h.1.2) h.2 hr fun X=>zcm (hj X)
 have h1:=h.1.1;unfold zBY;cases e:fn.body with
 | none=>rw [e] at h1;cases h1
 | some c=>rfl
end
theorem lzr :zcG E E:=fun _ _ _ h=>h
def addE (E:Env) (ks ls:List Nat) (nw:List (Nat×AV)) (nb:List Bx):Env:=⟨nw++(zqj ks ls E).sl,nb++(zqj ks ls E).bx⟩
inductive Ex
 | n (E:Env)
 | x (id:Nat) (E:Env)
 | r (E:Env)
 | N (ks ls:List Nat) (nw:List (Nat×AV)) (nb:List Bx)
 | X (id:Nat) (ks ls:List Nat) (nw:List (Nat×AV)) (nb:List Bx)
def Ex.R (cx:Cx) (E0:Env):Ex->Exit->Act->World->Prop
 | .n E,e,a,w=>e= .normal/\Sx cx E a w
 | .x id E,e,a,w=>e= .exit id/\Sx cx E a w
 | .r E,e,a,w=>e= .ret/\Sx cx E a w
 | .N ks ls nw nb,e,a,w=>e= .normal/\Sx cx (addE E0 ks ls nw nb) a w
 | .X id ks ls nw nb,e,a,w=>e= .exit id/\Sx cx (addE E0 ks ls nw nb) a w
section
variable {m:Bool} {P:Program} {Q:Exit->Act->World->Prop} {l:List It} {c:Code} {cx:Cx} {E:Env}
theorem jl {σ ρ:Type} {body:σ->Option (σ⊕ρ)} {s:σ} {r:ρ} (h:zaB body s=some r) (ks ls:List Nat) (nw:σ->List (Nat×AV)) (nb:σ->List Bx) (R:ρ->Ex)
  (hb:∀s o,body s=some o->JI m P (zjz c []) (Sx cx (addE E ks ls (nw s) (nb s))) (match o with
   | .inl s'=>fun e a w=>e= .normal/\Sx cx (addE E ks ls (nw s') (nb s')) a w
   | .inr r=>fun e a w=>e≠ .normal/\(R r).R cx E e a w)) (hS:zcG E (addE E ks ls (nw s) (nb s))) (k:∀e a w,(R r).R cx E e a w->zgt m P Q l e a w):JI m P (.c (.loop c)::l) (Sx cx E) Q:=
 zAY body (fun s=>addE E ks ls (nw s) (nb s)) (fun r=>(R r).R cx E) (fun s o e=>zcm (hb s o e)) h hS k
theorem jL {σ ρ:Type} {body:σ->Option (σ⊕ρ)} {s:σ} {r:ρ} (h:zaB body s=some r) (ks ls:List Nat) (nw:σ->List (Nat×AV)) (R:ρ->Ex)
  (hb:∀s o,body s=some o->JI m P (zjz c []) (Sx cx (addE E ks ls (nw s) [])) (match o with
   | .inl s'=>fun e a w=>e= .normal/\Sx cx (addE E ks ls (nw s') []) a w
   | .inr r=>fun e a w=>e≠ .normal/\(R r).R cx E e a w)) (hS:zcG E (addE E ks ls (nw s) [])) (k:∀e a w,(R r).R cx E e a w->zgt m P Q l e a w):JI m P (.c (.loop c)::l) (Sx cx E) Q:=jl h ks ls nw (fun _=>[]) R hb hS k
theorem jn (R:Ex) (h:JI m P (zjz c []) (Sx cx E) (R.R cx E)) (k:∀e a w,R.R cx E e a w->zgt m P Q l e a w):JI m P (.c c::l) (Sx cx E) Q:=zFM (zcm h) k
theorem jz {id:Nat} {ops:List Oper} {E1:Env} (h:finC P cx.n ops.toArray ops [] E E1.keys E1.labs=some E1:=by kernel_rfl):JI m P (.c (.region id ops.toArray false):: .c .ret::l) (Sx cx E) fun e a w=>e= .ret/\Sx cx E1 a w:=zlL E1 (rgg h) (zB lzr)
theorem jz' {id:Nat} {ops:List Oper} {E1:Env} (h:finC P cx.n ops.toArray ops [] E E1.keys E1.labs=some E1:=by kernel_rfl):JI m P (.c (.region id ops.toArray false):: .c .ret::l) (Sx cx E) fun e a w=>e≠ .normal/\e= .ret/\Sx cx E1 a w:=zlL E1 (rgg h) (zqQ lzr)
theorem jy {id:Nat} {ops:List Oper} {E1:Env} (h:finC P cx.n ops.toArray ops [] E E1.keys E1.labs=some E1:=by kernel_rfl):JI m P [.c (.region id ops.toArray false)] (Sx cx E) fun e a w=>e= .normal/\Sx cx E1 a w:=zlL E1 (rgg h) (zbj lzr)
end
def renE (E:Env):List (Nat×Nat)->Env
 | []=>E
 | p::l=>renE (E.ren p.1 p.2) l
def okRn:List (Nat×Nat)->Bool
 | []=>true
 | p::l=>(Nat.ble 2 p.1&&Nat.ble 2 p.2&& !spB p.1)&&okRn l
theorem zGw:∀(l:List (Nat×Nat)) {E E':Env},okRn l=true->zcG (renE E l) E'->zcG E E'
 | [],_,_,_,k=>k
 | p::l,_,_,h,k=>by
  simp only [okRn,xC] at h;exact zMk p.1 p.2 (by simpa using h.1) (zGw l h.2 k)
theorem lks (ls:List Nat) (rn:List (Nat×Nat)) (k:zcG (renE (zqj E'.keys ls E) rn) E') (h:(zDd E'.keys ls E&&okRn rn)=true:=by kernel_rfl):zcG E E':=by
 rw [xC] at h;exact (zsW _ _ (zsj h.1)).trans (zGw rn h.2 k)
section
variable {P:Program} {L:List Oper} {ss:List zlq} {is:List DIn}
theorem lwn:∀(n:Nat) {L:List Oper},zcN P (L.drop n) ss is->zcN P L (List.replicate n .ev++ss) is
 | 0,_,h=>h
 | n+1,[],h=>by show zcN P [] (.ev::_) is;cases is<;>trivial
 | n+1,o::L,h=>lw_e (lwn n h)
theorem dg (t:Nat) (hc:c=b) (k:zcN P l ss is) (h:zrZ P (Env.opd ⟨[(t,.lf (.bool c))],[]⟩) (zsB ⟨[(t,.lf (.bool c))],[]⟩ o.op) o.op=some (.lf (.bool c)):=by kernel_rfl):
  zcN P (o::l) (.ex ((zsB ⟨[(t,.lf (.bool c))],[]⟩ o.op).map (·.lab)) [] [] (.lf (.bool b)) []::ss) (⟨zmh ⟨[(t,.lf (.bool c))],[]⟩ o.op.operands.toList,zsB ⟨[(t,.lf (.bool c))],[]⟩ o.op,[]⟩::is):=lx (zMO _ h hc) k
theorem di {o:Oper} {l:List Oper} {α:Type} {r:Rp α} {xs:List α} {i:Int} {x:α} {t e:TypeId} {y z:Operand} {bytes:Nat} (C:List Nat) (hT:ElT P t e r.size bytes) (hx:idx xs i=some x) (k:zcN P l ss is) (ho:o.op= .indexAddr t y z:=by rfl):
  zcN P (o::l) (.ex [] [] [] (.ep r C x 0) []::ss) (⟨[(y,.sl r C xs),(z,.lf (.int .i64 i))],[],[]⟩::is):=lx (zxo ho hT (zcZ r xs C) hx) k
end
inductive LeL:List AV->List AV->Prop
 | n:LeL [] []
 | k {a:AV} {l m:List AV} (h:LeL l m):LeL (a::l) (a::m)
 | c {a b:AV} {l m:List AV} (h:a.le b) (t:LeL l m):LeL (a::l) (b::m)
 | l {a b:AV} (h:a.le b):LeL [a] [b]
def zipI:List (Operand×AV)->List AV->List (Operand×AV)
 | p::l,a::m=>(p.1,a)::zipI l m
 | _,_=>[]
theorem zJh (h:LeL ys xs):∀{ins:List (Operand×AV)},ins.map (·.2)=xs->leI (zipI ins ys) ins:=by
 induction h with
 | n=>intro ins e;cases ins<;>first| exact trivial| cases e
 | k _ ih=>intro ins e;cases ins with
  | nil=>cases e
  | cons p l=>cases e;exact ⟨⟨rfl,AV.le_refl _⟩,ih rfl⟩
 | c h _ ih=>intro ins e;cases ins with
  | nil=>cases e
  | cons p l=>cases e;exact ⟨⟨rfl,h⟩,ih rfl⟩
 | l h=>intro ins e;cases ins with
  | nil=>cases e
  | cons p l=>cases l<;>cases e;exact ⟨⟨rfl,h⟩,trivial⟩
theorem zJg (h:LeL ys xs):∀{args:List Operand},xs.length=args.length->leI (args.zip ys) (args.zip xs):=by
 induction h with
 | n=>intro args e;cases args<;>first| exact trivial| cases e
 | k _ ih=>intro args e;cases args with
  | nil=>cases e
  | cons p l=>exact ⟨⟨rfl,AV.le_refl _⟩,ih (by simpa using e)⟩
 | c h _ ih=>intro args e;cases args with
  | nil=>cases e
  | cons p l=>exact ⟨⟨rfl,h⟩,ih (by simpa using e)⟩
 | l h=>intro args e;cases args with
  | nil=>cases e
  | cons p l=>cases l<;>first| exact ⟨⟨rfl,h⟩,trivial⟩| (simp at e)
theorem zF.lw (h:zF P o ins bxs W V av bs) (hl:LeL ys (ins.map (·.2))):zF P o (zipI ins ys) bxs W V av bs:=h.le (zJh hl rfl)
section
variable {P:Program} {o:Oper} {f:FuncId} {args:List Operand} {ts:Array TypeId} {ins wE:List AV}
def lcK (xs wE:List AV) (D:List Nat) (s:Nat):Bool:=(xs.all fun a=>subN (zui a) D)&& !D.isEmpty&&wE.all (zvk [1] D s)
theorem lcl (xs:List AV) (D:List Nat) (s:Nat) (hc:∀as w,(callFunc f as).run P w= .ok (.enter f as) w) (ok:FnOk P f ins wE) (ho:o.op= .call ⟨.value (.func f),args.toArray,ts⟩:=by rfl)
  (hin:xs.map inAV=ins:=by kernel_rfl) (wD:xs.length=args.length:=by rfl) (h:lcK xs wE D s=true:=by kernel_rfl):zF P o (args.zip xs) [] [] (wE.flatMap (zgj s)) (zob (wE.map (zmY D s))) []:=by
 simp only [lcK,xC,yb] at h;exact zFY xs D s ho hc ok hin wD h.1.1 h.1.2 h.2
theorem lc0 (s:Nat) (hc:∀as w,(callFunc f as).run P w= .ok (.enter f as) w) (ok:FnOk P f ins wE) (ho:o.op= .call ⟨.value (.func f),args.toArray,ts⟩:=by rfl)
  (hin:ins.map inAV=ins:=by kernel_rfl) (wD:ins.length=args.length:=by rfl) (h:lcK ins wE [0] s=true:=by kernel_rfl):zF P o (args.zip ins) [] [] (wE.flatMap (zgj s)) (zob (wE.map (zmY [0] s))) []:=lcl ins [0] s hc ok ho hin wD h
theorem lcw (xs:List AV) (D:List Nat) (s:Nat) (hc:∀as w,(callFunc f as).run P w= .ok (.enter f as) w) (ok:FnOk P f ins wE) (hl:LeL ys xs) (ho:o.op= .call ⟨.value (.func f),args.toArray,ts⟩:=by rfl)
  (hin:xs.map inAV=ins:=by kernel_rfl) (wD:xs.length=args.length:=by rfl) (h:lcK xs wE D s=true:=by kernel_rfl):zF P o (args.zip ys) [] [] (wE.flatMap (zgj s)) (zob (wE.map (zmY D s))) []:=(lcl xs D s hc ok ho hin wD h).le (zJg hl wD)
theorem lw0 (s:Nat) (hc:∀as w,(callFunc f as).run P w= .ok (.enter f as) w) (ok:FnOk P f ins wE) (hl:LeL ys ins) (ho:o.op= .call ⟨.value (.func f),args.toArray,ts⟩:=by rfl)
  (hin:ins.map inAV=ins:=by kernel_rfl) (wD:ins.length=args.length:=by rfl) (h:lcK ins wE [0] s=true:=by kernel_rfl):zF P o (args.zip ys) [] [] (wE.flatMap (zgj s)) (zob (wE.map (zmY [0] s))) []:=lcw ins [0] s hc ok hl ho hin wD h
theorem lbx {α:Type} {r:Rp α} {x:α} {as:List AV} {y:Operand} {t:TypeId} (ℓ:Nat) (C:List Nat) (ha:zgc as=some (r.lv x)) (ho:o.op= .box t y:=by rfl) (hl:as.all (zrH C)=true:=by rfl):zF P o [(y,.rc r C x)] [] [] [ℓ] (.ptr ℓ 0) [⟨ℓ,t,as⟩]:=
 zij ℓ as C ho rfl (zrn C) ha hl
theorem ldw (ℓ tb:Nat) (m:List AV) (hT:AggT P t n) (ho:o.op= .load t y:=by rfl) (hn:Nat.beq m.length n=true:=by kernel_rfl) (hm:m.take n=m:=by kernel_rfl):zF P o [(y,.ptr ℓ 0)] [⟨ℓ,tb,m⟩] [] [] (.ag m) []:=
 zFZ (b:=⟨ℓ,tb,m⟩) m ho hT hm hn
theorem stw (b:Bx) (off:Nat) (l:List AV) (wG:∀w,(sizeOf t).run P w= .ok n w) (ho:o.op= .store t y z:=by rfl) (hn:Nat.beq l.length n=true:=by rfl) (hoff:Nat.ble (off+n) b.avs.length=true:=by rfl) (hf:AV.free [b.lab] [] (.ag l)=true:=by rfl):
  zF P o [(y,.ptr b.lab off),(z,.ag l)] [b] [b.lab] [] .any [⟨b.lab,b.typ,(b.avs.map (AV.clear [b.lab] [])).take off++l++(b.avs.map (AV.clear [b.lab] [])).drop (off+n)⟩]:=zGc l ho wG hn hoff hf
def dedN:List Nat->List Nat
 | []=>[]
 | x::l=>x::(dedN l).filter fun y=> !Nat.beq y x
def colD (xs:List AV):List Nat:=match dedN (xs.flatMap zui) with
 | []=>[1]
 | l=>l
theorem lcd (xs:List AV) (s:Nat) (hc:∀as w,(callFunc f as).run P w= .ok (.enter f as) w) (ok:FnOk P f ins wE) (ho:o.op= .call ⟨.value (.func f),args.toArray,ts⟩:=by rfl)
  (hin:xs.map inAV=ins:=by kernel_rfl) (wD:xs.length=args.length:=by rfl) (h:lcK xs wE (colD xs) s=true:=by kernel_rfl):zF P o (args.zip xs) [] [] (wE.flatMap (zgj s)) (zob (wE.map (zmY (colD xs) s))) []:=lcl xs (colD xs) s hc ok ho hin wD h
def rpZ (n:Nat):Rp Empty:=⟨n+1,true,nofun,nofun,Nat.succ_pos n⟩
def nil1 (a:AV):LV->AV
 | .sl _ (n+1) _=>match nilA a with
  | true=> .sl (rpZ n) [] []
  | false=>a
 | _=>a
theorem zLi (a:AV) (v:LV):AV.le a (nil1 a v)/\∀c∈AV.cols (nil1 a v),c∈AV.cols a:=by
 unfold nil1;split
 ·split
  ·rename_i h;rw [zBl h];exact ⟨zgx _ _,fun c hc=>by simp [AV.cols] at hc⟩
  ·exact ⟨AV.le_refl _,fun c hc=>hc⟩
 ·exact ⟨AV.le_refl _,fun c hc=>hc⟩
def nilZ:List AV->List LV->List AV
 | a::l,v::lv=>nil1 a v::nilZ l lv
 | _,_=>[]
theorem zGh:∀{l:List AV} {lv:List LV},l.length=lv.length->leL l (nilZ l lv)/\∀c∈AV.colsL (nilZ l lv),c∈AV.colsL l
 | [],[],_=>⟨trivial,fun c h=>h⟩
 | [],_::_,h=>by simp at h
 | _::_,[],h=>by simp at h
 | a::l,v::lv,h=>by
  obtain ⟨h1,h2⟩:=zGh (l:=l) (lv:=lv) (by simpa using h);obtain ⟨h3,h4⟩:=zLi a v;refine ⟨⟨h3,h1⟩,fun c hc=>?_⟩;simp only [nilZ,AV.colsL,xG] at hc|-;exact hc.imp (h4 c) (h2 c)
theorem zMI {α:Type} {r:Rp α} {x:α} {l:List AV} {lv:List LV} (e:r.lv x=lv) (hn:Nat.beq l.length lv.length=true) (hl:zgc (nilZ l lv)=some lv):AV.le (.ag l) (.rc r (AV.colsL l) x):=by
 obtain ⟨h1,h2⟩:=zGh (xJ hn);refine zMl (zJi h1) (zlB r _ x _ (by rw [e];exact hl) ?_);simp only [subN,xL];exact fun c hc=>zaR.2 (h2 c hc)
inductive LeZ:List AV->List AV->List AV->Prop
 | n:LeZ [] [] []
 | k {a:AV} {ys is xs:List AV} (h:LeZ ys is xs):LeZ (a::ys) (inAV a::is) (a::xs)
 | c {α:Type} {r:Rp α} {x:α} {l:List AV} {lv:List LV} {ys is xs:List AV} (e:r.lv x=lv) (h:LeZ ys is xs) (hn:Nat.beq l.length lv.length=true:=by kernel_rfl) (hl:zgc (nilZ l lv)=some lv:=by kernel_rfl):LeZ (.ag l::ys) (.rc r [0] x::is) (.rc r (AV.colsL l) x::xs)
theorem LeZ.ok {ys is xs:List AV} (h:LeZ ys is xs):xs.map inAV=is/\xs.length=ys.length/\∀{args:List Operand},leI (args.zip ys) (args.zip xs):=by
 induction h with
 | n=>exact ⟨rfl,rfl,by intro args;cases args<;>trivial⟩
 | k _ ih=>exact ⟨by simp [ih.1],by simp [ih.2.1],by intro args;cases args with
  | nil=>trivial
  | cons p q=>exact ⟨⟨rfl,AV.le_refl _⟩,ih.2.2⟩⟩
 | c e _ hn hl ih=>exact ⟨by simp [ih.1,inAV,zxa],by simp [ih.2.1],by intro args;cases args with
  | nil=>trivial
  | cons p q=>exact ⟨⟨rfl,zMI e hn hl⟩,ih.2.2⟩⟩
theorem lcz (ys:List AV) (s:Nat) (hc:∀as w,(callFunc f as).run P w= .ok (.enter f as) w) (ok:FnOk P f ins wE) (hz:LeZ ys ins xs) (ho:o.op= .call ⟨.value (.func f),args.toArray,ts⟩:=by rfl)
  (wD:ys.length=args.length:=by rfl) (h:lcK xs wE (colD xs) s=true:=by kernel_rfl):zF P o (args.zip ys) [] [] (wE.flatMap (zgj s)) (zob (wE.map (zmY (colD xs) s))) []:=
 (lcl xs (colD xs) s hc ok ho hz.ok.1 (hz.ok.2.1.trans wD) h).le hz.ok.2.2
theorem las {α:Type} {r:Rp α} {xs ys zs:List α} {t e:TypeId} {x y:Operand} {bytes:Nat} (ℓ:Nat) (C D C2:List Nat) (hT:ElT P t e r.size bytes) (hz:app bytes xs ys=some zs) (hC:r.Plain\/(subN C C2&&subN D C2)=true)
  (ho:o.op= .call ⟨.builtin .append,#[x,y],#[t,t]⟩:=by rfl) (hb:Nat.blt 0 bytes=true:=by rfl) (hℓ:memN ℓ C2=false:=by rfl):zF P o [(x,.own r e ℓ C xs),(y,.sl r D ys)] [] [ℓ] [ℓ] (.own r e ℓ C2 zs) []:=
 zEE ℓ C2 ho hT hb (zuj _ _ _ _ _) (zcZ _ _ _) hz hC hℓ
theorem lao {α:Type} {r:Rp α} {xs ys zs:List α} {t e:TypeId} {x y:Operand} {bytes:Nat} (ℓ:Nat) (C:List Nat) (e' k:Nat) (D C2:List Nat) (hT:ElT P t e r.size bytes) (hz:app bytes xs ys=some zs) (hC:r.Plain\/(subN C C2&&subN (k::D) C2)=true)
  (ho:o.op= .call ⟨.builtin .append,#[x,y],#[t,t]⟩:=by rfl) (hb:Nat.blt 0 bytes=true:=by rfl) (hℓ:memN ℓ C2=false:=by rfl):zF P o [(x,.own r e ℓ C xs),(y,.own r e' k D ys)] [] [ℓ] [ℓ] (.own r e ℓ C2 zs) []:=
 zEE ℓ C2 ho hT hb (zuj _ _ _ _ _) (zkS _ _ _ _ _) hz hC hℓ
theorem lde {α:Type} {t:TypeId} {y:Operand} (r:Rp α) (D:List Nat) (x:α) (hT:AggT P t r.size) (ho:o.op= .load t y:=by rfl):zF P o [(y,.ep r D x 0)] [] [] [] (.rc r D x) []:=zMP ho hT
theorem ldl {α β:Type} {t:TypeId} {y:Operand} (r:Rp α) (D:List Nat) (x:α) (off:Nat) (r':Rp β) (xs:List β) (hs:(r.lv x)[off]? =some (.sl xs.length r'.size (xs.flatMap r'.lv)):=by rfl) (ho:o.op= .load t y:=by rfl) (hT:zeH P t=true:=by rfl):
  zF P o [(y,.ep r D x off)] [] [] [] (.sl r' D xs) []:=zMQ r' xs ho hT hs
theorem lbs1 {α:Type} {r:Rp α} {t e:TypeId} {y:Operand} {bytes:Nat} {x0:α} (ℓ:Nat) (C:List Nat) (x:α) (hT:ZeT P t e r bytes x0) (ho:o.op= .buildSlice t 1 [(0,y)].toArray:=by rfl) (hn:(Nat.ble (1*r.size) 16777216&& !memN ℓ C)=true:=by rfl):
  zF P o [(y,.rc r C x)] [] [] [ℓ] (.own r e ℓ C [x]) []:=by
 simp only [xC,yb] at hn;have h1:=r.len x;have h0:=r.len x0;refine zfI (wT:=[(0,y)]) [.rc r C x] ℓ C [x] ho hT (by rw [hn.1];rfl) (by simp [AV.colsL,AV.cols,zrn]) hn.2 ?_;simp [zzu,zoR,znr,zwQ,List.replicate,h0,h1,zqu,Nat.ble_eq_true_of_le]
theorem lbs2 {α:Type} {r:Rp α} {t e:TypeId} {y z:Operand} {bytes:Nat} {x0:α} (ℓ:Nat) (C D B:List Nat) (x x':α) (hT:ZeT P t e r bytes x0) (ho:o.op= .buildSlice t 2 [(0,y),(1,z)].toArray:=by rfl) (hn:(Nat.ble (2*r.size) 16777216&& !memN ℓ B&&subN C B&&subN D B)=true:=by rfl):
  zF P o [(y,.rc r C x),(z,.rc r D x')] [] [] [ℓ] (.own r e ℓ B [x,x']) []:=by
 simp only [xC,yb] at hn;have h1:=r.len x;have h2:=r.len x';have h0:=r.len x0;have hs:subN (AV.colsL [.rc r C x,.rc r D x']) B=true:=by
  simp only [subN,xL] at hn|-;intro c hc;simp only [AV.colsL,AV.cols,xG,yq] at hc;exact hc.elim (hn.1.2 c) (hn.2 c)
 refine zfI (wT:=[(0,y),(1,z)]) [.rc r C x,.rc r D x'] ℓ B [x,x'] ho hT (by rw [hn.1.1.1];rfl) hs hn.1.1.2 ?_;simp [zzu,zoR,znr,zwQ,List.replicate,h0,h1,h2,zqu,Nat.ble_eq_true_of_le]
theorem lbd {wT:List (Nat×Operand)} (as:List AV) (hT:StA P t places zs) (ho:o.op= .build t wT.toArray:=by rfl) (hf:zCl (fun i=>places[i]?) zs wT as=some as:=by rfl):
  zF P o ((wT.map (·.2)).zip as) [] [] [] (.ag as) []:=zhW as as ho hT hf
variable {N:Lim} {ops:Array Oper} {ww:List Oper} {E E':Env}
theorem rx {α:Type} {r:Rp α} {xs:List α} {i:Int} {x:α} {t e:TypeId} {y z:Operand} {bytes:Nat} (n:Nat) (C:List Nat) (hT:ElT P t e r.size bytes) (hx:idx xs i=some x) (ho:nthO ww n=some o) (hq:o.op= .indexAddr t y z)
  (k:zbG P N ops (ww.drop (n+1)) (zAf P N ops ww n [] o E [y,z] [] [] [] (.ep r C x 0) []) E')
  (h:zAe P N ops ww n [] o E [y,z] [] [] [] (.ep r C x 0) []=some ([.sl r C xs,.lf (.int .i64 i)],[]):=by kernel_rfl):zbG P N ops ww E E':=rc n ho (zxo hq hT (zcZ r xs C) hx) k h
theorem rsI {α:Type} {p q:Option α} {v:α} {b:Bool} (n t:Nat) (h:(if b then p else q)=some v) (h1:b=true->p=some v->zbG P N ops (ww.drop n) ⟨zgp (some t) (.lf (.bool true)) (endE P N ops (ww.take n) [] E).sl,(endE P N ops (ww.take n) [] E).bx⟩ E')
  (h0:b=false->q=some v->zbG P N ops (ww.drop n) ⟨zgp (some t) (.lf (.bool false)) (endE P N ops (ww.take n) [] E).sl,(endE P N ops (ww.take n) [] E).bx⟩ E')
  (hk:splC P N ops (ww.take n) [] E t=some (.lf (.bool b)):=by kernel_rfl):zbG P N ops ww E E':=rsl n [] t b (fun e=>h1 e (iteT h e)) (fun e=>h0 e (iteF h e)) hk
end
theorem jg {m:Bool} {P:Program} {l:List It} {cx:Cx} {E:Env} {Q:Exit->Act->World->Prop} {id:Nat} {ops:List Oper} (ks ls:List Nat) (nw:List (Nat×AV)) (h:zbG P cx.n ops.toArray ops E ⟨nw++(zqj ks ls E).sl,(zqj ks ls E).bx⟩)
  (k:JI m P l (Sx cx ⟨nw++(zqj ks ls E).sl,(zqj ks ls E).bx⟩) Q):JI m P (.c (.region id ops.toArray false)::l) (Sx cx E) Q:=zlL _ h k
def frA (ℓ:Nat) (x:AV):AV:=match AV.free [ℓ] [] x with
 | true=>x
 | false=> .any
def isOm (ℓ:Nat):AV->Bool
 | .om _ _ k _ _=>Nat.beq k ℓ
 | _=>false
def zDB (ℓ:Nat) (a' x:AV):AV:=match isOm ℓ x with
 | true=>a'
 | false=>frA ℓ x
def oms0 (ℓ:Nat) (x:AV):List AV:=match isOm ℓ x with
 | true=>[x]
 | false=>[]
def zAk (ℓ:Nat) (a':AV):AV->AV
 | .ag l=> .ag (l.map (zDB ℓ a'))
 | x=>zDB ℓ a' x
def oms1 (ℓ:Nat):AV->List AV
 | .ag l=>l.flatMap (oms0 ℓ)
 | x=>oms0 ℓ x
section
variable {ℓ:Nat} {a a':AV}
theorem zDC (h:∀y∈oms0 ℓ x,y=a):zuU [ℓ] [] [(a,a')] x (zDB ℓ a' x):=by
 unfold zDB;unfold oms0 at h;split
 ·rename_i e;rw [e] at h;rw [h x (by simp)];exact zhz 0 rfl
 ·unfold frA;split
  ·exact zD ‹_›
  ·exact zNq
theorem zAj:∀{l:List AV},(∀y∈l.flatMap (oms0 ℓ),y=a)->zov [ℓ] [] [(a,a')] l (l.map (zDB ℓ a'))
 | [],_=>trivial
 | x::l,h=>⟨zDC fun y hy=>h y (by rw [xW];exact xG.2 (.inl hy)),zAj fun y hy=>h y (by rw [xW];exact xG.2 (.inr hy))⟩
theorem zDD (h:∀y∈oms1 ℓ x,y=a):zuU [ℓ] [] [(a,a')] x (zAk ℓ a' x):=by
 cases x<;>first| exact zrP (zAj h)| exact zDC h
theorem zAl:∀{l:List AV},(∀y∈l.flatMap (oms1 ℓ),y=a)->zov [ℓ] [] [(a,a')] l (l.map (zAk ℓ a'))
 | [],_=>trivial
 | x::l,h=>⟨zDD fun y hy=>h y (by rw [xW];exact xG.2 (.inl hy)),zAl fun y hy=>h y (by rw [xW];exact xG.2 (.inr hy))⟩
def zGI (ℓ:Nat) (a':AV) (E:Env):Env:=⟨E.sl.map fun p=>(p.1,zAk ℓ a' p.2),(E.bx.filter fun b=> !Nat.beq b.lab ℓ).map fun b=>⟨b.lab,b.typ,b.avs.map (zAk ℓ a')⟩⟩
def omsE (ℓ:Nat) (E:Env):List AV:=(E.sl.flatMap fun p=>oms1 ℓ p.2)++E.bx.flatMap fun b=>b.avs.flatMap (oms1 ℓ)
theorem zKm (t:Tr [ℓ] [] γ w γ' w') (hT:∀p∈[(a,a')],zou γ w γ' w' p) (h:omsE ℓ E=List.replicate (omsE ℓ E).length a) (hs:Sl γ w c E.sl) (hx:Bxs γ w E.bx):
  Sl γ' w' c (zGI ℓ a' E).sl/\Bxs γ' w' (zGI ℓ a' E).bx:=by
 have hm:∀y∈omsE ℓ E,y=a:=fun y hy=>by rw [h] at hy;exact List.eq_of_mem_replicate hy
 refine ⟨fun p hp=>?_,fun b hb=>?_⟩
 ·obtain ⟨q,hq,rfl⟩:=xH.1 hp;exact zDD (fun y hy=>hm y (xG.2 (.inl (y8.2 ⟨q,hq,hy⟩)))) _ _ _ _ t hT _ (hs q hq)
 ·have hB:BxT [ℓ] [] [(a,a')] E.bx ((E.bx.filter fun b=> !Nat.beq b.lab ℓ).map fun b=>⟨b.lab,b.typ,b.avs.map (zAk ℓ a')⟩)->b.rel γ' w':=fun H=>BxT.rel t hT hx H b hb
  obtain ⟨q,hq,rfl⟩:=xH.1 hb;obtain ⟨hq1,hq2⟩:=yh.1 hq;have h1:BxT [ℓ] [] [(a,a')] [q] [⟨q.lab,q.typ,q.avs.map (zAk ℓ a')⟩]:=by
   refine ⟨⟨q,by simp [zgg],rfl,?_,zAl fun y hy=>hm y (xG.2 (.inr (y8.2 ⟨q,hq1,hy⟩)))⟩,trivial⟩;have hne:Nat.beq q.lab ℓ=false:=by simpa using hq2
   simp [memN,hne]
  exact BxT.rel t hT (fun x hx'=>by cases hx' with
   | head=>exact hx q hq1
   | tail _ h=>cases h) h1 _ xA
end
def zMm (ww:List Oper) (n:Nat):Option (TypeId×Operand×Operand×Operand):=match nthO ww n with
 | some o=>match o.op with
  | .mapUpdate t y z u=>some (t,y,z,u)
  | .insert t y z u=>some (t,y,z,u)
  | _=>none
 | none=>none
def msK (P:Program) (N:Lim) (ops:Array Oper) (ww:List Oper) (n:Nat) (ls:List Nat) (E:Env) (ℓ:Nat):Bool:=endB P N ops (ww.take n) ls E&&Nat.ble 2 ℓ&&match nthO ww n with
 | some o=>o.dst.isNone&&match zfD ops (endE P N ops (ww.take n) ls E) o with
  | some true=>true
  | _=>false
 | none=>false
section
variable {P:Program} {N:Lim} {ops:Array Oper} {ww:List Oper} {E E':Env} {κ ν:Type} [DecidableEq κ] {rk:Rp κ} {rv:Rp ν} {m:List (κ×ν)} {t kt et:TypeId} {x0:ν} {y z u:Operand} {ak av:AV} {C1 D:List Nat}
theorem rts (ho:nthO ww n=some o) (hs:znA P o ins [ℓ] [] .any [(a,a')]) (k:zbG P N ops (ww.drop (n+1)) (zGI ℓ a' (endE P N ops (ww.take n) ls E)) E')
  (h1:msK P N ops ww n ls E ℓ=true) (h2:zlm (endE P N ops (ww.take n) ls E) (ins.map (·.1))=some (ins.map (·.2))) (h3:omsE ℓ (endE P N ops (ww.take n) ls E)=List.replicate (omsE ℓ (endE P N ops (ww.take n) ls E)).length a):zbG P N ops ww E E':=by
 unfold msK at h1;rw [ho] at h1;simp only [xC] at h1;obtain ⟨⟨c1,c2⟩,c3,c4⟩:=h1;refine zlQ n (zwO c1) ?_;rw [znV ho];split at c4
 ·rename_i hg;intro cx c w Q hn hx hQ;obtain ⟨γ,hb,hsl,hbx⟩:=hx;refine ziu (zeu hg hsl) (hs γ c w ((zoP h2).rel hsl) _ Q fun γ' w' v ht hv hT=>?_);have hd:o.dst=none:=by simpa using c3
  obtain ⟨g1,g2⟩:=zKm (c:=c) ht hT h3 hsl hbx;rw [hd];exact k cx _ _ Q hn ⟨γ',hb.tr ht (by simp only [okW,c2];rfl) rfl,g1,g2⟩ hQ
 ·cases c4
theorem rms (n:Nat) (ls:List Nat) (ℓ:Nat) (C:List Nat) (m:List (κ×ν)) (k:κ) (x:ν) (C2:List Nat) (hT:MapT P t kt et rk rv x0) (hka:asV rk k C1 ak) (hva:asV rv x D av)
  (kk:zbG P N ops (ww.drop (n+1)) (zGI ℓ (.om rk rv ℓ C2 (mput m k x)) (endE P N ops (ww.take n) ls E)) E') (ho:zMm ww n=some (t,y,z,u):=by rfl)
  (h1:(msK P N ops ww n ls E ℓ&&(subN C C2&&subN C1 C2&&subN D C2&& !memN ℓ C2))=true:=by kernel_rfl) (h2:zlm (endE P N ops (ww.take n) ls E) [y,z,u]=some [.om rk rv ℓ C m,ak,av]:=by kernel_rfl)
  (h3:omsE ℓ (endE P N ops (ww.take n) ls E)=List.replicate (omsE ℓ (endE P N ops (ww.take n) ls E)).length (.om rk rv ℓ C m):=by kernel_rfl):zbG P N ops ww E E':=by
 rw [xC] at h1;unfold zMm at ho;split at ho
 ·rename_i o hn;refine rts hn (ins:=[(y,.om rk rv ℓ C m),(z,ak),(u,av)]) (zLC k x C2 hT ?_ hka hva h1.2) kk h1.1 h2 h3;split at ho
  ·rename_i hop;cases ho;exact .inl hop
  ·rename_i hop;cases ho;exact .inr hop
  ·cases ho
 ·cases ho
end
theorem zBN (x:Int):u8.wrap x=x%256:=by simp [IntKind.wrap,IntKind.bits,IntKind.signed]
theorem zDU (x:Int):u32.wrap x=x%4294967296:=by simp [IntKind.wrap,IntKind.bits,IntKind.signed]
theorem wrap_u64 (x:Int):u64.wrap x=x%18446744073709551616:=by simp [IntKind.wrap,IntKind.bits,IntKind.signed]
theorem zC (h: -9223372036854775808<=x/\x<=9223372036854775807):i64.wrap x=x:=by
 simp [IntKind.wrap,IntKind.bits,IntKind.signed];split<;>omega
theorem uD {x:Int} (h: -9223372036854775808<=x/\x<=9223372036854775807:=by omega):i64.wrap x=x:=zC h
theorem zIh (x:Int):i32.wrap x=if x%4294967296<2147483648 then x%4294967296 else x%4294967296 - 4294967296:=by
 simp [IntKind.wrap,IntKind.bits,IntKind.signed];split<;>split<;>omega
theorem ztQ {k:IntKind} (hk:k.signed=false) {n:Nat} (h:n<2^k.bits):k.wrap (n:Int)=n:=by
 have h2:(n:Int)%(2^k.bits:Int)=n:=qm (by omega) (by exact_mod_cast h);simp only [IntKind.wrap,hk,yY,h2];simp
theorem zqZ {b n:Nat} (h:n<2^b):(BitVec.ofInt b (n:Int)).toNat=n:=by
 rw [BitVec.toNat_ofInt];have h2:(n:Int)%((2^b:Nat):Int)=n:=qm (by omega) (by exact_mod_cast h);rw [h2];rfl
theorem zBQ {k:IntKind} (hk:k.signed=false) {a b:Nat} (ha:a<2^k.bits) (hb:b<2^k.bits):andI k a b=((a&&&b:Nat):Int):=by
 unfold andI;rw [BitVec.toNat_and,zqZ ha,zqZ hb];exact ztQ hk (Nat.lt_of_le_of_lt Nat.and_le_left ha)
theorem zwi {k:IntKind} (hk:k.signed=false) {a b:Nat} (ha:a<2^k.bits) (hb:b<2^k.bits):orI k a b=((a||| b:Nat):Int):=by
 unfold orI;rw [BitVec.toNat_or,zqZ ha,zqZ hb];exact ztQ hk (Nat.or_lt_two_pow ha hb)
theorem ztt {k:IntKind} {a b:Nat} (hb:b<=k.bits):shrI k a b=((a/2^b:Nat):Int):=by
 unfold shrI;have h2:(2:Int)^b=((2^b:Nat):Int):=by simp
 rw [xN,qC hb,h2,Int.fdiv_eq_ediv_of_nonneg _ (Int.natCast_nonneg (2^b)),Int.natCast_ediv]
theorem zxE (a c k:Nat) (h:a<2^k):a||| (c*2^k)=a+c*2^k:=by
 rw [pC,yR,<-Nat.two_pow_add_eq_or_of_lt h,pD]
theorem zFx (n m:Nat):((n:Int)==(m:Int))=decide (n=m):=by
 by_cases h:n=m
 ·simp [h]
 ·have:¬((n:Int)=m):=by omega
  simp [h,this]
theorem zal {α:Type} {xs:List α} {i:Int} {n:Nat} (h:i=n) (hn:n<xs.length):idx xs i=some xs[n]:=by
 unfold idx;subst h;rw [xz (by omega),xN,xQ hn]
theorem zjx {α:Type} {xs:List α} {i j:Int} {a b:Nat} (hi:i=a) (hj:j=b) (h:a<=b) (hb:b<=xs.length):cut xs i j=some ((xs.drop a).take (b - a)):=by
 unfold cut;subst hi hj;rw [xz (by omega),xN,xN]
theorem zsD {α:Type} {xs:List α} {i j:Int} {a:Nat} (hi:i=a) (hj:j=(xs.length:Int)) (h:a<=xs.length):cut xs i j=some (xs.drop a):=by
 rw [zjx hi hj h (xE _),yG (by simp)]
theorem znI {α:Type} {xs:List α} {j:Int} {b:Nat} (hj:j=b) (hb:b<=xs.length):cut xs 0 j=some (xs.take b):=by
 have:=zjx (xs:=xs) (i:=0) (a:=0) rfl hj (xM _) hb;simpa using this
theorem zem {α:Type} {bytes:Nat} {xs ys:List α} (h:(xs.length+ys.length)*bytes<=140737488355328):app bytes xs ys=some (xs++ys):=by
 unfold app LIM;rw [xz h]
theorem zmn {α:Type} {bytes:Nat} {x0:α} {n m:Int} {a:Nat} (hn:n=a) (h:n<=m) (hm:m*bytes<=140737488355328):mkO bytes x0 n m=some (List.replicate a x0):=by
 unfold mkO LIM;subst hn;rw [xz ⟨by omega,h,hm⟩,xN]
theorem zGg {α:Type} {bytes:Nat} {x0:α} {m:Int} (h:0<=m) (hm:m*bytes<=140737488355328):mkO bytes x0 0 m=some []:=by
 have:=zmn (x0:=x0) (n:=0) (a:=0) rfl h hm;simpa using this
theorem zCb (h:x=(c.toNat:Int)):zrC x=some c:=by
 unfold zrC;subst h;have:=c.toNat_lt;rw [xz (by omega),xN,UInt8.ofNat_toNat]
theorem zzj {x:Int} {n:Nat} (h:x=n) (hn:n<256):zrC x=some (UInt8.ofNat n):=by
 refine zCb ?_;rw [h,UInt8.toNat_ofNat'];congr 1;omega
theorem zFX {l:List UInt8} (h:l.length<=9223372036854775807):lenO l=some l:=by unfold lenO;rw [xz h]
theorem zDr {k:IntKind} {x:Int} {n:Nat}:shlO k x n=some (shlI k x n):=by unfold shlO;rw [xy (by omega)]
theorem zJS {k:IntKind} {x:Int} {n:Nat}:shrO k x n=some (shrI k x n):=by unfold shrO;rw [xy (by omega)]
theorem sb {α β:Type} {a:α} {f:α->Option β}:((some a:Option α)>>=f)=f a:=rfl
theorem itT {α:Type} {c:Bool} {x y:α} (h:c=true):(if c then x else y)=x:=by rw [h];rfl
theorem uB {α:Type} {c:Bool} {x y:α} (h:c=true:=by simp;omega):(if c then x else y)=x:=itT h
theorem uz {α:Type} {c:Bool} {x y:α} (h:c=true:=by simp):(if c then x else y)=x:=itT h
theorem uw {α:Type} {c:Bool} {x y:α} (h:c=true:=by rfl):(if c then x else y)=x:=itT h
theorem itF {α:Type} {c:Bool} {x y:α} (h:c=false):(if c then x else y)=y:=by rw [h];rfl
theorem uC {α:Type} {c:Bool} {x y:α} (h:c=false:=by simp;omega):(if c then x else y)=y:=itF h
theorem uA {α:Type} {c:Bool} {x y:α} (h:c=false:=by simp):(if c then x else y)=y:=itF h
theorem uy {α:Type} {c:Bool} {x y:α} (h:c=false:=by rfl):(if c then x else y)=y:=itF h
open Go.RowKit (wrap32 wrap64)
def sgnS (x:Int):Int:=if x%4294967296<2147483648 then x%4294967296 else x%4294967296 - 4294967296
def zvx (x:Int):Int:=if 0<=x then x else x+18446744073709551616
def lenN (n:Nat):Nat:=if n<128 then 1 else lenN (n/128)+1
termination_by n
decreasing_by omega
def zgP:Nat->Nat->List UInt8
 | 0,_=>[]
 | k+1,w=>UInt8.ofNat (w%256)::zgP k (w/256)
def word:List UInt8->Nat
 | []=>0
 | c::r=>c.toNat+256*word r
theorem zEZ (x:Int): -2147483648<=sgnS x/\sgnS x<=2147483647:=by unfold sgnS;split<;>omega
theorem zLO (h: -9223372036854775808<=x/\x<=9223372036854775807):0<=zvx x/\zvx x<=18446744073709551615:=by unfold zvx;split<;>omega
theorem zJR {x:Int} (h: -2147483648<=x/\x<=2147483647):sgnS (zvx x)=x:=by unfold sgnS zvx;split<;>split<;>omega
theorem zpW (n:Nat):1<=lenN n:=by unfold lenN;split<;>omega
theorem zfd (h:n<128):lenN n=1:=by rw [lenN,xz h]
theorem zfV (h:¬n<128):lenN n=lenN (n/128)+1:=by rw [lenN,xy h]
theorem zLa:∀(k n:Nat),n<128^k->0<k->lenN n<=k:=by
 intro k
 induction k with
 | zero=>intro n _ h;omega
 | succ k ih=>
  intro n hn _;by_cases h:n<128
  ·rw [zfd h];omega
  ·rw [zfV h];have h1:n/128<128^k:=by rw [yL] at hn;exact Nat.div_lt_of_lt_mul (by omega)
   have h2:0<k:=by
    rcases pY k with rfl| h
    ·simp at h1;omega
    ·exact h
   have:=ih _ h1 h2;omega
theorem zxl (h:n<18446744073709551616):lenN n<=10:=zLa 10 n (by omega) (by omega)
def lz (m:Nat):Nat:=if m=0 then 0 else lenN m
theorem zMT (h:m≠0):lz m=lz (m/128)+1:=by
 unfold lz;rw [xy h];split
 ·rw [zfd (by omega)]
 ·rw [zfV (by omega)]
theorem zMS (n:Nat):lenN n=1+lz (n/128):=by
 unfold lz;split
 ·rw [zfd (by omega)]
 ·rw [zfV (by omega),pD]
theorem zbt:∀(k n:Nat),(zgP k n).length=k
 | 0,_=>rfl
 | k+1,n=>by simp [zgP,zbt k]
theorem zqI:∀(k n:Nat),word (zgP k n)=n%256^k
 | 0,n=>by simp [zgP,word,Nat.mod_one]
 | k+1,n=>by
  rw [zgP,word,zqI k];have:(UInt8.ofNat (n%256)).toNat=n%256:=by simp
  rw [this,yL,yR (256^k),Nat.mod_mul]
theorem zvd:∀(k n:Nat),zgP (k+1) n=zgP k n++[UInt8.ofNat (n/256^k%256)]
 | 0,n=>by simp [zgP]
 | k+1,n=>by
  rw [zgP,zvd k,zgP];simp only [yi,qh,List.append_cancel_left_eq,qR,yZ];rw [Nat.div_div_eq_div_mul,yL,yR (256^k)]
def zhV (n m j:Nat):List UInt8:=zgP j m++List.replicate (n - j) 0
theorem zBc (n m:Nat):zhV n m 0=List.replicate n 0:=by simp [zhV,zgP]
theorem zCQ (n m:Nat):zhV n m n=zgP n m:=by simp [zhV]
theorem zxn {n m j:Nat} (h:j<=n):(zhV n m j).length=n:=by simp [zhV,zbt];omega
theorem zCR {n m j:Nat} (h:j<n):(zhV n m j).set j (UInt8.ofNat (m/256^j%256))=zhV n m (j+1):=by
 unfold zhV;rw [zvd,List.set_append,xy (by rw [zbt];omega),zbt,pf,show n - j=(n - (j+1))+1 from by omega,pU,List.set_cons_zero,yp];rfl
theorem zwn (j:Nat):2^(8*j)=256^j:=by rw [Nat.pow_mul]
theorem zCU (m j:Nat):((m/256^j:Nat):Int)%256=((UInt8.ofNat (m/256^j%256)).toNat:Int):=by
 have e:(UInt8.ofNat (m/256^j%256)).toNat=m/256^j%256:=by simp
 rw [e,Int.natCast_emod];rfl
theorem zBL:∀(l:List UInt8),word l<256^l.length
 | []=>by simp [word]
 | c::r=>by
  have h1:=zBL r;have h2:=c.toNat_lt;simp only [word,xU,yL];omega
theorem zAo:∀(l:List UInt8) (c:UInt8),word (l++[c])=word l+c.toNat*256^l.length
 | [],c=>by simp [word]
 | d::r,c=>by
  simp only [yi,word,xU,zAo r c,yL];rw [Nat.mul_add,<-qi,yR 256 c.toNat,qi c.toNat,yR (256^r.length)];omega
theorem zLm (a c k:Nat) (h:a<2^k):a||| (c*2^k)=a+c*2^k:=by
 have:=Nat.shiftLeft_add_eq_or_of_lt h c;rw [Nat.shiftLeft_eq] at this;rw [pC,<-this,pD]
theorem zEQ (h:j<=7):256^j<=72057594037927936:=by
 have:=pg (n:=256) (by omega) h;simpa using this
theorem zLR (a d j:Nat) (hj:j<8) (hd:d<256) (ha:a<256^j):
  bits .or .u64 (a:Int) (u64.wrap ((d:Int)*2^(8*j)))=((a+d*256^j:Nat):Int):=by
 have hp:=zEQ (show j<=7 by omega);have hm:d*256^j<=255*72057594037927936:=ue (by omega) hp;have e:((d:Int)*2^(8*j))=((d*256^j:Nat):Int):=by
  rw [<-zwn,Int.natCast_mul,Int.natCast_pow];rfl
 rw [e,IntKind.wrap_u64,qm (by omega) (by omega),bits_or_u64_nat _ _ (by omega) (by omega),<-zwn,zLm _ _ _ (by rw [zwn];exact ha)]
theorem zMz (h:(Lit.int .u64 x).wf=true):0<=x/\x<=18446744073709551615:=by simpa [Lit.wf,IntKind.min,IntKind.max,IntKind.bits,IntKind.signed] using h
end Go.Proofs.YtkgohoggipdokaaGreat

/-
  What every proof here stands on. No condition.
-/
import Derived.Laws.Bits64b
import Derived.IntWalk
import Derived.RowKit
import Derived.Test.YtaglemhabeipfaaGreatx1K2
import Derived.Test.YtaglemhabeipfaaGreatx1K1
set_option autoImplicit true
set_option relaxedAutoImplicit true
namespace Go.Proofs.YtaglemhabeipfaaGreat
open Go.IntKind (i32 i64 u32 u64 u8)
open Go Go.RowKit
set_option linter.unusedVariables false
def nilA:AV->Bool
 | .lf (.val (.slice none 0 0))=>true
 | _=>false
theorem zCR (h:nilA a=true):a= .lf (.val (.slice none 0 0)):=by
 unfold nilA at h;split at h
 ·rfl
 ·cases h
def wk0 (a:AV):AV->AV
 | .any=> .any
 | .own r e ℓ C _=>match nilA a with
  | true=>match memN ℓ C with
   | false=> .own r e ℓ C []
   | true=>a
  | false=>match a with
   | .own r e ℓ D xs=>match subN D C&& !memN ℓ C with
    | true=> .own r e ℓ C xs
    | false=>a
   | _=>a
 | .sl r C _=>match nilA a with
  | true=> .sl r C []
  | false=>match a with
   | .own r e ℓ D xs=>match subN (ℓ::D) C with
    | true=> .sl r C xs
    | false=>a
   | .sl r D xs=>match subN D C with
    | true=> .sl r C xs
    | false=>a
   | _=>a
 | .rc _ C _=>match a with
  | .rc r D x=>match subN D C with
   | true=> .rc r C x
   | false=>a
  | _=>a
 | .qp r C _=>match a with
  | .lf (.val (.pointer none))=> .qp r C none
  | .qp r D o=>match subN D C with
   | true=> .qp r C o
   | false=>a
  | _=>a
 | .mp _ _ C _=>match a with
  | .mp rk rv D m=>match subN D C with
   | true=> .mp rk rv C m
   | false=>a
  | .om rk rv ℓ D m=>match subN (ℓ::D) C with
   | true=> .mp rk rv C m
   | false=>a
  | @AV.mo _ _ _ rk r _ ℓ D m=>match subN (ℓ::D) C with
   | true=> .mp rk (Rp.list r) C m
   | false=>a
  | _=>a
 | .om _ _ _ C _=>match a with
  | .om rk rv ℓ D m=>match subN D C&& !memN ℓ C with
   | true=> .om rk rv ℓ C m
   | false=>a
  | _=>a
 | @AV.mo _ _ _ _ _ _ _ C _=>match a with
  | @AV.mo _ _ _ rk r e ℓ D m=>match subN D C&& !memN ℓ C with
   | true=> .mo rk r e ℓ C m
   | false=>a
  | _=>a
 | _=>a
theorem andN (h:(a&& !b)=true):a=true/\b=false:=by simpa using h
theorem zMJ (a b:AV):AV.le a (wk0 a b):=by
 unfold wk0;split
 ·exact zPo _
 ·split
  ·rename_i h;rw [zCR h];split
   ·exact zyC _ _ _ _ ‹_›
   ·exact AV.le_refl _
  ·split
   ·split
    ·rename_i h;exact zPr _ _ _ _ _ _ (andN h).1 (andN h).2
    ·exact AV.le_refl _
   ·exact AV.le_refl _
 ·split
  ·rename_i h;rw [zCR h];exact ziZ _ _
  ·split
   ·split
    ·exact zPt _ _ _ _ _ _ ‹_›
    ·exact AV.le_refl _
   ·split
    ·exact zQD _ _ _ _ ‹_›
    ·exact AV.le_refl _
   ·exact AV.le_refl _
 ·split
  ·split
   ·exact zQC _ _ _ _ ‹_›
   ·exact AV.le_refl _
  ·exact AV.le_refl _
 ·split
  ·exact zJw _ _
  ·split
   ·exact zQB _ _ _ _ ‹_›
   ·exact AV.le_refl _
  ·exact AV.le_refl _
 ·split
  ·split
   ·exact zLo _ _ _ ‹_›
   ·exact AV.le_refl _
  ·split
   ·exact zPq _ _ _ _ ‹_›
   ·exact AV.le_refl _
  ·split
   ·exact zPp _ _ _ _ _ _ _ ‹_›
   ·exact AV.le_refl _
  ·exact AV.le_refl _
 ·split
  ·split
   ·rename_i h;exact zQA _ _ _ _ (andN h).1 (andN h).2
   ·exact AV.le_refl _
  ·exact AV.le_refl _
 ·split
  ·split
   ·rename_i h;exact zQz _ _ _ _ _ _ _ (andN h).1 (andN h).2
   ·exact AV.le_refl _
  ·exact AV.le_refl _
 ·exact AV.le_refl _
theorem zAe (hf:∀a b,AV.le a (f a b)):∀{l m:List AV},l.length=m.length->leL l (zipA f l m)
 | [],[],_=>trivial
 | [],_::_,h=>by simp at h
 | _::_,[],h=>by simp at h
 | x::l,y::m,h=>⟨hf x y,zAe hf (by simpa using h)⟩
def wk1 (a:AV):AV->AV
 | .ag m=>match a with
  | .ag l=>match Nat.beq l.length m.length with
   | true=> .ag (zipA wk0 l m)
   | false=>a
  | _=>a
 | b=>wk0 a b
theorem zMK (a b:AV):AV.le a (wk1 a b):=by
 unfold wk1;split
 ·split
  ·split
   ·exact zOM (zAe zMJ (xG ‹_›))
   ·exact AV.le_refl _
  ·exact AV.le_refl _
 ·exact zMJ _ _
def wkS (E:Env) (l:List (Nat×AV)):List (Nat×AV):=l.map fun p=>(p.1,match lookup E.sl p.1 with
 | some a=>wk1 a p.2
 | none=> .any)
def wkB (E:Env):List Bx->Option (List Bx)
 | []=>some []
 | b::l=>match zgW E.bx b.lab,wkB E l with
  | some c,some r=>match Nat.beq c.avs.length b.avs.length with
   | true=>some (⟨c.lab,c.typ,zipA wk1 c.avs b.avs⟩::r)
   | false=>none
  | _,_=>none
theorem zML (h:Bxs γ w E.bx):∀{l r:List Bx},wkB E l=some r->Bxs γ w r
 | [],r,e=>by cases e;exact fun b hb=>by cases hb
 | b::l,r,e=>by
  rw [wkB] at e;split at e
  ·rename_i c r' h1 h2;split at e
   ·rename_i hn;cases e;intro x hx;cases hx with
    | head=>
     obtain ⟨g,cs,hh,hr,h1c⟩:=h c (zdO h1).1;exact ⟨g,cs,hh,zsb (zAe zMK (xG hn)) hr,h1c⟩
    | tail _ hx=>exact zML h h2 x hx
   ·cases e
  ·cases e
def wkE (E E':Env):Option Env:=match wkB E E'.bx with
 | some l=>some ⟨wkS E E'.sl,l⟩
 | none=>none
theorem lw (h:wkE E E'=some E':=by kernel_rfl):zdM E E':=by
 intro cx a w hs;obtain ⟨γ,hB,hS,hX⟩:=hs;unfold wkE at h;split at h
 ·rename_i l hl;have e:(⟨wkS E E'.sl,l⟩:Env)=E':=qO h;rw [<-e];refine ⟨γ,hB,fun p hp=>?_,zML hX hl⟩;obtain ⟨q,_,rfl⟩:=xA.1 hp;simp only;split
  ·rename_i a0 ha;exact zMK _ _ _ _ _ (hS _ (zdC ha))
  ·exact trivial
 ·cases h
def zDQ (fn:Func):Code:=match fn.body with
 | some c=>c
 | none=> .ret
def zzu:List ResultVar->List AV->List (Nat×AV)
 | .tmp t::rs,a::l=>(t,a)::zzu rs l
 | _,_=>[]
def hasT (t:Nat):List ResultVar->Bool
 | .tmp u::rs=>Nat.beq t u|| hasT t rs
 | _=>false
def zuI:List ResultVar->List AV->Bool
 | [],[]=>true
 | .tmp t::rs,_::l=> !hasT t rs&&zuI rs l
 | _,_=>false
theorem zBE :∀{rs:List ResultVar} {l:List AV},zuI rs l=true->lookup (zzu rs l) u=some b->hasT u rs=true
 | [],[],_,h=>by cases h
 | [],_::_,n,_=>by cases n
 | .cell ..::_,_,n,_=>by simp [zuI] at n
 | .tmp t::rs,[],n,_=>by cases n
 | .tmp t::rs,a::l,n,h=>by
  simp only [zuI,xw,xZ] at n;rw [zzu,lookup] at h;rw [hasT];split at h
  ·rename_i e;have:=xG e;simp only at this;simp [this]
  ·rw [zBE n.2 h];simp
theorem zFr :∀{rs:List ResultVar} {l:List AV},zuI rs l=true->(∀t a,lookup (zzu rs l) t=some a->lookup E.sl t=some a)->zlY P E rs l
 | [],[],_,_=>trivial
 | [],_::_,n,_=>by cases n
 | .cell ..::_,_,n,_=>by simp [zuI] at n
 | .tmp t::rs,[],n,_=>by cases n
 | .tmp t::rs,a::l,n,h=>by
  simp only [zuI,xw,xZ] at n;refine ⟨h t a (by rw [zzu,lookup];simp),zFr n.2 fun u b hu=>h u b ?_⟩;rw [zzu,lookup];have kO:Nat.beq t u=false:=by
   cases e:Nat.beq t u with
   | false=>rfl
   | true=>rw [xG e,zBE n.2 hu] at n;simp at n
  simp only [kO];exact hu
section
variable {P:Program} {f:FuncId} {fn:Func} {ins ky:List AV}
def hdOk (N:Nat) (fn:Func) (ins ky:List AV):Bool:=fn.body.isSome&&Nat.beq fn.ntmps N&&Nat.ble ins.length N&&zuI fn.results.toList ky
theorem zJo (h:hdOk N fn ins ky=true):fn.body=some (zDQ fn)/\fn.ntmps=N/\Nat.ble ins.length N=true/\zuI fn.results.toList ky=true:=by
 simp only [hdOk,xw] at h;obtain ⟨⟨⟨h1,h2⟩,h3⟩,h4⟩:=h;refine ⟨?_,xG h2,h3,h4⟩;unfold zDQ;cases e:fn.body with
 | none=>rw [e] at h1;cases h1
 | some c=>rfl
theorem fi (N:Nat) (hf:P.funcs[f]? =some fn) (hj:∀X:Ext,JI true P (zju (zDQ fn) []) (Sx ⟨⟨N,[]⟩,X,false,#[]⟩ ⟨znS 0 ins,[]⟩) fun e a w=>e= .ret/\Sx ⟨⟨N,[]⟩,X,false,#[]⟩ ⟨zzu fn.results.toList ky,[]⟩ a w)
  (h:hdOk N fn ins ky=true:=by kernel_rfl):FnOk P f ins ky:=by
 obtain ⟨h1,h2,h3,h4⟩:=zJo h;exact zAV N hf h1 h2 h3 (zFr h4 fun _ _ e=>e) fun X=>zbE (hj X)
theorem fj (E:Env) (N:Nat) (hf:P.funcs[f]? =some fn) (hr:zlY P E fn.results.toList ky) (hj:∀X:Ext,JI true P (zju (zDQ fn) []) (Sx ⟨⟨N,[]⟩,X,false,#[]⟩ ⟨znS 0 ins,[]⟩) fun e a w=>e= .ret/\Sx ⟨⟨N,[]⟩,X,false,#[]⟩ E a w)
  (h:(fn.body.isSome&&Nat.beq fn.ntmps N&&Nat.ble ins.length N)=true:=by kernel_rfl):FnOk P f ins ky:=by
 simp only [xw] at h;refine zAV N hf ?_ (xG h.1.2) h.2 hr fun X=>zbE (hj X)
 have h1:=h.1.1;unfold zDQ;cases e:fn.body with
 | none=>rw [e] at h1;cases h1
 | some c=>rfl
end
theorem lzr :zdM E E:=fun _ _ _ h=>h
def addE (E:Env) (ks ls:List Nat) (nw:List (Nat×AV)) (nb:List Bx):Env:=⟨nw++(zrr ks ls E).sl,nb++(zrr ks ls E).bx⟩
inductive Ex
 | n (E:Env)
 | x (id:Nat) (E:Env)
 | r (E:Env)
 | N (ks ls:List Nat) (nw:List (Nat×AV)) (nb:List Bx)
 | X (id:Nat) (ks ls:List Nat) (nw:List (Nat×AV)) (nb:List Bx)
def Ex.R (cx:Cx) (E0:Env):Ex->Exit->Act->World->Prop
 | .n E,e,a,w=>e= .normal/\Sx cx E a w
 | .x id E,e,a,w=>e= .exit id/\Sx cx E a w
 | .r E,e,a,w=>e= .ret/\Sx cx E a w
 | .N ks ls nw nb,e,a,w=>e= .normal/\Sx cx (addE E0 ks ls nw nb) a w
 | .X id ks ls nw nb,e,a,w=>e= .exit id/\Sx cx (addE E0 ks ls nw nb) a w
section
variable {m:Bool} {P:Program} {Q:Exit->Act->World->Prop} {l:List It} {c:Code} {cx:Cx} {E:Env}
theorem jl {σ ρ:Type} {body:σ->Option (σ⊕ρ)} {s:σ} {r:ρ} (h:zW body s=some r) (ks ls:List Nat) (nw:σ->List (Nat×AV)) (nb:σ->List Bx) (R:ρ->Ex)
  (hb:∀s o,body s=some o->JI m P (zju c []) (Sx cx (addE E ks ls (nw s) (nb s))) (match o with
   | .inl s'=>fun e a w=>e= .normal/\Sx cx (addE E ks ls (nw s') (nb s')) a w
   | .inr r=>fun e a w=>e≠ .normal/\(R r).R cx E e a w)) (hS:zdM E (addE E ks ls (nw s) (nb s))) (k:∀e a w,(R r).R cx E e a w->zhA m P Q l e a w):JI m P (.c (.loop c)::l) (Sx cx E) Q:=
 zNp body (fun s=>addE E ks ls (nw s) (nb s)) (fun r=>(R r).R cx E) (fun s o e=>zbE (hb s o e)) h hS k
theorem jL {σ ρ:Type} {body:σ->Option (σ⊕ρ)} {s:σ} {r:ρ} (h:zW body s=some r) (ks ls:List Nat) (nw:σ->List (Nat×AV)) (R:ρ->Ex)
  (hb:∀s o,body s=some o->JI m P (zju c []) (Sx cx (addE E ks ls (nw s) [])) (match o with
   | .inl s'=>fun e a w=>e= .normal/\Sx cx (addE E ks ls (nw s') []) a w
   | .inr r=>fun e a w=>e≠ .normal/\(R r).R cx E e a w)) (hS:zdM E (addE E ks ls (nw s) [])) (k:∀e a w,(R r).R cx E e a w->zhA m P Q l e a w):JI m P (.c (.loop c)::l) (Sx cx E) Q:=jl h ks ls nw (fun _=>[]) R hb hS k
theorem jn (R:Ex) (h:JI m P (zju c []) (Sx cx E) (R.R cx E)) (k:∀e a w,R.R cx E e a w->zhA m P Q l e a w):JI m P (.c c::l) (Sx cx E) Q:=zIc (zbE h) k
theorem jz {id:Nat} {ops:List Oper} {E1:Env} (h:finC P cx.n ops.toArray ops [] E E1.keys E1.labs=some E1:=by kernel_rfl):JI m P (.c (.region id ops.toArray false):: .c .ret::l) (Sx cx E) fun e a w=>e= .ret/\Sx cx E1 a w:=zlK E1 (rgg h) (zx lzr)
theorem jz' {id:Nat} {ops:List Oper} {E1:Env} (h:finC P cx.n ops.toArray ops [] E E1.keys E1.labs=some E1:=by kernel_rfl):JI m P (.c (.region id ops.toArray false):: .c .ret::l) (Sx cx E) fun e a w=>e≠ .normal/\e= .ret/\Sx cx E1 a w:=zlK E1 (rgg h) (zrZ lzr)
theorem jy {id:Nat} {ops:List Oper} {E1:Env} (h:finC P cx.n ops.toArray ops [] E E1.keys E1.labs=some E1:=by kernel_rfl):JI m P [.c (.region id ops.toArray false)] (Sx cx E) fun e a w=>e= .normal/\Sx cx E1 a w:=zlK E1 (rgg h) (zV lzr)
end
def renE (E:Env):List (Nat×Nat)->Env
 | []=>E
 | p::l=>renE (E.ren p.1 p.2) l
def okRn:List (Nat×Nat)->Bool
 | []=>true
 | p::l=>(Nat.ble 2 p.1&&Nat.ble 2 p.2&& !spB p.1)&&okRn l
theorem zIH:∀(l:List (Nat×Nat)) {E E':Env},okRn l=true->zdM (renE E l) E'->zdM E E'
 | [],_,_,_,k=>k
 | p::l,_,_,h,k=>by
  simp only [okRn,xw] at h;exact zON p.1 p.2 (by simpa using h.1) (zIH l h.2 k)
theorem lks (ls:List Nat) (rn:List (Nat×Nat)) (k:zdM (renE (zrr E'.keys ls E) rn) E') (h:(zEW E'.keys ls E&&okRn rn)=true:=by kernel_rfl):zdM E E':=by
 rw [xw] at h;exact (zxk _ _ (ztu h.1)).trans (zIH rn h.2 k)
section
variable {P:Program} {L:List Oper} {ss:List zlu} {is:List DIn}
theorem lwn:∀(n:Nat) {L:List Oper},zbZ P (L.drop n) ss is->zbZ P L (List.replicate n .ev++ss) is
 | 0,_,h=>h
 | n+1,[],h=>by show zbZ P [] (.ev::_) is;cases is<;>trivial
 | n+1,o::L,h=>lw_e (lwn n h)
theorem dg (t:Nat) (hc:c=b) (k:zbZ P l ss is) (h:zvt P (Env.opd ⟨[(t,.lf (.bool c))],[]⟩) (ztP ⟨[(t,.lf (.bool c))],[]⟩ o.op) o.op=some (.lf (.bool c)):=by kernel_rfl):
  zbZ P (o::l) (.ex ((ztP ⟨[(t,.lf (.bool c))],[]⟩ o.op).map (·.lab)) [] [] (.lf (.bool b)) []::ss) (⟨zmo ⟨[(t,.lf (.bool c))],[]⟩ o.op.operands.toList,ztP ⟨[(t,.lf (.bool c))],[]⟩ o.op,[]⟩::is):=lx (zPu _ h hc) k
theorem di {o:Oper} {l:List Oper} {α:Type} {r:Rp α} {xs:List α} {i:Int} {x:α} {t e:TypeId} {y z:Operand} {bytes:Nat} (C:List Nat) (hT:ElT P t e r.size bytes) (hx:idx xs i=some x) (k:zbZ P l ss is) (ho:o.op= .indexAddr t y z:=by rfl):
  zbZ P (o::l) (.ex [] [] [] (.ep r C x 0) []::ss) (⟨[(y,.sl r C xs),(z,.lf (.int .i64 i))],[],[]⟩::is):=lx (zhI ho hT (zbd r xs C) hx) k
end
inductive LeL:List AV->List AV->Prop
 | n:LeL [] []
 | k {a:AV} {l m:List AV} (h:LeL l m):LeL (a::l) (a::m)
 | c {a b:AV} {l m:List AV} (h:a.le b) (t:LeL l m):LeL (a::l) (b::m)
 | l {a b:AV} (h:a.le b):LeL [a] [b]
def zipI:List (Operand×AV)->List AV->List (Operand×AV)
 | p::l,a::m=>(p.1,a)::zipI l m
 | _,_=>[]
theorem zLn (h:LeL ys xs):∀{ins:List (Operand×AV)},ins.map (·.2)=xs->leI (zipI ins ys) ins:=by
 induction h with
 | n=>intro ins e;cases ins<;>first| exact trivial| cases e
 | k _ ih=>intro ins e;cases ins with
  | nil=>cases e
  | cons p l=>cases e;exact ⟨⟨rfl,AV.le_refl _⟩,ih rfl⟩
 | c h _ ih=>intro ins e;cases ins with
  | nil=>cases e
  | cons p l=>cases e;exact ⟨⟨rfl,h⟩,ih rfl⟩
 | l h=>intro ins e;cases ins with
  | nil=>cases e
  | cons p l=>cases l<;>cases e;exact ⟨⟨rfl,h⟩,trivial⟩
theorem zB.lw (h:zB P o ins bxs W V av bs) (hl:LeL ys (ins.map (·.2))):zB P o (zipI ins ys) bxs W V av bs:=h.le (zLn hl rfl)
section
variable {P:Program} {o:Oper} {f:FuncId} {args:List Operand} {ts:Array TypeId} {ins ky:List AV}
def lcK (xs ky:List AV) (D:List Nat) (s:Nat):Bool:=(xs.all fun a=>subN (zvA a) D)&& !D.isEmpty&&ky.all (zwx [1] D s)
theorem lcl (xs:List AV) (D:List Nat) (s:Nat) (hc:∀as w,(callFunc f as).run P w= .ok (.enter f as) w) (ok:FnOk P f ins ky) (ho:o.op= .call ⟨.value (.func f),args.toArray,ts⟩:=by rfl)
  (hin:xs.map inAV=ins:=by kernel_rfl) (ku:xs.length=args.length:=by rfl) (h:lcK xs ky D s=true:=by kernel_rfl):zB P o (args.zip xs) [] [] (ky.flatMap (zhe s)) (zoJ (ky.map (zpO D s))) []:=by
 simp only [lcK,xw,xZ] at h;exact zIk xs D s ho hc ok hin ku h.1.1 h.1.2 h.2
theorem lc0 (s:Nat) (hc:∀as w,(callFunc f as).run P w= .ok (.enter f as) w) (ok:FnOk P f ins ky) (ho:o.op= .call ⟨.value (.func f),args.toArray,ts⟩:=by rfl)
  (hin:ins.map inAV=ins:=by kernel_rfl) (ku:ins.length=args.length:=by rfl) (h:lcK ins ky [0] s=true:=by kernel_rfl):zB P o (args.zip ins) [] [] (ky.flatMap (zhe s)) (zoJ (ky.map (zpO [0] s))) []:=lcl ins [0] s hc ok ho hin ku h
theorem lbx {α:Type} {r:Rp α} {x:α} {as:List AV} {y:Operand} {t:TypeId} (ℓ:Nat) (C:List Nat) (ha:zgv as=some (r.lv x)) (ho:o.op= .box t y:=by rfl) (hl:as.all (zsQ C)=true:=by rfl):zB P o [(y,.rc r C x)] [] [] [ℓ] (.ptr ℓ 0) [⟨ℓ,t,as⟩]:=
 zjy ℓ as C ho rfl (zss C) ha hl
theorem ldw (ℓ tb:Nat) (m:List AV) (hT:AggT P t n) (ho:o.op= .load t y:=by rfl) (hn:Nat.beq m.length n=true:=by kernel_rfl) (hm:m.take n=m:=by kernel_rfl):zB P o [(y,.ptr ℓ 0)] [⟨ℓ,tb,m⟩] [] [] (.ag m) []:=
 zIm (b:=⟨ℓ,tb,m⟩) m ho hT hm hn
def dedN:List Nat->List Nat
 | []=>[]
 | x::l=>x::(dedN l).filter fun y=> !Nat.beq y x
def colD (xs:List AV):List Nat:=match dedN (xs.flatMap zvA) with
 | []=>[1]
 | l=>l
theorem lcd (xs:List AV) (s:Nat) (hc:∀as w,(callFunc f as).run P w= .ok (.enter f as) w) (ok:FnOk P f ins ky) (ho:o.op= .call ⟨.value (.func f),args.toArray,ts⟩:=by rfl)
  (hin:xs.map inAV=ins:=by kernel_rfl) (ku:xs.length=args.length:=by rfl) (h:lcK xs ky (colD xs) s=true:=by kernel_rfl):zB P o (args.zip xs) [] [] (ky.flatMap (zhe s)) (zoJ (ky.map (zpO (colD xs) s))) []:=lcl xs (colD xs) s hc ok ho hin ku h
def rpZ (n:Nat):Rp Empty:=⟨n+1,true,nofun,nofun,Nat.succ_pos n⟩
def nil1 (a:AV):LV->AV
 | .sl _ (n+1) _=>match nilA a with
  | true=> .sl (rpZ n) [] []
  | false=>a
 | _=>a
theorem zNM (a:AV) (v:LV):AV.le a (nil1 a v)/\∀c∈AV.cols (nil1 a v),c∈AV.cols a:=by
 unfold nil1;split
 ·split
  ·rename_i h;rw [zCR h];exact ⟨ziZ _ _,fun c hc=>by simp [AV.cols] at hc⟩
  ·exact ⟨AV.le_refl _,fun c hc=>hc⟩
 ·exact ⟨AV.le_refl _,fun c hc=>hc⟩
def nilZ:List AV->List LV->List AV
 | a::l,v::lv=>nil1 a v::nilZ l lv
 | _,_=>[]
theorem zIs:∀{l:List AV} {lv:List LV},l.length=lv.length->leL l (nilZ l lv)/\∀c∈AV.colsL (nilZ l lv),c∈AV.colsL l
 | [],[],_=>⟨trivial,fun c h=>h⟩
 | [],_::_,h=>by simp at h
 | _::_,[],h=>by simp at h
 | a::l,v::lv,h=>by
  obtain ⟨h1,h2⟩:=zIs (l:=l) (lv:=lv) (by simpa using h);obtain ⟨h3,h4⟩:=zNM a v;refine ⟨⟨h3,h1⟩,fun c hc=>?_⟩;simp only [nilZ,AV.colsL,xF] at hc|-;exact hc.imp (h4 c) (h2 c)
theorem zPn {α:Type} {r:Rp α} {x:α} {l:List AV} {lv:List LV} (e:r.lv x=lv) (hn:Nat.beq l.length lv.length=true) (hl:zgv (nilZ l lv)=some lv):AV.le (.ag l) (.rc r (AV.colsL l) x):=by
 obtain ⟨h1,h2⟩:=zIs (xG hn);refine zQE (zOM h1) (zlC r _ x _ (by rw [e];exact hl) ?_);simp only [subN,xI];exact fun c hc=>zaf.2 (h2 c hc)
inductive LeZ:List AV->List AV->List AV->Prop
 | n:LeZ [] [] []
 | k {a:AV} {ys is xs:List AV} (h:LeZ ys is xs):LeZ (a::ys) (inAV a::is) (a::xs)
 | c {α:Type} {r:Rp α} {x:α} {l:List AV} {lv:List LV} {ys is xs:List AV} (e:r.lv x=lv) (h:LeZ ys is xs) (hn:Nat.beq l.length lv.length=true:=by kernel_rfl) (hl:zgv (nilZ l lv)=some lv:=by kernel_rfl):LeZ (.ag l::ys) (.rc r [0] x::is) (.rc r (AV.colsL l) x::xs)
theorem LeZ.ok {ys is xs:List AV} (h:LeZ ys is xs):xs.map inAV=is/\xs.length=ys.length/\∀{args:List Operand},leI (args.zip ys) (args.zip xs):=by
 induction h with
 | n=>exact ⟨rfl,rfl,by intro args;cases args<;>trivial⟩
 | k _ ih=>exact ⟨by simp [ih.1],by simp [ih.2.1],by intro args;cases args with
  | nil=>trivial
  | cons p q=>exact ⟨⟨rfl,AV.le_refl _⟩,ih.2.2⟩⟩
 | c e _ hn hl ih=>exact ⟨by simp [ih.1,inAV,zyv],by simp [ih.2.1],by intro args;cases args with
  | nil=>trivial
  | cons p q=>exact ⟨⟨rfl,zPn e hn hl⟩,ih.2.2⟩⟩
theorem lcz (ys:List AV) (s:Nat) (hc:∀as w,(callFunc f as).run P w= .ok (.enter f as) w) (ok:FnOk P f ins ky) (hz:LeZ ys ins xs) (ho:o.op= .call ⟨.value (.func f),args.toArray,ts⟩:=by rfl)
  (ku:ys.length=args.length:=by rfl) (h:lcK xs ky (colD xs) s=true:=by kernel_rfl):zB P o (args.zip ys) [] [] (ky.flatMap (zhe s)) (zoJ (ky.map (zpO (colD xs) s))) []:=
 (lcl xs (colD xs) s hc ok ho hz.ok.1 (hz.ok.2.1.trans ku) h).le hz.ok.2.2
theorem las {α:Type} {r:Rp α} {xs ys zs:List α} {t e:TypeId} {x y:Operand} {bytes:Nat} (ℓ:Nat) (C D C2:List Nat) (hT:ElT P t e r.size bytes) (hz:app bytes xs ys=some zs) (hC:r.Plain\/(subN C C2&&subN D C2)=true)
  (ho:o.op= .call ⟨.builtin .append,#[x,y],#[t,t]⟩:=by rfl) (hb:Nat.blt 0 bytes=true:=by rfl) (hℓ:memN ℓ C2=false:=by rfl):zB P o [(x,.own r e ℓ C xs),(y,.sl r D ys)] [] [ℓ] [ℓ] (.own r e ℓ C2 zs) []:=
 zCK ℓ C2 ho hT hb (zoy _ _ _ _ _) (zbd _ _ _) hz hC hℓ
theorem lao {α:Type} {r:Rp α} {xs ys zs:List α} {t e:TypeId} {x y:Operand} {bytes:Nat} (ℓ:Nat) (C:List Nat) (e' k:Nat) (D C2:List Nat) (hT:ElT P t e r.size bytes) (hz:app bytes xs ys=some zs) (hC:r.Plain\/(subN C C2&&subN (k::D) C2)=true)
  (ho:o.op= .call ⟨.builtin .append,#[x,y],#[t,t]⟩:=by rfl) (hb:Nat.blt 0 bytes=true:=by rfl) (hℓ:memN ℓ C2=false:=by rfl):zB P o [(x,.own r e ℓ C xs),(y,.own r e' k D ys)] [] [ℓ] [ℓ] (.own r e ℓ C2 zs) []:=
 zCK ℓ C2 ho hT hb (zoy _ _ _ _ _) (zbv _ _ _ _ _) hz hC hℓ
theorem lde {α:Type} {t:TypeId} {y:Operand} (r:Rp α) (D:List Nat) (x:α) (hT:AggT P t r.size) (ho:o.op= .load t y:=by rfl):zB P o [(y,.ep r D x 0)] [] [] [] (.rc r D x) []:=zGK ho hT
theorem ldl {α β:Type} {t:TypeId} {y:Operand} (r:Rp α) (D:List Nat) (x:α) (off:Nat) (r':Rp β) (xs:List β) (hs:(r.lv x)[off]? =some (.sl xs.length r'.size (xs.flatMap r'.lv)):=by rfl) (ho:o.op= .load t y:=by rfl) (hT:zdS P t=true:=by rfl):
  zB P o [(y,.ep r D x off)] [] [] [] (.sl r' D xs) []:=zPy r' xs ho hT hs
theorem lbs1 {α:Type} {r:Rp α} {t e:TypeId} {y:Operand} {bytes:Nat} {x0:α} (ℓ:Nat) (C:List Nat) (x:α) (hT:ZeT P t e r bytes x0) (ho:o.op= .buildSlice t 1 [(0,y)].toArray:=by rfl) (hn:(Nat.ble (1*r.size) 16777216&& !memN ℓ C)=true:=by rfl):
  zB P o [(y,.rc r C x)] [] [] [ℓ] (.own r e ℓ C [x]) []:=by
 simp only [xw,xZ] at hn;have h1:=r.len x;have h0:=r.len x0;refine zfe (k5:=[(0,y)]) [.rc r C x] ℓ C [x] ho hT (by rw [hn.1];rfl) (by simp [AV.colsL,AV.cols,zss]) hn.2 ?_;simp [zEc,zsh,zrm,zAS,List.replicate,h0,h1,zuP,Nat.ble_eq_true_of_le]
theorem lbd {k5:List (Nat×Operand)} (as:List AV) (hT:StA P t places zs) (ho:o.op= .build t k5.toArray:=by rfl) (hf:zEb (fun i=>places[i]?) zs k5 as=some as:=by rfl):
  zB P o ((k5.map (·.2)).zip as) [] [] [] (.ag as) []:=zBk as as ho hT hf
variable {N:Lim} {ops:Array Oper} {kl:List Oper} {E E':Env}
theorem rx {α:Type} {r:Rp α} {xs:List α} {i:Int} {x:α} {t e:TypeId} {y z:Operand} {bytes:Nat} (n:Nat) (C:List Nat) (hT:ElT P t e r.size bytes) (hx:idx xs i=some x) (ho:nthO kl n=some o) (hq:o.op= .indexAddr t y z)
  (k:zaM P N ops (kl.drop (n+1)) (zBO P N ops kl n [] o E [y,z] [] [] [] (.ep r C x 0) []) E')
  (h:zBN P N ops kl n [] o E [y,z] [] [] [] (.ep r C x 0) []=some ([.sl r C xs,.lf (.int .i64 i)],[]):=by kernel_rfl):zaM P N ops kl E E':=rc n ho (zhI hq hT (zbd r xs C) hx) k h
theorem rsI {α:Type} {p q:Option α} {v:α} {b:Bool} (n t:Nat) (h:(if b then p else q)=some v) (h1:b=true->p=some v->zaM P N ops (kl.drop n) ⟨zjd (some t) (.lf (.bool true)) (endE P N ops (kl.take n) [] E).sl,(endE P N ops (kl.take n) [] E).bx⟩ E')
  (h0:b=false->q=some v->zaM P N ops (kl.drop n) ⟨zjd (some t) (.lf (.bool false)) (endE P N ops (kl.take n) [] E).sl,(endE P N ops (kl.take n) [] E).bx⟩ E')
  (hk:splC P N ops (kl.take n) [] E t=some (.lf (.bool b)):=by kernel_rfl):zaM P N ops kl E E':=rsl n [] t b (fun e=>h1 e (iteT h e)) (fun e=>h0 e (iteF h e)) hk
end
theorem jg {m:Bool} {P:Program} {l:List It} {cx:Cx} {E:Env} {Q:Exit->Act->World->Prop} {id:Nat} {ops:List Oper} (ks ls:List Nat) (nw:List (Nat×AV)) (h:zaM P cx.n ops.toArray ops E ⟨nw++(zrr ks ls E).sl,(zrr ks ls E).bx⟩)
  (k:JI m P l (Sx cx ⟨nw++(zrr ks ls E).sl,(zrr ks ls E).bx⟩) Q):JI m P (.c (.region id ops.toArray false)::l) (Sx cx E) Q:=zlK _ h k
def frA (ℓ:Nat) (x:AV):AV:=match AV.free [ℓ] [] x with
 | true=>x
 | false=> .any
def isOm (ℓ:Nat):AV->Bool
 | .om _ _ k _ _=>Nat.beq k ℓ
 | _=>false
def zFJ (ℓ:Nat) (a' x:AV):AV:=match isOm ℓ x with
 | true=>a'
 | false=>frA ℓ x
def oms0 (ℓ:Nat) (x:AV):List AV:=match isOm ℓ x with
 | true=>[x]
 | false=>[]
def zBT (ℓ:Nat) (a':AV):AV->AV
 | .ag l=> .ag (l.map (zFJ ℓ a'))
 | x=>zFJ ℓ a' x
def oms1 (ℓ:Nat):AV->List AV
 | .ag l=>l.flatMap (oms0 ℓ)
 | x=>oms0 ℓ x
section
variable {ℓ:Nat} {a a':AV}
theorem zFK (h:∀y∈oms0 ℓ x,y=a):zsM [ℓ] [] [(a,a')] x (zFJ ℓ a' x):=by
 unfold zFJ;unfold oms0 at h;split
 ·rename_i e;rw [e] at h;rw [h x (by simp)];exact zeF 0 rfl
 ·unfold frA;split
  ·exact zq ‹_›
  ·exact zQe
theorem zBS:∀{l:List AV},(∀y∈l.flatMap (oms0 ℓ),y=a)->zpa [ℓ] [] [(a,a')] l (l.map (zFJ ℓ a'))
 | [],_=>trivial
 | x::l,h=>⟨zFK fun y hy=>h y (by rw [xE];exact xF.2 (.inl hy)),zBS fun y hy=>h y (by rw [xE];exact xF.2 (.inr hy))⟩
theorem zFL (h:∀y∈oms1 ℓ x,y=a):zsM [ℓ] [] [(a,a')] x (zBT ℓ a' x):=by
 cases x<;>first| exact ziB (zBS h)| exact zFK h
theorem zBU:∀{l:List AV},(∀y∈l.flatMap (oms1 ℓ),y=a)->zpa [ℓ] [] [(a,a')] l (l.map (zBT ℓ a'))
 | [],_=>trivial
 | x::l,h=>⟨zFL fun y hy=>h y (by rw [xE];exact xF.2 (.inl hy)),zBU fun y hy=>h y (by rw [xE];exact xF.2 (.inr hy))⟩
def zIU (ℓ:Nat) (a':AV) (E:Env):Env:=⟨E.sl.map fun p=>(p.1,zBT ℓ a' p.2),(E.bx.filter fun b=> !Nat.beq b.lab ℓ).map fun b=>⟨b.lab,b.typ,b.avs.map (zBT ℓ a')⟩⟩
def omsE (ℓ:Nat) (E:Env):List AV:=(E.sl.flatMap fun p=>oms1 ℓ p.2)++E.bx.flatMap fun b=>b.avs.flatMap (oms1 ℓ)
theorem zMD (t:Tr [ℓ] [] γ w γ' w') (hT:∀p∈[(a,a')],znF γ w γ' w' p) (h:omsE ℓ E=List.replicate (omsE ℓ E).length a) (hs:Sl γ w c E.sl) (hx:Bxs γ w E.bx):
  Sl γ' w' c (zIU ℓ a' E).sl/\Bxs γ' w' (zIU ℓ a' E).bx:=by
 have hm:∀y∈omsE ℓ E,y=a:=fun y hy=>by rw [h] at hy;exact List.eq_of_mem_replicate hy
 refine ⟨fun p hp=>?_,fun b hb=>?_⟩
 ·obtain ⟨q,hq,rfl⟩:=xA.1 hp;exact zFL (fun y hy=>hm y (xF.2 (.inl (qh.2 ⟨q,hq,hy⟩)))) _ _ _ _ t hT _ (hs q hq)
 ·have hB:BxT [ℓ] [] [(a,a')] E.bx ((E.bx.filter fun b=> !Nat.beq b.lab ℓ).map fun b=>⟨b.lab,b.typ,b.avs.map (zBT ℓ a')⟩)->b.rel γ' w':=fun H=>BxT.rel t hT hx H b hb
  obtain ⟨q,hq,rfl⟩:=xA.1 hb;obtain ⟨hq1,hq2⟩:=xW.1 hq;have h1:BxT [ℓ] [] [(a,a')] [q] [⟨q.lab,q.typ,q.avs.map (zBT ℓ a')⟩]:=by
   refine ⟨⟨q,by simp [zgW],rfl,?_,zBU fun y hy=>hm y (xF.2 (.inr (qh.2 ⟨q,hq1,hy⟩)))⟩,trivial⟩;have kO:Nat.beq q.lab ℓ=false:=by simpa using hq2
   simp [memN,kO]
  exact BxT.rel t hT (fun x hx'=>by cases hx' with
   | head=>exact hx q hq1
   | tail _ h=>cases h) h1 _ xt
end
def zOO (kl:List Oper) (n:Nat):Option (TypeId×Operand×Operand×Operand):=match nthO kl n with
 | some o=>match o.op with
  | .mapUpdate t y z u=>some (t,y,z,u)
  | .insert t y z u=>some (t,y,z,u)
  | _=>none
 | none=>none
def msK (P:Program) (N:Lim) (ops:Array Oper) (kl:List Oper) (n:Nat) (ls:List Nat) (E:Env) (ℓ:Nat):Bool:=endB P N ops (kl.take n) ls E&&Nat.ble 2 ℓ&&match nthO kl n with
 | some o=>o.dst.isNone&&match zgy ops (endE P N ops (kl.take n) ls E) o with
  | some true=>true
  | _=>false
 | none=>false
section
variable {P:Program} {N:Lim} {ops:Array Oper} {kl:List Oper} {E E':Env} {κ ν:Type} [DecidableEq κ] {rk:Rp κ} {rv:Rp ν} {m:List (κ×ν)} {t kt et:TypeId} {x0:ν} {y z u:Operand} {ak av:AV} {C1 D:List Nat}
theorem rts (ho:nthO kl n=some o) (hs:zni P o ins [ℓ] [] .any [(a,a')]) (k:zaM P N ops (kl.drop (n+1)) (zIU ℓ a' (endE P N ops (kl.take n) ls E)) E')
  (h1:msK P N ops kl n ls E ℓ=true) (h2:zlo (endE P N ops (kl.take n) ls E) (ins.map (·.1))=some (ins.map (·.2))) (h3:omsE ℓ (endE P N ops (kl.take n) ls E)=List.replicate (omsE ℓ (endE P N ops (kl.take n) ls E)).length a):zaM P N ops kl E E':=by
 unfold msK at h1;rw [ho] at h1;simp only [xw] at h1;obtain ⟨⟨c1,c2⟩,c3,c4⟩:=h1;refine zlR n (zyb c1) ?_;rw [zoE ho];split at c4
 ·rename_i hg;intro cx c w Q hn hx hQ;obtain ⟨γ,hb,hsl,hbx⟩:=hx;refine zjx (zgX hg hsl) (hs γ c w ((zpz h2).rel hsl) _ Q fun γ' w' v ht hv hT=>?_);have hd:o.dst=none:=by simpa using c3
  obtain ⟨g1,g2⟩:=zMD (c:=c) ht hT h3 hsl hbx;rw [hd];exact k cx _ _ Q hn ⟨γ',hb.tr ht (by simp only [okW,c2];rfl) rfl,g1,g2⟩ hQ
 ·cases c4
theorem rms (n:Nat) (ls:List Nat) (ℓ:Nat) (C:List Nat) (m:List (κ×ν)) (k:κ) (x:ν) (C2:List Nat) (hT:MapT P t kt et rk rv x0) (hka:asV rk k C1 ak) (hva:asV rv x D av)
  (kk:zaM P N ops (kl.drop (n+1)) (zIU ℓ (.om rk rv ℓ C2 (mput m k x)) (endE P N ops (kl.take n) ls E)) E') (ho:zOO kl n=some (t,y,z,u):=by rfl)
  (h1:(msK P N ops kl n ls E ℓ&&(subN C C2&&subN C1 C2&&subN D C2&& !memN ℓ C2))=true:=by kernel_rfl) (h2:zlo (endE P N ops (kl.take n) ls E) [y,z,u]=some [.om rk rv ℓ C m,ak,av]:=by kernel_rfl)
  (h3:omsE ℓ (endE P N ops (kl.take n) ls E)=List.replicate (omsE ℓ (endE P N ops (kl.take n) ls E)).length (.om rk rv ℓ C m):=by kernel_rfl):zaM P N ops kl E E':=by
 rw [xw] at h1;unfold zOO at ho;split at ho
 ·rename_i o hn;refine rts hn (ins:=[(y,.om rk rv ℓ C m),(z,ak),(u,av)]) (zOf k x C2 hT ?_ hka hva h1.2) kk h1.1 h2 h3;split at ho
  ·rename_i hop;cases ho;exact .inl hop
  ·rename_i hop;cases ho;exact .inr hop
  ·cases ho
 ·cases ho
end
set_option linter.unusedSectionVars false
def zgA (P:Program) (f:FuncId) (ins ky ts:List AV):Prop:=
 ∀(w:World) (γ0:Gh) (vs:List Value),AV.relL γ0 w ins vs->Calls P f vs.toArray w fun e w'=>∃γ us,e= .returned (ziM us)/\(fnXP w γ0).X γ w'/\AV.relL γ w' ky us/\AV.relL γ w' ts vs
theorem zgA.le {P:Program} {f:FuncId} {ins ins' ky ts:List AV} (h:zgA P f ins ky ts) (hl:leL ins' ins):zgA P f ins' ky ts:=fun w γ0 vs hr=>h w γ0 vs (zsb hl hr)
theorem zlJ {P:Program} {f:FuncId} {fn:Func} {c:Code} {ins ky ts:List AV} {E:Env} (N:Nat) (ks:List Nat) (hf:P.funcs[f]? =some fn) (hb:fn.body=some c) (hN:fn.ntmps=N) (ku:Nat.ble ins.length N=true) (hres:zlY P E fn.results.toList ky)
  (hts:TsOk E ks 0 ts) (hl2:ts.length=ins.length)
  (hj:∀(X:Ext) (old:Array Value),J true P c (Sx ⟨⟨N,ks⟩,X,false,old⟩ ⟨znS 0 ins,[]⟩) fun e a w=>(e= .ret\/e= .normal)/\Sx ⟨⟨N,ks⟩,X,false,old⟩ E a w):zgA P f ins ky ts:=by
 subst hN;intro w γ0 vs hr;have hl:=zbx hr;have ku:=xP ku;obtain ⟨tm,htm⟩:∃tm:Array Value,tm=vs.toArray++Array.replicate (fn.ntmps - vs.toArray.size) undef:=⟨_,rfl⟩;obtain ⟨γ1,hγ1⟩:∃γ1:Gh,γ1=⟨fun b=>if b<w.heap.size then γ0.col b else 2,γ0.box⟩:=⟨_,rfl⟩;have kR:∀b,b<w.heap.size->γ1.col b=γ0.col b:=fun b hb=>by rw [hγ1];simp only [xr hb]
 have hbox:∀ℓ,γ1.box ℓ=γ0.box ℓ:=fun ℓ=>by rw [hγ1]
 have hX0:(fnXP w γ0).X γ1 w:=⟨⟨⟨rfl,rfl,rfl,xx _⟩,fun b hb h0=>⟨kR b hb,rfl⟩,fun b hb h0=>by rw [kR b hb];omega,fun b k1 k2=>by omega⟩,fun b hb _=>kR b hb⟩;have hr':AV.relL γ1 w ins vs:=AV.reghL (γ:=γ0) ins (fun b hb _=>kR b hb) (fun ℓ _=>hbox ℓ) hr;have hwp:=hj (fnXP w γ0) tm {tmps:=tm,defers:=[]} w ⟨γ1,⟨⟨[],rfl,qr,fun D hD=>by cases hD⟩,fun _=>rfl,?_,fun k hk=>rfl,hX0⟩,?_,fun b hb=>by cases hb⟩
 ·subst htm;refine pm hf hb (wp_mono (zFZ hwp) ?_);rintro e a w' ⟨he,γ,hB,hS,hX⟩;obtain ⟨us,hu,hu'⟩:=zjg (P:=P) (fn:=fn) hS hX hres;have hts':AV.relL γ w' ts vs:=hts.rel hS (hB.kept) ts vs 0 (by rw [hl2,<-hl]) fun i v hv=>by
   rw [xK,yF,pF (by simpa using (yA.1 hv).1)];simp [hv]
  have key:∃γ us',ziM us=ziM us'/\(fnXP w γ0).X γ w'/\AV.relL γ w' ky us'/\AV.relL γ w' ts vs:=⟨γ,us,rfl,hB.ext,hu',hts'⟩;obtain ⟨γ2,us2,k1,k2,k3,k4⟩:=key;rcases he with rfl| rfl
  ·exact ⟨hB.clean rfl,ziM us,hu,γ2,us2,by rw [k1],k2,k3,k4⟩
  ·exact ⟨hB.clean rfl,ziM us,hu,γ2,us2,by rw [k1],k2,k3,k4⟩
 ·grind
 ·intro p hp;have:=zpm hr' [] (List.replicate (fn.ntmps - vs.length) undef) p hp;simp only [xH] at this;have e:(vs++List.replicate (fn.ntmps - vs.length) undef).toArray=tm:=by rw [htm];simp
  grind
def tpT1 (D:List Nat) (p:List (Nat×Nat)) (s:Nat):AV×AV->List (AV×AV)
 | (.om rk rv ℓ C m,.om rk' rv' _ C' m')=>[(.om rk rv ℓ C m,.om rk' rv' ℓ (zjB D p s C') m')]
 | _=>[]
def tPT (D:List Nat) (p:List (Nat×Nat)) (s:Nat) (xs ts:List AV):List (AV×AV):=((zgi xs).zip (zqL xs ts)).flatMap (tpT1 D p s)
def tOkT (D:List Nat) (p:List (Nat×Nat)) (s:Nat) (V:List Nat):AV×AV->Bool
 | (.om _ _ ℓ _ _,.om _ _ k C' _)=>(match zer p ℓ with
  | some k'=>Nat.beq k k'
  | none=>false)&& !memN 1 C'&& !memN ℓ (zjB D p s C')&& !memN ℓ V
 | _=>true
theorem zKB {P:Program} {o:Oper} {f:FuncId} {args:List Operand} {ts:Array TypeId} {ins ky tns:List AV} (xs:List AV) (p:List (Nat×Nat)) (D:List Nat) (s:Nat) (V:List Nat)
  (ho:o.op= .call ⟨.value (.func f),args.toArray,ts⟩) (hc:∀as w,(callFunc f as).run P w= .ok (.enter f as) w) (ok:zgA P f ins ky tns) (hin:xs.map (inP p)=ins) (ku:xs.length=args.length)
  (hp:pOk p D=true) (hxD:((zgi xs).all fun a=>subN (zgj p a) D)=true) (hout:(ky.all (okP D p s V []))=true) (hT:(((zgi xs).zip (zqL xs tns)).all (tOkT D p s V))=true):
  ∀(γ:Gh) (a:Act) (w:World),(∀q∈args.zip xs,q.2.rel γ w (a.eval q.1))->∀(next:Act->World->Prop) (Q:Exit->Act->World->Prop),
   (∀γ' w' v,Tr (p.map (·.1)) V γ w γ' w'->(zoJ (ky.map (outP D p s))).rel γ' w' v->(∀q∈tPT D p s xs tns,znF γ w γ' w' q)->next (a.put o.dst v) w')->Oper.wp P o a w next Q:=by
 intro γ a w hi next Q hk;have hvs:=zlP ku hi;simp only [pOk,xw,xI] at hp;obtain ⟨hp1,hd⟩:=hp;have hpb:∀q∈p,zhm p q.2=some q.1:=fun q hq=>by
  have:=(hp1 q hq).2;cases hf:zhm p q.2 with
  | none=>rw [hf] at this;cases this
  | some c=>rw [hf] at this;rw [xG this]
 have hsp:∀q∈p,spB q.2=true:=fun q hq=>(hp1 q hq).1.2
 have h2:∀q∈p,2<=q.2:=fun q hq=>by have:=(zIK.1 (hsp q hq)).1;omega
 have h21:∀q∈p,2<=q.1:=fun q hq=>xP (hp1 q hq).1.1
 simp only [xI] at hxD hout hT;have hin':AV.relL (ghW γ D p fun _=>True) w ins (args.map a.eval):=by
  rw [<-hin];exact zHX hd hpb h2 hvs fun x hx c hc=>zad (hxD x hx) c hc
 have kF:(execOp a.eval o).run P w= .ok (.enter f (args.map a.eval).toArray) w:=by
  simp [execOp,ho,resolve,Act.eval,Deferred.ofValue,invoke,hc]
 unfold Oper.wp;rw [kF,qG];refine (ok w _ _ hin').mono fun e w' hR=>?_
 obtain ⟨γc,us,rfl,⟨⟨⟨x1,x2,x3,x4⟩,x5,x6,x7⟩,x8⟩,hr,ht⟩:=hR;have hp2:(p.all fun q=>Nat.ble 2 q.2)=true:=xI.2 fun q hq=>by have:=h2 q hq;simpa using this
 have hold:zxE γ γc w.heap.size D p [] w':=by
  refine ⟨fun b hb=>?_,x7,fun k hk=>by cases hk⟩;rcases yB ((ghW γ D p fun _=>True).col b) 2 with h| h
  ·obtain ⟨e1,_⟩:=x5 b hb h;rcases yB ((ghW γ D p fun _=>True).col b) 1 with h0| h0
   ·exact .inl ⟨by omega,zys (p:=p) (S:=fun _=>True) hp2 (by omega)⟩
   grind
  ·obtain ⟨_,k,hk⟩:=zug h;have e1:=zHW (γ:=γ) (D:=D) (S:=fun _=>True) (b:=b) trivial hk;have e2:=x8 b hb (by rw [e1];exact hsp _ (zdm hk));rw [e1] at e2;refine .inr (.inr ⟨by rw [e2];exact h2 _ (zdm hk),?_⟩);rw [e2];exact hpb _ (zdm hk)
 have hA:=zym hvs;have hTt:=zvx hvs ht;refine hk (ghP γ γc w.heap.size D p s V) w' _ ⟨x1,x2,x3,x4,fun b hb hn=>?_,fun b hb=>?_,fun ℓ hℓ=>?_,fun b h1 h2' h0=>?_⟩ (zsm (zrx hr fun x hx v hv=>zLL hold (hout x hx) hv)) ?_
 ·rcases yB ((ghW γ D p fun _=>True).col b) 2 with h| h
  ·grind
  ·obtain ⟨_,k,hk⟩:=zug h;exact absurd (xA.2 ⟨_,zdm hk,rfl⟩) hn
 ·show (if b<w.heap.size then γ.col b else _)=_;rw [xr hb]
 ·unfold ghP;simp only;cases hm:memN ℓ V with
  | true=>exact absurd (zaf.1 hm) hℓ
  | false=>rfl
 ·exfalso;have kO:=x7 b h1 h2';have h0':(if b<w.heap.size then γ.col b else if γc.col b=0 then D.headD 1 else if γc.col b=1 then 1 else mapP p s (γc.col b))=0:=h0;rw [xq (qw.2 h1),xq kO] at h0';split at h0'
  ·omega
  ·unfold mapP at h0';cases hpk:zhm p (γc.col b) with
   | some ℓ=>
    rw [hpk] at h0';simp only at h0';have:=h21 _ (zBx hpk)
    grind
   | none=>rw [hpk] at h0';simp only at h0';omega
 ·intro q hq;obtain ⟨⟨x,t⟩,hm,hq⟩:=qh.1 hq;obtain ⟨u,hu,g1,g2⟩:=zzt hA hTt (x,t) hm;have htk:=hT _ hm;simp only at g1 g2 hu;cases x with
  | om rk rv ℓ C m=>
   cases t with
   | om rk' rv' k C' m'=>
    simp only [tpT1,xY] at hq;subst hq;simp only [tOkT,xw,xZ] at htk;obtain ⟨⟨⟨t1,t2⟩,t3⟩,t4⟩:=htk;cases hf:zer p ℓ with
    | none=>rw [hf] at t1;cases t1
    | some k'=>
     rw [hf] at t1;have:=xG t1;subst this;have hbk:zhm p k=some ℓ:=hpb _ (zdm hf);obtain ⟨b,es,cl,hv,⟨c1,c2⟩,hb,_⟩:=g1;obtain ⟨b',es',cl',hv',⟨d1,d2⟩,hb',hh',hE',_⟩:=g2;have e:b'=b:=by rw [hv] at hv';cases hv';rfl
     subst e;intro v hv2;obtain ⟨b2,_,_,hw2,⟨_,f2⟩,_⟩:=hv2;have e:b2=b':=by rw [<-f2,c2]
     subst e;have hbx:(ghP γ γc w.heap.size D p s V).box ℓ=γ.box ℓ:=by
      unfold ghP;simp only [t4]
     refine ⟨b2,es',cl',hw2,⟨?_,by rw [hbx];exact c2⟩,hb',hh',hE'.mono (fun b hb h=>zOB hold t2 hb h),fun h=>by rw [zaf.2 h] at t3;cases t3⟩;show (if b2<w.heap.size then γ.col b2 else _)=ℓ;rw [xr hb];exact c1
   | _=>simp [tpT1] at hq
  | _=>simp [tpT1] at hq
theorem zrC {P:Program} {o:Oper} {f:FuncId} {args:List Operand} {ts:Array TypeId} {ins ky tns:List AV} (xs:List AV) (p:List (Nat×Nat)) (D:List Nat) (s:Nat) (V:List Nat)
  (ho:o.op= .call ⟨.value (.func f),args.toArray,ts⟩) (hc:∀as w,(callFunc f as).run P w= .ok (.enter f as) w) (ok:zgA P f ins ky tns) (hin:xs.map (inP p)=ins) (ku:xs.length=args.length)
  (hp:pOk p D=true) (hxD:((zgi xs).all fun a=>subN (zgj p a) D)=true) (hout:(ky.all (okP D p s V []))=true) (hT:(((zgi xs).zip (zqL xs tns)).all (tOkT D p s V))=true):
  zni P o (args.zip xs) (p.map (·.1)) V (zoJ (ky.map (outP D p s))) (tPT D p s xs tns):=fun γ a w hi next Q hk=>
 zrg (fun c=>by rw [ho];simp) (zKB xs p D s V ho hc ok hin ku hp hxD hout hT γ a w hi next Q hk)
theorem zup {P:Program} {o:Oper} {f:FuncId} {args:List Operand} {ts:Array TypeId} {ins ky tns:List AV} (xs:List AV) (p:List (Nat×Nat)) (D:List Nat) (s:Nat) (V:List Nat)
  (ho:o.op= .call ⟨.value (.func f),args.toArray,ts⟩) (hc:∀as w,(callFunc f as).run P w= .ok (.enter f as) w) (ok:zgA P f ins ky tns) (hin:xs.map (inP p)=ins) (ku:xs.length=args.length)
  (hp:pOk p D=true) (hxD:((zgi xs).all fun a=>subN (zgj p a) D)=true) (hout:(ky.all (okP D p s V []))=true) (hT:(((zgi xs).zip (zqL xs tns)).all (tOkT D p s V))=true):
  zB P o (args.zip xs) [] (p.map (·.1)) V (zoJ (ky.map (outP D p s))) []:=fun γ a w hi _ next Q hk=>
 zKB xs p D s V ho hc ok hin ku hp hxD hout hT γ a w hi next Q fun γ' w' v ht hv _=>hk γ' w' v ht hv (fun b hb=>by cases hb)
def mxC {α:Type} (r:Rp α) (e:TypeId) (xs:List α):Cu where
 R C1 _ ℓ γ w v:=∃o,RowX γ w r e ℓ C1 o xs v
 one:=fun ⟨_,h⟩=>h.one
 move:=fun {C1 C2 C1' C2' ℓ ℓ' γ γ' w w' v} kG hblk h1 h2 _ _ ⟨o,h⟩=>by
  have hk:zxF (fun b=>γ.F C1 b/\b<w.heap.size) w w':=⟨kG,fun b hb hF=>hblk b hb (xu _ (yq _ hF.1))⟩;refine ⟨o,?_⟩;rcases h with ⟨ho,cs,hw,hg,hA⟩| ⟨ho,hv,hL⟩
  ·refine .inl ⟨ho,cs,zjC hw fun g kH=>hblk g (hw.lt g kH).2 (by rw [hg g kH];exact xt),fun g kH=>h1 g (hw.lt g kH).2 (hg g kH),?_⟩;exact ((hA.mono (G:=fun b=>γ.F C1 b/\b<w.heap.size) fun b hb hF=>⟨hF,hb⟩).keep hk).mono fun b _ hF=>h2 b hF.2 hF.1
  ·exact .inr ⟨ho,hv,((hL.mono (G:=fun b=>γ.F C1 b/\b<w.heap.size) fun b hb hF=>⟨hF,hb⟩).keep hk).mono fun b _ hF=>h2 b hF.2 hF.1⟩
theorem RowX.form {α:Type} {γ:Gh} {w:World} {r:Rp α} {e:TypeId} {ℓ:Nat} {C:List Nat} {o:Prop} {xs:List α} {v:Value} (h:RowX γ w r e ℓ C o xs v):∃A c,v= .slice A xs.length c:=by
 rcases h with ⟨_,cs,hw,_⟩| ⟨_,⟨A,hv⟩,_⟩
 ·rcases hw.2 with ⟨h1,h2⟩| ⟨g,kC,kM,h1,_⟩
  ·exact ⟨none,0,by rw [h1,h2]⟩
  ·exact ⟨_,_,h1⟩
 ·exact ⟨A,_,hv⟩
theorem zND {P:Program} {o:Oper} {α:Type} {r:Rp α} {e et t:TypeId} {xs:List α} {ℓ:Nat} {C:List Nat} {x:Operand} (ho:o.op= .call ⟨.builtin .len,#[x],#[t]⟩) (hu:P.underlying t=some (.slice et)):
  zB P o [(x,.cu (mxC r e xs) ℓ C [])] [] [] [] (.lf (.int .i64 xs.length)) []:=by
 refine zF fun γ ev w hi _=>?_
 obtain ⟨o1,h⟩:=hi (x,.cu (mxC r e xs) ℓ C []) (by simp);obtain ⟨A,c,hv⟩:=h.form;simp only at hv;refine ⟨_,w,γ,zaG (v:= .int .i64 xs.length) (args:=[x]) (ts:=[t]) ho rfl rfl rfl fun consts=>?_,Tr.refl _ _ _ _,zjA _ _ _ _,fun b hb=>by cases hb⟩;simp [builtin,hv,Builtin.len_,run_underlying hu,goInt]
theorem zNz {P:Program} {o:Oper} {α:Type} {r:Rp α} {xs ys zs:List α} {C D:List Nat} {b:AV} {t e:TypeId} {x y:Operand} {bytes ℓ:Nat} (C2:List Nat)
  (ho:o.op= .call ⟨.builtin .append,#[x,y],#[t,t]⟩) (hT:ElT P t e r.size bytes) (hb:Nat.blt 0 bytes=true) (hy:isSl r ys D b) (hz:app bytes xs ys=some zs)
  (hC:r.Plain\/subN D C2=true) (hC2:(subN C C2&& !memN ℓ C2)=true):zB P o [(x,.cu (mxC r e xs) ℓ C []),(y,b)] [] [ℓ] [] (.cu (mxC r e zs) ℓ C2 []) []:=by
 refine zF fun γ ev w hi _=>?_
 simp only [xw,xZ] at hC2;obtain ⟨o1,hrow⟩:=hi (x,.cu (mxC r e xs) ℓ C []) (by simp);have h2:=hy γ w _ (hi (y,b) (by simp));simp only at h2 hrow;have hnC2:ℓ∉C2:=fun h=>by rw [zaf.2 h] at hC2;cases hC2.2
 have hn2:∀c∈C2,c∉[ℓ]:=fun c hc h=>by
  simp only [xy,xL,xM] at h;subst h;exact hnC2 hc
 have hCC:∀c∈C,c∈C2:=zad hC2.1;obtain ⟨v,hve⟩:∃v,v=ev x:=⟨_,rfl⟩;rw [<-hve] at hrow;obtain ⟨A,c,cs',hvy,hcc,hmm,hA',hcs',hcell⟩:=znB h2;obtain ⟨hlim,rfl⟩:=zxM hz
 obtain ⟨v',w',hrn,⟨gg,hgr,hgg⟩,hout⟩:=zMd hT (qL (xP hb)) o.type hrow A ys.length c cs' hcs'
  (fun hm=>by obtain ⟨b,off,e,_,_,hc⟩:=hcell hm;exact ⟨b,off,e,hc⟩) hA'.one hlim
 have hgc:∀b,gg=some b->γ.col b=ℓ:=fun b hb=>by
  obtain ⟨h1,h2⟩:=hgg b hb;rcases hrow with ⟨_,cs,_,hg,_⟩| ⟨hno,_⟩
  ·exact hg b h2
  ·exact absurd h1 hno
 let γ':Gh:=⟨fun b=>if b<w.heap.size then γ.col b else ℓ,γ.box⟩
 have kR:∀b,b<w.heap.size->γ'.col b=γ.col b:=fun b hb=>by show (if b<w.heap.size then γ.col b else ℓ)=_;rw [xr hb]
 have hcolN:∀b,¬b<w.heap.size->γ'.col b=ℓ:=fun b hb=>by show (if b<w.heap.size then γ.col b else ℓ)=_;rw [xq hb]
 have ht:Tr [ℓ] [] γ w γ' w':=⟨hgr.os,hgr.tape,hgr.output,hgr.size,fun b hb hnb=>hgr.block b hb fun e=>hnb (by rw [hgc b e.symm];exact xt),kR,fun _ _=>rfl,fun b hb _ h0=> .inl (by rw [hcolN b (qw.2 hb)] at h0;rw [h0];exact xt)⟩;refine ⟨v',w',γ',?_,ht,?_,fun b hb=>by cases hb⟩
 ·refine zaG (args:=[x,y]) (ts:=[t,t]) ho rfl rfl rfl fun consts=>?_
  simp [builtin,<-hve,hvy,hrn]
 rcases hout with ⟨cs,ho',hA,hat⟩| ⟨hno,h0,hv',hw'⟩
 ·refine ⟨True,.inl ⟨trivial,cs++cs',by rw [xz];exact ho',fun g kH=>?_,?_⟩⟩
  ·rcases hat g kH with h| ⟨h1,h2⟩
   ·exact hcolN g (qw.2 h)
   ·rcases hrow with ⟨_,cs1,hw1,hg,_⟩| ⟨hno,_⟩
    ·rw [kR g (hw1.lt g h2).2];exact hg g h2
    ·exact absurd h1 hno
  ·rw [ym];have k1:=ht.all (C:=C2) hn2 (hA.mono fun b _ hb=>hCC _ hb);rcases hC with hp| hC
   ·exact k1.append (hA'.plain (hp.flat ys))
   ·exact k1.append (ht.all (C:=C2) hn2 (hA'.mono fun b _ hb=>zad hC _ hb))
 ·have hy0:ys=[]:=yE h0;rw [hy0,xQ,hv'];rcases hrow with ⟨h,_⟩| ⟨h1,h2,h3⟩
  ·exact absurd h hno
  ·exact ⟨o1,.inr ⟨h1,h2,ht.lv hn2 (h3.mono fun b _ hb=>hCC _ hb)⟩⟩
theorem zat.full {F:Fp} {w:World} {n size:Nat} {ls:List LV} {A:Option Addr} {c:Nat} (h:zat F w (.sl n size ls) (.slice A n c)):zat F w (.sl n size ls) (.slice A n n):=by
 cases h with
 | sl _ _ _ _ _ cs hl hcs hc hm hA hr=>exact .sl n size ls A n cs hl hcs (xx _) (yg hc hm) hA hr
theorem zNC {P:Program} {o:Oper} {α:Type} {r:Rp α} {xs ys:List α} {D:List Nat} {a:AV} {i j:Int} {t e':TypeId} {k1 k2 k3:IntKind} {x y z u:Operand} {bytes:Nat} (e ℓ:Nat)
  (ho:o.op= .slice t x (some y) (some z) (some u)) (hT:ElT P t e' r.size bytes) (hs:isSl r xs D a) (hy:cut xs i j=some ys):
  zB P o [(x,a),(y,.lf (.int k1 i)),(z,.lf (.int k2 j)),(u,.lf (.int k3 j))] [] [] [] (.cu (mxC r e ys) ℓ D []) []:=by
 refine zF fun γ ev w hin _=>?_
 have h1:=hs γ w _ (hin (x,a) (by simp));have hy1:ev y=_:=zdU (hin (y,.lf (.int k1 i)) (by simp));have hy2:ev z=_:=zdU (hin (z,.lf (.int k2 j)) (by simp));have hy3:ev u=_:=zdU (hin (u,.lf (.int k3 j)) (by simp));simp only at h1;obtain ⟨A,c,cs,hv,hc,hm,_⟩:=znB h1;obtain ⟨c0,c1,c2,_⟩:=zqy hy;have hl:=zCt hy;have hb1:=zcS (P:=P) w k1 i j.toNat .slice3C c0 (by omega);have hb2:=zcS (P:=P) w k2 j j.toNat .slice3B (by omega) (by omega);have hb3:=zcS (P:=P) w k3 j c .slice3Acap (by omega) (by omega);have kF:(Instr.sliceAt t (.slice A xs.length c) (some (.int k1 i)) (some (.int k2 j)) (some (.int k3 j))).run P w= .ok (.slice (if j.toNat=i.toNat then A else A.map (·.add (i.toNat*r.size))) (j.toNat - i.toNat) (j.toNat - i.toNat)) w:=by
  simp [Instr.sliceAt,Instr.slice,run_underlying hT.u,Instr.sliceBounds,hb1,hb2,hb3,hT.size]
 refine ⟨.slice (if j.toNat=i.toNat then A else A.map (·.add (i.toNat*r.size))) (j.toNat - i.toNat) (j.toNat - i.toNat),w,γ,by simp [execOp,ho,hv,hy1,hy2,hy3,kF],Tr.refl _ _ _ _,⟨False,.inr ⟨id,⟨(if j.toNat=i.toNat then A else A.map (·.add (i.toNat*r.size))),by rw [hl]⟩,?_⟩⟩,fun b hb=>by cases hb⟩;rw [hv] at h1;have hr:=zHM h1 hy;rw [<-hl] at hr|-;by_cases hji:j.toNat=i.toNat
 ·have h0:ys=[]:=yE (by omega);subst h0;exact .sl 0 _ _ _ 0 [] (by simp) (by simp) (xx _) (xC _) (fun h=>absurd h (ui _)) (fun i l u h=>by simp at h)
 ·rw [xq (by omega)] at hr;rw [xq hji];exact hr.full
def TnS (W V:List Nat) (T:List (AV×AV)):List (Nat×AV×AV)->Prop
 | []=>True
 | q::l=>zsM W V T q.2.1 q.2.2/\TnS W V T l
theorem TnS.at {W V:List Nat} {T:List (AV×AV)}:∀{l:List (Nat×AV×AV)},TnS W V T l->∀q∈l,zsM W V T q.2.1 q.2.2
 | [],_,q,hq=>by cases hq
 | p::l,h,q,hq=>by
  cases hq with
  | head=>exact h.1
  | tail _ hq=>exact TnS.at h.2 q hq
theorem zBB {P:Program} {o:Oper} {ins:List (Operand×AV)} {W V:List Nat} {av:AV} {T:List (AV×AV)} (ss:List (Nat×AV×AV)) (bs:List (Bx×Bx)) (h:zni P o ins W V av T) (hc:ztR ins) (hd:(ss.all fun q=> !zrh o.dst q.1)=true) (hss:TnS W V T ss) (hb:BxsT W V T bs):
  ztN P o (zla ins++(ss.map (fun q=> .sl q.1 q.2.1)++bs.map fun p=> .bx p.1)) W V (slOf o.dst av++(ss.map (fun q=> .sl q.1 q.2.2)++bs.map fun p=> .bx p.2)):=by
 intro γ ac w kG hr next Q hk;refine h γ ac w (zry hc fun f hf=>hr f (yq _ hf)) next Q fun γ' w' v ht hv hT=>hk γ' w' v ht fun f hf=>?_
 rcases xF.1 hf with hf| hf
 ·exact zKb kG hv f hf
 ·rcases xF.1 hf with hf| hf
  ·obtain ⟨q,hq,rfl⟩:=xA.1 hf;have h0:=hr (.sl q.1 q.2.1) (yl _ (yq _ (xA.2 ⟨q,hq,rfl⟩)));have h1:=hss.at q hq _ _ _ _ ht hT _ h0;have h2:zrh o.dst q.1=false:=by simpa using xI.1 hd q hq
   show q.2.2.rel γ' w' ((ac.put o.dst v).tmps.getD q.1 undef);rw [zuF h2];exact h1
  ·obtain ⟨p,hp,rfl⟩:=xA.1 hf;exact hb.rel ht hT (fun p hp=>hr (.bx p.1) (yl _ (yl _ (xA.2 ⟨p,hp,rfl⟩)))) p hp
theorem zAf {α β:Type _}:∀l:List (α×β),(l.map (·.1)).zip (l.map (·.2))=l
 | []=>rfl
 | p::l=>by rw [xJ,xJ,List.zip_cons_cons,zAf l]
theorem zNX {P:Program} {o:Oper} {κ α:Type} [DecidableEq κ] {rk:Rp κ} {r:Rp α} {e:TypeId} {ℓ:Nat} {C:List Nat} {m:List (κ×List α)} {q:κ} {f:FuncId} {ts:Array TypeId} {ins tns:List AV} {zs:List α}
  (b1 b2:List (Operand×AV)) (K:Nat) (D:List Nat) (j d:Nat) (ho:o.op= .call ⟨.value (.func f),(b1.map (·.1)++ .tmp j::b2.map (·.1)).toArray,ts⟩) (hc:∀as w,(callFunc f as).run P w= .ok (.enter f as) w)
  (ok:zgA P f ins [.cu (mxC r e zs) K [0] []] tns) (hin:(b1.map (·.2)).map (inW [(ℓ,K)])++ .cu (mxC r e ((mget m q).getD [])) K [0] []::(b2.map (·.2)).map (inW [(ℓ,K)])=ins) (hd:o.dst=some d) (hK:spB K=true)
  (hx1:((zgi (b1.map (·.2))).all fun a=>subN (zgj [(ℓ,K)] a) D)=true) (hx2:((zgi (b2.map (·.2))).all fun a=>subN (zgj [(ℓ,K)] a) D)=true) (hz1:zsT [(ℓ,K)] (zgi (b1.map (·.2)))=[]) (hz2:zsT [(ℓ,K)] (zgi (b2.map (·.2)))=[])
  (hC:(subN C D&& !memN ℓ D)=true) (hcs:ztR (b1++b2)):
  ztN P o (.lk j rk r e ℓ C m q::zla (b1++b2)) [ℓ] [] [.ap d rk r e ℓ D m q zs]:=by
 intro γ a w hs hr next Q hnx;simp only [xw,xZ] at hC;have hK2:2<=K:=by have:=(zIK.1 hK).1;omega
 obtain ⟨bm,n,O,hm,hv⟩:=hr (.lk j rk r e ℓ C m q) (by simp);obtain ⟨v,hve⟩:∃v,v=a.tmps.getD j undef:=⟨_,rfl⟩;rw [<-hve] at hv;obtain ⟨o1,hrow,hap⟩:=zPO hm hv;have hnD:ℓ∉D:=fun h=>by rw [zaf.2 h] at hC;cases hC.2
 have hCD:∀c∈C,c∈D:=zad hC.1;have hothers:=zry hcs (fun f hf=>hr f (xu _ hf));have h1:AV.relL γ w (b1.map (·.2)) ((b1.map (·.1)).map a.eval):=zlP (by simp) fun p hp=>hothers p (yq _ (by rwa [zAf] at hp))
 have h2:AV.relL γ w (b2.map (·.2)) ((b2.map (·.1)).map a.eval):=zlP (by simp) fun p hp=>hothers p (yl _ (by rwa [zAf] at hp))
 let S:Fp:=fun b=>o1/\v.ownBlock=some b
 have b3:zhG ([(ℓ,K)].map (·.1)) D=true:=by simp [zhG,hC.2]
 have hpf:zer [(ℓ,K)] ℓ=some K:=by simp [zer]
 have hpb:∀q∈[(ℓ,K)],zhm [(ℓ,K)] q.2=some q.1:=fun q hq=>by
  simp only [xy,xL,xM] at hq;subst hq;simp [zhm]
 have hp2:∀q∈[(ℓ,K)],2<=q.2:=fun q hq=>by
  simp only [xy,xL,xM] at hq;subst hq;exact hK2
 have hpa:([(ℓ,K)].all fun q=>Nat.ble 2 q.2)=true:=xI.2 fun q hq=>uu (hp2 q hq)
 simp only [xI] at hx1 hx2;have in1:=zui (S:=S) b3 hpb hp2 h1 (fun x hx c hc=>zad (hx1 x hx) c hc) fun q hq ℓ' hℓ'=>by
  have:=zoC hq hℓ';rw [hz1] at this;cases this
 have in2:=zui (S:=S) b3 hpb hp2 h2 (fun x hx c hc=>zad (hx2 x hx) c hc) fun q hq ℓ' hℓ'=>by
  have:=zoC hq hℓ';rw [hz2] at this;cases this
 have hS:∀b,2<=(ghW γ D [(ℓ,K)] S).col b->γ.col b=ℓ/\S b:=fun b hb=>by
  obtain ⟨hs,k,hk⟩:=zug hb;have:=zdm hk;simp only [xy,xL,xM,yy] at this;exact ⟨this.1,hs⟩
 have hx:(AV.cu (mxC r e ((mget m q).getD [])) K [0] []).rel (ghW γ D [(ℓ,K)] S) w v:=by
  have hF:∀b,b<w.heap.size->γ.F C b->(ghW γ D [(ℓ,K)] S).F [0] b:=fun b _ hb=>by
   show (ghW γ D [(ℓ,K)] S).col b∈[0];rw [zOC b3 (hCD _ hb)];exact xt
  refine ⟨o1,?_⟩;rcases hrow with ⟨ho,cs,hw,hg,hA⟩| ⟨ho,hv,hL⟩
  ·exact .inl ⟨ho,cs,hw,fun g kH=>zHW (S:=S) ⟨ho,kH⟩ (by rw [hg g kH];exact hpf),hA.mono hF⟩
  ·exact .inr ⟨ho,hv,hL.mono hF⟩
 have hin':AV.relL (ghW γ D [(ℓ,K)] S) w ins ((b1.map (·.1)).map a.eval++v::(b2.map (·.1)).map a.eval):=by
  rw [<-hin];exact zrw in1 ⟨v,_,rfl,hx,in2⟩
 have kF:(execOp a.eval o).run P w= .ok (.enter f ((b1.map (·.1)).map a.eval++v::(b2.map (·.1)).map a.eval).toArray) w:=by
  have e1:a.eval (.tmp j)=v:=hve.symm;simp [execOp,ho,resolve,Act.eval,Deferred.ofValue,invoke,hc,hve]
 refine zJa (args:=b1.map (·.1)++ .tmp j::b2.map (·.1)) (ts:=ts) kF (fun c=>by rw [ho];simp) (ok w _ _ hin') fun e1 w' hR=>?_
 obtain ⟨γc,us,rfl,⟨⟨⟨x1,x2,x3,x4⟩,x5,x6,x7⟩,x8⟩,hru,_⟩:=hR;obtain ⟨v',us',rfl,hv',hus'⟩:=hru;cases hus';obtain ⟨o2,hnew⟩:=hv'
 let γ':Gh:=⟨fun b=>if b<w.heap.size then γ.col b else if γc.col b=K then ℓ else 1,γ.box⟩
 have kR:∀b,b<w.heap.size->γ'.col b=γ.col b:=fun b hb=>by show (if b<w.heap.size then γ.col b else _)=_;rw [xr hb]
 have hKold:∀b,b<w.heap.size->γc.col b=K->γ.col b=ℓ/\S b:=fun b hb hk=>by
  rcases yB ((ghW γ D [(ℓ,K)] S).col b) 2 with h| h
  ·have:=(x5 b hb h).1;omega
  ·exact hS b h
 have hbk:∀b,b<w.heap.size->¬(o1/\v.ownBlock=some b)->w'.heap[b]? =w.heap[b]? :=fun b hb hno=>by
  rcases yB ((ghW γ D [(ℓ,K)] S).col b) 2 with h| h
  ·exact (x5 b hb h).2
  ·exact absurd (hS b h).2 hno
 have ht:Tr [ℓ] [] γ w γ' w':=by
  refine ⟨x1,x2,x3,x4,fun b hb hn=>?_,kR,fun _ _=>rfl,fun b k1 k2 h0=>?_⟩
  ·rcases yB ((ghW γ D [(ℓ,K)] S).col b) 2 with h| h
   ·exact (x5 b hb h).2
   ·exact absurd (by rw [(hS b h).1];exact xt) hn
  ·have h0':(if b<w.heap.size then γ.col b else if γc.col b=K then ℓ else 1)=0:=h0;rw [xq (qw.2 k1)] at h0';split at h0'
   ·exact .inl (by rw [h0'];exact xt)
   ·cases h0'
 refine ⟨v',rfl,hnx γ' w' v' ht fun f hf=>?_⟩;simp only [xy,xL,xM] at hf;subst hf;refine zMW (o2:=o2) hm hrow hap ht hbk hnD hCD (hnew.regh (fun b hb hk=>?_) (fun b hb h0=>?_)) (fun ho g hg=>?_) (by rw [hd,zdt (hs d hd)])
 ·show (if b<w.heap.size then γ.col b else if γc.col b=K then ℓ else 1)=ℓ;by_cases km:b<w.heap.size
  ·rw [xr km];exact (hKold b km hk).1
  ·rw [xq km,xr hk]
 ·have h0':γc.col b=0:=by simpa using h0
  by_cases km:b<w.heap.size
  ·rw [kR b km];rcases yB ((ghW γ D [(ℓ,K)] S).col b) 2 with h| h
   ·exact zys (p:=[(ℓ,K)]) (S:=S) hpa (by rw [<-(x5 b km h).1];exact h0')
   ·exact absurd h0' (x6 b km h)
  ·exact absurd h0' (x7 b (qg km) hb)
 ·rcases hnew with ⟨_,cs,hw,hgc,_⟩| ⟨hno,_⟩
  ·by_cases km:g<w.heap.size
   ·exact .inr (hKold g km (hgc g hg)).2
   ·exact .inl (qg km)
  ·exact absurd ho hno
structure Ev (a:Act) (n:Nat) (l:List (Nat×Value)):Prop where
 defers:a.defers=[]
 size:a.tmps.size=n
 val:∀p∈l,a.tmps.getD p.1 undef=p.2
def zvs:List (Nat×Value)->Nat->Option Value
 | [],_=>none
 | p::l,k=>match Nat.beq p.1 k with
  | true=>some p.2
  | false=>zvs l k
theorem zti:∀{l:List (Nat×Value)} {k:Nat} {v:Value},zvs l k=some v->(k,v)∈l
 | [],_,_,h=>by cases h
 | p::l,k,v,h=>by
  rw [zvs] at h;split at h
  ·rename_i hb;cases h;rw [<-xG hb];exact xt
  ·exact xu _ (zti h)
def zwl:List (Nat×Value)->Nat->List (Nat×Value)
 | [],_=>[]
 | p::l,k=>match Nat.beq p.1 k with
  | true=>zwl l k
  | false=>p::zwl l k
theorem zou:∀{l:List (Nat×Value)} {k:Nat} {p:Nat×Value},p∈zwl l k->p∈l/\p.1≠k
 | [],_,_,h=>by cases h
 | q::l,k,p,h=>by
  rw [zwl] at h;split at h
  ·exact ⟨xu _ (zou h).1,(zou h).2⟩
  ·rename_i hb;cases h with
   | head=>exact ⟨xt,fun e=>by rw [e,Nat.beq_refl] at hb;cases hb⟩
   | tail _ h=>exact ⟨xu _ (zou h).1,(zou h).2⟩
section
variable {P:Program} {ops:Array Oper} {Q:Exit->Act->World->Prop} {l:List Oper} {o:Oper} {a:Act} {w w':World} {n d:Nat} {es:List (Nat×Value)} {v:Value}
theorem Ev.at (h:Ev a n es) (hk:zvs es k=some v):a.eval (.tmp k)=v:=h.val _ (zti hk)
theorem Ev.sub (h:Ev a n es) (hs:∀p∈es',p∈es):Ev a n es':=⟨h.defers,h.size,fun p hp=>h.val p (hs p hp)⟩
theorem Ev.put (h:Ev a n es) (hd:Nat.blt d n=true):Ev (a.put (some d) v) n ((d,v)::zwl es d):=by
 have hd':d<a.tmps.size:=by rw [h.size];exact xP hd
 refine ⟨by rw [zhR];exact h.defers,by rw [zoG];exact h.size,fun p hp=>?_⟩;cases hp with
 | head=>exact zdt hd'
 | tail _ hp=>
  obtain ⟨h1,h2⟩:=zou hp;rw [zjv h2];exact h.val p h1
theorem Ev.one (v:Value) (k:Nat):Ev ⟨#[v]++Array.replicate k undef,[]⟩ (1+k) [(0,v)]:=⟨rfl,by simp,fun p hp=>by
 simp only [xy,xL,xM] at hp;subst hp;rw [yF,pF (by simp)];rfl⟩
def EvIn (es:List (Nat×Value)):List (Nat×Value)->Prop
 | []=>True
 | p::l=>zvs es p.1=some p.2/\EvIn es l
theorem EvIn.mem :∀{l:List (Nat×Value)},EvIn es l->∀p∈l,p∈es
 | q::l,h,p,hp=>by
  cases hp with
  | head=>exact zti h.1
  | tail _ hp=>exact h.2.mem p hp
theorem Ev.pick (h:Ev a n es) (es':List (Nat×Value)) (hs:EvIn es es'):Ev a n es':=h.sub hs.mem
theorem wk (h:Ev a n es) (hg:o.guard=none) (hd:o.dst=some d) (hn:Nat.blt d n=true) (hr:(execOp a.eval o).run P w= .ok (.value v) w')
  (k:∀a',Ev a' n ((d,v)::zwl es d)->zmr P ops Q l a' w'):zmr P ops Q (o::l) a w:=
 zjx (by simp [Region.wanted,hg]) (zkt hr (k _ (by rw [hd];exact h.put hn)))
theorem zit (h:Q .normal a w):zmr P ops Q [] a w:=fun _=>h
variable {ev:Operand->Value} {x y:Operand}
theorem zaq (ho:o.op= .move x) (hx:ev x=v):(execOp ev o).run P w= .ok (.value v) w:=by simp [execOp,ho,hx]
theorem zic (ho:o.op= .assign x) (hx:ev x=v):(execOp ev o).run P w= .ok (.value v) w:=by simp [execOp,ho,hx]
theorem zKM (ho:o.op= .call ⟨.builtin .len,#[x],#[t]⟩) (hx:ev x= .slice A m c) (hu:P.underlying t=some (.slice e)):(execOp ev o).run P w= .ok (.value (.int .i64 (m:Int))) w:=by
 simp [execOp,ho,resolve,invoke,hx,builtin,Builtin.len_,run_underlying hu,goInt]
theorem zPb (ho:o.op= .binOp .add t x y s) (hx:ev x= .int .i64 i) (hy:ev y= .int .i64 j):(execOp ev o).run P w= .ok (.value (.int .i64 (i64.wrap (i+j)))) w:=by
 simp [execOp,ho,hx,hy,zno,binOp];rfl
end
theorem zjV (x:Int):u8.wrap x=x%256:=by simp [IntKind.wrap,IntKind.bits,IntKind.signed]
theorem zGa (x:Int):u32.wrap x=x%4294967296:=by simp [IntKind.wrap,IntKind.bits,IntKind.signed]
theorem wrap_u64 (x:Int):u64.wrap x=x%18446744073709551616:=by simp [IntKind.wrap,IntKind.bits,IntKind.signed]
theorem wrap_i64 (h: -9223372036854775808<=x/\x<=9223372036854775807):i64.wrap x=x:=by
 simp [IntKind.wrap,IntKind.bits,IntKind.signed];split<;>omega
theorem uX {x:Int} (h: -9223372036854775808<=x/\x<=9223372036854775807:=by omega):i64.wrap x=x:=wrap_i64 h
theorem zKs (x:Int):i32.wrap x=if x%4294967296<2147483648 then x%4294967296 else x%4294967296 - 4294967296:=by
 simp [IntKind.wrap,IntKind.bits,IntKind.signed];split<;>split<;>omega
theorem zvi {k:IntKind} (hk:k.signed=false) {n:Nat} (h:n<2^k.bits):k.wrap (n:Int)=n:=by
 have h2:(n:Int)%(2^k.bits:Int)=n:=yG (by omega) (by exact_mod_cast h);simp only [IntKind.wrap,hk,qc,h2];simp
theorem zsg {b n:Nat} (h:n<2^b):(BitVec.ofInt b (n:Int)).toNat=n:=by
 rw [BitVec.toNat_ofInt];have h2:(n:Int)%((2^b:Nat):Int)=n:=yG (by omega) (by exact_mod_cast h);rw [h2];rfl
theorem zDK {k:IntKind} (hk:k.signed=false) {a b:Nat} (ha:a<2^k.bits) (hb:b<2^k.bits):andI k a b=((a&&&b:Nat):Int):=by
 unfold andI;rw [BitVec.toNat_and,zsg ha,zsg hb];exact zvi hk (Nat.lt_of_le_of_lt Nat.and_le_left ha)
theorem zxp {k:IntKind} (hk:k.signed=false) {a b:Nat} (ha:a<2^k.bits) (hb:b<2^k.bits):orI k a b=((a||| b:Nat):Int):=by
 unfold orI;rw [BitVec.toNat_or,zsg ha,zsg hb];exact zvi hk (Nat.or_lt_two_pow ha hb)
theorem zuQ {k:IntKind} {a b:Nat} (hb:b<=k.bits):shrI k a b=((a/2^b:Nat):Int):=by
 unfold shrI;have h2:(2:Int)^b=((2^b:Nat):Int):=by simp
 rw [xD,yU hb,h2,Int.fdiv_eq_ediv_of_nonneg _ (Int.natCast_nonneg (2^b)),Int.natCast_ediv]
theorem zyX (a c k:Nat) (h:a<2^k):a||| (c*2^k)=a+c*2^k:=by
 rw [pT,qd,<-Nat.two_pow_add_eq_or_of_lt h,pU]
theorem ztO (n m:Nat):((n:Int)==(m:Int))=decide (n=m):=by
 by_cases h:n=m
 ·simp [h]
 ·have:¬((n:Int)=m):=by omega
  simp [h,this]
theorem zP {α:Type} {xs:List α} {i:Int} {n:Nat} (h:i=n) (hn:n<xs.length):idx xs i=some xs[n]:=by
 unfold idx;subst h;rw [xr (by omega),xD,xN hn]
theorem zgC {α:Type} {xs:List α} {i j:Int} {a b:Nat} (hi:i=a) (hj:j=b) (h:a<=b) (hb:b<=xs.length):cut xs i j=some ((xs.drop a).take (b - a)):=by
 unfold cut;subst hi hj;rw [xr (by omega),xD,xD]
theorem zqx {α:Type} {xs:List α} {i j:Int} {a:Nat} (hi:i=a) (hj:j=(xs.length:Int)) (h:a<=xs.length):cut xs i j=some (xs.drop a):=by
 rw [zgC hi hj h (xx _),yR (by simp)]
theorem ztT {α:Type} {xs:List α} {j:Int} {b:Nat} (hj:j=b) (hb:b<=xs.length):cut xs 0 j=some (xs.take b):=by
 have:=zgC (xs:=xs) (i:=0) (a:=0) rfl hj (xC _) hb;simpa using this
theorem zaQ {α:Type} {bytes:Nat} {xs ys:List α} (h:(xs.length+ys.length)*bytes<=140737488355328):app bytes xs ys=some (xs++ys):=by
 unfold app LIM;rw [xr h]
theorem zGP {α:Type} {bytes:Nat} {x0:α} {n m:Int} {a:Nat} (hn:n=a) (h:n<=m) (hm:m*bytes<=140737488355328):mkO bytes x0 n m=some (List.replicate a x0):=by
 unfold mkO LIM;subst hn;rw [xr ⟨by omega,h,hm⟩,xD]
theorem zNK {α:Type} {bytes:Nat} {x0:α} {m:Int} (h:0<=m) (hm:m*bytes<=140737488355328):mkO bytes x0 0 m=some []:=by
 have:=zGP (x0:=x0) (n:=0) (a:=0) rfl h hm;simpa using this
theorem zxQ (h:x=(c.toNat:Int)):zhL x=some c:=by
 unfold zhL;subst h;have:=c.toNat_lt;rw [xr (by omega),xD,UInt8.ofNat_toNat]
theorem zfQ {x:Int} {n:Nat} (h:x=n) (hn:n<256):zhL x=some (UInt8.ofNat n):=by
 refine zxQ ?_;rw [h,UInt8.toNat_ofNat'];congr 1;omega
theorem zFy {k:IntKind} {x:Int} {n:Nat}:shlO k x n=some (shlI k x n):=by unfold shlO;rw [xq (by omega)]
theorem zMm {k:IntKind} {x:Int} {n:Nat}:shrO k x n=some (shrI k x n):=by unfold shrO;rw [xq (by omega)]
theorem sb {α β:Type} {a:α} {f:α->Option β}:((some a:Option α)>>=f)=f a:=rfl
theorem itT {α:Type} {c:Bool} {x y:α} (h:c=true):(if c then x else y)=x:=by rw [h];rfl
theorem uV {α:Type} {c:Bool} {x y:α} (h:c=true:=by simp;omega):(if c then x else y)=x:=itT h
theorem uT {α:Type} {c:Bool} {x y:α} (h:c=true:=by simp):(if c then x else y)=x:=itT h
theorem uR {α:Type} {c:Bool} {x y:α} (h:c=true:=by rfl):(if c then x else y)=x:=itT h
theorem itF {α:Type} {c:Bool} {x y:α} (h:c=false):(if c then x else y)=y:=by rw [h];rfl
theorem uW {α:Type} {c:Bool} {x y:α} (h:c=false:=by simp;omega):(if c then x else y)=y:=itF h
theorem uU {α:Type} {c:Bool} {x y:α} (h:c=false:=by simp):(if c then x else y)=y:=itF h
theorem uS {α:Type} {c:Bool} {x y:α} (h:c=false:=by rfl):(if c then x else y)=y:=itF h
open Go.RowKit (wrap32 wrap64)
def sgnS (x:Int):Int:=if x%4294967296<2147483648 then x%4294967296 else x%4294967296 - 4294967296
def zpV (x:Int):Int:=if 0<=x then x else x+18446744073709551616
def lenN (n:Nat):Nat:=if n<128 then 1 else lenN (n/128)+1
termination_by n
decreasing_by omega
def zfd:Nat->Nat->List UInt8
 | 0,_=>[]
 | k+1,w=>UInt8.ofNat (w%256)::zfd k (w/256)
def word:List UInt8->Nat
 | []=>0
 | c::r=>c.toNat+256*word r
theorem zDo (x:Int): -2147483648<=sgnS x/\sgnS x<=2147483647:=by unfold sgnS;split<;>omega
theorem zOp (h: -9223372036854775808<=x/\x<=9223372036854775807):0<=zpV x/\zpV x<=18446744073709551615:=by unfold zpV;split<;>omega
theorem zMl {x:Int} (h: -2147483648<=x/\x<=2147483647):sgnS (zpV x)=x:=by unfold sgnS zpV;split<;>split<;>omega
theorem zoB (n:Nat):1<=lenN n:=by unfold lenN;split<;>omega
theorem zdW (h:n<128):lenN n=1:=by rw [lenN,xr h]
theorem zdB (h:¬n<128):lenN n=lenN (n/128)+1:=by rw [lenN,xq h]
theorem zNw:∀(k n:Nat),n<128^k->0<k->lenN n<=k:=by
 intro k
 induction k with
 | zero=>intro n _ h;omega
 | succ k ih=>
  intro n hn _;by_cases h:n<128
  ·rw [zdW h];omega
  ·rw [zdB h];have h1:n/128<128^k:=by rw [yH] at hn;exact Nat.div_lt_of_lt_mul (by omega)
   have h2:0<k:=by
    rcases ph k with rfl| h
    ·simp at h1;omega
    ·exact h
   have:=ih _ h1 h2;omega
theorem zuo (h:n<18446744073709551616):lenN n<=10:=zNw 10 n (by omega) (by omega)
def lz (m:Nat):Nat:=if m=0 then 0 else lenN m
theorem zPC (h:m≠0):lz m=lz (m/128)+1:=by
 unfold lz;rw [xq h];split
 ·rw [zdW (by omega)]
 ·rw [zdB (by omega)]
theorem zPB (n:Nat):lenN n=1+lz (n/128):=by
 unfold lz;split
 ·rw [zdW (by omega)]
 ·rw [zdB (by omega),pU]
theorem zaB:∀(k n:Nat),(zfd k n).length=k
 | 0,_=>rfl
 | k+1,n=>by simp [zfd,zaB k]
theorem zrQ:∀(k n:Nat),word (zfd k n)=n%256^k
 | 0,n=>by simp [zfd,word,Nat.mod_one]
 | k+1,n=>by
  rw [zfd,word,zrQ k];have:(UInt8.ofNat (n%256)).toNat=n%256:=by simp
  rw [this,yH,qd (256^k),Nat.mod_mul]
theorem zqV:∀(k n:Nat),zfd (k+1) n=zfd k n++[UInt8.ofNat (n/256^k%256)]
 | 0,n=>by simp [zfd]
 | k+1,n=>by
  rw [zfd,zqV k,zfd];simp only [yn,yM,List.append_cancel_left_eq,qy,qz];rw [Nat.div_div_eq_div_mul,yH,qd (256^k)]
def zif (n m j:Nat):List UInt8:=zfd j m++List.replicate (n - j) 0
theorem zCJ (n m:Nat):zif n m 0=List.replicate n 0:=by simp [zif,zfd]
theorem zEL (n m:Nat):zif n m n=zfd n m:=by simp [zif]
theorem zyE {n m j:Nat} (h:j<=n):(zif n m j).length=n:=by simp [zif,zaB];omega
theorem zEM {n m j:Nat} (h:j<n):(zif n m j).set j (UInt8.ofNat (m/256^j%256))=zif n m (j+1):=by
 unfold zif;rw [zqV,List.set_append,xq (by rw [zaB];omega),zaB,Nat.sub_self,show n - j=(n - (j+1))+1 from by omega,List.replicate_succ,List.set_cons_zero,yj];rfl
theorem zxt (j:Nat):2^(8*j)=256^j:=by rw [Nat.pow_mul]
theorem zwt (m j:Nat):((m/256^j:Nat):Int)%256=((UInt8.ofNat (m/256^j%256)).toNat:Int):=by
 have e:(UInt8.ofNat (m/256^j%256)).toNat=m/256^j%256:=by simp
 rw [e,Int.natCast_emod];rfl
theorem zxz:∀(l:List UInt8),word l<256^l.length
 | []=>by simp [word]
 | c::r=>by
  have h1:=zxz r;have h2:=c.toNat_lt;simp only [word,yk,yH];omega
theorem zwc:∀(l:List UInt8) (c:UInt8),word (l++[c])=word l+c.toNat*256^l.length
 | [],c=>by simp [word]
 | d::r,c=>by
  simp only [yn,word,yk,zwc r c,yH];rw [Nat.mul_add,<-q6,qd 256 c.toNat,q6 c.toNat,qd (256^r.length)];omega
theorem zNS (a c k:Nat) (h:a<2^k):a||| (c*2^k)=a+c*2^k:=by
 have:=Nat.shiftLeft_add_eq_or_of_lt h c;rw [Nat.shiftLeft_eq] at this;rw [pT,<-this,pU]
theorem zzg (h:j<=7):256^j<=72057594037927936:=by
 have:=q7 (n:=256) (by omega) h;simpa using this
theorem zOs (a d j:Nat) (hj:j<8) (hd:d<256) (ha:a<256^j):
  bits .or .u64 (a:Int) (u64.wrap ((d:Int)*2^(8*j)))=((a+d*256^j:Nat):Int):=by
 have hp:=zzg (show j<=7 by omega);have hm:d*256^j<=255*72057594037927936:=pV (by omega) hp;have e:((d:Int)*2^(8*j))=((d*256^j:Nat):Int):=by
  rw [<-zxt,Int.natCast_mul,Int.natCast_pow];rfl
 rw [e,pW,yG (by omega) (by omega),bits_or_u64_nat _ _ (by omega) (by omega),<-zxt,zNS _ _ _ (by rw [zxt];exact ha)]
theorem zMM (a d j:Nat) (hj:j<8) (hd:d<256) (ha:a<256^j):
  u64.wrap ((a:Int)+u64.wrap ((d:Int)*((256^j%18446744073709551616:Nat):Int)))=((a+d*256^j:Nat):Int):=by
 have hp:=zzg (show j<=7 by omega);have hm:d*256^j<=255*72057594037927936:=pV (by omega) hp;rw [qu (by omega)];have e:((d:Int)*((256^j:Nat):Int))=((d*256^j:Nat):Int):=by rw [Int.natCast_mul]
 have hs:a+d*256^j<18446744073709551616:=by
  have:a+d*256^j<256^j+255*256^j:=Nat.add_lt_add_of_lt_of_le ha (yI _ (by omega));omega
 rw [e,pW,pW];omega
theorem zGZ (j:Nat):((256^(j+1)%18446744073709551616:Nat):Int)=u64.wrap (((256^j%18446744073709551616:Nat):Int)*256):=by
 rw [pW,yH];omega
end Go.Proofs.YtaglemhabeipfaaGreat

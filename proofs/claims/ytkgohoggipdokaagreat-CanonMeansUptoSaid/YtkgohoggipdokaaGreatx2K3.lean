/-
  What every proof here stands on. No condition.
-/
import Derived.Laws.Bits64b
import Derived.IntWalk
import Derived.RowKit
import Derived.Test.YtkgohoggipdokaaGreatx2K2
import Derived.Test.YtkgohoggipdokaaGreatx2K1
set_option autoImplicit true
set_option relaxedAutoImplicit true
namespace Go.Proofs.YtkgohoggipdokaaGreat
open Go.IntKind (i32 i64 u32 u64 u8)
open Go Go.RowKit
set_option linter.unusedVariables false
def nilA:AV->Bool
 | .lf (.val (.slice none 0 0))=>true
 | _=>false
theorem zyk (h:nilA a=true):a= .lf (.val (.slice none 0 0)):=by
 unfold nilA at h;split at h
 ·rfl
 ·cases h
def wk0 (a:AV):AV->AV
 | .any=> .any
 | .own r e ℓ C _=>match nilA a with
  | true=>match memN ℓ C with
   | false=> .own r e ℓ C []
   | true=>a
  | false=>match a with
   | .own r e ℓ D xs=>match subN D C&& !memN ℓ C with
    | true=> .own r e ℓ C xs
    | false=>a
   | _=>a
 | .sl r C _=>match nilA a with
  | true=> .sl r C []
  | false=>match a with
   | .own r e ℓ D xs=>match subN (ℓ::D) C with
    | true=> .sl r C xs
    | false=>a
   | .sl r D xs=>match subN D C with
    | true=> .sl r C xs
    | false=>a
   | _=>a
 | .rc _ C _=>match a with
  | .rc r D x=>match subN D C with
   | true=> .rc r C x
   | false=>a
  | _=>a
 | .qp r C _=>match a with
  | .lf (.val (.pointer none))=> .qp r C none
  | .qp r D o=>match subN D C with
   | true=> .qp r C o
   | false=>a
  | _=>a
 | .mp _ _ C _=>match a with
  | .mp rk rv D m=>match subN D C with
   | true=> .mp rk rv C m
   | false=>a
  | .om rk rv ℓ D m=>match subN (ℓ::D) C with
   | true=> .mp rk rv C m
   | false=>a
  | @AV.mo _ _ _ rk r _ ℓ D m=>match subN (ℓ::D) C with
   | true=> .mp rk (Rp.list r) C m
   | false=>a
  | _=>a
 | .om _ _ _ C _=>match a with
  | .om rk rv ℓ D m=>match subN D C&& !memN ℓ C with
   | true=> .om rk rv ℓ C m
   | false=>a
  | _=>a
 | @AV.mo _ _ _ _ _ _ _ C _=>match a with
  | @AV.mo _ _ _ rk r e ℓ D m=>match subN D C&& !memN ℓ C with
   | true=> .mo rk r e ℓ C m
   | false=>a
  | _=>a
 | _=>a
theorem andN (h:(a&& !b)=true):a=true/\b=false:=by simpa using h
theorem zGU (a b:AV):AV.le a (wk0 a b):=by
 unfold wk0;split
 ·exact zJq _
 ·split
  ·rename_i h;rw [zyk h];split
   ·exact zpv _ _ _ _ ‹_›
   ·exact AV.le_refl _
  ·split
   ·split
    ·rename_i h;exact zJt _ _ _ _ _ _ (andN h).1 (andN h).2
    ·exact AV.le_refl _
   ·exact AV.le_refl _
 ·split
  ·rename_i h;rw [zyk h];exact zff _ _
  ·split
   ·split
    ·exact zJv _ _ _ _ _ _ ‹_›
    ·exact AV.le_refl _
   ·split
    ·exact zKt _ _ _ _ ‹_›
    ·exact AV.le_refl _
   ·exact AV.le_refl _
 ·split
  ·split
   ·exact zKs _ _ _ _ ‹_›
   ·exact AV.le_refl _
  ·exact AV.le_refl _
 ·split
  ·exact zDQ _ _
  ·split
   ·exact zKr _ _ _ _ ‹_›
   ·exact AV.le_refl _
  ·exact AV.le_refl _
 ·split
  ·split
   ·exact zFL _ _ _ ‹_›
   ·exact AV.le_refl _
  ·split
   ·exact zJs _ _ _ _ ‹_›
   ·exact AV.le_refl _
  ·split
   ·exact zJr _ _ _ _ _ _ _ ‹_›
   ·exact AV.le_refl _
  ·exact AV.le_refl _
 ·split
  ·split
   ·rename_i h;exact zKq _ _ _ _ (andN h).1 (andN h).2
   ·exact AV.le_refl _
  ·exact AV.le_refl _
 ·split
  ·split
   ·rename_i h;exact zKp _ _ _ _ _ _ _ (andN h).1 (andN h).2
   ·exact AV.le_refl _
  ·exact AV.le_refl _
 ·exact AV.le_refl _
theorem zvF (hf:∀a b,AV.le a (f a b)):∀{l m:List AV},l.length=m.length->leL l (zipA f l m)
 | [],[],_=>trivial
 | [],_::_,h=>by simp at h
 | _::_,[],h=>by simp at h
 | x::l,y::m,h=>⟨hf x y,zvF hf (by simpa using h)⟩
def wk1 (a:AV):AV->AV
 | .ag m=>match a with
  | .ag l=>match Nat.beq l.length m.length with
   | true=> .ag (zipA wk0 l m)
   | false=>a
  | _=>a
 | b=>wk0 a b
theorem zGV (a b:AV):AV.le a (wk1 a b):=by
 unfold wk1;split
 ·split
  ·split
   ·exact zFK (zvF zGU (xE ‹_›))
   ·exact AV.le_refl _
  ·exact AV.le_refl _
 ·exact zGU _ _
def wkS (E:Env) (l:List (Nat×AV)):List (Nat×AV):=l.map fun p=>(p.1,match lookup E.sl p.1 with
 | some a=>wk1 a p.2
 | none=> .any)
def wkB (E:Env):List Bx->Option (List Bx)
 | []=>some []
 | b::l=>match zfv E.bx b.lab,wkB E l with
  | some c,some r=>match Nat.beq c.avs.length b.avs.length with
   | true=>some (⟨c.lab,c.typ,zipA wk1 c.avs b.avs⟩::r)
   | false=>none
  | _,_=>none
theorem zGW (h:Bxs γ w E.bx):∀{l r:List Bx},wkB E l=some r->Bxs γ w r
 | [],r,e=>by cases e;exact fun b hb=>by cases hb
 | b::l,r,e=>by
  rw [wkB] at e;split at e
  ·rename_i c r' h1 h2;split at e
   ·rename_i hn;cases e;intro x hx;cases hx with
    | head=>
     obtain ⟨g,cs,hh,hr,h1c⟩:=h c (zdb h1).1;exact ⟨g,cs,hh,zov (zvF zGV (xE hn)) hr,h1c⟩
    | tail _ hx=>exact zGW h h2 x hx
   ·cases e
  ·cases e
def wkE (E E':Env):Option Env:=match wkB E E'.bx with
 | some l=>some ⟨wkS E E'.sl,l⟩
 | none=>none
theorem lw (h:wkE E E'=some E':=by kernel_rfl):zcK E E':=by
 intro cx a w hs;obtain ⟨γ,hB,hS,hX⟩:=hs;unfold wkE at h;split at h
 ·rename_i l hl;have e:(⟨wkS E E'.sl,l⟩:Env)=E':=yU h;rw [<-e];refine ⟨γ,hB,fun p hp=>?_,zGW hX hl⟩;obtain ⟨q,_,rfl⟩:=xD.1 hp;simp only;split
  ·rename_i a0 ha;exact zGV _ _ _ _ _ (hS _ (zcw ha))
  ·exact trivial
 ·cases h
def zyT (fn:Func):Code:=match fn.body with
 | some c=>c
 | none=> .ret
def zuU:List ResultVar->List AV->List (Nat×AV)
 | .tmp t::rs,a::l=>(t,a)::zuU rs l
 | _,_=>[]
def hasT (t:Nat):List ResultVar->Bool
 | .tmp u::rs=>Nat.beq t u|| hasT t rs
 | _=>false
def zqF:List ResultVar->List AV->Bool
 | [],[]=>true
 | .tmp t::rs,_::l=> !hasT t rs&&zqF rs l
 | _,_=>false
theorem zxb :∀{rs:List ResultVar} {l:List AV},zqF rs l=true->lookup (zuU rs l) u=some b->hasT u rs=true
 | [],[],_,h=>by cases h
 | [],_::_,n,_=>by cases n
 | .cell ..::_,_,n,_=>by simp [zqF] at n
 | .tmp t::rs,[],n,_=>by cases n
 | .tmp t::rs,a::l,n,h=>by
  simp only [zqF,xy,x9] at n;rw [zuU,lookup] at h;rw [hasT];split at h
  ·rename_i e;have:=xE e;simp only at this;simp [this]
  ·rw [zxb n.2 h];simp
theorem zAc :∀{rs:List ResultVar} {l:List AV},zqF rs l=true->(∀t a,lookup (zuU rs l) t=some a->lookup E.sl t=some a)->zka P E rs l
 | [],[],_,_=>trivial
 | [],_::_,n,_=>by cases n
 | .cell ..::_,_,n,_=>by simp [zqF] at n
 | .tmp t::rs,[],n,_=>by cases n
 | .tmp t::rs,a::l,n,h=>by
  simp only [zqF,xy,x9] at n;refine ⟨h t a (by rw [zuU,lookup];simp),zAc n.2 fun u b hu=>h u b ?_⟩;rw [zuU,lookup];have hne:Nat.beq t u=false:=by
   cases e:Nat.beq t u with
   | false=>rfl
   | true=>rw [xE e,zxb n.2 hu] at n;simp at n
  simp only [hne];exact hu
section
variable {P:Program} {f:FuncId} {fn:Func} {ins wc:List AV}
def hdOk (N:Nat) (fn:Func) (ins wc:List AV):Bool:=fn.body.isSome&&Nat.beq fn.ntmps N&&Nat.ble ins.length N&&zqF fn.results.toList wc
theorem zDK (h:hdOk N fn ins wc=true):fn.body=some (zyT fn)/\fn.ntmps=N/\Nat.ble ins.length N=true/\zqF fn.results.toList wc=true:=by
 simp only [hdOk,xy] at h;obtain ⟨⟨⟨h1,h2⟩,h3⟩,h4⟩:=h;refine ⟨?_,xE h2,h3,h4⟩;unfold zyT;cases e:fn.body with
 | none=>rw [e] at h1;cases h1
 | some c=>rfl
theorem fi (N:Nat) (hf:P.funcs[f]? =some fn) (hj:∀X:Ext,JI true P (zhz (zyT fn) []) (Sx ⟨⟨N,[]⟩,X,false,#[]⟩ ⟨zlj 0 ins,[]⟩) fun e a w=>e= .ret/\Sx ⟨⟨N,[]⟩,X,false,#[]⟩ ⟨zuU fn.results.toList wc,[]⟩ a w)
  (h:hdOk N fn ins wc=true:=by kernel_rfl):FnOk P f ins wc:=by
 obtain ⟨h1,h2,h3,h4⟩:=zDK h;exact zwv N hf h1 h2 h3 (zAc h4 fun _ _ e=>e) fun X=>zbR (hj X)
theorem fj (E:Env) (N:Nat) (hf:P.funcs[f]? =some fn) (hr:zka P E fn.results.toList wc) (hj:∀X:Ext,JI true P (zhz (zyT fn) []) (Sx ⟨⟨N,[]⟩,X,false,#[]⟩ ⟨zlj 0 ins,[]⟩) fun e a w=>e= .ret/\Sx ⟨⟨N,[]⟩,X,false,#[]⟩ E a w)
  (h:(fn.body.isSome&&Nat.beq fn.ntmps N&&Nat.ble ins.length N)=true:=by kernel_rfl):FnOk P f ins wc:=by
 simp only [xy] at h;refine zwv N hf ?_ (xE h.1.2) h.2 hr fun X=>zbR (hj X)
 have h1:=h.1.1;unfold zyT;cases e:fn.body with
 | none=>rw [e] at h1;cases h1
 | some c=>rfl
end
theorem lzr :zcK E E:=fun _ _ _ h=>h
def addE (E:Env) (ks ls:List Nat) (nw:List (Nat×AV)) (nb:List Bx):Env:=⟨nw++(znJ ks ls E).sl,nb++(znJ ks ls E).bx⟩
inductive Ex
 | n (E:Env)
 | x (id:Nat) (E:Env)
 | r (E:Env)
 | N (ks ls:List Nat) (nw:List (Nat×AV)) (nb:List Bx)
 | X (id:Nat) (ks ls:List Nat) (nw:List (Nat×AV)) (nb:List Bx)
def Ex.R (cx:Cx) (E0:Env):Ex->Exit->Act->World->Prop
 | .n E,e,a,w=>e= .normal/\Sx cx E a w
 | .x id E,e,a,w=>e= .exit id/\Sx cx E a w
 | .r E,e,a,w=>e= .ret/\Sx cx E a w
 | .N ks ls nw nb,e,a,w=>e= .normal/\Sx cx (addE E0 ks ls nw nb) a w
 | .X id ks ls nw nb,e,a,w=>e= .exit id/\Sx cx (addE E0 ks ls nw nb) a w
section
variable {m:Bool} {P:Program} {Q:Exit->Act->World->Prop} {l:List It} {c:Code} {cx:Cx} {E:Env}
theorem jl {σ ρ:Type} {body:σ->Option (σ⊕ρ)} {s:σ} {r:ρ} (h:zaE body s=some r) (ks ls:List Nat) (nw:σ->List (Nat×AV)) (nb:σ->List Bx) (R:ρ->Ex)
  (hb:∀s o,body s=some o->JI m P (zhz c []) (Sx cx (addE E ks ls (nw s) (nb s))) (match o with
   | .inl s'=>fun e a w=>e= .normal/\Sx cx (addE E ks ls (nw s') (nb s')) a w
   | .inr r=>fun e a w=>e≠ .normal/\(R r).R cx E e a w)) (hS:zcK E (addE E ks ls (nw s) (nb s))) (k:∀e a w,(R r).R cx E e a w->zfU m P Q l e a w):JI m P (.c (.loop c)::l) (Sx cx E) Q:=
 zHu body (fun s=>addE E ks ls (nw s) (nb s)) (fun r=>(R r).R cx E) (fun s o e=>zbR (hb s o e)) h hS k
theorem jL {σ ρ:Type} {body:σ->Option (σ⊕ρ)} {s:σ} {r:ρ} (h:zaE body s=some r) (ks ls:List Nat) (nw:σ->List (Nat×AV)) (R:ρ->Ex)
  (hb:∀s o,body s=some o->JI m P (zhz c []) (Sx cx (addE E ks ls (nw s) [])) (match o with
   | .inl s'=>fun e a w=>e= .normal/\Sx cx (addE E ks ls (nw s') []) a w
   | .inr r=>fun e a w=>e≠ .normal/\(R r).R cx E e a w)) (hS:zcK E (addE E ks ls (nw s) [])) (k:∀e a w,(R r).R cx E e a w->zfU m P Q l e a w):JI m P (.c (.loop c)::l) (Sx cx E) Q:=jl h ks ls nw (fun _=>[]) R hb hS k
theorem jn (R:Ex) (h:JI m P (zhz c []) (Sx cx E) (R.R cx E)) (k:∀e a w,R.R cx E e a w->zfU m P Q l e a w):JI m P (.c c::l) (Sx cx E) Q:=zCw (zbR h) k
theorem jz {id:Nat} {ops:List Oper} {E1:Env} (h:finC P cx.n ops.toArray ops [] E E1.keys E1.labs=some E1:=by kernel_rfl):JI m P (.c (.region id ops.toArray false):: .c .ret::l) (Sx cx E) fun e a w=>e= .ret/\Sx cx E1 a w:=zjQ E1 (rgg h) (zH lzr)
theorem jz' {id:Nat} {ops:List Oper} {E1:Env} (h:finC P cx.n ops.toArray ops [] E E1.keys E1.labs=some E1:=by kernel_rfl):JI m P (.c (.region id ops.toArray false):: .c .ret::l) (Sx cx E) fun e a w=>e≠ .normal/\e= .ret/\Sx cx E1 a w:=zjQ E1 (rgg h) (zot lzr)
theorem jy {id:Nat} {ops:List Oper} {E1:Env} (h:finC P cx.n ops.toArray ops [] E E1.keys E1.labs=some E1:=by kernel_rfl):JI m P [.c (.region id ops.toArray false)] (Sx cx E) fun e a w=>e= .normal/\Sx cx E1 a w:=zjQ E1 (rgg h) (zaT lzr)
end
def renE (E:Env):List (Nat×Nat)->Env
 | []=>E
 | p::l=>renE (E.ren p.1 p.2) l
def okRn:List (Nat×Nat)->Bool
 | []=>true
 | p::l=>(Nat.ble 2 p.1&&Nat.ble 2 p.2&& !spB p.1)&&okRn l
theorem zDh:∀(l:List (Nat×Nat)) {E E':Env},okRn l=true->zcK (renE E l) E'->zcK E E'
 | [],_,_,_,k=>k
 | p::l,_,_,h,k=>by
  simp only [okRn,xy] at h;exact zIN p.1 p.2 (by simpa using h.1) (zDh l h.2 k)
theorem lks (ls:List Nat) (rn:List (Nat×Nat)) (k:zcK (renE (znJ E'.keys ls E) rn) E') (h:(zzW E'.keys ls E&&okRn rn)=true:=by kernel_rfl):zcK E E':=by
 rw [xy] at h;exact (ztm _ _ (zpE h.1)).trans (zDh rn h.2 k)
section
variable {P:Program} {L:List Oper} {ss:List zjq} {is:List DIn}
theorem lwn:∀(n:Nat) {L:List Oper},zbY P (L.drop n) ss is->zbY P L (List.replicate n .ev++ss) is
 | 0,_,h=>h
 | n+1,[],h=>by show zbY P [] (.ev::_) is;cases is<;>trivial
 | n+1,o::L,h=>lw_e (lwn n h)
theorem dg (t:Nat) (hc:c=b) (k:zbY P l ss is) (h:zrr P (Env.opd ⟨[(t,.lf (.bool c))],[]⟩) (zpW ⟨[(t,.lf (.bool c))],[]⟩ o.op) o.op=some (.lf (.bool c)):=by kernel_rfl):
  zbY P (o::l) (.ex ((zpW ⟨[(t,.lf (.bool c))],[]⟩ o.op).map (·.lab)) [] [] (.lf (.bool b)) []::ss) (⟨zkm ⟨[(t,.lf (.bool c))],[]⟩ o.op.operands.toList,zpW ⟨[(t,.lf (.bool c))],[]⟩ o.op,[]⟩::is):=lx (zJw _ h hc) k
theorem di {o:Oper} {l:List Oper} {α:Type} {r:Rp α} {xs:List α} {i:Int} {x:α} {t e:TypeId} {y z:Operand} {bytes:Nat} (C:List Nat) (hT:ElT P t e r.size bytes) (hx:idx xs i=some x) (k:zbY P l ss is) (ho:o.op= .indexAddr t y z:=by rfl):
  zbY P (o::l) (.ex [] [] [] (.ep r C x 0) []::ss) (⟨[(y,.sl r C xs),(z,.lf (.int .i64 i))],[],[]⟩::is):=lx (zwM ho hT (zcH r xs C) hx) k
end
inductive LeL:List AV->List AV->Prop
 | n:LeL [] []
 | k {a:AV} {l m:List AV} (h:LeL l m):LeL (a::l) (a::m)
 | c {a b:AV} {l m:List AV} (h:a.le b) (t:LeL l m):LeL (a::l) (b::m)
 | l {a b:AV} (h:a.le b):LeL [a] [b]
def zipI:List (Operand×AV)->List AV->List (Operand×AV)
 | p::l,a::m=>(p.1,a)::zipI l m
 | _,_=>[]
theorem zFJ (h:LeL ys xs):∀{ins:List (Operand×AV)},ins.map (·.2)=xs->leI (zipI ins ys) ins:=by
 induction h with
 | n=>intro ins e;cases ins<;>first| exact trivial| cases e
 | k _ ih=>intro ins e;cases ins with
  | nil=>cases e
  | cons p l=>cases e;exact ⟨⟨rfl,AV.le_refl _⟩,ih rfl⟩
 | c h _ ih=>intro ins e;cases ins with
  | nil=>cases e
  | cons p l=>cases e;exact ⟨⟨rfl,h⟩,ih rfl⟩
 | l h=>intro ins e;cases ins with
  | nil=>cases e
  | cons p l=>cases l<;>cases e;exact ⟨⟨rfl,h⟩,trivial⟩
theorem zFI (h:LeL ys xs):∀{args:List Operand},xs.length=args.length->leI (args.zip ys) (args.zip xs):=by
 induction h with
 | n=>intro args e;cases args<;>first| exact trivial| cases e
 | k _ ih=>intro args e;cases args with
  | nil=>cases e
  | cons p l=>exact ⟨⟨rfl,AV.le_refl _⟩,ih (by simpa using e)⟩
 | c h _ ih=>intro args e;cases args with
  | nil=>cases e
  | cons p l=>exact ⟨⟨rfl,h⟩,ih (by simpa using e)⟩
 | l h=>intro args e;cases args with
  | nil=>cases e
  | cons p l=>cases l<;>first| exact ⟨⟨rfl,h⟩,trivial⟩| (simp at e)
theorem zB.lw (h:zB P o ins bxs W V av bs) (hl:LeL ys (ins.map (·.2))):zB P o (zipI ins ys) bxs W V av bs:=h.le (zFJ hl rfl)
section
variable {P:Program} {o:Oper} {f:FuncId} {args:List Operand} {ts:Array TypeId} {ins wc:List AV}
def lcK (xs wc:List AV) (D:List Nat) (s:Nat):Bool:=(xs.all fun a=>subN (zry a) D)&& !D.isEmpty&&wc.all (zsx [1] D s)
theorem lcl (xs:List AV) (D:List Nat) (s:Nat) (hc:∀as w,(callFunc f as).run P w= .ok (.enter f as) w) (ok:FnOk P f ins wc) (ho:o.op= .call ⟨.value (.func f),args.toArray,ts⟩:=by rfl)
  (hin:xs.map inAV=ins:=by kernel_rfl) (wb:xs.length=args.length:=by rfl) (h:lcK xs wc D s=true:=by kernel_rfl):zB P o (args.zip xs) [] [] (wc.flatMap (zeT s)) (zlR (wc.map (zkX D s))) []:=by
 simp only [lcK,xy,x9] at h;exact zCK xs D s ho hc ok hin wb h.1.1 h.1.2 h.2
theorem lc0 (s:Nat) (hc:∀as w,(callFunc f as).run P w= .ok (.enter f as) w) (ok:FnOk P f ins wc) (ho:o.op= .call ⟨.value (.func f),args.toArray,ts⟩:=by rfl)
  (hin:ins.map inAV=ins:=by kernel_rfl) (wb:ins.length=args.length:=by rfl) (h:lcK ins wc [0] s=true:=by kernel_rfl):zB P o (args.zip ins) [] [] (wc.flatMap (zeT s)) (zlR (wc.map (zkX [0] s))) []:=lcl ins [0] s hc ok ho hin wb h
theorem lcw (xs:List AV) (D:List Nat) (s:Nat) (hc:∀as w,(callFunc f as).run P w= .ok (.enter f as) w) (ok:FnOk P f ins wc) (hl:LeL ys xs) (ho:o.op= .call ⟨.value (.func f),args.toArray,ts⟩:=by rfl)
  (hin:xs.map inAV=ins:=by kernel_rfl) (wb:xs.length=args.length:=by rfl) (h:lcK xs wc D s=true:=by kernel_rfl):zB P o (args.zip ys) [] [] (wc.flatMap (zeT s)) (zlR (wc.map (zkX D s))) []:=(lcl xs D s hc ok ho hin wb h).le (zFI hl wb)
theorem lw0 (s:Nat) (hc:∀as w,(callFunc f as).run P w= .ok (.enter f as) w) (ok:FnOk P f ins wc) (hl:LeL ys ins) (ho:o.op= .call ⟨.value (.func f),args.toArray,ts⟩:=by rfl)
  (hin:ins.map inAV=ins:=by kernel_rfl) (wb:ins.length=args.length:=by rfl) (h:lcK ins wc [0] s=true:=by kernel_rfl):zB P o (args.zip ys) [] [] (wc.flatMap (zeT s)) (zlR (wc.map (zkX [0] s))) []:=lcw ins [0] s hc ok hl ho hin wb h
theorem lbx {α:Type} {r:Rp α} {x:α} {as:List AV} {y:Operand} {t:TypeId} (ℓ:Nat) (C:List Nat) (ha:zeO as=some (r.lv x)) (ho:o.op= .box t y:=by rfl) (hl:as.all (zpb C)=true:=by rfl):zB P o [(y,.rc r C x)] [] [] [ℓ] (.ptr ℓ 0) [⟨ℓ,t,as⟩]:=
 zhC ℓ as C ho rfl (zoL C) ha hl
theorem ldw (ℓ tb:Nat) (m:List AV) (hT:AggT P t n) (ho:o.op= .load t y:=by rfl) (hn:Nat.beq m.length n=true:=by kernel_rfl) (hm:m.take n=m:=by kernel_rfl):zB P o [(y,.ptr ℓ 0)] [⟨ℓ,tb,m⟩] [] [] (.ag m) []:=
 zCM (b:=⟨ℓ,tb,m⟩) m ho hT hm hn
theorem stw (b:Bx) (off:Nat) (l:List AV) (wh:∀w,(sizeOf t).run P w= .ok n w) (ho:o.op= .store t y z:=by rfl) (hn:Nat.beq l.length n=true:=by rfl) (hoff:Nat.ble (off+n) b.avs.length=true:=by rfl) (hf:AV.free [b.lab] [] (.ag l)=true:=by rfl):
  zB P o [(y,.ptr b.lab off),(z,.ag l)] [b] [b.lab] [] .any [⟨b.lab,b.typ,(b.avs.map (AV.clear [b.lab] [])).take off++l++(b.avs.map (AV.clear [b.lab] [])).drop (off+n)⟩]:=zCO l ho wh hn hoff hf
def dedN:List Nat->List Nat
 | []=>[]
 | x::l=>x::(dedN l).filter fun y=> !Nat.beq y x
def colD (xs:List AV):List Nat:=match dedN (xs.flatMap zry) with
 | []=>[1]
 | l=>l
theorem lcd (xs:List AV) (s:Nat) (hc:∀as w,(callFunc f as).run P w= .ok (.enter f as) w) (ok:FnOk P f ins wc) (ho:o.op= .call ⟨.value (.func f),args.toArray,ts⟩:=by rfl)
  (hin:xs.map inAV=ins:=by kernel_rfl) (wb:xs.length=args.length:=by rfl) (h:lcK xs wc (colD xs) s=true:=by kernel_rfl):zB P o (args.zip xs) [] [] (wc.flatMap (zeT s)) (zlR (wc.map (zkX (colD xs) s))) []:=lcl xs (colD xs) s hc ok ho hin wb h
def rpZ (n:Nat):Rp Empty:=⟨n+1,true,nofun,nofun,Nat.succ_pos n⟩
def nil1 (a:AV):LV->AV
 | .sl _ (n+1) _=>match nilA a with
  | true=> .sl (rpZ n) [] []
  | false=>a
 | _=>a
theorem zHM (a:AV) (v:LV):AV.le a (nil1 a v)/\∀c∈AV.cols (nil1 a v),c∈AV.cols a:=by
 unfold nil1;split
 ·split
  ·rename_i h;rw [zyk h];exact ⟨zff _ _,fun c hc=>by simp [AV.cols] at hc⟩
  ·exact ⟨AV.le_refl _,fun c hc=>hc⟩
 ·exact ⟨AV.le_refl _,fun c hc=>hc⟩
def nilZ:List AV->List LV->List AV
 | a::l,v::lv=>nil1 a v::nilZ l lv
 | _,_=>[]
theorem zCT:∀{l:List AV} {lv:List LV},l.length=lv.length->leL l (nilZ l lv)/\∀c∈AV.colsL (nilZ l lv),c∈AV.colsL l
 | [],[],_=>⟨trivial,fun c h=>h⟩
 | [],_::_,h=>by simp at h
 | _::_,[],h=>by simp at h
 | a::l,v::lv,h=>by
  obtain ⟨h1,h2⟩:=zCT (l:=l) (lv:=lv) (by simpa using h);obtain ⟨h3,h4⟩:=zHM a v;refine ⟨⟨h3,h1⟩,fun c hc=>?_⟩;simp only [nilZ,AV.colsL,xB] at hc|-;exact hc.imp (h4 c) (h2 c)
theorem zJp {α:Type} {r:Rp α} {x:α} {l:List AV} {lv:List LV} (e:r.lv x=lv) (hn:Nat.beq l.length lv.length=true) (hl:zeO (nilZ l lv)=some lv):AV.le (.ag l) (.rc r (AV.colsL l) x):=by
 obtain ⟨h1,h2⟩:=zCT (xE hn);refine zIO (zFK h1) (zjD r _ x _ (by rw [e];exact hl) ?_);simp only [subN,xG];exact fun c hc=>zaC.2 (h2 c hc)
inductive LeZ:List AV->List AV->List AV->Prop
 | n:LeZ [] [] []
 | k {a:AV} {ys is xs:List AV} (h:LeZ ys is xs):LeZ (a::ys) (inAV a::is) (a::xs)
 | c {α:Type} {r:Rp α} {x:α} {l:List AV} {lv:List LV} {ys is xs:List AV} (e:r.lv x=lv) (h:LeZ ys is xs) (hn:Nat.beq l.length lv.length=true:=by kernel_rfl) (hl:zeO (nilZ l lv)=some lv:=by kernel_rfl):LeZ (.ag l::ys) (.rc r [0] x::is) (.rc r (AV.colsL l) x::xs)
theorem LeZ.ok {ys is xs:List AV} (h:LeZ ys is xs):xs.map inAV=is/\xs.length=ys.length/\∀{args:List Operand},leI (args.zip ys) (args.zip xs):=by
 induction h with
 | n=>exact ⟨rfl,rfl,by intro args;cases args<;>trivial⟩
 | k _ ih=>exact ⟨by simp [ih.1],by simp [ih.2.1],by intro args;cases args with
  | nil=>trivial
  | cons p q=>exact ⟨⟨rfl,AV.le_refl _⟩,ih.2.2⟩⟩
 | c e _ hn hl ih=>exact ⟨by simp [ih.1,inAV,zui],by simp [ih.2.1],by intro args;cases args with
  | nil=>trivial
  | cons p q=>exact ⟨⟨rfl,zJp e hn hl⟩,ih.2.2⟩⟩
theorem lcz (ys:List AV) (s:Nat) (hc:∀as w,(callFunc f as).run P w= .ok (.enter f as) w) (ok:FnOk P f ins wc) (hz:LeZ ys ins xs) (ho:o.op= .call ⟨.value (.func f),args.toArray,ts⟩:=by rfl)
  (wb:ys.length=args.length:=by rfl) (h:lcK xs wc (colD xs) s=true:=by kernel_rfl):zB P o (args.zip ys) [] [] (wc.flatMap (zeT s)) (zlR (wc.map (zkX (colD xs) s))) []:=
 (lcl xs (colD xs) s hc ok ho hz.ok.1 (hz.ok.2.1.trans wb) h).le hz.ok.2.2
theorem las {α:Type} {r:Rp α} {xs ys zs:List α} {t e:TypeId} {x y:Operand} {bytes:Nat} (ℓ:Nat) (C D C2:List Nat) (hT:ElT P t e r.size bytes) (hz:app bytes xs ys=some zs) (hC:r.Plain\/(subN C C2&&subN D C2)=true)
  (ho:o.op= .call ⟨.builtin .append,#[x,y],#[t,t]⟩:=by rfl) (hb:Nat.blt 0 bytes=true:=by rfl) (hℓ:memN ℓ C2=false:=by rfl):zB P o [(x,.own r e ℓ C xs),(y,.sl r D ys)] [] [ℓ] [ℓ] (.own r e ℓ C2 zs) []:=
 zBt ℓ C2 ho hT hb (zrz _ _ _ _ _) (zcH _ _ _) hz hC hℓ
theorem lao {α:Type} {r:Rp α} {xs ys zs:List α} {t e:TypeId} {x y:Operand} {bytes:Nat} (ℓ:Nat) (C:List Nat) (e' k:Nat) (D C2:List Nat) (hT:ElT P t e r.size bytes) (hz:app bytes xs ys=some zs) (hC:r.Plain\/(subN C C2&&subN (k::D) C2)=true)
  (ho:o.op= .call ⟨.builtin .append,#[x,y],#[t,t]⟩:=by rfl) (hb:Nat.blt 0 bytes=true:=by rfl) (hℓ:memN ℓ C2=false:=by rfl):zB P o [(x,.own r e ℓ C xs),(y,.own r e' k D ys)] [] [ℓ] [ℓ] (.own r e ℓ C2 zs) []:=
 zBt ℓ C2 ho hT hb (zrz _ _ _ _ _) (zko _ _ _ _ _) hz hC hℓ
theorem lde {α:Type} {t:TypeId} {y:Operand} (r:Rp α) (D:List Nat) (x:α) (hT:AggT P t r.size) (ho:o.op= .load t y:=by rfl):zB P o [(y,.ep r D x 0)] [] [] [] (.rc r D x) []:=zJx ho hT
theorem ldl {α β:Type} {t:TypeId} {y:Operand} (r:Rp α) (D:List Nat) (x:α) (off:Nat) (r':Rp β) (xs:List β) (hs:(r.lv x)[off]? =some (.sl xs.length r'.size (xs.flatMap r'.lv)):=by rfl) (ho:o.op= .load t y:=by rfl) (hT:zdx P t=true:=by rfl):
  zB P o [(y,.ep r D x off)] [] [] [] (.sl r' D xs) []:=zJy r' xs ho hT hs
theorem lbs1 {α:Type} {r:Rp α} {t e:TypeId} {y:Operand} {bytes:Nat} {x0:α} (ℓ:Nat) (C:List Nat) (x:α) (hT:ZeT P t e r bytes x0) (ho:o.op= .buildSlice t 1 [(0,y)].toArray:=by rfl) (hn:(Nat.ble (1*r.size) 16777216&& !memN ℓ C)=true:=by rfl):
  zB P o [(y,.rc r C x)] [] [] [ℓ] (.own r e ℓ C [x]) []:=by
 simp only [xy,x9] at hn;have h1:=r.len x;have h0:=r.len x0;refine zjl (wz:=[(0,y)]) [.rc r C x] ℓ C [x] ho hT (by rw [hn.1];rfl) (by simp [AV.colsL,AV.cols,zoL]) hn.2 ?_;simp [zze,zoy,zmt,zws,List.replicate,h0,h1,zqL,Nat.ble_eq_true_of_le]
theorem lbd {wz:List (Nat×Operand)} (as:List AV) (hT:StA P t places zs) (ho:o.op= .build t wz.toArray:=by rfl) (hf:zzd (fun i=>places[i]?) zs wz as=some as:=by rfl):
  zB P o ((wz.map (·.2)).zip as) [] [] [] (.ag as) []:=zlI as as ho hT hf
variable {N:Lim} {ops:Array Oper} {vZ:List Oper} {E E':Env}
theorem rx {α:Type} {r:Rp α} {xs:List α} {i:Int} {x:α} {t e:TypeId} {y z:Operand} {bytes:Nat} (n:Nat) (C:List Nat) (hT:ElT P t e r.size bytes) (hx:idx xs i=some x) (ho:nthO vZ n=some o) (hq:o.op= .indexAddr t y z)
  (k:zbj P N ops (vZ.drop (n+1)) (zxk P N ops vZ n [] o E [y,z] [] [] [] (.ep r C x 0) []) E')
  (h:zxj P N ops vZ n [] o E [y,z] [] [] [] (.ep r C x 0) []=some ([.sl r C xs,.lf (.int .i64 i)],[]):=by kernel_rfl):zbj P N ops vZ E E':=rc n ho (zwM hq hT (zcH r xs C) hx) k h
theorem rsI {α:Type} {p q:Option α} {v:α} {b:Bool} (n t:Nat) (h:(if b then p else q)=some v) (h1:b=true->p=some v->zbj P N ops (vZ.drop n) ⟨zhe (some t) (.lf (.bool true)) (endE P N ops (vZ.take n) [] E).sl,(endE P N ops (vZ.take n) [] E).bx⟩ E')
  (h0:b=false->q=some v->zbj P N ops (vZ.drop n) ⟨zhe (some t) (.lf (.bool false)) (endE P N ops (vZ.take n) [] E).sl,(endE P N ops (vZ.take n) [] E).bx⟩ E')
  (hk:splC P N ops (vZ.take n) [] E t=some (.lf (.bool b)):=by kernel_rfl):zbj P N ops vZ E E':=rsl n [] t b (fun e=>h1 e (iteT h e)) (fun e=>h0 e (iteF h e)) hk
end
theorem jg {m:Bool} {P:Program} {l:List It} {cx:Cx} {E:Env} {Q:Exit->Act->World->Prop} {id:Nat} {ops:List Oper} (ks ls:List Nat) (nw:List (Nat×AV)) (h:zbj P cx.n ops.toArray ops E ⟨nw++(znJ ks ls E).sl,(znJ ks ls E).bx⟩)
  (k:JI m P l (Sx cx ⟨nw++(znJ ks ls E).sl,(znJ ks ls E).bx⟩) Q):JI m P (.c (.region id ops.toArray false)::l) (Sx cx E) Q:=zjQ _ h k
def frA (ℓ:Nat) (x:AV):AV:=match AV.free [ℓ] [] x with
 | true=>x
 | false=> .any
def isOm (ℓ:Nat):AV->Bool
 | .om _ _ k _ _=>Nat.beq k ℓ
 | _=>false
def zAu (ℓ:Nat) (a' x:AV):AV:=match isOm ℓ x with
 | true=>a'
 | false=>frA ℓ x
def oms0 (ℓ:Nat) (x:AV):List AV:=match isOm ℓ x with
 | true=>[x]
 | false=>[]
def zxp (ℓ:Nat) (a':AV):AV->AV
 | .ag l=> .ag (l.map (zAu ℓ a'))
 | x=>zAu ℓ a' x
def oms1 (ℓ:Nat):AV->List AV
 | .ag l=>l.flatMap (oms0 ℓ)
 | x=>oms0 ℓ x
section
variable {ℓ:Nat} {a a':AV}
theorem zAv (h:∀y∈oms0 ℓ x,y=a):zsh [ℓ] [] [(a,a')] x (zAu ℓ a' x):=by
 unfold zAu;unfold oms0 at h;split
 ·rename_i e;rw [e] at h;rw [h x (by simp)];exact zgw 0 rfl
 ·unfold frA;split
  ·exact zy ‹_›
  ·exact zKa
theorem zxo:∀{l:List AV},(∀y∈l.flatMap (oms0 ℓ),y=a)->zmi [ℓ] [] [(a,a')] l (l.map (zAu ℓ a'))
 | [],_=>trivial
 | x::l,h=>⟨zAv fun y hy=>h y (by rw [xS];exact xB.2 (.inl hy)),zxo fun y hy=>h y (by rw [xS];exact xB.2 (.inr hy))⟩
theorem zAw (h:∀y∈oms1 ℓ x,y=a):zsh [ℓ] [] [(a,a')] x (zxp ℓ a' x):=by
 cases x<;>first| exact zpi (zxo h)| exact zAv h
theorem zxq:∀{l:List AV},(∀y∈l.flatMap (oms1 ℓ),y=a)->zmi [ℓ] [] [(a,a')] l (l.map (zxp ℓ a'))
 | [],_=>trivial
 | x::l,h=>⟨zAw fun y hy=>h y (by rw [xS];exact xB.2 (.inl hy)),zxq fun y hy=>h y (by rw [xS];exact xB.2 (.inr hy))⟩
def zDq (ℓ:Nat) (a':AV) (E:Env):Env:=⟨E.sl.map fun p=>(p.1,zxp ℓ a' p.2),(E.bx.filter fun b=> !Nat.beq b.lab ℓ).map fun b=>⟨b.lab,b.typ,b.avs.map (zxp ℓ a')⟩⟩
def omsE (ℓ:Nat) (E:Env):List AV:=(E.sl.flatMap fun p=>oms1 ℓ p.2)++E.bx.flatMap fun b=>b.avs.flatMap (oms1 ℓ)
theorem zGN (t:Tr [ℓ] [] γ w γ' w') (hT:∀p∈[(a,a')],zmh γ w γ' w' p) (h:omsE ℓ E=List.replicate (omsE ℓ E).length a) (hs:Sl γ w c E.sl) (hx:Bxs γ w E.bx):
  Sl γ' w' c (zDq ℓ a' E).sl/\Bxs γ' w' (zDq ℓ a' E).bx:=by
 have hm:∀y∈omsE ℓ E,y=a:=fun y hy=>by rw [h] at hy;exact List.eq_of_mem_replicate hy
 refine ⟨fun p hp=>?_,fun b hb=>?_⟩
 ·obtain ⟨q,hq,rfl⟩:=xD.1 hp;exact zAw (fun y hy=>hm y (xB.2 (.inl (yR.2 ⟨q,hq,hy⟩)))) _ _ _ _ t hT _ (hs q hq)
 ·have hB:BxT [ℓ] [] [(a,a')] E.bx ((E.bx.filter fun b=> !Nat.beq b.lab ℓ).map fun b=>⟨b.lab,b.typ,b.avs.map (zxp ℓ a')⟩)->b.rel γ' w':=fun H=>BxT.rel t hT hx H b hb
  obtain ⟨q,hq,rfl⟩:=xD.1 hb;obtain ⟨hq1,hq2⟩:=yc.1 hq;have h1:BxT [ℓ] [] [(a,a')] [q] [⟨q.lab,q.typ,q.avs.map (zxp ℓ a')⟩]:=by
   refine ⟨⟨q,by simp [zfv],rfl,?_,zxq fun y hy=>hm y (xB.2 (.inr (yR.2 ⟨q,hq1,hy⟩)))⟩,trivial⟩;have hne:Nat.beq q.lab ℓ=false:=by simpa using hq2
   simp [memN,hne]
  exact BxT.rel t hT (fun x hx'=>by cases hx' with
   | head=>exact hx q hq1
   | tail _ h=>cases h) h1 _ xw
end
def zIP (vZ:List Oper) (n:Nat):Option (TypeId×Operand×Operand×Operand):=match nthO vZ n with
 | some o=>match o.op with
  | .mapUpdate t y z u=>some (t,y,z,u)
  | .insert t y z u=>some (t,y,z,u)
  | _=>none
 | none=>none
def msK (P:Program) (N:Lim) (ops:Array Oper) (vZ:List Oper) (n:Nat) (ls:List Nat) (E:Env) (ℓ:Nat):Bool:=endB P N ops (vZ.take n) ls E&&Nat.ble 2 ℓ&&match nthO vZ n with
 | some o=>o.dst.isNone&&match zeZ ops (endE P N ops (vZ.take n) ls E) o with
  | some true=>true
  | _=>false
 | none=>false
section
variable {P:Program} {N:Lim} {ops:Array Oper} {vZ:List Oper} {E E':Env} {κ ν:Type} [DecidableEq κ] {rk:Rp κ} {rv:Rp ν} {m:List (κ×ν)} {t kt et:TypeId} {x0:ν} {y z u:Operand} {ak av:AV} {C1 D:List Nat}
theorem rts (ho:nthO vZ n=some o) (hs:zlv P o ins [ℓ] [] .any [(a,a')]) (k:zbj P N ops (vZ.drop (n+1)) (zDq ℓ a' (endE P N ops (vZ.take n) ls E)) E')
  (h1:msK P N ops vZ n ls E ℓ=true) (h2:zjn (endE P N ops (vZ.take n) ls E) (ins.map (·.1))=some (ins.map (·.2))) (h3:omsE ℓ (endE P N ops (vZ.take n) ls E)=List.replicate (omsE ℓ (endE P N ops (vZ.take n) ls E)).length a):zbj P N ops vZ E E':=by
 unfold msK at h1;rw [ho] at h1;simp only [xy] at h1;obtain ⟨⟨c1,c2⟩,c3,c4⟩:=h1;refine zjV n (ztW c1) ?_;rw [zlL ho];split at c4
 ·rename_i hg;intro cx c w Q hn hx hQ;obtain ⟨γ,hb,hsl,hbx⟩:=hx;refine ziS (zfw hg hsl) (hs γ c w ((zms h2).rel hsl) _ Q fun γ' w' v ht hv hT=>?_);have hd:o.dst=none:=by simpa using c3
  obtain ⟨g1,g2⟩:=zGN (c:=c) ht hT h3 hsl hbx;rw [hd];exact k cx _ _ Q hn ⟨γ',hb.tr ht (by simp only [okW,c2];rfl) rfl,g1,g2⟩ hQ
 ·cases c4
theorem rms (n:Nat) (ls:List Nat) (ℓ:Nat) (C:List Nat) (m:List (κ×ν)) (k:κ) (x:ν) (C2:List Nat) (hT:MapT P t kt et rk rv x0) (hka:asV rk k C1 ak) (hva:asV rv x D av)
  (kk:zbj P N ops (vZ.drop (n+1)) (zDq ℓ (.om rk rv ℓ C2 (mput m k x)) (endE P N ops (vZ.take n) ls E)) E') (ho:zIP vZ n=some (t,y,z,u):=by rfl)
  (h1:(msK P N ops vZ n ls E ℓ&&(subN C C2&&subN C1 C2&&subN D C2&& !memN ℓ C2))=true:=by kernel_rfl) (h2:zjn (endE P N ops (vZ.take n) ls E) [y,z,u]=some [.om rk rv ℓ C m,ak,av]:=by kernel_rfl)
  (h3:omsE ℓ (endE P N ops (vZ.take n) ls E)=List.replicate (omsE ℓ (endE P N ops (vZ.take n) ls E)).length (.om rk rv ℓ C m):=by kernel_rfl):zbj P N ops vZ E E':=by
 rw [xy] at h1;unfold zIP at ho;split at ho
 ·rename_i o hn;refine rts hn (ins:=[(y,.om rk rv ℓ C m),(z,ak),(u,av)]) (zIg k x C2 hT ?_ hka hva h1.2) kk h1.1 h2 h3;split at ho
  ·rename_i hop;cases ho;exact .inl hop
  ·rename_i hop;cases ho;exact .inr hop
  ·cases ho
 ·cases ho
end
theorem zyI (x:Int):u8.wrap x=x%256:=by simp [IntKind.wrap,IntKind.bits,IntKind.signed]
theorem zAN (x:Int):u32.wrap x=x%4294967296:=by simp [IntKind.wrap,IntKind.bits,IntKind.signed]
theorem wrap_u64 (x:Int):u64.wrap x=x%18446744073709551616:=by simp [IntKind.wrap,IntKind.bits,IntKind.signed]
theorem zJ (h: -9223372036854775808<=x/\x<=9223372036854775807):i64.wrap x=x:=by
 simp [IntKind.wrap,IntKind.bits,IntKind.signed];split<;>omega
theorem uq {x:Int} (h: -9223372036854775808<=x/\x<=9223372036854775807:=by omega):i64.wrap x=x:=zJ h
theorem zEM (x:Int):i32.wrap x=if x%4294967296<2147483648 then x%4294967296 else x%4294967296 - 4294967296:=by
 simp [IntKind.wrap,IntKind.bits,IntKind.signed];split<;>split<;>omega
theorem zrj {k:IntKind} (hk:k.signed=false) {n:Nat} (h:n<2^k.bits):k.wrap (n:Int)=n:=by
 have h2:(n:Int)%(2^k.bits:Int)=n:=qe (by omega) (by exact_mod_cast h);simp only [IntKind.wrap,hk,yK,h2];simp
theorem zox {b n:Nat} (h:n<2^b):(BitVec.ofInt b (n:Int)).toNat=n:=by
 rw [BitVec.toNat_ofInt];have h2:(n:Int)%((2^b:Nat):Int)=n:=qe (by omega) (by exact_mod_cast h);rw [h2];rfl
theorem zyL {k:IntKind} (hk:k.signed=false) {a b:Nat} (ha:a<2^k.bits) (hb:b<2^k.bits):andI k a b=((a&&&b:Nat):Int):=by
 unfold andI;rw [BitVec.toNat_and,zox ha,zox hb];exact zrj hk (Nat.lt_of_le_of_lt Nat.and_le_left ha)
theorem zts {k:IntKind} (hk:k.signed=false) {a b:Nat} (ha:a<2^k.bits) (hb:b<2^k.bits):orI k a b=((a||| b:Nat):Int):=by
 unfold orI;rw [BitVec.toNat_or,zox ha,zox hb];exact zrj hk (Nat.or_lt_two_pow ha hb)
theorem zqM {k:IntKind} {a b:Nat} (hb:b<=k.bits):shrI k a b=((a/2^b:Nat):Int):=by
 unfold shrI;have h2:(2:Int)^b=((2^b:Nat):Int):=by simp
 rw [xH,qx hb,h2,Int.fdiv_eq_ediv_of_nonneg _ (Int.natCast_nonneg (2^b)),Int.natCast_ediv]
theorem zuI (a c k:Nat) (h:a<2^k):a||| (c*2^k)=a+c*2^k:=by
 rw [pt,yL,<-Nat.two_pow_add_eq_or_of_lt h,pu]
theorem zCg (n m:Nat):((n:Int)==(m:Int))=decide (n=m):=by
 by_cases h:n=m
 ·simp [h]
 ·have:¬((n:Int)=m):=by omega
  simp [h,this]
theorem zaf {α:Type} {xs:List α} {i:Int} {n:Nat} (h:i=n) (hn:n<xs.length):idx xs i=some xs[n]:=by
 unfold idx;subst h;rw [xu (by omega),xH,xL hn]
theorem zhx {α:Type} {xs:List α} {i j:Int} {a b:Nat} (hi:i=a) (hj:j=b) (h:a<=b) (hb:b<=xs.length):cut xs i j=some ((xs.drop a).take (b - a)):=by
 unfold cut;subst hi hj;rw [xu (by omega),xH,xH]
theorem zpY {α:Type} {xs:List α} {i j:Int} {a:Nat} (hi:i=a) (hj:j=(xs.length:Int)) (h:a<=xs.length):cut xs i j=some (xs.drop a):=by
 rw [zhx hi hj h (xA _),yz (by simp)]
theorem ztT {α:Type} {xs:List α} {j:Int} {b:Nat} (hj:j=b) (hb:b<=xs.length):cut xs 0 j=some (xs.take b):=by
 have:=zhx (xs:=xs) (i:=0) (a:=0) rfl hj (xI _) hb;simpa using this
theorem zhw {α:Type} {bytes:Nat} {xs ys:List α} (h:(xs.length+ys.length)*bytes<=140737488355328):app bytes xs ys=some (xs++ys):=by
 unfold app LIM;rw [xu h]
theorem znC {α:Type} {bytes:Nat} {x0:α} {n m:Int} {a:Nat} (hn:n=a) (h:n<=m) (hm:m*bytes<=140737488355328):mkO bytes x0 n m=some (List.replicate a x0):=by
 unfold mkO LIM;subst hn;rw [xu ⟨by omega,h,hm⟩,xH]
theorem zHK {α:Type} {bytes:Nat} {x0:α} {m:Int} (h:0<=m) (hm:m*bytes<=140737488355328):mkO bytes x0 0 m=some []:=by
 have:=znC (x0:=x0) (n:=0) (a:=0) rfl h hm;simpa using this
theorem zyW (h:x=(c.toNat:Int)):zoY x=some c:=by
 unfold zoY;subst h;have:=c.toNat_lt;rw [xu (by omega),xH,UInt8.ofNat_toNat]
theorem zwj {x:Int} {n:Nat} (h:x=n) (hn:n<256):zoY x=some (UInt8.ofNat n):=by
 refine zyW ?_;rw [h,UInt8.toNat_ofNat'];congr 1;omega
theorem zCH {l:List UInt8} (h:l.length<=9223372036854775807):lenO l=some l:=by unfold lenO;rw [xu h]
theorem zAj {k:IntKind} {x:Int} {n:Nat}:shlO k x n=some (shlI k x n):=by unfold shlO;rw [xt (by omega)]
theorem zGv {k:IntKind} {x:Int} {n:Nat}:shrO k x n=some (shrI k x n):=by unfold shrO;rw [xt (by omega)]
theorem sb {α β:Type} {a:α} {f:α->Option β}:((some a:Option α)>>=f)=f a:=rfl
theorem itT {α:Type} {c:Bool} {x y:α} (h:c=true):(if c then x else y)=x:=by rw [h];rfl
theorem uo {α:Type} {c:Bool} {x y:α} (h:c=true:=by simp;omega):(if c then x else y)=x:=itT h
theorem uj {α:Type} {c:Bool} {x y:α} (h:c=true:=by rfl):(if c then x else y)=x:=itT h
theorem itF {α:Type} {c:Bool} {x y:α} (h:c=false):(if c then x else y)=y:=by rw [h];rfl
theorem up {α:Type} {c:Bool} {x y:α} (h:c=false:=by simp;omega):(if c then x else y)=y:=itF h
theorem ul {α:Type} {c:Bool} {x y:α} (h:c=false:=by simp):(if c then x else y)=y:=itF h
theorem uk {α:Type} {c:Bool} {x y:α} (h:c=false:=by rfl):(if c then x else y)=y:=itF h
open Go.RowKit (wrap32 wrap64)
def sgnS (x:Int):Int:=if x%4294967296<2147483648 then x%4294967296 else x%4294967296 - 4294967296
def zsI (x:Int):Int:=if 0<=x then x else x+18446744073709551616
def lenN (n:Nat):Nat:=if n<128 then 1 else lenN (n/128)+1
termination_by n
decreasing_by omega
def zfy:Nat->Nat->List UInt8
 | 0,_=>[]
 | k+1,w=>UInt8.ofNat (w%256)::zfy k (w/256)
def word:List UInt8->Nat
 | []=>0
 | c::r=>c.toNat+256*word r
theorem zBL (x:Int): -2147483648<=sgnS x/\sgnS x<=2147483647:=by unfold sgnS;split<;>omega
theorem zIr (h: -9223372036854775808<=x/\x<=9223372036854775807):0<=zsI x/\zsI x<=18446744073709551615:=by unfold zsI;split<;>omega
theorem zGu {x:Int} (h: -2147483648<=x/\x<=2147483647):sgnS (zsI x)=x:=by unfold sgnS zsI;split<;>split<;>omega
theorem zzH (n:Nat):1<=lenN n:=by unfold lenN;split<;>omega
theorem zhB (h:n<128):lenN n=1:=by rw [lenN,xu h]
theorem zjE (h:¬n<128):lenN n=lenN (n/128)+1:=by rw [lenN,xt h]
theorem zHC:∀(k n:Nat),n<128^k->0<k->lenN n<=k:=by
 intro k
 induction k with
 | zero=>intro n _ h;omega
 | succ k ih=>
  intro n hn _;by_cases h:n<128
  ·rw [zhB h];omega
  ·rw [zjE h];have h1:n/128<128^k:=by rw [yD] at hn;exact Nat.div_lt_of_lt_mul (by omega)
   have h2:0<k:=by
    rcases pL k with rfl| h
    ·simp at h1;omega
    ·exact h
   have:=ih _ h1 h2;omega
theorem zuq (h:n<18446744073709551616):lenN n<=10:=zHC 10 n (by omega) (by omega)
def lz (m:Nat):Nat:=if m=0 then 0 else lenN m
theorem zJB (h:m≠0):lz m=lz (m/128)+1:=by
 unfold lz;rw [xt h];split
 ·rw [zhB (by omega)]
 ·rw [zjE (by omega)]
theorem zJA (n:Nat):lenN n=1+lz (n/128):=by
 unfold lz;split
 ·rw [zhB (by omega)]
 ·rw [zjE (by omega),pu]
theorem zaZ:∀(k n:Nat),(zfy k n).length=k
 | 0,_=>rfl
 | k+1,n=>by simp [zfy,zaZ k]
theorem zoh:∀(k n:Nat),word (zfy k n)=n%256^k
 | 0,n=>by simp [zfy,word,Nat.mod_one]
 | k+1,n=>by
  rw [zfy,word,zoh k];have:(UInt8.ofNat (n%256)).toNat=n%256:=by simp
  rw [this,yD,yL (256^k),Nat.mod_mul]
theorem zsr:∀(k n:Nat),zfy (k+1) n=zfy k n++[UInt8.ofNat (n/256^k%256)]
 | 0,n=>by simp [zfy]
 | k+1,n=>by
  rw [zfy,zsr k,zfy];simp only [yk,qa,List.append_cancel_left_eq,qI,yV];rw [Nat.div_div_eq_div_mul,yD,yL (256^k)]
def zgq (n m j:Nat):List UInt8:=zfy j m++List.replicate (n - j) 0
theorem zye (n m:Nat):zgq n m 0=List.replicate n 0:=by simp [zgq,zfy]
theorem zzJ (n m:Nat):zgq n m n=zfy n m:=by simp [zgq]
theorem zur {n m j:Nat} (h:j<=n):(zgq n m j).length=n:=by simp [zgq,zaZ];omega
theorem zzK {n m j:Nat} (h:j<n):(zgq n m j).set j (UInt8.ofNat (m/256^j%256))=zgq n m (j+1):=by
 unfold zgq;rw [zsr,List.set_append,xt (by rw [zaZ];omega),zaZ,qX,show n - j=(n - (j+1))+1 from by omega,pH,List.set_cons_zero,ym];rfl
theorem ztx (j:Nat):2^(8*j)=256^j:=by rw [Nat.pow_mul]
theorem zzN (m j:Nat):((m/256^j:Nat):Int)%256=((UInt8.ofNat (m/256^j%256)).toNat:Int):=by
 have e:(UInt8.ofNat (m/256^j%256)).toNat=m/256^j%256:=by simp
 rw [e,Int.natCast_emod];rfl
theorem zyG:∀(l:List UInt8),word l<256^l.length
 | []=>by simp [word]
 | c::r=>by
  have h1:=zyG r;have h2:=c.toNat_lt;simp only [word,xK,yD];omega
theorem zxt:∀(l:List UInt8) (c:UInt8),word (l++[c])=word l+c.toNat*256^l.length
 | [],c=>by simp [word]
 | d::r,c=>by
  simp only [yk,word,xK,zxt r c,yD];rw [Nat.mul_add,<-qb,yL 256 c.toNat,qb c.toNat,yL (256^r.length)];omega
theorem zHQ (a c k:Nat) (h:a<2^k):a||| (c*2^k)=a+c*2^k:=by
 have:=Nat.shiftLeft_add_eq_or_of_lt h c;rw [Nat.shiftLeft_eq] at this;rw [pt,<-this,pu]
theorem zBD (h:j<=7):256^j<=72057594037927936:=by
 have:=qY (n:=256) (by omega) h;simpa using this
theorem zIu (a d j:Nat) (hj:j<8) (hd:d<256) (ha:a<256^j):
  bits .or .u64 (a:Int) (u64.wrap ((d:Int)*2^(8*j)))=((a+d*256^j:Nat):Int):=by
 have hp:=zBD (show j<=7 by omega);have hm:d*256^j<=255*72057594037927936:=pV (by omega) hp;have e:((d:Int)*2^(8*j))=((d*256^j:Nat):Int):=by
  rw [<-ztx,Int.natCast_mul,Int.natCast_pow];rfl
 rw [e,IntKind.wrap_u64,qe (by omega) (by omega),bits_or_u64_nat _ _ (by omega) (by omega),<-ztx,zHQ _ _ _ (by rw [ztx];exact ha)]
theorem zJg (h:(Lit.int .u64 x).wf=true):0<=x/\x<=18446744073709551615:=by simpa [Lit.wf,IntKind.min,IntKind.max,IntKind.bits,IntKind.signed] using h
end Go.Proofs.YtkgohoggipdokaaGreat

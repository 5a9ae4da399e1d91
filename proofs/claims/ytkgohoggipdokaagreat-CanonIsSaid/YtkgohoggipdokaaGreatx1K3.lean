/-
  What every proof here stands on. No condition.
-/
import Derived.Laws.Bits64b
import Derived.IntWalk
import Derived.RowKit
import Derived.Test.YtkgohoggipdokaaGreatx1K2
import Derived.Test.YtkgohoggipdokaaGreatx1K1
set_option autoImplicit true
set_option relaxedAutoImplicit true
namespace Go.Proofs.YtkgohoggipdokaaGreat
open Go.IntKind (i32 i64 u32 u64 u8)
open Go Go.RowKit
set_option linter.unusedVariables false
def nilA:AV->Bool
 | .lf (.val (.slice none 0 0))=>true
 | _=>false
theorem zBQ (h:nilA a=true):a= .lf (.val (.slice none 0 0)):=by
 unfold nilA at h;split at h
 ·rfl
 ·cases h
def wk0 (a:AV):AV->AV
 | .any=> .any
 | .own r e ℓ C _=>match nilA a with
  | true=>match memN ℓ C with
   | false=> .own r e ℓ C []
   | true=>a
  | false=>match a with
   | .own r e ℓ D xs=>match subN D C&& !memN ℓ C with
    | true=> .own r e ℓ C xs
    | false=>a
   | _=>a
 | .sl r C _=>match nilA a with
  | true=> .sl r C []
  | false=>match a with
   | .own r e ℓ D xs=>match subN (ℓ::D) C with
    | true=> .sl r C xs
    | false=>a
   | .sl r D xs=>match subN D C with
    | true=> .sl r C xs
    | false=>a
   | _=>a
 | .rc _ C _=>match a with
  | .rc r D x=>match subN D C with
   | true=> .rc r C x
   | false=>a
  | _=>a
 | .qp r C _=>match a with
  | .lf (.val (.pointer none))=> .qp r C none
  | .qp r D o=>match subN D C with
   | true=> .qp r C o
   | false=>a
  | _=>a
 | .mp _ _ C _=>match a with
  | .mp rk rv D m=>match subN D C with
   | true=> .mp rk rv C m
   | false=>a
  | .om rk rv ℓ D m=>match subN (ℓ::D) C with
   | true=> .mp rk rv C m
   | false=>a
  | @AV.mo _ _ _ rk r _ ℓ D m=>match subN (ℓ::D) C with
   | true=> .mp rk (Rp.list r) C m
   | false=>a
  | _=>a
 | .om _ _ _ C _=>match a with
  | .om rk rv ℓ D m=>match subN D C&& !memN ℓ C with
   | true=> .om rk rv ℓ C m
   | false=>a
  | _=>a
 | @AV.mo _ _ _ _ _ _ _ C _=>match a with
  | @AV.mo _ _ _ rk r e ℓ D m=>match subN D C&& !memN ℓ C with
   | true=> .mo rk r e ℓ C m
   | false=>a
  | _=>a
 | _=>a
theorem andN (h:(a&& !b)=true):a=true/\b=false:=by simpa using h
theorem zKW (a b:AV):AV.le a (wk0 a b):=by
 unfold wk0;split
 ·exact zNq _
 ·split
  ·rename_i h;rw [zBQ h];split
   ·exact zsP _ _ _ _ ‹_›
   ·exact AV.le_refl _
  ·split
   ·split
    ·rename_i h;exact zNt _ _ _ _ _ _ (andN h).1 (andN h).2
    ·exact AV.le_refl _
   ·exact AV.le_refl _
 ·split
  ·rename_i h;rw [zBQ h];exact zha _ _
  ·split
   ·split
    ·exact zNv _ _ _ _ _ _ ‹_›
    ·exact AV.le_refl _
   ·split
    ·exact zOy _ _ _ _ ‹_›
    ·exact AV.le_refl _
   ·exact AV.le_refl _
 ·split
  ·split
   ·exact zOx _ _ _ _ ‹_›
   ·exact AV.le_refl _
  ·exact AV.le_refl _
 ·split
  ·exact zHP _ _
  ·split
   ·exact zOw _ _ _ _ ‹_›
   ·exact AV.le_refl _
  ·exact AV.le_refl _
 ·split
  ·split
   ·exact zJE _ _ _ ‹_›
   ·exact AV.le_refl _
  ·split
   ·exact zNs _ _ _ _ ‹_›
   ·exact AV.le_refl _
  ·split
   ·exact zNr _ _ _ _ _ _ _ ‹_›
   ·exact AV.le_refl _
  ·exact AV.le_refl _
 ·split
  ·split
   ·rename_i h;exact zOv _ _ _ _ (andN h).1 (andN h).2
   ·exact AV.le_refl _
  ·exact AV.le_refl _
 ·split
  ·split
   ·rename_i h;exact zOu _ _ _ _ _ _ _ (andN h).1 (andN h).2
   ·exact AV.le_refl _
  ·exact AV.le_refl _
 ·exact AV.le_refl _
theorem zzh (hf:∀a b,AV.le a (f a b)):∀{l m:List AV},l.length=m.length->leL l (zipA f l m)
 | [],[],_=>trivial
 | [],_::_,h=>by simp at h
 | _::_,[],h=>by simp at h
 | x::l,y::m,h=>⟨hf x y,zzh hf (by simpa using h)⟩
def wk1 (a:AV):AV->AV
 | .ag m=>match a with
  | .ag l=>match Nat.beq l.length m.length with
   | true=> .ag (zipA wk0 l m)
   | false=>a
  | _=>a
 | b=>wk0 a b
theorem zKX (a b:AV):AV.le a (wk1 a b):=by
 unfold wk1;split
 ·split
  ·split
   ·exact zJD (zzh zKW (xK ‹_›))
   ·exact AV.le_refl _
  ·exact AV.le_refl _
 ·exact zKW _ _
def wkS (E:Env) (l:List (Nat×AV)):List (Nat×AV):=l.map fun p=>(p.1,match lookup E.sl p.1 with
 | some a=>wk1 a p.2
 | none=> .any)
def wkB (E:Env):List Bx->Option (List Bx)
 | []=>some []
 | b::l=>match zhp E.bx b.lab,wkB E l with
  | some c,some r=>match Nat.beq c.avs.length b.avs.length with
   | true=>some (⟨c.lab,c.typ,zipA wk1 c.avs b.avs⟩::r)
   | false=>none
  | _,_=>none
theorem zKY (h:Bxs γ w E.bx):∀{l r:List Bx},wkB E l=some r->Bxs γ w r
 | [],r,e=>by cases e;exact fun b hb=>by cases hb
 | b::l,r,e=>by
  rw [wkB] at e;split at e
  ·rename_i c r' h1 h2;split at e
   ·rename_i hn;cases e;intro x hx;cases hx with
    | head=>
     obtain ⟨g,cs,hh,hr,h1c⟩:=h c (zef h1).1;exact ⟨g,cs,hh,zrN (zzh zKX (xK hn)) hr,h1c⟩
    | tail _ hx=>exact zKY h h2 x hx
   ·cases e
  ·cases e
def wkE (E E':Env):Option Env:=match wkB E E'.bx with
 | some l=>some ⟨wkS E E'.sl,l⟩
 | none=>none
theorem lw (h:wkE E E'=some E':=by kernel_rfl):zdP E E':=by
 intro cx a w hs;obtain ⟨γ,hB,hS,hX⟩:=hs;unfold wkE at h;split at h
 ·rename_i l hl;have e:(⟨wkS E E'.sl,l⟩:Env)=E':=qk h;rw [<-e];refine ⟨γ,hB,fun p hp=>?_,zKY hX hl⟩;obtain ⟨q,_,rfl⟩:=xH.1 hp;simp only;split
  ·rename_i a0 ha;exact zKX _ _ _ _ _ (hS _ (zdv ha))
  ·exact trivial
 ·cases h
def zCG (fn:Func):Code:=match fn.body with
 | some c=>c
 | none=> .ret
def zyu:List ResultVar->List AV->List (Nat×AV)
 | .tmp t::rs,a::l=>(t,a)::zyu rs l
 | _,_=>[]
def hasT (t:Nat):List ResultVar->Bool
 | .tmp u::rs=>Nat.beq t u|| hasT t rs
 | _=>false
def ztY:List ResultVar->List AV->Bool
 | [],[]=>true
 | .tmp t::rs,_::l=> !hasT t rs&&ztY rs l
 | _,_=>false
theorem zAD :∀{rs:List ResultVar} {l:List AV},ztY rs l=true->lookup (zyu rs l) u=some b->hasT u rs=true
 | [],[],_,h=>by cases h
 | [],_::_,n,_=>by cases n
 | .cell ..::_,_,n,_=>by simp [ztY] at n
 | .tmp t::rs,[],n,_=>by cases n
 | .tmp t::rs,a::l,n,h=>by
  simp only [ztY,xB,yh] at n;rw [zyu,lookup] at h;rw [hasT];split at h
  ·rename_i e;have:=xK e;simp only at this;simp [this]
  ·rw [zAD n.2 h];simp
theorem zDW :∀{rs:List ResultVar} {l:List AV},ztY rs l=true->(∀t a,lookup (zyu rs l) t=some a->lookup E.sl t=some a)->zmc P E rs l
 | [],[],_,_=>trivial
 | [],_::_,n,_=>by cases n
 | .cell ..::_,_,n,_=>by simp [ztY] at n
 | .tmp t::rs,[],n,_=>by cases n
 | .tmp t::rs,a::l,n,h=>by
  simp only [ztY,xB,yh] at n;refine ⟨h t a (by rw [zyu,lookup];simp),zDW n.2 fun u b hu=>h u b ?_⟩;rw [zyu,lookup];have hne:Nat.beq t u=false:=by
   cases e:Nat.beq t u with
   | false=>rfl
   | true=>rw [xK e,zAD n.2 hu] at n;simp at n
  simp only [hne];exact hu
section
variable {P:Program} {f:FuncId} {fn:Func} {ins kj:List AV}
def hdOk (N:Nat) (fn:Func) (ins kj:List AV):Bool:=fn.body.isSome&&Nat.beq fn.ntmps N&&Nat.ble ins.length N&&ztY fn.results.toList kj
theorem zHJ (h:hdOk N fn ins kj=true):fn.body=some (zCG fn)/\fn.ntmps=N/\Nat.ble ins.length N=true/\ztY fn.results.toList kj=true:=by
 simp only [hdOk,xB] at h;obtain ⟨⟨⟨h1,h2⟩,h3⟩,h4⟩:=h;refine ⟨?_,xK h2,h3,h4⟩;unfold zCG;cases e:fn.body with
 | none=>rw [e] at h1;cases h1
 | some c=>rfl
theorem fi (N:Nat) (hf:P.funcs[f]? =some fn) (hj:∀X:Ext,JI true P (zjD (zCG fn) []) (Sx ⟨⟨N,[]⟩,X,false,#[]⟩ ⟨znV 0 ins,[]⟩) fun e a w=>e= .ret/\Sx ⟨⟨N,[]⟩,X,false,#[]⟩ ⟨zyu fn.results.toList kj,[]⟩ a w)
  (h:hdOk N fn ins kj=true:=by kernel_rfl):FnOk P f ins kj:=by
 obtain ⟨h1,h2,h3,h4⟩:=zHJ h;exact zzZ N hf h1 h2 h3 (zDW h4 fun _ _ e=>e) fun X=>zcw (hj X)
theorem fj (E:Env) (N:Nat) (hf:P.funcs[f]? =some fn) (hr:zmc P E fn.results.toList kj) (hj:∀X:Ext,JI true P (zjD (zCG fn) []) (Sx ⟨⟨N,[]⟩,X,false,#[]⟩ ⟨znV 0 ins,[]⟩) fun e a w=>e= .ret/\Sx ⟨⟨N,[]⟩,X,false,#[]⟩ E a w)
  (h:(fn.body.isSome&&Nat.beq fn.ntmps N&&Nat.ble ins.length N)=true:=by kernel_rfl):FnOk P f ins kj:=by
 simp only [xB] at h;refine zzZ N hf ?_ (xK h.1.2) h.2 hr fun X=>zcw (hj X)
 have h1:=h.1.1;unfold zCG;cases e:fn.body with
 | none=>rw [e] at h1;cases h1
 | some c=>rfl
end
theorem lzr :zdP E E:=fun _ _ _ h=>h
def addE (E:Env) (ks ls:List Nat) (nw:List (Nat×AV)) (nb:List Bx):Env:=⟨nw++(zrb ks ls E).sl,nb++(zrb ks ls E).bx⟩
inductive Ex
 | n (E:Env)
 | x (id:Nat) (E:Env)
 | r (E:Env)
 | N (ks ls:List Nat) (nw:List (Nat×AV)) (nb:List Bx)
 | X (id:Nat) (ks ls:List Nat) (nw:List (Nat×AV)) (nb:List Bx)
def Ex.R (cx:Cx) (E0:Env):Ex->Exit->Act->World->Prop
 | .n E,e,a,w=>e= .normal/\Sx cx E a w
 | .x id E,e,a,w=>e= .exit id/\Sx cx E a w
 | .r E,e,a,w=>e= .ret/\Sx cx E a w
 | .N ks ls nw nb,e,a,w=>e= .normal/\Sx cx (addE E0 ks ls nw nb) a w
 | .X id ks ls nw nb,e,a,w=>e= .exit id/\Sx cx (addE E0 ks ls nw nb) a w
section
variable {m:Bool} {P:Program} {Q:Exit->Act->World->Prop} {l:List It} {c:Code} {cx:Cx} {E:Env}
theorem jl {σ ρ:Type} {body:σ->Option (σ⊕ρ)} {s:σ} {r:ρ} (h:zaf body s=some r) (ks ls:List Nat) (nw:σ->List (Nat×AV)) (nb:σ->List Bx) (R:ρ->Ex)
  (hb:∀s o,body s=some o->JI m P (zjD c []) (Sx cx (addE E ks ls (nw s) (nb s))) (match o with
   | .inl s'=>fun e a w=>e= .normal/\Sx cx (addE E ks ls (nw s') (nb s')) a w
   | .inr r=>fun e a w=>e≠ .normal/\(R r).R cx E e a w)) (hS:zdP E (addE E ks ls (nw s) (nb s))) (k:∀e a w,(R r).R cx E e a w->zhP m P Q l e a w):JI m P (.c (.loop c)::l) (Sx cx E) Q:=
 zLw body (fun s=>addE E ks ls (nw s) (nb s)) (fun r=>(R r).R cx E) (fun s o e=>zcw (hb s o e)) h hS k
theorem jL {σ ρ:Type} {body:σ->Option (σ⊕ρ)} {s:σ} {r:ρ} (h:zaf body s=some r) (ks ls:List Nat) (nw:σ->List (Nat×AV)) (R:ρ->Ex)
  (hb:∀s o,body s=some o->JI m P (zjD c []) (Sx cx (addE E ks ls (nw s) [])) (match o with
   | .inl s'=>fun e a w=>e= .normal/\Sx cx (addE E ks ls (nw s') []) a w
   | .inr r=>fun e a w=>e≠ .normal/\(R r).R cx E e a w)) (hS:zdP E (addE E ks ls (nw s) [])) (k:∀e a w,(R r).R cx E e a w->zhP m P Q l e a w):JI m P (.c (.loop c)::l) (Sx cx E) Q:=jl h ks ls nw (fun _=>[]) R hb hS k
theorem jn (R:Ex) (h:JI m P (zjD c []) (Sx cx E) (R.R cx E)) (k:∀e a w,R.R cx E e a w->zhP m P Q l e a w):JI m P (.c c::l) (Sx cx E) Q:=zGx (zcw h) k
theorem jz {id:Nat} {ops:List Oper} {E1:Env} (h:finC P cx.n ops.toArray ops [] E E1.keys E1.labs=some E1:=by kernel_rfl):JI m P (.c (.region id ops.toArray false):: .c .ret::l) (Sx cx E) fun e a w=>e= .ret/\Sx cx E1 a w:=zlR E1 (rgg h) (zx lzr)
theorem jz' {id:Nat} {ops:List Oper} {E1:Env} (h:finC P cx.n ops.toArray ops [] E E1.keys E1.labs=some E1:=by kernel_rfl):JI m P (.c (.region id ops.toArray false):: .c .ret::l) (Sx cx E) fun e a w=>e≠ .normal/\e= .ret/\Sx cx E1 a w:=zlR E1 (rgg h) (zrK lzr)
theorem jy {id:Nat} {ops:List Oper} {E1:Env} (h:finC P cx.n ops.toArray ops [] E E1.keys E1.labs=some E1:=by kernel_rfl):JI m P [.c (.region id ops.toArray false)] (Sx cx E) fun e a w=>e= .normal/\Sx cx E1 a w:=zlR E1 (rgg h) (zae lzr)
end
def renE (E:Env):List (Nat×Nat)->Env
 | []=>E
 | p::l=>renE (E.ren p.1 p.2) l
def okRn:List (Nat×Nat)->Bool
 | []=>true
 | p::l=>(Nat.ble 2 p.1&&Nat.ble 2 p.2&& !spB p.1)&&okRn l
theorem zHc:∀(l:List (Nat×Nat)) {E E':Env},okRn l=true->zdP (renE E l) E'->zdP E E'
 | [],_,_,_,k=>k
 | p::l,_,_,h,k=>by
  simp only [okRn,xB] at h;exact zMP p.1 p.2 (by simpa using h.1) (zHc l h.2 k)
theorem lks (ls:List Nat) (rn:List (Nat×Nat)) (k:zdP (renE (zrb E'.keys ls E) rn) E') (h:(zDH E'.keys ls E&&okRn rn)=true:=by kernel_rfl):zdP E E':=by
 rw [xB] at h;exact (zwF _ _ (zta h.1)).trans (zHc rn h.2 k)
section
variable {P:Program} {L:List Oper} {ss:List zlu} {is:List DIn}
theorem lwn:∀(n:Nat) {L:List Oper},zcD P (L.drop n) ss is->zcD P L (List.replicate n .ev++ss) is
 | 0,_,h=>h
 | n+1,[],h=>by show zcD P [] (.ev::_) is;cases is<;>trivial
 | n+1,o::L,h=>lw_e (lwn n h)
theorem dg (t:Nat) (hc:c=b) (k:zcD P l ss is) (h:zuM P (Env.opd ⟨[(t,.lf (.bool c))],[]⟩) (ztq ⟨[(t,.lf (.bool c))],[]⟩ o.op) o.op=some (.lf (.bool c)):=by kernel_rfl):
  zcD P (o::l) (.ex ((ztq ⟨[(t,.lf (.bool c))],[]⟩ o.op).map (·.lab)) [] [] (.lf (.bool b)) []::ss) (⟨zmx ⟨[(t,.lf (.bool c))],[]⟩ o.op.operands.toList,ztq ⟨[(t,.lf (.bool c))],[]⟩ o.op,[]⟩::is):=lx (zNw _ h hc) k
theorem di {o:Oper} {l:List Oper} {α:Type} {r:Rp α} {xs:List α} {i:Int} {x:α} {t e:TypeId} {y z:Operand} {bytes:Nat} (C:List Nat) (hT:ElT P t e r.size bytes) (hx:idx xs i=some x) (k:zcD P l ss is) (ho:o.op= .indexAddr t y z:=by rfl):
  zcD P (o::l) (.ex [] [] [] (.ep r C x 0) []::ss) (⟨[(y,.sl r C xs),(z,.lf (.int .i64 i))],[],[]⟩::is):=lx (zjG ho hT (zce r xs C) hx) k
end
inductive LeL:List AV->List AV->Prop
 | n:LeL [] []
 | k {a:AV} {l m:List AV} (h:LeL l m):LeL (a::l) (a::m)
 | c {a b:AV} {l m:List AV} (h:a.le b) (t:LeL l m):LeL (a::l) (b::m)
 | l {a b:AV} (h:a.le b):LeL [a] [b]
def zipI:List (Operand×AV)->List AV->List (Operand×AV)
 | p::l,a::m=>(p.1,a)::zipI l m
 | _,_=>[]
theorem zJC (h:LeL ys xs):∀{ins:List (Operand×AV)},ins.map (·.2)=xs->leI (zipI ins ys) ins:=by
 induction h with
 | n=>intro ins e;cases ins<;>first| exact trivial| cases e
 | k _ ih=>intro ins e;cases ins with
  | nil=>cases e
  | cons p l=>cases e;exact ⟨⟨rfl,AV.le_refl _⟩,ih rfl⟩
 | c h _ ih=>intro ins e;cases ins with
  | nil=>cases e
  | cons p l=>cases e;exact ⟨⟨rfl,h⟩,ih rfl⟩
 | l h=>intro ins e;cases ins with
  | nil=>cases e
  | cons p l=>cases l<;>cases e;exact ⟨⟨rfl,h⟩,trivial⟩
theorem zJB (h:LeL ys xs):∀{args:List Operand},xs.length=args.length->leI (args.zip ys) (args.zip xs):=by
 induction h with
 | n=>intro args e;cases args<;>first| exact trivial| cases e
 | k _ ih=>intro args e;cases args with
  | nil=>cases e
  | cons p l=>exact ⟨⟨rfl,AV.le_refl _⟩,ih (by simpa using e)⟩
 | c h _ ih=>intro args e;cases args with
  | nil=>cases e
  | cons p l=>exact ⟨⟨rfl,h⟩,ih (by simpa using e)⟩
 | l h=>intro args e;cases args with
  | nil=>cases e
  | cons p l=>cases l<;>first| exact ⟨⟨rfl,h⟩,trivial⟩| (simp at e)
theorem zy.lw (h:zy P o ins bxs W V av bs) (hl:LeL ys (ins.map (·.2))):zy P o (zipI ins ys) bxs W V av bs:=h.le (zJC hl rfl)
section
variable {P:Program} {o:Oper} {f:FuncId} {args:List Operand} {ts:Array TypeId} {ins kj:List AV}
def lcK (xs kj:List AV) (D:List Nat) (s:Nat):Bool:=(xs.all fun a=>subN (zuQ a) D)&& !D.isEmpty&&kj.all (zvQ [1] D s)
theorem lcl (xs:List AV) (D:List Nat) (s:Nat) (hc:∀as w,(callFunc f as).run P w= .ok (.enter f as) w) (ok:FnOk P f ins kj) (ho:o.op= .call ⟨.value (.func f),args.toArray,ts⟩:=by rfl)
  (hin:xs.map inAV=ins:=by kernel_rfl) (ke:xs.length=args.length:=by rfl) (h:lcK xs kj D s=true:=by kernel_rfl):zy P o (args.zip xs) [] [] (kj.flatMap (zgI s)) (zoD (kj.map (znw D s))) []:=by
 simp only [lcK,xB,yh] at h;exact zGI xs D s ho hc ok hin ke h.1.1 h.1.2 h.2
theorem lc0 (s:Nat) (hc:∀as w,(callFunc f as).run P w= .ok (.enter f as) w) (ok:FnOk P f ins kj) (ho:o.op= .call ⟨.value (.func f),args.toArray,ts⟩:=by rfl)
  (hin:ins.map inAV=ins:=by kernel_rfl) (ke:ins.length=args.length:=by rfl) (h:lcK ins kj [0] s=true:=by kernel_rfl):zy P o (args.zip ins) [] [] (kj.flatMap (zgI s)) (zoD (kj.map (znw [0] s))) []:=lcl ins [0] s hc ok ho hin ke h
theorem lcw (xs:List AV) (D:List Nat) (s:Nat) (hc:∀as w,(callFunc f as).run P w= .ok (.enter f as) w) (ok:FnOk P f ins kj) (hl:LeL ys xs) (ho:o.op= .call ⟨.value (.func f),args.toArray,ts⟩:=by rfl)
  (hin:xs.map inAV=ins:=by kernel_rfl) (ke:xs.length=args.length:=by rfl) (h:lcK xs kj D s=true:=by kernel_rfl):zy P o (args.zip ys) [] [] (kj.flatMap (zgI s)) (zoD (kj.map (znw D s))) []:=(lcl xs D s hc ok ho hin ke h).le (zJB hl ke)
theorem lw0 (s:Nat) (hc:∀as w,(callFunc f as).run P w= .ok (.enter f as) w) (ok:FnOk P f ins kj) (hl:LeL ys ins) (ho:o.op= .call ⟨.value (.func f),args.toArray,ts⟩:=by rfl)
  (hin:ins.map inAV=ins:=by kernel_rfl) (ke:ins.length=args.length:=by rfl) (h:lcK ins kj [0] s=true:=by kernel_rfl):zy P o (args.zip ys) [] [] (kj.flatMap (zgI s)) (zoD (kj.map (znw [0] s))) []:=lcw ins [0] s hc ok hl ho hin ke h
theorem lbx {α:Type} {r:Rp α} {x:α} {as:List AV} {y:Operand} {t:TypeId} (ℓ:Nat) (C:List Nat) (ha:zgB as=some (r.lv x)) (ho:o.op= .box t y:=by rfl) (hl:as.all (zsv C)=true:=by rfl):zy P o [(y,.rc r C x)] [] [] [ℓ] (.ptr ℓ 0) [⟨ℓ,t,as⟩]:=
 zhu ℓ as C ho rfl (zsc C) ha hl
theorem ldw (ℓ tb:Nat) (m:List AV) (hT:AggT P t n) (ho:o.op= .load t y:=by rfl) (hn:Nat.beq m.length n=true:=by kernel_rfl) (hm:m.take n=m:=by kernel_rfl):zy P o [(y,.ptr ℓ 0)] [⟨ℓ,tb,m⟩] [] [] (.ag m) []:=
 zGK (b:=⟨ℓ,tb,m⟩) m ho hT hm hn
theorem stw (b:Bx) (off:Nat) (l:List AV) (ko:∀w,(sizeOf t).run P w= .ok n w) (ho:o.op= .store t y z:=by rfl) (hn:Nat.beq l.length n=true:=by rfl) (hoff:Nat.ble (off+n) b.avs.length=true:=by rfl) (hf:AV.free [b.lab] [] (.ag l)=true:=by rfl):
  zy P o [(y,.ptr b.lab off),(z,.ag l)] [b] [b.lab] [] .any [⟨b.lab,b.typ,(b.avs.map (AV.clear [b.lab] [])).take off++l++(b.avs.map (AV.clear [b.lab] [])).drop (off+n)⟩]:=zGM l ho ko hn hoff hf
def dedN:List Nat->List Nat
 | []=>[]
 | x::l=>x::(dedN l).filter fun y=> !Nat.beq y x
def colD (xs:List AV):List Nat:=match dedN (xs.flatMap zuQ) with
 | []=>[1]
 | l=>l
theorem lcd (xs:List AV) (s:Nat) (hc:∀as w,(callFunc f as).run P w= .ok (.enter f as) w) (ok:FnOk P f ins kj) (ho:o.op= .call ⟨.value (.func f),args.toArray,ts⟩:=by rfl)
  (hin:xs.map inAV=ins:=by kernel_rfl) (ke:xs.length=args.length:=by rfl) (h:lcK xs kj (colD xs) s=true:=by kernel_rfl):zy P o (args.zip xs) [] [] (kj.flatMap (zgI s)) (zoD (kj.map (znw (colD xs) s))) []:=lcl xs (colD xs) s hc ok ho hin ke h
def rpZ (n:Nat):Rp Empty:=⟨n+1,true,nofun,nofun,Nat.succ_pos n⟩
def nil1 (a:AV):LV->AV
 | .sl _ (n+1) _=>match nilA a with
  | true=> .sl (rpZ n) [] []
  | false=>a
 | _=>a
theorem zLO (a:AV) (v:LV):AV.le a (nil1 a v)/\∀c∈AV.cols (nil1 a v),c∈AV.cols a:=by
 unfold nil1;split
 ·split
  ·rename_i h;rw [zBQ h];exact ⟨zha _ _,fun c hc=>by simp [AV.cols] at hc⟩
  ·exact ⟨AV.le_refl _,fun c hc=>hc⟩
 ·exact ⟨AV.le_refl _,fun c hc=>hc⟩
def nilZ:List AV->List LV->List AV
 | a::l,v::lv=>nil1 a v::nilZ l lv
 | _,_=>[]
theorem zGS:∀{l:List AV} {lv:List LV},l.length=lv.length->leL l (nilZ l lv)/\∀c∈AV.colsL (nilZ l lv),c∈AV.colsL l
 | [],[],_=>⟨trivial,fun c h=>h⟩
 | [],_::_,h=>by simp at h
 | _::_,[],h=>by simp at h
 | a::l,v::lv,h=>by
  obtain ⟨h1,h2⟩:=zGS (l:=l) (lv:=lv) (by simpa using h);obtain ⟨h3,h4⟩:=zLO a v;refine ⟨⟨h3,h1⟩,fun c hc=>?_⟩;simp only [nilZ,AV.colsL,xG] at hc|-;exact hc.imp (h4 c) (h2 c)
theorem zNp {α:Type} {r:Rp α} {x:α} {l:List AV} {lv:List LV} (e:r.lv x=lv) (hn:Nat.beq l.length lv.length=true) (hl:zgB (nilZ l lv)=some lv):AV.le (.ag l) (.rc r (AV.colsL l) x):=by
 obtain ⟨h1,h2⟩:=zGS (xK hn);refine zMQ (zJD h1) (ziP r _ x _ (by rw [e];exact hl) ?_);simp only [subN,xM];exact fun c hc=>zaF.2 (h2 c hc)
inductive LeZ:List AV->List AV->List AV->Prop
 | n:LeZ [] [] []
 | k {a:AV} {ys is xs:List AV} (h:LeZ ys is xs):LeZ (a::ys) (inAV a::is) (a::xs)
 | c {α:Type} {r:Rp α} {x:α} {l:List AV} {lv:List LV} {ys is xs:List AV} (e:r.lv x=lv) (h:LeZ ys is xs) (hn:Nat.beq l.length lv.length=true:=by kernel_rfl) (hl:zgB (nilZ l lv)=some lv:=by kernel_rfl):LeZ (.ag l::ys) (.rc r [0] x::is) (.rc r (AV.colsL l) x::xs)
theorem LeZ.ok {ys is xs:List AV} (h:LeZ ys is xs):xs.map inAV=is/\xs.length=ys.length/\∀{args:List Operand},leI (args.zip ys) (args.zip xs):=by
 induction h with
 | n=>exact ⟨rfl,rfl,by intro args;cases args<;>trivial⟩
 | k _ ih=>exact ⟨by simp [ih.1],by simp [ih.2.1],by intro args;cases args with
  | nil=>trivial
  | cons p q=>exact ⟨⟨rfl,AV.le_refl _⟩,ih.2.2⟩⟩
 | c e _ hn hl ih=>exact ⟨by simp [ih.1,inAV,zxE],by simp [ih.2.1],by intro args;cases args with
  | nil=>trivial
  | cons p q=>exact ⟨⟨rfl,zNp e hn hl⟩,ih.2.2⟩⟩
theorem lcz (ys:List AV) (s:Nat) (hc:∀as w,(callFunc f as).run P w= .ok (.enter f as) w) (ok:FnOk P f ins kj) (hz:LeZ ys ins xs) (ho:o.op= .call ⟨.value (.func f),args.toArray,ts⟩:=by rfl)
  (ke:ys.length=args.length:=by rfl) (h:lcK xs kj (colD xs) s=true:=by kernel_rfl):zy P o (args.zip ys) [] [] (kj.flatMap (zgI s)) (zoD (kj.map (znw (colD xs) s))) []:=
 (lcl xs (colD xs) s hc ok ho hz.ok.1 (hz.ok.2.1.trans ke) h).le hz.ok.2.2
theorem las {α:Type} {r:Rp α} {xs ys zs:List α} {t e:TypeId} {x y:Operand} {bytes:Nat} (ℓ:Nat) (C D C2:List Nat) (hT:ElT P t e r.size bytes) (hz:app bytes xs ys=some zs) (hC:r.Plain\/(subN C C2&&subN D C2)=true)
  (ho:o.op= .call ⟨.builtin .append,#[x,y],#[t,t]⟩:=by rfl) (hb:Nat.blt 0 bytes=true:=by rfl) (hℓ:memN ℓ C2=false:=by rfl):zy P o [(x,.own r e ℓ C xs),(y,.sl r D ys)] [] [ℓ] [ℓ] (.own r e ℓ C2 zs) []:=
 zxP ℓ C2 ho hT hb (zlQ _ _ _ _ _) (zce _ _ _) hz hC hℓ
theorem lao {α:Type} {r:Rp α} {xs ys zs:List α} {t e:TypeId} {x y:Operand} {bytes:Nat} (ℓ:Nat) (C:List Nat) (e' k:Nat) (D C2:List Nat) (hT:ElT P t e r.size bytes) (hz:app bytes xs ys=some zs) (hC:r.Plain\/(subN C C2&&subN (k::D) C2)=true)
  (ho:o.op= .call ⟨.builtin .append,#[x,y],#[t,t]⟩:=by rfl) (hb:Nat.blt 0 bytes=true:=by rfl) (hℓ:memN ℓ C2=false:=by rfl):zy P o [(x,.own r e ℓ C xs),(y,.own r e' k D ys)] [] [ℓ] [ℓ] (.own r e ℓ C2 zs) []:=
 zxP ℓ C2 ho hT hb (zlQ _ _ _ _ _) (zcn _ _ _ _ _) hz hC hℓ
theorem lde {α:Type} {t:TypeId} {y:Operand} (r:Rp α) (D:List Nat) (x:α) (hT:AggT P t r.size) (ho:o.op= .load t y:=by rfl):zy P o [(y,.ep r D x 0)] [] [] [] (.rc r D x) []:=zNy ho hT
theorem ldl {α β:Type} {t:TypeId} {y:Operand} (r:Rp α) (D:List Nat) (x:α) (off:Nat) (r':Rp β) (xs:List β) (hs:(r.lv x)[off]? =some (.sl xs.length r'.size (xs.flatMap r'.lv)):=by rfl) (ho:o.op= .load t y:=by rfl) (hT:zeg P t=true:=by rfl):
  zy P o [(y,.ep r D x off)] [] [] [] (.sl r' D xs) []:=zNz r' xs ho hT hs
theorem lbs1 {α:Type} {r:Rp α} {t e:TypeId} {y:Operand} {bytes:Nat} {x0:α} (ℓ:Nat) (C:List Nat) (x:α) (hT:ZeT P t e r bytes x0) (ho:o.op= .buildSlice t 1 [(0,y)].toArray:=by rfl) (hn:(Nat.ble (1*r.size) 16777216&& !memN ℓ C)=true:=by rfl):
  zy P o [(y,.rc r C x)] [] [] [ℓ] (.own r e ℓ C [x]) []:=by
 simp only [xB,yh] at hn;have h1:=r.len x;have h0:=r.len x0;refine zey (kE:=[(0,y)]) [.rc r C x] ℓ C [x] ho hT (by rw [hn.1];rfl) (by simp [AV.colsL,AV.cols,zsc]) hn.2 ?_;simp [zCS,zrP,zpt,zzW,List.replicate,h0,h1,zue,Nat.ble_eq_true_of_le]
theorem lbd {kE:List (Nat×Operand)} (as:List AV) (hT:StA P t places zs) (ho:o.op= .build t kE.toArray:=by rfl) (hf:zCR (fun i=>places[i]?) zs kE as=some as:=by rfl):
  zy P o ((kE.map (·.2)).zip as) [] [] [] (.ag as) []:=zlV as as ho hT hf
variable {N:Lim} {ops:Array Oper} {w9:List Oper} {E E':Env}
theorem rx {α:Type} {r:Rp α} {xs:List α} {i:Int} {x:α} {t e:TypeId} {y z:Operand} {bytes:Nat} (n:Nat) (C:List Nat) (hT:ElT P t e r.size bytes) (hx:idx xs i=some x) (ho:nthO w9 n=some o) (hq:o.op= .indexAddr t y z)
  (k:zbx P N ops (w9.drop (n+1)) (zAM P N ops w9 n [] o E [y,z] [] [] [] (.ep r C x 0) []) E')
  (h:zAL P N ops w9 n [] o E [y,z] [] [] [] (.ep r C x 0) []=some ([.sl r C xs,.lf (.int .i64 i)],[]):=by kernel_rfl):zbx P N ops w9 E E':=rc n ho (zjG hq hT (zce r xs C) hx) k h
theorem rsI {α:Type} {p q:Option α} {v:α} {b:Bool} (n t:Nat) (h:(if b then p else q)=some v) (h1:b=true->p=some v->zbx P N ops (w9.drop n) ⟨zjf (some t) (.lf (.bool true)) (endE P N ops (w9.take n) [] E).sl,(endE P N ops (w9.take n) [] E).bx⟩ E')
  (h0:b=false->q=some v->zbx P N ops (w9.drop n) ⟨zjf (some t) (.lf (.bool false)) (endE P N ops (w9.take n) [] E).sl,(endE P N ops (w9.take n) [] E).bx⟩ E')
  (hk:splC P N ops (w9.take n) [] E t=some (.lf (.bool b)):=by kernel_rfl):zbx P N ops w9 E E':=rsl n [] t b (fun e=>h1 e (iteT h e)) (fun e=>h0 e (iteF h e)) hk
end
theorem jg {m:Bool} {P:Program} {l:List It} {cx:Cx} {E:Env} {Q:Exit->Act->World->Prop} {id:Nat} {ops:List Oper} (ks ls:List Nat) (nw:List (Nat×AV)) (h:zbx P cx.n ops.toArray ops E ⟨nw++(zrb ks ls E).sl,(zrb ks ls E).bx⟩)
  (k:JI m P l (Sx cx ⟨nw++(zrb ks ls E).sl,(zrb ks ls E).bx⟩) Q):JI m P (.c (.region id ops.toArray false)::l) (Sx cx E) Q:=zlR _ h k
def frA (ℓ:Nat) (x:AV):AV:=match AV.free [ℓ] [] x with
 | true=>x
 | false=> .any
def isOm (ℓ:Nat):AV->Bool
 | .om _ _ k _ _=>Nat.beq k ℓ
 | _=>false
def zEm (ℓ:Nat) (a' x:AV):AV:=match isOm ℓ x with
 | true=>a'
 | false=>frA ℓ x
def oms0 (ℓ:Nat) (x:AV):List AV:=match isOm ℓ x with
 | true=>[x]
 | false=>[]
def zAS (ℓ:Nat) (a':AV):AV->AV
 | .ag l=> .ag (l.map (zEm ℓ a'))
 | x=>zEm ℓ a' x
def oms1 (ℓ:Nat):AV->List AV
 | .ag l=>l.flatMap (oms0 ℓ)
 | x=>oms0 ℓ x
section
variable {ℓ:Nat} {a a':AV}
theorem zEn (h:∀y∈oms0 ℓ x,y=a):zvD [ℓ] [] [(a,a')] x (zEm ℓ a' x):=by
 unfold zEm;unfold oms0 at h;split
 ·rename_i e;rw [e] at h;rw [h x (by simp)];exact ziA 0 rfl
 ·unfold frA;split
  ·exact zz ‹_›
  ·exact zOb
theorem zAR:∀{l:List AV},(∀y∈l.flatMap (oms0 ℓ),y=a)->zoY [ℓ] [] [(a,a')] l (l.map (zEm ℓ a'))
 | [],_=>trivial
 | x::l,h=>⟨zEn fun y hy=>h y (by rw [xU];exact xG.2 (.inl hy)),zAR fun y hy=>h y (by rw [xU];exact xG.2 (.inr hy))⟩
theorem zEo (h:∀y∈oms1 ℓ x,y=a):zvD [ℓ] [] [(a,a')] x (zAS ℓ a' x):=by
 cases x<;>first| exact zsE (zAR h)| exact zEn h
theorem zAT:∀{l:List AV},(∀y∈l.flatMap (oms1 ℓ),y=a)->zoY [ℓ] [] [(a,a')] l (l.map (zAS ℓ a'))
 | [],_=>trivial
 | x::l,h=>⟨zEo fun y hy=>h y (by rw [xU];exact xG.2 (.inl hy)),zAT fun y hy=>h y (by rw [xU];exact xG.2 (.inr hy))⟩
def zHm (ℓ:Nat) (a':AV) (E:Env):Env:=⟨E.sl.map fun p=>(p.1,zAS ℓ a' p.2),(E.bx.filter fun b=> !Nat.beq b.lab ℓ).map fun b=>⟨b.lab,b.typ,b.avs.map (zAS ℓ a')⟩⟩
def omsE (ℓ:Nat) (E:Env):List AV:=(E.sl.flatMap fun p=>oms1 ℓ p.2)++E.bx.flatMap fun b=>b.avs.flatMap (oms1 ℓ)
theorem zKO (t:Tr [ℓ] [] γ w γ' w') (hT:∀p∈[(a,a')],zoX γ w γ' w' p) (h:omsE ℓ E=List.replicate (omsE ℓ E).length a) (hs:Sl γ w c E.sl) (hx:Bxs γ w E.bx):
  Sl γ' w' c (zHm ℓ a' E).sl/\Bxs γ' w' (zHm ℓ a' E).bx:=by
 have hm:∀y∈omsE ℓ E,y=a:=fun y hy=>by rw [h] at hy;exact List.eq_of_mem_replicate hy
 refine ⟨fun p hp=>?_,fun b hb=>?_⟩
 ·obtain ⟨q,hq,rfl⟩:=xH.1 hp;exact zEo (fun y hy=>hm y (xG.2 (.inl (qG.2 ⟨q,hq,hy⟩)))) _ _ _ _ t hT _ (hs q hq)
 ·have hB:BxT [ℓ] [] [(a,a')] E.bx ((E.bx.filter fun b=> !Nat.beq b.lab ℓ).map fun b=>⟨b.lab,b.typ,b.avs.map (zAS ℓ a')⟩)->b.rel γ' w':=fun H=>BxT.rel t hT hx H b hb
  obtain ⟨q,hq,rfl⟩:=xH.1 hb;obtain ⟨hq1,hq2⟩:=yg.1 hq;have h1:BxT [ℓ] [] [(a,a')] [q] [⟨q.lab,q.typ,q.avs.map (zAS ℓ a')⟩]:=by
   refine ⟨⟨q,by simp [zhp],rfl,?_,zAT fun y hy=>hm y (xG.2 (.inr (qG.2 ⟨q,hq1,hy⟩)))⟩,trivial⟩;have hne:Nat.beq q.lab ℓ=false:=by simpa using hq2
   simp [memN,hne]
  exact BxT.rel t hT (fun x hx'=>by cases hx' with
   | head=>exact hx q hq1
   | tail _ h=>cases h) h1 _ xz
end
def zMS (w9:List Oper) (n:Nat):Option (TypeId×Operand×Operand×Operand):=match nthO w9 n with
 | some o=>match o.op with
  | .mapUpdate t y z u=>some (t,y,z,u)
  | .insert t y z u=>some (t,y,z,u)
  | _=>none
 | none=>none
def msK (P:Program) (N:Lim) (ops:Array Oper) (w9:List Oper) (n:Nat) (ls:List Nat) (E:Env) (ℓ:Nat):Bool:=endB P N ops (w9.take n) ls E&&Nat.ble 2 ℓ&&match nthO w9 n with
 | some o=>o.dst.isNone&&match zgQ ops (endE P N ops (w9.take n) ls E) o with
  | some true=>true
  | _=>false
 | none=>false
section
variable {P:Program} {N:Lim} {ops:Array Oper} {w9:List Oper} {E E':Env} {κ ν:Type} [DecidableEq κ] {rk:Rp κ} {rv:Rp ν} {m:List (κ×ν)} {t kt et:TypeId} {x0:ν} {y z u:Operand} {ak av:AV} {C1 D:List Nat}
theorem rts (ho:nthO w9 n=some o) (hs:zoh P o ins [ℓ] [] .any [(a,a')]) (k:zbx P N ops (w9.drop (n+1)) (zHm ℓ a' (endE P N ops (w9.take n) ls E)) E')
  (h1:msK P N ops w9 n ls E ℓ=true) (h2:zlr (endE P N ops (w9.take n) ls E) (ins.map (·.1))=some (ins.map (·.2))) (h3:omsE ℓ (endE P N ops (w9.take n) ls E)=List.replicate (omsE ℓ (endE P N ops (w9.take n) ls E)).length a):zbx P N ops w9 E E':=by
 unfold msK at h1;rw [ho] at h1;simp only [xB] at h1;obtain ⟨⟨c1,c2⟩,c3,c4⟩:=h1;refine zlX n (zxq c1) ?_;rw [zox ho];split at c4
 ·rename_i hg;intro cx c w Q hn hx hQ;obtain ⟨γ,hb,hsl,hbx⟩:=hx;refine zkX (zhr hg hsl) (hs γ c w ((zps h2).rel hsl) _ Q fun γ' w' v ht hv hT=>?_);have hd:o.dst=none:=by simpa using c3
  obtain ⟨g1,g2⟩:=zKO (c:=c) ht hT h3 hsl hbx;rw [hd];exact k cx _ _ Q hn ⟨γ',hb.tr ht (by simp only [okW,c2];rfl) rfl,g1,g2⟩ hQ
 ·cases c4
theorem rms (n:Nat) (ls:List Nat) (ℓ:Nat) (C:List Nat) (m:List (κ×ν)) (k:κ) (x:ν) (C2:List Nat) (hT:MapT P t kt et rk rv x0) (hka:asV rk k C1 ak) (hva:asV rv x D av)
  (kk:zbx P N ops (w9.drop (n+1)) (zHm ℓ (.om rk rv ℓ C2 (mput m k x)) (endE P N ops (w9.take n) ls E)) E') (ho:zMS w9 n=some (t,y,z,u):=by rfl)
  (h1:(msK P N ops w9 n ls E ℓ&&(subN C C2&&subN C1 C2&&subN D C2&& !memN ℓ C2))=true:=by kernel_rfl) (h2:zlr (endE P N ops (w9.take n) ls E) [y,z,u]=some [.om rk rv ℓ C m,ak,av]:=by kernel_rfl)
  (h3:omsE ℓ (endE P N ops (w9.take n) ls E)=List.replicate (omsE ℓ (endE P N ops (w9.take n) ls E)).length (.om rk rv ℓ C m):=by kernel_rfl):zbx P N ops w9 E E':=by
 rw [xB] at h1;unfold zMS at ho;split at ho
 ·rename_i o hn;refine rts hn (ins:=[(y,.om rk rv ℓ C m),(z,ak),(u,av)]) (zMf k x C2 hT ?_ hka hva h1.2) kk h1.1 h2 h3;split at ho
  ·rename_i hop;cases ho;exact .inl hop
  ·rename_i hop;cases ho;exact .inr hop
  ·cases ho
 ·cases ho
end
theorem zjS (x:Int):u8.wrap x=x%256:=by simp [IntKind.wrap,IntKind.bits,IntKind.signed]
theorem zED (x:Int):u32.wrap x=x%4294967296:=by simp [IntKind.wrap,IntKind.bits,IntKind.signed]
theorem wrap_u64 (x:Int):u64.wrap x=x%18446744073709551616:=by simp [IntKind.wrap,IntKind.bits,IntKind.signed]
theorem zr (h: -9223372036854775808<=x/\x<=9223372036854775807):i64.wrap x=x:=by
 simp [IntKind.wrap,IntKind.bits,IntKind.signed];split<;>omega
theorem uR {x:Int} (h: -9223372036854775808<=x/\x<=9223372036854775807:=by omega):i64.wrap x=x:=zr h
theorem zIL (x:Int):i32.wrap x=if x%4294967296<2147483648 then x%4294967296 else x%4294967296 - 4294967296:=by
 simp [IntKind.wrap,IntKind.bits,IntKind.signed];split<;>split<;>omega
theorem zuB {k:IntKind} (hk:k.signed=false) {n:Nat} (h:n<2^k.bits):k.wrap (n:Int)=n:=by
 have h2:(n:Int)%(2^k.bits:Int)=n:=yJ (by omega) (by exact_mod_cast h);simp only [IntKind.wrap,hk,yW,h2];simp
theorem zrO {b n:Nat} (h:n<2^b):(BitVec.ofInt b (n:Int)).toNat=n:=by
 rw [BitVec.toNat_ofInt];have h2:(n:Int)%((2^b:Nat):Int)=n:=yJ (by omega) (by exact_mod_cast h);rw [h2];rfl
theorem zCA {k:IntKind} (hk:k.signed=false) {a b:Nat} (ha:a<2^k.bits) (hb:b<2^k.bits):andI k a b=((a&&&b:Nat):Int):=by
 unfold andI;rw [BitVec.toNat_and,zrO ha,zrO hb];exact zuB hk (Nat.lt_of_le_of_lt Nat.and_le_left ha)
theorem zwK {k:IntKind} (hk:k.signed=false) {a b:Nat} (ha:a<2^k.bits) (hb:b<2^k.bits):orI k a b=((a||| b:Nat):Int):=by
 unfold orI;rw [BitVec.toNat_or,zrO ha,zrO hb];exact zuB hk (Nat.or_lt_two_pow ha hb)
theorem zuf {k:IntKind} {a b:Nat} (hb:b<=k.bits):shrI k a b=((a/2^b:Nat):Int):=by
 unfold shrI;have h2:(2:Int)^b=((2^b:Nat):Int):=by simp
 rw [xJ,qx hb,h2,Int.fdiv_eq_ediv_of_nonneg _ (Int.natCast_nonneg (2^b)),Int.natCast_ediv]
theorem zyd (a c k:Nat) (h:a<2^k):a||| (c*2^k)=a+c*2^k:=by
 rw [pI,yX,<-Nat.two_pow_add_eq_or_of_lt h,pn]
theorem zpb (n m:Nat):((n:Int)==(m:Int))=decide (n=m):=by
 by_cases h:n=m
 ·simp [h]
 ·have:¬((n:Int)=m):=by omega
  simp [h,this]
theorem zR {α:Type} {xs:List α} {i:Int} {n:Nat} (h:i=n) (hn:n<xs.length):idx xs i=some xs[n]:=by
 unfold idx;subst h;rw [xy (by omega),xJ,xP hn]
theorem zhn {α:Type} {xs:List α} {i j:Int} {a b:Nat} (hi:i=a) (hj:j=b) (h:a<=b) (hb:b<=xs.length):cut xs i j=some ((xs.drop a).take (b - a)):=by
 unfold cut;subst hi hj;rw [xy (by omega),xJ,xJ]
theorem zqu {α:Type} {xs:List α} {i j:Int} {a:Nat} (hi:i=a) (hj:j=(xs.length:Int)) (h:a<=xs.length):cut xs i j=some (xs.drop a):=by
 rw [zhn hi hj h (xC _),yG (by simp)]
theorem ztt {α:Type} {xs:List α} {j:Int} {b:Nat} (hj:j=b) (hb:b<=xs.length):cut xs 0 j=some (xs.take b):=by
 have:=zhn (xs:=xs) (i:=0) (a:=0) rfl hj (xI _) hb;simpa using this
theorem zcg {α:Type} {bytes:Nat} {xs ys:List α} (h:(xs.length+ys.length)*bytes<=140737488355328):app bytes xs ys=some (xs++ys):=by
 unfold app LIM;rw [xy h]
theorem zqU {α:Type} {bytes:Nat} {x0:α} {n m:Int} {a:Nat} (hn:n=a) (h:n<=m) (hm:m*bytes<=140737488355328):mkO bytes x0 n m=some (List.replicate a x0):=by
 unfold mkO LIM;subst hn;rw [xy ⟨by omega,h,hm⟩,xJ]
theorem zLM {α:Type} {bytes:Nat} {x0:α} {m:Int} (h:0<=m) (hm:m*bytes<=140737488355328):mkO bytes x0 0 m=some []:=by
 have:=zqU (x0:=x0) (n:=0) (a:=0) rfl h hm;simpa using this
theorem zxf (h:x=(c.toNat:Int)):zhX x=some c:=by
 unfold zhX;subst h;have:=c.toNat_lt;rw [xy (by omega),xJ,UInt8.ofNat_toNat]
theorem zep {x:Int} {n:Nat} (h:x=n) (hn:n<256):zhX x=some (UInt8.ofNat n):=by
 refine zxf ?_;rw [h,UInt8.toNat_ofNat'];congr 1;omega
theorem zGF {l:List UInt8} (h:l.length<=9223372036854775807):lenO l=some l:=by unfold lenO;rw [xy h]
theorem zEd {k:IntKind} {x:Int} {n:Nat}:shlO k x n=some (shlI k x n):=by unfold shlO;rw [xx (by omega)]
theorem zKu {k:IntKind} {x:Int} {n:Nat}:shrO k x n=some (shrI k x n):=by unfold shrO;rw [xx (by omega)]
theorem sb {α β:Type} {a:α} {f:α->Option β}:((some a:Option α)>>=f)=f a:=rfl
theorem itT {α:Type} {c:Bool} {x y:α} (h:c=true):(if c then x else y)=x:=by rw [h];rfl
theorem uP {α:Type} {c:Bool} {x y:α} (h:c=true:=by simp;omega):(if c then x else y)=x:=itT h
theorem uM {α:Type} {c:Bool} {x y:α} (h:c=true:=by rfl):(if c then x else y)=x:=itT h
theorem itF {α:Type} {c:Bool} {x y:α} (h:c=false):(if c then x else y)=y:=by rw [h];rfl
theorem uQ {α:Type} {c:Bool} {x y:α} (h:c=false:=by simp;omega):(if c then x else y)=y:=itF h
theorem uO {α:Type} {c:Bool} {x y:α} (h:c=false:=by simp):(if c then x else y)=y:=itF h
theorem uN {α:Type} {c:Bool} {x y:α} (h:c=false:=by rfl):(if c then x else y)=y:=itF h
open Go.RowKit (wrap32 wrap64)
def sgnS (x:Int):Int:=if x%4294967296<2147483648 then x%4294967296 else x%4294967296 - 4294967296
def zsG (x:Int):Int:=if 0<=x then x else x+18446744073709551616
def lenN (n:Nat):Nat:=if n<128 then 1 else lenN (n/128)+1
termination_by n
decreasing_by omega
def zfp:Nat->Nat->List UInt8
 | 0,_=>[]
 | k+1,w=>UInt8.ofNat (w%256)::zfp k (w/256)
def word:List UInt8->Nat
 | []=>0
 | c::r=>c.toNat+256*word r
theorem zCi (x:Int): -2147483648<=sgnS x/\sgnS x<=2147483647:=by unfold sgnS;split<;>omega
theorem zMr (h: -9223372036854775808<=x/\x<=9223372036854775807):0<=zsG x/\zsG x<=18446744073709551615:=by unfold zsG;split<;>omega
theorem zKt {x:Int} (h: -2147483648<=x/\x<=2147483647):sgnS (zsG x)=x:=by unfold sgnS zsG;split<;>split<;>omega
theorem zJH (n:Nat):1<=lenN n:=by unfold lenN;split<;>omega
theorem zjF (h:n<128):lenN n=1:=by rw [lenN,xy h]
theorem zlH (h:¬n<128):lenN n=lenN (n/128)+1:=by rw [lenN,xx h]
theorem zLD:∀(k n:Nat),n<128^k->0<k->lenN n<=k:=by
 intro k
 induction k with
 | zero=>intro n _ h;omega
 | succ k ih=>
  intro n hn _;by_cases h:n<128
  ·rw [zjF h];omega
  ·rw [zlH h];have h1:n/128<128^k:=by rw [yD] at hn;exact up (by omega)
   have h2:0<k:=by
    rcases uc k with rfl| h
    ·simp at h1;omega
    ·exact h
   have:=ih _ h1 h2;omega
theorem zxN (h:n<18446744073709551616):lenN n<=10:=zLD 10 n (by omega) (by omega)
def lz (m:Nat):Nat:=if m=0 then 0 else lenN m
theorem zND (h:m≠0):lz m=lz (m/128)+1:=by
 unfold lz;rw [xx h];split
 ·rw [zjF (by omega)]
 ·rw [zlH (by omega)]
theorem zNC (n:Nat):lenN n=1+lz (n/128):=by
 unfold lz;split
 ·rw [zjF (by omega)]
 ·rw [zlH (by omega),pn]
theorem zbS:∀(k n:Nat),(zfp k n).length=k
 | 0,_=>rfl
 | k+1,n=>by simp [zfp,zbS k]
theorem zrB:∀(k n:Nat),word (zfp k n)=n%256^k
 | 0,n=>by simp [zfp,word,Nat.mod_one]
 | k+1,n=>by
  rw [zfp,word,zrB k];have:(UInt8.ofNat (n%256)).toNat=n%256:=by simp
  rw [this,yD,yX (256^k),Nat.mod_mul]
theorem zqQ:∀(k n:Nat),zfp (k+1) n=zfp k n++[UInt8.ofNat (n/256^k%256)]
 | 0,n=>by simp [zfp]
 | k+1,n=>by
  rw [zfp,zqQ k,zfp];simp only [yv,yP,List.append_cancel_left_eq,qM,qb];rw [Nat.div_div_eq_div_mul,yD,yX (256^k)]
def zin (n m j:Nat):List UInt8:=zfp j m++List.replicate (n - j) 0
theorem zBK (n m:Nat):zin n m 0=List.replicate n 0:=by simp [zin,zfp]
theorem zDt (n m:Nat):zin n m n=zfp n m:=by simp [zin]
theorem zxO {n m j:Nat} (h:j<=n):(zin n m j).length=n:=by simp [zin,zbS];omega
theorem zDu {n m j:Nat} (h:j<n):(zin n m j).set j (UInt8.ofNat (m/256^j%256))=zin n m (j+1):=by
 unfold zin;rw [zqQ,List.set_append,xx (by rw [zbS];omega),zbS,po,show n - j=(n - (j+1))+1 from by omega,pW,List.set_cons_zero,yu];rfl
theorem zwN (j:Nat):2^(8*j)=256^j:=by rw [Nat.pow_mul]
theorem zvM (m j:Nat):((m/256^j:Nat):Int)%256=((UInt8.ofNat (m/256^j%256)).toNat:Int):=by
 have e:(UInt8.ofNat (m/256^j%256)).toNat=m/256^j%256:=by simp
 rw [e,Int.natCast_emod];rfl
theorem zwU:∀(l:List UInt8),word l<256^l.length
 | []=>by simp [word]
 | c::r=>by
  have h1:=zwU r;have h2:=c.toNat_lt;simp only [word,xR,yD];omega
theorem zvz:∀(l:List UInt8) (c:UInt8),word (l++[c])=word l+c.toNat*256^l.length
 | [],c=>by simp [word]
 | d::r,c=>by
  simp only [yv,word,xR,zvz r c,yD];rw [Nat.mul_add,<-qm,yX 256 c.toNat,qm c.toNat,yX (256^r.length)];omega
theorem zLR (a c k:Nat) (h:a<2^k):a||| (c*2^k)=a+c*2^k:=by
 have:=Nat.shiftLeft_add_eq_or_of_lt h c;rw [Nat.shiftLeft_eq] at this;rw [pI,<-this,pn]
theorem zyk (h:j<=7):256^j<=72057594037927936:=by
 have:=qW (n:=256) (by omega) h;simpa using this
theorem zMu (a d j:Nat) (hj:j<8) (hd:d<256) (ha:a<256^j):
  bits .or .u64 (a:Int) (u64.wrap ((d:Int)*2^(8*j)))=((a+d*256^j:Nat):Int):=by
 have hp:=zyk (show j<=7 by omega);have hm:d*256^j<=255*72057594037927936:=pJ (by omega) hp;have e:((d:Int)*2^(8*j))=((d*256^j:Nat):Int):=by
  rw [<-zwN,Int.natCast_mul,Int.natCast_pow];rfl
 rw [e,pK,yJ (by omega) (by omega),bits_or_u64_nat _ _ (by omega) (by omega),<-zwN,zLR _ _ _ (by rw [zwN];exact ha)]
theorem zKZ (a d j:Nat) (hj:j<8) (hd:d<256) (ha:a<256^j):
  u64.wrap ((a:Int)+u64.wrap ((d:Int)*((256^j%18446744073709551616:Nat):Int)))=((a+d*256^j:Nat):Int):=by
 have hp:=zyk (show j<=7 by omega);have hm:d*256^j<=255*72057594037927936:=pJ (by omega) hp;rw [qt (by omega)];have e:((d:Int)*((256^j:Nat):Int))=((d*256^j:Nat):Int):=by rw [Int.natCast_mul]
 have hs:a+d*256^j<18446744073709551616:=by
  have:a+d*256^j<256^j+255*256^j:=Nat.add_lt_add_of_lt_of_le ha (yr _ (by omega));omega
 rw [e,pK,pK];omega
theorem zFt (j:Nat):((256^(j+1)%18446744073709551616:Nat):Int)=u64.wrap (((256^j%18446744073709551616:Nat):Int)*256):=by
 rw [pK,yD];omega
end Go.Proofs.YtkgohoggipdokaaGreat

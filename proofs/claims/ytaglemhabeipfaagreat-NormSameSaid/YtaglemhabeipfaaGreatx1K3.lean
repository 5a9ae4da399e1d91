/-
  What every proof here stands on. No condition.
-/
import Derived.Laws.Bits64b
import Derived.IntWalk
import Derived.RowKit
import Derived.Test.YtaglemhabeipfaaGreatx1K2
import Derived.Test.YtaglemhabeipfaaGreatx1K1
set_option autoImplicit true
set_option relaxedAutoImplicit true
namespace Go.Proofs.YtaglemhabeipfaaGreat
open Go.IntKind (i32 i64 u32 u64 u8)
open Go Go.RowKit
set_option linter.unusedVariables false
def nilA:AV->Bool
 | .lf (.val (.slice none 0 0))=>true
 | _=>false
theorem zAN (h:nilA a=true):a= .lf (.val (.slice none 0 0)):=by
 unfold nilA at h;split at h
 ·rfl
 ·cases h
def wk0 (a:AV):AV->AV
 | .any=> .any
 | .own r e ℓ C _=>match nilA a with
  | true=>match memN ℓ C with
   | false=> .own r e ℓ C []
   | true=>a
  | false=>match a with
   | .own r e ℓ D xs=>match subN D C&& !memN ℓ C with
    | true=> .own r e ℓ C xs
    | false=>a
   | _=>a
 | .sl r C _=>match nilA a with
  | true=> .sl r C []
  | false=>match a with
   | .own r e ℓ D xs=>match subN (ℓ::D) C with
    | true=> .sl r C xs
    | false=>a
   | .sl r D xs=>match subN D C with
    | true=> .sl r C xs
    | false=>a
   | _=>a
 | .rc _ C _=>match a with
  | .rc r D x=>match subN D C with
   | true=> .rc r C x
   | false=>a
  | _=>a
 | .qp r C _=>match a with
  | .lf (.val (.pointer none))=> .qp r C none
  | .qp r D o=>match subN D C with
   | true=> .qp r C o
   | false=>a
  | _=>a
 | .mp _ _ C _=>match a with
  | .mp rk rv D m=>match subN D C with
   | true=> .mp rk rv C m
   | false=>a
  | .om rk rv ℓ D m=>match subN (ℓ::D) C with
   | true=> .mp rk rv C m
   | false=>a
  | @AV.mo _ _ _ rk r _ ℓ D m=>match subN (ℓ::D) C with
   | true=> .mp rk (Rp.list r) C m
   | false=>a
  | _=>a
 | .om _ _ _ C _=>match a with
  | .om rk rv ℓ D m=>match subN D C&& !memN ℓ C with
   | true=> .om rk rv ℓ C m
   | false=>a
  | _=>a
 | @AV.mo _ _ _ _ _ _ _ C _=>match a with
  | @AV.mo _ _ _ rk r e ℓ D m=>match subN D C&& !memN ℓ C with
   | true=> .mo rk r e ℓ C m
   | false=>a
  | _=>a
 | _=>a
theorem andN (h:(a&& !b)=true):a=true/\b=false:=by simpa using h
theorem zKI (a b:AV):AV.le a (wk0 a b):=by
 unfold wk0;split
 ·exact zNm _
 ·split
  ·rename_i h;rw [zAN h];split
   ·exact zwS _ _ _ _ ‹_›
   ·exact AV.le_refl _
  ·split
   ·split
    ·rename_i h;exact zNp _ _ _ _ _ _ (andN h).1 (andN h).2
    ·exact AV.le_refl _
   ·exact AV.le_refl _
 ·split
  ·rename_i h;rw [zAN h];exact zin _ _
  ·split
   ·split
    ·exact zNr _ _ _ _ _ _ ‹_›
    ·exact AV.le_refl _
   ·split
    ·exact zOu _ _ _ _ ‹_›
    ·exact AV.le_refl _
   ·exact AV.le_refl _
 ·split
  ·split
   ·exact zOt _ _ _ _ ‹_›
   ·exact AV.le_refl _
  ·exact AV.le_refl _
 ·split
  ·exact zHr _ _
  ·split
   ·exact zOs _ _ _ _ ‹_›
   ·exact AV.le_refl _
  ·exact AV.le_refl _
 ·split
  ·split
   ·exact zJk _ _ _ ‹_›
   ·exact AV.le_refl _
  ·split
   ·exact zNo _ _ _ _ ‹_›
   ·exact AV.le_refl _
  ·split
   ·exact zNn _ _ _ _ _ _ _ ‹_›
   ·exact AV.le_refl _
  ·exact AV.le_refl _
 ·split
  ·split
   ·rename_i h;exact zOr _ _ _ _ (andN h).1 (andN h).2
   ·exact AV.le_refl _
  ·exact AV.le_refl _
 ·split
  ·split
   ·rename_i h;exact zOq _ _ _ _ _ _ _ (andN h).1 (andN h).2
   ·exact AV.le_refl _
  ·exact AV.le_refl _
 ·exact AV.le_refl _
theorem zyk (hf:∀a b,AV.le a (f a b)):∀{l m:List AV},l.length=m.length->leL l (zipA f l m)
 | [],[],_=>trivial
 | [],_::_,h=>by simp at h
 | _::_,[],h=>by simp at h
 | x::l,y::m,h=>⟨hf x y,zyk hf (by simpa using h)⟩
def wk1 (a:AV):AV->AV
 | .ag m=>match a with
  | .ag l=>match Nat.beq l.length m.length with
   | true=> .ag (zipA wk0 l m)
   | false=>a
  | _=>a
 | b=>wk0 a b
theorem zKJ (a b:AV):AV.le a (wk1 a b):=by
 unfold wk1;split
 ·split
  ·split
   ·exact zMK (zyk zKI (xE ‹_›))
   ·exact AV.le_refl _
  ·exact AV.le_refl _
 ·exact zKI _ _
def wkS (E:Env) (l:List (Nat×AV)):List (Nat×AV):=l.map fun p=>(p.1,match lookup E.sl p.1 with
 | some a=>wk1 a p.2
 | none=> .any)
def wkB (E:Env):List Bx->Option (List Bx)
 | []=>some []
 | b::l=>match zgx E.bx b.lab,wkB E l with
  | some c,some r=>match Nat.beq c.avs.length b.avs.length with
   | true=>some (⟨c.lab,c.typ,zipA wk1 c.avs b.avs⟩::r)
   | false=>none
  | _,_=>none
theorem zKK (h:Bxs γ w E.bx):∀{l r:List Bx},wkB E l=some r->Bxs γ w r
 | [],r,e=>by cases e;exact fun b hb=>by cases hb
 | b::l,r,e=>by
  rw [wkB] at e;split at e
  ·rename_i c r' h1 h2;split at e
   ·rename_i hn;cases e;intro x hx;cases hx with
    | head=>
     obtain ⟨g,cs,hh,hr,h1c⟩:=h c (zdv h1).1;exact ⟨g,cs,hh,zqF (zyk zKJ (xE hn)) hr,h1c⟩
    | tail _ hx=>exact zKK h h2 x hx
   ·cases e
  ·cases e
def wkE (E E':Env):Option Env:=match wkB E E'.bx with
 | some l=>some ⟨wkS E E'.sl,l⟩
 | none=>none
theorem lw (h:wkE E E'=some E':=by kernel_rfl):zdu E E':=by
 intro cx a w hs;obtain ⟨γ,hB,hS,hX⟩:=hs;unfold wkE at h;split at h
 ·rename_i l hl;have e:(⟨wkS E E'.sl,l⟩:Env)=E':=qH h;rw [<-e];refine ⟨γ,hB,fun p hp=>?_,zKK hX hl⟩;obtain ⟨q,_,rfl⟩:=xz.1 hp;simp only;split
  ·rename_i a0 ha;exact zKJ _ _ _ _ _ (hS _ (zdm ha))
  ·exact trivial
 ·cases h
def zBM (fn:Func):Code:=match fn.body with
 | some c=>c
 | none=> .ret
def zxF:List ResultVar->List AV->List (Nat×AV)
 | .tmp t::rs,a::l=>(t,a)::zxF rs l
 | _,_=>[]
def hasT (t:Nat):List ResultVar->Bool
 | .tmp u::rs=>Nat.beq t u|| hasT t rs
 | _=>false
def ztc:List ResultVar->List AV->Bool
 | [],[]=>true
 | .tmp t::rs,_::l=> !hasT t rs&&ztc rs l
 | _,_=>false
theorem zzF :∀{rs:List ResultVar} {l:List AV},ztc rs l=true->lookup (zxF rs l) u=some b->hasT u rs=true
 | [],[],_,h=>by cases h
 | [],_::_,n,_=>by cases n
 | .cell ..::_,_,n,_=>by simp [ztc] at n
 | .tmp t::rs,[],n,_=>by cases n
 | .tmp t::rs,a::l,n,h=>by
  simp only [ztc,xu,xU] at n;rw [zxF,lookup] at h;rw [hasT];split at h
  ·rename_i e;have:=xE e;simp only at this;simp [this]
  ·rw [zzF n.2 h];simp
theorem zDm :∀{rs:List ResultVar} {l:List AV},ztc rs l=true->(∀t a,lookup (zxF rs l) t=some a->lookup E.sl t=some a)->zlf P E rs l
 | [],[],_,_=>trivial
 | [],_::_,n,_=>by cases n
 | .cell ..::_,_,n,_=>by simp [ztc] at n
 | .tmp t::rs,[],n,_=>by cases n
 | .tmp t::rs,a::l,n,h=>by
  simp only [ztc,xu,xU] at n;refine ⟨h t a (by rw [zxF,lookup];simp),zDm n.2 fun u b hu=>h u b ?_⟩;rw [zxF,lookup];have kl:Nat.beq t u=false:=by
   cases e:Nat.beq t u with
   | false=>rfl
   | true=>rw [xE e,zzF n.2 hu] at n;simp at n
  simp only [kl];exact hu
section
variable {P:Program} {f:FuncId} {fn:Func} {ins wX:List AV}
def hdOk (N:Nat) (fn:Func) (ins wX:List AV):Bool:=fn.body.isSome&&Nat.beq fn.ntmps N&&Nat.ble ins.length N&&ztc fn.results.toList wX
theorem zHj (h:hdOk N fn ins wX=true):fn.body=some (zBM fn)/\fn.ntmps=N/\Nat.ble ins.length N=true/\ztc fn.results.toList wX=true:=by
 simp only [hdOk,xu] at h;obtain ⟨⟨⟨h1,h2⟩,h3⟩,h4⟩:=h;refine ⟨?_,xE h2,h3,h4⟩;unfold zBM;cases e:fn.body with
 | none=>rw [e] at h1;cases h1
 | some c=>rfl
theorem fi (N:Nat) (hf:P.funcs[f]? =some fn) (hj:∀X:Ext,JI true P (ziH (zBM fn) []) (Sx ⟨⟨N,[]⟩,X,false,#[]⟩ ⟨zmP 0 ins,[]⟩) fun e a w=>e= .ret/\Sx ⟨⟨N,[]⟩,X,false,#[]⟩ ⟨zxF fn.results.toList wX,[]⟩ a w)
  (h:hdOk N fn ins wX=true:=by kernel_rfl):FnOk P f ins wX:=by
 obtain ⟨h1,h2,h3,h4⟩:=zHj h;exact zyX N hf h1 h2 h3 (zDm h4 fun _ _ e=>e) fun X=>zbw (hj X)
theorem fj (E:Env) (N:Nat) (hf:P.funcs[f]? =some fn) (hr:zlf P E fn.results.toList wX) (hj:∀X:Ext,JI true P (ziH (zBM fn) []) (Sx ⟨⟨N,[]⟩,X,false,#[]⟩ ⟨zmP 0 ins,[]⟩) fun e a w=>e= .ret/\Sx ⟨⟨N,[]⟩,X,false,#[]⟩ E a w)
  (h:(fn.body.isSome&&Nat.beq fn.ntmps N&&Nat.ble ins.length N)=true:=by kernel_rfl):FnOk P f ins wX:=by
 simp only [xu] at h;refine zyX N hf ?_ (xE h.1.2) h.2 hr fun X=>zbw (hj X)
 have h1:=h.1.1;unfold zBM;cases e:fn.body with
 | none=>rw [e] at h1;cases h1
 | some c=>rfl
end
theorem lzr :zdu E E:=fun _ _ _ h=>h
def addE (E:Env) (ks ls:List Nat) (nw:List (Nat×AV)) (nb:List Bx):Env:=⟨nw++(zqc ks ls E).sl,nb++(zqc ks ls E).bx⟩
inductive Ex
 | n (E:Env)
 | x (id:Nat) (E:Env)
 | r (E:Env)
 | N (ks ls:List Nat) (nw:List (Nat×AV)) (nb:List Bx)
 | X (id:Nat) (ks ls:List Nat) (nw:List (Nat×AV)) (nb:List Bx)
def Ex.R (cx:Cx) (E0:Env):Ex->Exit->Act->World->Prop
 | .n E,e,a,w=>e= .normal/\Sx cx E a w
 | .x id E,e,a,w=>e= .exit id/\Sx cx E a w
 | .r E,e,a,w=>e= .ret/\Sx cx E a w
 | .N ks ls nw nb,e,a,w=>e= .normal/\Sx cx (addE E0 ks ls nw nb) a w
 | .X id ks ls nw nb,e,a,w=>e= .exit id/\Sx cx (addE E0 ks ls nw nb) a w
section
variable {m:Bool} {P:Program} {Q:Exit->Act->World->Prop} {l:List It} {c:Code} {cx:Cx} {E:Env}
theorem jl {σ ρ:Type} {body:σ->Option (σ⊕ρ)} {s:σ} {r:ρ} (h:zX body s=some r) (ks ls:List Nat) (nw:σ->List (Nat×AV)) (nb:σ->List Bx) (R:ρ->Ex)
  (hb:∀s o,body s=some o->JI m P (ziH c []) (Sx cx (addE E ks ls (nw s) (nb s))) (match o with
   | .inl s'=>fun e a w=>e= .normal/\Sx cx (addE E ks ls (nw s') (nb s')) a w
   | .inr r=>fun e a w=>e≠ .normal/\(R r).R cx E e a w)) (hS:zdu E (addE E ks ls (nw s) (nb s))) (k:∀e a w,(R r).R cx E e a w->zgT m P Q l e a w):JI m P (.c (.loop c)::l) (Sx cx E) Q:=
 zLp body (fun s=>addE E ks ls (nw s) (nb s)) (fun r=>(R r).R cx E) (fun s o e=>zbw (hb s o e)) h hS k
theorem jL {σ ρ:Type} {body:σ->Option (σ⊕ρ)} {s:σ} {r:ρ} (h:zX body s=some r) (ks ls:List Nat) (nw:σ->List (Nat×AV)) (R:ρ->Ex)
  (hb:∀s o,body s=some o->JI m P (ziH c []) (Sx cx (addE E ks ls (nw s) [])) (match o with
   | .inl s'=>fun e a w=>e= .normal/\Sx cx (addE E ks ls (nw s') []) a w
   | .inr r=>fun e a w=>e≠ .normal/\(R r).R cx E e a w)) (hS:zdu E (addE E ks ls (nw s) [])) (k:∀e a w,(R r).R cx E e a w->zgT m P Q l e a w):JI m P (.c (.loop c)::l) (Sx cx E) Q:=jl h ks ls nw (fun _=>[]) R hb hS k
theorem jn (R:Ex) (h:JI m P (ziH c []) (Sx cx E) (R.R cx E)) (k:∀e a w,R.R cx E e a w->zgT m P Q l e a w):JI m P (.c c::l) (Sx cx E) Q:=zFW (zbw h) k
theorem jz {id:Nat} {ops:List Oper} {E1:Env} (h:finC P cx.n ops.toArray ops [] E E1.keys E1.labs=some E1:=by kernel_rfl):JI m P (.c (.region id ops.toArray false):: .c .ret::l) (Sx cx E) fun e a w=>e= .ret/\Sx cx E1 a w:=zkS E1 (rgg h) (zy lzr)
theorem jz' {id:Nat} {ops:List Oper} {E1:Env} (h:finC P cx.n ops.toArray ops [] E E1.keys E1.labs=some E1:=by kernel_rfl):JI m P (.c (.region id ops.toArray false):: .c .ret::l) (Sx cx E) fun e a w=>e≠ .normal/\e= .ret/\Sx cx E1 a w:=zkS E1 (rgg h) (zqD lzr)
theorem jy {id:Nat} {ops:List Oper} {E1:Env} (h:finC P cx.n ops.toArray ops [] E E1.keys E1.labs=some E1:=by kernel_rfl):JI m P [.c (.region id ops.toArray false)] (Sx cx E) fun e a w=>e= .normal/\Sx cx E1 a w:=zkS E1 (rgg h) (zS lzr)
end
def renE (E:Env):List (Nat×Nat)->Env
 | []=>E
 | p::l=>renE (E.ren p.1 p.2) l
def okRn:List (Nat×Nat)->Bool
 | []=>true
 | p::l=>(Nat.ble 2 p.1&&Nat.ble 2 p.2&& !spB p.1)&&okRn l
theorem zGB:∀(l:List (Nat×Nat)) {E E':Env},okRn l=true->zdu (renE E l) E'->zdu E E'
 | [],_,_,_,k=>k
 | p::l,_,_,h,k=>by
  simp only [okRn,xu] at h;exact zML p.1 p.2 (by simpa using h.1) (zGB l h.2 k)
theorem lks (ls:List Nat) (rn:List (Nat×Nat)) (k:zdu (renE (zqc E'.keys ls E) rn) E') (h:(zCT E'.keys ls E&&okRn rn)=true:=by kernel_rfl):zdu E E':=by
 rw [xu] at h;exact (zvH _ _ (zrV h.1)).trans (zGB rn h.2 k)
section
variable {P:Program} {L:List Oper} {ss:List zkF} {is:List DIn}
theorem lwn:∀(n:Nat) {L:List Oper},zbM P (L.drop n) ss is->zbM P L (List.replicate n .ev++ss) is
 | 0,_,h=>h
 | n+1,[],h=>by show zbM P [] (.ev::_) is;cases is<;>trivial
 | n+1,o::L,h=>lw_e (lwn n h)
theorem dg (t:Nat) (hc:c=b) (k:zbM P l ss is) (h:ztN P (Env.opd ⟨[(t,.lf (.bool c))],[]⟩) (zso ⟨[(t,.lf (.bool c))],[]⟩ o.op) o.op=some (.lf (.bool c)):=by kernel_rfl):
  zbM P (o::l) (.ex ((zso ⟨[(t,.lf (.bool c))],[]⟩ o.op).map (·.lab)) [] [] (.lf (.bool b)) []::ss) (⟨zlq ⟨[(t,.lf (.bool c))],[]⟩ o.op.operands.toList,zso ⟨[(t,.lf (.bool c))],[]⟩ o.op,[]⟩::is):=lx (zNs _ h hc) k
theorem di {o:Oper} {l:List Oper} {α:Type} {r:Rp α} {xs:List α} {i:Int} {x:α} {t e:TypeId} {y z:Operand} {bytes:Nat} (C:List Nat) (hT:ElT P t e r.size bytes) (hx:idx xs i=some x) (k:zbM P l ss is) (ho:o.op= .indexAddr t y z:=by rfl):
  zbM P (o::l) (.ex [] [] [] (.ep r C x 0) []::ss) (⟨[(y,.sl r C xs),(z,.lf (.int .i64 i))],[],[]⟩::is):=lx (zji ho hT (zbj r xs C) hx) k
end
inductive LeL:List AV->List AV->Prop
 | n:LeL [] []
 | k {a:AV} {l m:List AV} (h:LeL l m):LeL (a::l) (a::m)
 | c {a b:AV} {l m:List AV} (h:a.le b) (t:LeL l m):LeL (a::l) (b::m)
 | l {a b:AV} (h:a.le b):LeL [a] [b]
def zipI:List (Operand×AV)->List AV->List (Operand×AV)
 | p::l,a::m=>(p.1,a)::zipI l m
 | _,_=>[]
theorem zJj (h:LeL ys xs):∀{ins:List (Operand×AV)},ins.map (·.2)=xs->leI (zipI ins ys) ins:=by
 induction h with
 | n=>intro ins e;cases ins<;>first| exact trivial| cases e
 | k _ ih=>intro ins e;cases ins with
  | nil=>cases e
  | cons p l=>cases e;exact ⟨⟨rfl,AV.le_refl _⟩,ih rfl⟩
 | c h _ ih=>intro ins e;cases ins with
  | nil=>cases e
  | cons p l=>cases e;exact ⟨⟨rfl,h⟩,ih rfl⟩
 | l h=>intro ins e;cases ins with
  | nil=>cases e
  | cons p l=>cases l<;>cases e;exact ⟨⟨rfl,h⟩,trivial⟩
theorem zz.lw (h:zz P o ins bxs W V av bs) (hl:LeL ys (ins.map (·.2))):zz P o (zipI ins ys) bxs W V av bs:=h.le (zJj hl rfl)
section
variable {P:Program} {o:Oper} {f:FuncId} {args:List Operand} {ts:Array TypeId} {ins wX:List AV}
def lcK (xs wX:List AV) (D:List Nat) (s:Nat):Bool:=(xs.all fun a=>subN (ztS a) D)&& !D.isEmpty&&wX.all (zuN [1] D s)
theorem lcl (xs:List AV) (D:List Nat) (s:Nat) (hc:∀as w,(callFunc f as).run P w= .ok (.enter f as) w) (ok:FnOk P f ins wX) (ho:o.op= .call ⟨.value (.func f),args.toArray,ts⟩:=by rfl)
  (hin:xs.map inAV=ins:=by kernel_rfl) (wY:xs.length=args.length:=by rfl) (h:lcK xs wX D s=true:=by kernel_rfl):zz P o (args.zip xs) [] [] (wX.flatMap (zgC s)) (znE (wX.map (zoI D s))) []:=by
 simp only [lcK,xu,xU] at h;exact zGe xs D s ho hc ok hin wY h.1.1 h.1.2 h.2
theorem lc0 (s:Nat) (hc:∀as w,(callFunc f as).run P w= .ok (.enter f as) w) (ok:FnOk P f ins wX) (ho:o.op= .call ⟨.value (.func f),args.toArray,ts⟩:=by rfl)
  (hin:ins.map inAV=ins:=by kernel_rfl) (wY:ins.length=args.length:=by rfl) (h:lcK ins wX [0] s=true:=by kernel_rfl):zz P o (args.zip ins) [] [] (wX.flatMap (zgC s)) (znE (wX.map (zoI [0] s))) []:=lcl ins [0] s hc ok ho hin wY h
theorem lbx {α:Type} {r:Rp α} {x:α} {as:List AV} {y:Operand} {t:TypeId} (ℓ:Nat) (C:List Nat) (ha:zfW as=some (r.lv x)) (ho:o.op= .box t y:=by rfl) (hl:as.all (zrs C)=true:=by rfl):zz P o [(y,.rc r C x)] [] [] [ℓ] (.ptr ℓ 0) [⟨ℓ,t,as⟩]:=
 zlu ℓ as C ho rfl (zqU C) ha hl
theorem ldw (ℓ tb:Nat) (m:List AV) (hT:AggT P t n) (ho:o.op= .load t y:=by rfl) (hn:Nat.beq m.length n=true:=by kernel_rfl) (hm:m.take n=m:=by kernel_rfl):zz P o [(y,.ptr ℓ 0)] [⟨ℓ,tb,m⟩] [] [] (.ag m) []:=
 zGg (b:=⟨ℓ,tb,m⟩) m ho hT hm hn
def dedN:List Nat->List Nat
 | []=>[]
 | x::l=>x::(dedN l).filter fun y=> !Nat.beq y x
def colD (xs:List AV):List Nat:=match dedN (xs.flatMap ztS) with
 | []=>[1]
 | l=>l
theorem lcd (xs:List AV) (s:Nat) (hc:∀as w,(callFunc f as).run P w= .ok (.enter f as) w) (ok:FnOk P f ins wX) (ho:o.op= .call ⟨.value (.func f),args.toArray,ts⟩:=by rfl)
  (hin:xs.map inAV=ins:=by kernel_rfl) (wY:xs.length=args.length:=by rfl) (h:lcK xs wX (colD xs) s=true:=by kernel_rfl):zz P o (args.zip xs) [] [] (wX.flatMap (zgC s)) (znE (wX.map (zoI (colD xs) s))) []:=lcl xs (colD xs) s hc ok ho hin wY h
def rpZ (n:Nat):Rp Empty:=⟨n+1,true,nofun,nofun,Nat.succ_pos n⟩
def nil1 (a:AV):LV->AV
 | .sl _ (n+1) _=>match nilA a with
  | true=> .sl (rpZ n) [] []
  | false=>a
 | _=>a
theorem zLK (a:AV) (v:LV):AV.le a (nil1 a v)/\∀c∈AV.cols (nil1 a v),c∈AV.cols a:=by
 unfold nil1;split
 ·split
  ·rename_i h;rw [zAN h];exact ⟨zin _ _,fun c hc=>by simp [AV.cols] at hc⟩
  ·exact ⟨AV.le_refl _,fun c hc=>hc⟩
 ·exact ⟨AV.le_refl _,fun c hc=>hc⟩
def nilZ:List AV->List LV->List AV
 | a::l,v::lv=>nil1 a v::nilZ l lv
 | _,_=>[]
theorem zGm:∀{l:List AV} {lv:List LV},l.length=lv.length->leL l (nilZ l lv)/\∀c∈AV.colsL (nilZ l lv),c∈AV.colsL l
 | [],[],_=>⟨trivial,fun c h=>h⟩
 | [],_::_,h=>by simp at h
 | _::_,[],h=>by simp at h
 | a::l,v::lv,h=>by
  obtain ⟨h1,h2⟩:=zGm (l:=l) (lv:=lv) (by simpa using h);obtain ⟨h3,h4⟩:=zLK a v;refine ⟨⟨h3,h1⟩,fun c hc=>?_⟩;simp only [nilZ,AV.colsL,xA] at hc|-;exact hc.imp (h4 c) (h2 c)
theorem zNl {α:Type} {r:Rp α} {x:α} {l:List AV} {lv:List LV} (e:r.lv x=lv) (hn:Nat.beq l.length lv.length=true) (hl:zfW (nilZ l lv)=some lv):AV.le (.ag l) (.rc r (AV.colsL l) x):=by
 obtain ⟨h1,h2⟩:=zGm (xE hn);refine zOv (zMK h1) (zmp r _ x _ (by rw [e];exact hl) ?_);simp only [subN,xF];exact fun c hc=>zab.2 (h2 c hc)
inductive LeZ:List AV->List AV->List AV->Prop
 | n:LeZ [] [] []
 | k {a:AV} {ys is xs:List AV} (h:LeZ ys is xs):LeZ (a::ys) (inAV a::is) (a::xs)
 | c {α:Type} {r:Rp α} {x:α} {l:List AV} {lv:List LV} {ys is xs:List AV} (e:r.lv x=lv) (h:LeZ ys is xs) (hn:Nat.beq l.length lv.length=true:=by kernel_rfl) (hl:zfW (nilZ l lv)=some lv:=by kernel_rfl):LeZ (.ag l::ys) (.rc r [0] x::is) (.rc r (AV.colsL l) x::xs)
theorem LeZ.ok {ys is xs:List AV} (h:LeZ ys is xs):xs.map inAV=is/\xs.length=ys.length/\∀{args:List Operand},leI (args.zip ys) (args.zip xs):=by
 induction h with
 | n=>exact ⟨rfl,rfl,by intro args;cases args<;>trivial⟩
 | k _ ih=>exact ⟨by simp [ih.1],by simp [ih.2.1],by intro args;cases args with
  | nil=>trivial
  | cons p q=>exact ⟨⟨rfl,AV.le_refl _⟩,ih.2.2⟩⟩
 | c e _ hn hl ih=>exact ⟨by simp [ih.1,inAV,zwL],by simp [ih.2.1],by intro args;cases args with
  | nil=>trivial
  | cons p q=>exact ⟨⟨rfl,zNl e hn hl⟩,ih.2.2⟩⟩
theorem lcz (ys:List AV) (s:Nat) (hc:∀as w,(callFunc f as).run P w= .ok (.enter f as) w) (ok:FnOk P f ins wX) (hz:LeZ ys ins xs) (ho:o.op= .call ⟨.value (.func f),args.toArray,ts⟩:=by rfl)
  (wY:ys.length=args.length:=by rfl) (h:lcK xs wX (colD xs) s=true:=by kernel_rfl):zz P o (args.zip ys) [] [] (wX.flatMap (zgC s)) (znE (wX.map (zoI (colD xs) s))) []:=
 (lcl xs (colD xs) s hc ok ho hz.ok.1 (hz.ok.2.1.trans wY) h).le hz.ok.2.2
theorem las {α:Type} {r:Rp α} {xs ys zs:List α} {t e:TypeId} {x y:Operand} {bytes:Nat} (ℓ:Nat) (C D C2:List Nat) (hT:ElT P t e r.size bytes) (hz:app bytes xs ys=some zs) (hC:r.Plain\/(subN C C2&&subN D C2)=true)
  (ho:o.op= .call ⟨.builtin .append,#[x,y],#[t,t]⟩:=by rfl) (hb:Nat.blt 0 bytes=true:=by rfl) (hℓ:memN ℓ C2=false:=by rfl):zz P o [(x,.own r e ℓ C xs),(y,.sl r D ys)] [] [ℓ] [ℓ] (.own r e ℓ C2 zs) []:=
 zAG ℓ C2 ho hT hb (zqC _ _ _ _ _) (zbj _ _ _) hz hC hℓ
theorem lao {α:Type} {r:Rp α} {xs ys zs:List α} {t e:TypeId} {x y:Operand} {bytes:Nat} (ℓ:Nat) (C:List Nat) (e' k:Nat) (D C2:List Nat) (hT:ElT P t e r.size bytes) (hz:app bytes xs ys=some zs) (hC:r.Plain\/(subN C C2&&subN (k::D) C2)=true)
  (ho:o.op= .call ⟨.builtin .append,#[x,y],#[t,t]⟩:=by rfl) (hb:Nat.blt 0 bytes=true:=by rfl) (hℓ:memN ℓ C2=false:=by rfl):zz P o [(x,.own r e ℓ C xs),(y,.own r e' k D ys)] [] [ℓ] [ℓ] (.own r e ℓ C2 zs) []:=
 zAG ℓ C2 ho hT hb (zqC _ _ _ _ _) (zcV _ _ _ _ _) hz hC hℓ
theorem lde {α:Type} {t:TypeId} {y:Operand} (r:Rp α) (D:List Nat) (x:α) (hT:AggT P t r.size) (ho:o.op= .load t y:=by rfl):zz P o [(y,.ep r D x 0)] [] [] [] (.rc r D x) []:=zEF ho hT
theorem ldl {α β:Type} {t:TypeId} {y:Operand} (r:Rp α) (D:List Nat) (x:α) (off:Nat) (r':Rp β) (xs:List β) (hs:(r.lv x)[off]? =some (.sl xs.length r'.size (xs.flatMap r'.lv)):=by rfl) (ho:o.op= .load t y:=by rfl) (hT:zee P t=true:=by rfl):
  zz P o [(y,.ep r D x off)] [] [] [] (.sl r' D xs) []:=zNv r' xs ho hT hs
theorem lbs1 {α:Type} {r:Rp α} {t e:TypeId} {y:Operand} {bytes:Nat} {x0:α} (ℓ:Nat) (C:List Nat) (x:α) (hT:ZeT P t e r bytes x0) (ho:o.op= .buildSlice t 1 [(0,y)].toArray:=by rfl) (hn:(Nat.ble (1*r.size) 16777216&& !memN ℓ C)=true:=by rfl):
  zz P o [(y,.rc r C x)] [] [] [ℓ] (.own r e ℓ C [x]) []:=by
 simp only [xu,xU] at hn;have h1:=r.len x;have h0:=r.len x0;refine zfR (ku:=[(0,y)]) [.rc r C x] ℓ C [x] ho hT (by rw [hn.1];rfl) (by simp [AV.colsL,AV.cols,zqU]) hn.2 ?_;simp [zBY,zqK,zpZ,zyU,List.replicate,h0,h1,ztj,Nat.ble_eq_true_of_le]
theorem lbd {ku:List (Nat×Operand)} (as:List AV) (hT:StA P t places zs) (ho:o.op= .build t ku.toArray:=by rfl) (hf:zBX (fun i=>places[i]?) zs ku as=some as:=by rfl):
  zz P o ((ku.map (·.2)).zip as) [] [] [] (.ag as) []:=zzl as as ho hT hf
variable {N:Lim} {ops:Array Oper} {wR:List Oper} {E E':Env}
theorem rx {α:Type} {r:Rp α} {xs:List α} {i:Int} {x:α} {t e:TypeId} {y z:Operand} {bytes:Nat} (n:Nat) (C:List Nat) (hT:ElT P t e r.size bytes) (hx:idx xs i=some x) (ho:nthO wR n=some o) (hq:o.op= .indexAddr t y z)
  (k:zaI P N ops (wR.drop (n+1)) (zzO P N ops wR n [] o E [y,z] [] [] [] (.ep r C x 0) []) E')
  (h:zzN P N ops wR n [] o E [y,z] [] [] [] (.ep r C x 0) []=some ([.sl r C xs,.lf (.int .i64 i)],[]):=by kernel_rfl):zaI P N ops wR E E':=rc n ho (zji hq hT (zbj r xs C) hx) k h
theorem rsI {α:Type} {p q:Option α} {v:α} {b:Bool} (n t:Nat) (h:(if b then p else q)=some v) (h1:b=true->p=some v->zaI P N ops (wR.drop n) ⟨ziq (some t) (.lf (.bool true)) (endE P N ops (wR.take n) [] E).sl,(endE P N ops (wR.take n) [] E).bx⟩ E')
  (h0:b=false->q=some v->zaI P N ops (wR.drop n) ⟨ziq (some t) (.lf (.bool false)) (endE P N ops (wR.take n) [] E).sl,(endE P N ops (wR.take n) [] E).bx⟩ E')
  (hk:splC P N ops (wR.take n) [] E t=some (.lf (.bool b)):=by kernel_rfl):zaI P N ops wR E E':=rsl n [] t b (fun e=>h1 e (iteT h e)) (fun e=>h0 e (iteF h e)) hk
end
theorem jg {m:Bool} {P:Program} {l:List It} {cx:Cx} {E:Env} {Q:Exit->Act->World->Prop} {id:Nat} {ops:List Oper} (ks ls:List Nat) (nw:List (Nat×AV)) (h:zaI P cx.n ops.toArray ops E ⟨nw++(zqc ks ls E).sl,(zqc ks ls E).bx⟩)
  (k:JI m P l (Sx cx ⟨nw++(zqc ks ls E).sl,(zqc ks ls E).bx⟩) Q):JI m P (.c (.region id ops.toArray false)::l) (Sx cx E) Q:=zkS _ h k
def frA (ℓ:Nat) (x:AV):AV:=match AV.free [ℓ] [] x with
 | true=>x
 | false=> .any
def isOm (ℓ:Nat):AV->Bool
 | .om _ _ k _ _=>Nat.beq k ℓ
 | _=>false
def zDE (ℓ:Nat) (a' x:AV):AV:=match isOm ℓ x with
 | true=>a'
 | false=>frA ℓ x
def oms0 (ℓ:Nat) (x:AV):List AV:=match isOm ℓ x with
 | true=>[x]
 | false=>[]
def zzT (ℓ:Nat) (a':AV):AV->AV
 | .ag l=> .ag (l.map (zDE ℓ a'))
 | x=>zDE ℓ a' x
def oms1 (ℓ:Nat):AV->List AV
 | .ag l=>l.flatMap (oms0 ℓ)
 | x=>oms0 ℓ x
section
variable {ℓ:Nat} {a a':AV}
theorem zDF (h:∀y∈oms0 ℓ x,y=a):zrm [ℓ] [] [(a,a')] x (zDE ℓ a' x):=by
 unfold zDE;unfold oms0 at h;split
 ·rename_i e;rw [e] at h;rw [h x (by simp)];exact zeL 0 rfl
 ·unfold frA;split
  ·exact zp ‹_›
  ·exact zOa
theorem zzS:∀{l:List AV},(∀y∈l.flatMap (oms0 ℓ),y=a)->znW [ℓ] [] [(a,a')] l (l.map (zDE ℓ a'))
 | [],_=>trivial
 | x::l,h=>⟨zDF fun y hy=>h y (by rw [xI];exact xA.2 (.inl hy)),zzS fun y hy=>h y (by rw [xI];exact xA.2 (.inr hy))⟩
theorem zDG (h:∀y∈oms1 ℓ x,y=a):zrm [ℓ] [] [(a,a')] x (zzT ℓ a' x):=by
 cases x<;>first| exact zhR (zzS h)| exact zDF h
theorem zzU:∀{l:List AV},(∀y∈l.flatMap (oms1 ℓ),y=a)->znW [ℓ] [] [(a,a')] l (l.map (zzT ℓ a'))
 | [],_=>trivial
 | x::l,h=>⟨zDG fun y hy=>h y (by rw [xI];exact xA.2 (.inl hy)),zzU fun y hy=>h y (by rw [xI];exact xA.2 (.inr hy))⟩
def zGO (ℓ:Nat) (a':AV) (E:Env):Env:=⟨E.sl.map fun p=>(p.1,zzT ℓ a' p.2),(E.bx.filter fun b=> !Nat.beq b.lab ℓ).map fun b=>⟨b.lab,b.typ,b.avs.map (zzT ℓ a')⟩⟩
def omsE (ℓ:Nat) (E:Env):List AV:=(E.sl.flatMap fun p=>oms1 ℓ p.2)++E.bx.flatMap fun b=>b.avs.flatMap (oms1 ℓ)
theorem zKB (t:Tr [ℓ] [] γ w γ' w') (hT:∀p∈[(a,a')],zmB γ w γ' w' p) (h:omsE ℓ E=List.replicate (omsE ℓ E).length a) (hs:Sl γ w c E.sl) (hx:Bxs γ w E.bx):
  Sl γ' w' c (zGO ℓ a' E).sl/\Bxs γ' w' (zGO ℓ a' E).bx:=by
 have hm:∀y∈omsE ℓ E,y=a:=fun y hy=>by rw [h] at hy;exact List.eq_of_mem_replicate hy
 refine ⟨fun p hp=>?_,fun b hb=>?_⟩
 ·obtain ⟨q,hq,rfl⟩:=xz.1 hp;exact zDG (fun y hy=>hm y (xA.2 (.inl (qh.2 ⟨q,hq,hy⟩)))) _ _ _ _ t hT _ (hs q hq)
 ·have hB:BxT [ℓ] [] [(a,a')] E.bx ((E.bx.filter fun b=> !Nat.beq b.lab ℓ).map fun b=>⟨b.lab,b.typ,b.avs.map (zzT ℓ a')⟩)->b.rel γ' w':=fun H=>BxT.rel t hT hx H b hb
  obtain ⟨q,hq,rfl⟩:=xz.1 hb;obtain ⟨hq1,hq2⟩:=yb.1 hq;have h1:BxT [ℓ] [] [(a,a')] [q] [⟨q.lab,q.typ,q.avs.map (zzT ℓ a')⟩]:=by
   refine ⟨⟨q,by simp [zgx],rfl,?_,zzU fun y hy=>hm y (xA.2 (.inr (qh.2 ⟨q,hq1,hy⟩)))⟩,trivial⟩;have kl:Nat.beq q.lab ℓ=false:=by simpa using hq2
   simp [memN,kl]
  exact BxT.rel t hT (fun x hx'=>by cases hx' with
   | head=>exact hx q hq1
   | tail _ h=>cases h) h1 _ xr
end
def zMM (wR:List Oper) (n:Nat):Option (TypeId×Operand×Operand×Operand):=match nthO wR n with
 | some o=>match o.op with
  | .mapUpdate t y z u=>some (t,y,z,u)
  | .insert t y z u=>some (t,y,z,u)
  | _=>none
 | none=>none
def msK (P:Program) (N:Lim) (ops:Array Oper) (wR:List Oper) (n:Nat) (ls:List Nat) (E:Env) (ℓ:Nat):Bool:=endB P N ops (wR.take n) ls E&&Nat.ble 2 ℓ&&match nthO wR n with
 | some o=>o.dst.isNone&&match zfX ops (endE P N ops (wR.take n) ls E) o with
  | some true=>true
  | _=>false
 | none=>false
section
variable {P:Program} {N:Lim} {ops:Array Oper} {wR:List Oper} {E E':Env} {κ ν:Type} [DecidableEq κ] {rk:Rp κ} {rv:Rp ν} {m:List (κ×ν)} {t kt et:TypeId} {x0:ν} {y z u:Operand} {ak av:AV} {C1 D:List Nat}
theorem rts (ho:nthO wR n=some o) (hs:znf P o ins [ℓ] [] .any [(a,a')]) (k:zaI P N ops (wR.drop (n+1)) (zGO ℓ a' (endE P N ops (wR.take n) ls E)) E')
  (h1:msK P N ops wR n ls E ℓ=true) (h2:zkB (endE P N ops (wR.take n) ls E) (ins.map (·.1))=some (ins.map (·.2))) (h3:omsE ℓ (endE P N ops (wR.take n) ls E)=List.replicate (omsE ℓ (endE P N ops (wR.take n) ls E)).length a):zaI P N ops wR E E':=by
 unfold msK at h1;rw [ho] at h1;simp only [xu] at h1;obtain ⟨⟨c1,c2⟩,c3,c4⟩:=h1;refine zkZ n (zws c1) ?_;rw [znz ho];split at c4
 ·rename_i hg;intro cx c w Q hn hx hQ;obtain ⟨γ,hb,hsl,hbx⟩:=hx;refine ziK (zgy hg hsl) (hs γ c w ((zor h2).rel hsl) _ Q fun γ' w' v ht hv hT=>?_);have hd:o.dst=none:=by simpa using c3
  obtain ⟨g1,g2⟩:=zKB (c:=c) ht hT h3 hsl hbx;rw [hd];exact k cx _ _ Q hn ⟨γ',hb.tr ht (by simp only [okW,c2];rfl) rfl,g1,g2⟩ hQ
 ·cases c4
theorem rms (n:Nat) (ls:List Nat) (ℓ:Nat) (C:List Nat) (m:List (κ×ν)) (k:κ) (x:ν) (C2:List Nat) (hT:MapT P t kt et rk rv x0) (hka:asV rk k C1 ak) (hva:asV rv x D av)
  (kk:zaI P N ops (wR.drop (n+1)) (zGO ℓ (.om rk rv ℓ C2 (mput m k x)) (endE P N ops (wR.take n) ls E)) E') (ho:zMM wR n=some (t,y,z,u):=by rfl)
  (h1:(msK P N ops wR n ls E ℓ&&(subN C C2&&subN C1 C2&&subN D C2&& !memN ℓ C2))=true:=by kernel_rfl) (h2:zkB (endE P N ops (wR.take n) ls E) [y,z,u]=some [.om rk rv ℓ C m,ak,av]:=by kernel_rfl)
  (h3:omsE ℓ (endE P N ops (wR.take n) ls E)=List.replicate (omsE ℓ (endE P N ops (wR.take n) ls E)).length (.om rk rv ℓ C m):=by kernel_rfl):zaI P N ops wR E E':=by
 rw [xu] at h1;unfold zMM at ho;split at ho
 ·rename_i o hn;refine rts hn (ins:=[(y,.om rk rv ℓ C m),(z,ak),(u,av)]) (zMd k x C2 hT ?_ hka hva h1.2) kk h1.1 h2 h3;split at ho
  ·rename_i hop;cases ho;exact .inl hop
  ·rename_i hop;cases ho;exact .inr hop
  ·cases ho
 ·cases ho
end
set_option linter.unusedSectionVars false
def zfZ (P:Program) (f:FuncId) (ins wX ts:List AV):Prop:=
 ∀(w:World) (γ0:Gh) (vs:List Value),AV.relL γ0 w ins vs->Calls P f vs.toArray w fun e w'=>∃γ us,e= .returned (zib us)/\(fnXP w γ0).X γ w'/\AV.relL γ w' wX us/\AV.relL γ w' ts vs
theorem zfZ.le {P:Program} {f:FuncId} {ins ins' wX ts:List AV} (h:zfZ P f ins wX ts) (hl:leL ins' ins):zfZ P f ins' wX ts:=fun w γ0 vs hr=>h w γ0 vs (zqF hl hr)
theorem zkQ {P:Program} {f:FuncId} {fn:Func} {c:Code} {ins wX ts:List AV} {E:Env} (N:Nat) (ks:List Nat) (hf:P.funcs[f]? =some fn) (hb:fn.body=some c) (hN:fn.ntmps=N) (wY:Nat.ble ins.length N=true) (hres:zlf P E fn.results.toList wX)
  (hts:TsOk E ks 0 ts) (hl2:ts.length=ins.length)
  (hj:∀(X:Ext) (old:Array Value),J true P c (Sx ⟨⟨N,ks⟩,X,false,old⟩ ⟨zmP 0 ins,[]⟩) fun e a w=>(e= .ret\/e= .normal)/\Sx ⟨⟨N,ks⟩,X,false,old⟩ E a w):zfZ P f ins wX ts:=by
 subst hN;intro w γ0 vs hr;have hl:=zbn hr;have wY:=xN wY;obtain ⟨tm,htm⟩:∃tm:Array Value,tm=vs.toArray++Array.replicate (fn.ntmps - vs.toArray.size) undef:=⟨_,rfl⟩;obtain ⟨γ1,hγ1⟩:∃γ1:Gh,γ1=⟨fun b=>if b<w.heap.size then γ0.col b else 2,γ0.box⟩:=⟨_,rfl⟩;have kp:∀b,b<w.heap.size->γ1.col b=γ0.col b:=fun b hb=>by rw [hγ1];simp only [xq hb]
 have hbox:∀ℓ,γ1.box ℓ=γ0.box ℓ:=fun ℓ=>by rw [hγ1]
 have hX0:(fnXP w γ0).X γ1 w:=⟨⟨⟨rfl,rfl,rfl,xw _⟩,fun b hb h0=>⟨kp b hb,rfl⟩,fun b hb h0=>by rw [kp b hb];omega,fun b k1 k2=>by omega⟩,fun b hb _=>kp b hb⟩;have hr':AV.relL γ1 w ins vs:=AV.reghL (γ:=γ0) ins (fun b hb _=>kp b hb) (fun ℓ _=>hbox ℓ) hr;have hwp:=hj (fnXP w γ0) tm {tmps:=tm,defers:=[]} w ⟨γ1,⟨⟨[],rfl,qg,fun D hD=>by cases hD⟩,fun _=>rfl,?_,fun k hk=>rfl,hX0⟩,?_,fun b hb=>by cases hb⟩
 ·subst htm;refine pf hf hb (wp_mono (zDV hwp) ?_);rintro e a w' ⟨he,γ,hB,hS,hX⟩;obtain ⟨us,hu,hu'⟩:=zit (P:=P) (fn:=fn) hS hX hres;have hts':AV.relL γ w' ts vs:=hts.rel hS (hB.kept) ts vs 0 (by rw [hl2,<-hl]) fun i v hv=>by
   rw [xL,yB,pv (by simpa using (yx.1 hv).1)];simp [hv]
  have key:∃γ us',zib us=zib us'/\(fnXP w γ0).X γ w'/\AV.relL γ w' wX us'/\AV.relL γ w' ts vs:=⟨γ,us,rfl,hB.ext,hu',hts'⟩;obtain ⟨γ2,us2,k1,k2,k3,k4⟩:=key;rcases he with rfl| rfl
  ·exact ⟨hB.clean rfl,zib us,hu,γ2,us2,by rw [k1],k2,k3,k4⟩
  ·exact ⟨hB.clean rfl,zib us,hu,γ2,us2,by rw [k1],k2,k3,k4⟩
 ·grind
 ·intro p hp;have:=zog hr' [] (List.replicate (fn.ntmps - vs.length) undef) p hp;simp only [xG] at this;have e:(vs++List.replicate (fn.ntmps - vs.length) undef).toArray=tm:=by rw [htm];simp
  grind
def tpT1 (D:List Nat) (p:List (Nat×Nat)) (s:Nat):AV×AV->List (AV×AV)
 | (.om rk rv ℓ C m,.om rk' rv' _ C' m')=>[(.om rk rv ℓ C m,.om rk' rv' ℓ (ziN D p s C') m')]
 | _=>[]
def tPT (D:List Nat) (p:List (Nat×Nat)) (s:Nat) (xs ts:List AV):List (AV×AV):=((zfI xs).zip (zpB xs ts)).flatMap (tpT1 D p s)
def tOkT (D:List Nat) (p:List (Nat×Nat)) (s:Nat) (V:List Nat):AV×AV->Bool
 | (.om _ _ ℓ _ _,.om _ _ k C' _)=>(match zdX p ℓ with
  | some k'=>Nat.beq k k'
  | none=>false)&& !memN 1 C'&& !memN ℓ (ziN D p s C')&& !memN ℓ V
 | _=>true
theorem zIu {P:Program} {o:Oper} {f:FuncId} {args:List Operand} {ts:Array TypeId} {ins wX tns:List AV} (xs:List AV) (p:List (Nat×Nat)) (D:List Nat) (s:Nat) (V:List Nat)
  (ho:o.op= .call ⟨.value (.func f),args.toArray,ts⟩) (hc:∀as w,(callFunc f as).run P w= .ok (.enter f as) w) (ok:zfZ P f ins wX tns) (hin:xs.map (inP p)=ins) (wY:xs.length=args.length)
  (hp:pOk p D=true) (hxD:((zfI xs).all fun a=>subN (zfJ p a) D)=true) (hout:(wX.all (okP D p s V []))=true) (hT:(((zfI xs).zip (zpB xs tns)).all (tOkT D p s V))=true):
  ∀(γ:Gh) (a:Act) (w:World),(∀q∈args.zip xs,q.2.rel γ w (a.eval q.1))->∀(next:Act->World->Prop) (Q:Exit->Act->World->Prop),
   (∀γ' w' v,Tr (p.map (·.1)) V γ w γ' w'->(znE (wX.map (outP D p s))).rel γ' w' v->(∀q∈tPT D p s xs tns,zmB γ w γ' w' q)->next (a.put o.dst v) w')->Oper.wp P o a w next Q:=by
 intro γ a w hi next Q hk;have hvs:=zkX wY hi;simp only [pOk,xu,xF] at hp;obtain ⟨hp1,hd⟩:=hp;have hpb:∀q∈p,zgI p q.2=some q.1:=fun q hq=>by
  have:=(hp1 q hq).2;cases hf:zgI p q.2 with
  | none=>rw [hf] at this;cases this
  | some c=>rw [hf] at this;rw [xE this]
 have hsp:∀q∈p,spB q.2=true:=fun q hq=>(hp1 q hq).1.2
 have h2:∀q∈p,2<=q.2:=fun q hq=>by have:=(zGE.1 (hsp q hq)).1;omega
 have h21:∀q∈p,2<=q.1:=fun q hq=>xN (hp1 q hq).1.1
 simp only [xF] at hxD hout hT;have hin':AV.relL (ghW γ D p fun _=>True) w ins (args.map a.eval):=by
  rw [<-hin];exact zFS hd hpb h2 hvs fun x hx c hc=>zZ (hxD x hx) c hc
 have ka:(execOp a.eval o).run P w= .ok (.enter f (args.map a.eval).toArray) w:=by
  simp [execOp,ho,resolve,Act.eval,Deferred.ofValue,invoke,hc]
 unfold Oper.wp;rw [ka,qx];refine (ok w _ _ hin').mono fun e w' hR=>?_
 obtain ⟨γc,us,rfl,⟨⟨⟨x1,x2,x3,x4⟩,x5,x6,x7⟩,x8⟩,hr,ht⟩:=hR;have hp2:(p.all fun q=>Nat.ble 2 q.2)=true:=xF.2 fun q hq=>by have:=h2 q hq;simpa using this
 have hold:zvZ γ γc w.heap.size D p [] w':=by
  refine ⟨fun b hb=>?_,x7,fun k hk=>by cases hk⟩;rcases yv ((ghW γ D p fun _=>True).col b) 2 with h| h
  ·obtain ⟨e1,_⟩:=x5 b hb h;rcases yv ((ghW γ D p fun _=>True).col b) 1 with h0| h0
   ·exact .inl ⟨by omega,zwJ (p:=p) (S:=fun _=>True) hp2 (by omega)⟩
   grind
  ·obtain ⟨_,k,hk⟩:=zsB h;have e1:=zFR (γ:=γ) (D:=D) (S:=fun _=>True) (b:=b) trivial hk;have e2:=x8 b hb (by rw [e1];exact hsp _ (zcY hk));rw [e1] at e2;refine .inr (.inr ⟨by rw [e2];exact h2 _ (zcY hk),?_⟩);rw [e2];exact hpb _ (zcY hk)
 have hA:=zwD hvs;have hTt:=ztQ hvs ht;refine hk (ghP γ γc w.heap.size D p s V) w' _ ⟨x1,x2,x3,x4,fun b hb hn=>?_,fun b hb=>?_,fun ℓ hℓ=>?_,fun b h1 h2' h0=>?_⟩ (zqO (zqf hr fun x hx v hv=>zJH hold (hout x hx) hv)) ?_
 ·rcases yv ((ghW γ D p fun _=>True).col b) 2 with h| h
  ·grind
  ·obtain ⟨_,k,hk⟩:=zsB h;exact absurd (xz.2 ⟨_,zcY hk,rfl⟩) hn
 ·show (if b<w.heap.size then γ.col b else _)=_;rw [xq hb]
 ·unfold ghP;simp only;cases hm:memN ℓ V with
  | true=>exact absurd (zab.1 hm) hℓ
  | false=>rfl
 ·exfalso;have kl:=x7 b h1 h2';have h0':(if b<w.heap.size then γ.col b else if γc.col b=0 then D.headD 1 else if γc.col b=1 then 1 else mapP p s (γc.col b))=0:=h0;rw [xp (ql.2 h1),xp kl] at h0';split at h0'
  ·omega
  ·unfold mapP at h0';cases hpk:zgI p (γc.col b) with
   | some ℓ=>
    rw [hpk] at h0';simp only at h0';have:=h21 _ (zzy hpk)
    grind
   | none=>rw [hpk] at h0';simp only at h0';omega
 ·intro q hq;obtain ⟨⟨x,t⟩,hm,hq⟩:=qh.1 hq;obtain ⟨u,hu,g1,g2⟩:=zxE hA hTt (x,t) hm;have htk:=hT _ hm;simp only at g1 g2 hu;cases x with
  | om rk rv ℓ C m=>
   cases t with
   | om rk' rv' k C' m'=>
    simp only [tpT1,yg] at hq;subst hq;simp only [tOkT,xu,xU] at htk;obtain ⟨⟨⟨t1,t2⟩,t3⟩,t4⟩:=htk;cases hf:zdX p ℓ with
    | none=>rw [hf] at t1;cases t1
    | some k'=>
     rw [hf] at t1;have:=xE t1;subst this;have hbk:zgI p k=some ℓ:=hpb _ (zcY hf);obtain ⟨b,es,cl,hv,⟨c1,c2⟩,hb,_⟩:=g1;obtain ⟨b',es',cl',hv',⟨d1,d2⟩,hb',hh',hE',_⟩:=g2;have e:b'=b:=by rw [hv] at hv';cases hv';rfl
     subst e;intro v hv2;obtain ⟨b2,_,_,hw2,⟨_,f2⟩,_⟩:=hv2;have e:b2=b':=by rw [<-f2,c2]
     subst e;have hbx:(ghP γ γc w.heap.size D p s V).box ℓ=γ.box ℓ:=by
      unfold ghP;simp only [t4]
     refine ⟨b2,es',cl',hw2,⟨?_,by rw [hbx];exact c2⟩,hb',hh',hE'.mono (fun b hb h=>zMz hold t2 hb h),fun h=>by rw [zab.2 h] at t3;cases t3⟩;show (if b2<w.heap.size then γ.col b2 else _)=ℓ;rw [xq hb];exact c1
   | _=>simp [tpT1] at hq
  | _=>simp [tpT1] at hq
theorem zqk {P:Program} {o:Oper} {f:FuncId} {args:List Operand} {ts:Array TypeId} {ins wX tns:List AV} (xs:List AV) (p:List (Nat×Nat)) (D:List Nat) (s:Nat) (V:List Nat)
  (ho:o.op= .call ⟨.value (.func f),args.toArray,ts⟩) (hc:∀as w,(callFunc f as).run P w= .ok (.enter f as) w) (ok:zfZ P f ins wX tns) (hin:xs.map (inP p)=ins) (wY:xs.length=args.length)
  (hp:pOk p D=true) (hxD:((zfI xs).all fun a=>subN (zfJ p a) D)=true) (hout:(wX.all (okP D p s V []))=true) (hT:(((zfI xs).zip (zpB xs tns)).all (tOkT D p s V))=true):
  znf P o (args.zip xs) (p.map (·.1)) V (znE (wX.map (outP D p s))) (tPT D p s xs tns):=fun γ a w hi next Q hk=>
 zpT (fun c=>by rw [ho];simp) (zIu xs p D s V ho hc ok hin wY hp hxD hout hT γ a w hi next Q hk)
theorem zsK {P:Program} {o:Oper} {f:FuncId} {args:List Operand} {ts:Array TypeId} {ins wX tns:List AV} (xs:List AV) (p:List (Nat×Nat)) (D:List Nat) (s:Nat) (V:List Nat)
  (ho:o.op= .call ⟨.value (.func f),args.toArray,ts⟩) (hc:∀as w,(callFunc f as).run P w= .ok (.enter f as) w) (ok:zfZ P f ins wX tns) (hin:xs.map (inP p)=ins) (wY:xs.length=args.length)
  (hp:pOk p D=true) (hxD:((zfI xs).all fun a=>subN (zfJ p a) D)=true) (hout:(wX.all (okP D p s V []))=true) (hT:(((zfI xs).zip (zpB xs tns)).all (tOkT D p s V))=true):
  zz P o (args.zip xs) [] (p.map (·.1)) V (znE (wX.map (outP D p s))) []:=fun γ a w hi _ next Q hk=>
 zIu xs p D s V ho hc ok hin wY hp hxD hout hT γ a w hi next Q fun γ' w' v ht hv _=>hk γ' w' v ht hv (fun b hb=>by cases hb)
def mxC {α:Type} (r:Rp α) (e:TypeId) (xs:List α):Cu where
 R C1 _ ℓ γ w v:=∃o,RowX γ w r e ℓ C1 o xs v
 one:=fun ⟨_,h⟩=>h.one
 move:=fun {C1 C2 C1' C2' ℓ ℓ' γ γ' w w' v} kg hblk h1 h2 _ _ ⟨o,h⟩=>by
  have hk:zwa (fun b=>γ.F C1 b/\b<w.heap.size) w w':=⟨kg,fun b hb hF=>hblk b hb (xt _ (ym _ hF.1))⟩;refine ⟨o,?_⟩;rcases h with ⟨ho,cs,hw,hg,hA⟩| ⟨ho,hv,hL⟩
  ·refine .inl ⟨ho,cs,ziO hw fun g kd=>hblk g (hw.lt g kd).2 (by rw [hg g kd];exact xr),fun g kd=>h1 g (hw.lt g kd).2 (hg g kd),?_⟩;exact ((hA.mono (G:=fun b=>γ.F C1 b/\b<w.heap.size) fun b hb hF=>⟨hF,hb⟩).keep hk).mono fun b _ hF=>h2 b hF.2 hF.1
  ·exact .inr ⟨ho,hv,((hL.mono (G:=fun b=>γ.F C1 b/\b<w.heap.size) fun b hb hF=>⟨hF,hb⟩).keep hk).mono fun b _ hF=>h2 b hF.2 hF.1⟩
theorem RowX.form {α:Type} {γ:Gh} {w:World} {r:Rp α} {e:TypeId} {ℓ:Nat} {C:List Nat} {o:Prop} {xs:List α} {v:Value} (h:RowX γ w r e ℓ C o xs v):∃A c,v= .slice A xs.length c:=by
 rcases h with ⟨_,cs,hw,_⟩| ⟨_,⟨A,hv⟩,_⟩
 ·rcases hw.2 with ⟨h1,h2⟩| ⟨g,w9,kj,h1,_⟩
  ·exact ⟨none,0,by rw [h1,h2]⟩
  ·exact ⟨_,_,h1⟩
 ·exact ⟨A,_,hv⟩
theorem zLC {P:Program} {o:Oper} {α:Type} {r:Rp α} {e et t:TypeId} {xs:List α} {ℓ:Nat} {C:List Nat} {x:Operand} (ho:o.op= .call ⟨.builtin .len,#[x],#[t]⟩) (hu:P.underlying t=some (.slice et)):
  zz P o [(x,.cu (mxC r e xs) ℓ C [])] [] [] [] (.lf (.int .i64 xs.length)) []:=by
 refine zJ fun γ ev w hi _=>?_
 obtain ⟨o1,h⟩:=hi (x,.cu (mxC r e xs) ℓ C []) (by simp);obtain ⟨A,c,hv⟩:=h.form;simp only at hv;refine ⟨_,w,γ,zaS (v:= .int .i64 xs.length) (args:=[x]) (ts:=[t]) ho rfl rfl rfl fun consts=>?_,Tr.refl _ _ _ _,ziM _ _ _ _,fun b hb=>by cases hb⟩;simp [builtin,hv,Builtin.len_,run_underlying hu,goInt]
theorem zLy {P:Program} {o:Oper} {α:Type} {r:Rp α} {xs ys zs:List α} {C D:List Nat} {b:AV} {t e:TypeId} {x y:Operand} {bytes ℓ:Nat} (C2:List Nat)
  (ho:o.op= .call ⟨.builtin .append,#[x,y],#[t,t]⟩) (hT:ElT P t e r.size bytes) (hb:Nat.blt 0 bytes=true) (hy:isSl r ys D b) (hz:app bytes xs ys=some zs)
  (hC:r.Plain\/subN D C2=true) (hC2:(subN C C2&& !memN ℓ C2)=true):zz P o [(x,.cu (mxC r e xs) ℓ C []),(y,b)] [] [ℓ] [] (.cu (mxC r e zs) ℓ C2 []) []:=by
 refine zJ fun γ ev w hi _=>?_
 simp only [xu,xU] at hC2;obtain ⟨o1,hrow⟩:=hi (x,.cu (mxC r e xs) ℓ C []) (by simp);have h2:=hy γ w _ (hi (y,b) (by simp));simp only at h2 hrow;have hnC2:ℓ∉C2:=fun h=>by rw [zab.2 h] at hC2;cases hC2.2
 have hn2:∀c∈C2,c∉[ℓ]:=fun c hc h=>by
  simp only [xx,xJ,xK] at h;subst h;exact hnC2 hc
 have hCC:∀c∈C,c∈C2:=zZ hC2.1;obtain ⟨v,hve⟩:∃v,v=ev x:=⟨_,rfl⟩;rw [<-hve] at hrow;obtain ⟨A,c,cs',hvy,hcc,hmm,hA',hcs',hcell⟩:=zmw h2;obtain ⟨hlim,rfl⟩:=zBG hz
 obtain ⟨v',w',hrn,⟨gg,hgr,hgg⟩,hout⟩:=zJZ hT (qC (xN hb)) o.type hrow A ys.length c cs' hcs'
  (fun hm=>by obtain ⟨b,off,e,_,_,hc⟩:=hcell hm;exact ⟨b,off,e,hc⟩) hA'.one hlim
 have hgc:∀b,gg=some b->γ.col b=ℓ:=fun b hb=>by
  obtain ⟨h1,h2⟩:=hgg b hb;rcases hrow with ⟨_,cs,_,hg,_⟩| ⟨hno,_⟩
  ·exact hg b h2
  ·exact absurd h1 hno
 let γ':Gh:=⟨fun b=>if b<w.heap.size then γ.col b else ℓ,γ.box⟩
 have kp:∀b,b<w.heap.size->γ'.col b=γ.col b:=fun b hb=>by show (if b<w.heap.size then γ.col b else ℓ)=_;rw [xq hb]
 have hcolN:∀b,¬b<w.heap.size->γ'.col b=ℓ:=fun b hb=>by show (if b<w.heap.size then γ.col b else ℓ)=_;rw [xp hb]
 have ht:Tr [ℓ] [] γ w γ' w':=⟨hgr.os,hgr.tape,hgr.output,hgr.size,fun b hb hnb=>hgr.block b hb fun e=>hnb (by rw [hgc b e.symm];exact xr),kp,fun _ _=>rfl,fun b hb _ h0=> .inl (by rw [hcolN b (ql.2 hb)] at h0;rw [h0];exact xr)⟩;refine ⟨v',w',γ',?_,ht,?_,fun b hb=>by cases hb⟩
 ·refine zaS (args:=[x,y]) (ts:=[t,t]) ho rfl rfl rfl fun consts=>?_
  simp [builtin,<-hve,hvy,hrn]
 rcases hout with ⟨cs,ho',hA,hat⟩| ⟨hno,h0,hv',hw'⟩
 ·refine ⟨True,.inl ⟨trivial,cs++cs',by rw [xy];exact ho',fun g kd=>?_,?_⟩⟩
  ·rcases hat g kd with h| ⟨h1,h2⟩
   ·exact hcolN g (ql.2 h)
   ·rcases hrow with ⟨_,cs1,hw1,hg,_⟩| ⟨hno,_⟩
    ·rw [kp g (hw1.lt g h2).2];exact hg g h2
    ·exact absurd h1 hno
  ·rw [yE];have k1:=ht.all (C:=C2) hn2 (hA.mono fun b _ hb=>hCC _ hb);rcases hC with hp| hC
   ·exact k1.append (hA'.plain (hp.flat ys))
   ·exact k1.append (ht.all (C:=C2) hn2 (hA'.mono fun b _ hb=>zZ hC _ hb))
 ·have hy0:ys=[]:=yA h0;rw [hy0,xY,hv'];rcases hrow with ⟨h,_⟩| ⟨h1,h2,h3⟩
  ·exact absurd h hno
  ·exact ⟨o1,.inr ⟨h1,h2,ht.lv hn2 (h3.mono fun b _ hb=>hCC _ hb)⟩⟩
theorem zat.full {F:Fp} {w:World} {n size:Nat} {ls:List LV} {A:Option Addr} {c:Nat} (h:zat F w (.sl n size ls) (.slice A n c)):zat F w (.sl n size ls) (.slice A n n):=by
 cases h with
 | sl _ _ _ _ _ cs hl hcs hc hm hA hr=>exact .sl n size ls A n cs hl hcs (xw _) (yi hc hm) hA hr
theorem zLB {P:Program} {o:Oper} {α:Type} {r:Rp α} {xs ys:List α} {D:List Nat} {a:AV} {i j:Int} {t e':TypeId} {k1 k2 k3:IntKind} {x y z u:Operand} {bytes:Nat} (e ℓ:Nat)
  (ho:o.op= .slice t x (some y) (some z) (some u)) (hT:ElT P t e' r.size bytes) (hs:isSl r xs D a) (hy:cut xs i j=some ys):
  zz P o [(x,a),(y,.lf (.int k1 i)),(z,.lf (.int k2 j)),(u,.lf (.int k3 j))] [] [] [] (.cu (mxC r e ys) ℓ D []) []:=by
 refine zJ fun γ ev w hin _=>?_
 have h1:=hs γ w _ (hin (x,a) (by simp));have hy1:ev y=_:=zdB (hin (y,.lf (.int k1 i)) (by simp));have hy2:ev z=_:=zdB (hin (z,.lf (.int k2 j)) (by simp));have hy3:ev u=_:=zdB (hin (u,.lf (.int k3 j)) (by simp));simp only at h1;obtain ⟨A,c,cs,hv,hc,hm,_⟩:=zmw h1;obtain ⟨c0,c1,c2,_⟩:=zpn hy;have hl:=zAp hy;have hb1:=zcD (P:=P) w k1 i j.toNat .slice3C c0 (by omega);have hb2:=zcD (P:=P) w k2 j j.toNat .slice3B (by omega) (by omega);have hb3:=zcD (P:=P) w k3 j c .slice3Acap (by omega) (by omega);have ka:(Instr.sliceAt t (.slice A xs.length c) (some (.int k1 i)) (some (.int k2 j)) (some (.int k3 j))).run P w= .ok (.slice (if j.toNat=i.toNat then A else A.map (·.add (i.toNat*r.size))) (j.toNat - i.toNat) (j.toNat - i.toNat)) w:=by
  simp [Instr.sliceAt,Instr.slice,run_underlying hT.u,Instr.sliceBounds,hb1,hb2,hb3,hT.size]
 refine ⟨.slice (if j.toNat=i.toNat then A else A.map (·.add (i.toNat*r.size))) (j.toNat - i.toNat) (j.toNat - i.toNat),w,γ,by simp [execOp,ho,hv,hy1,hy2,hy3,ka],Tr.refl _ _ _ _,⟨False,.inr ⟨id,⟨(if j.toNat=i.toNat then A else A.map (·.add (i.toNat*r.size))),by rw [hl]⟩,?_⟩⟩,fun b hb=>by cases hb⟩;rw [hv] at h1;have hr:=zFH h1 hy;rw [<-hl] at hr|-;by_cases hji:j.toNat=i.toNat
 ·have h0:ys=[]:=yA (by omega);subst h0;exact .sl 0 _ _ _ 0 [] (by simp) (by simp) (xw _) (xC _) (fun h=>absurd h (pY _)) (fun i l u h=>by simp at h)
 ·rw [xp (by omega)] at hr;rw [xp hji];exact hr.full
def TnS (W V:List Nat) (T:List (AV×AV)):List (Nat×AV×AV)->Prop
 | []=>True
 | q::l=>zrm W V T q.2.1 q.2.2/\TnS W V T l
theorem TnS.at {W V:List Nat} {T:List (AV×AV)}:∀{l:List (Nat×AV×AV)},TnS W V T l->∀q∈l,zrm W V T q.2.1 q.2.2
 | [],_,q,hq=>by cases hq
 | p::l,h,q,hq=>by
  cases hq with
  | head=>exact h.1
  | tail _ hq=>exact TnS.at h.2 q hq
theorem zzC {P:Program} {o:Oper} {ins:List (Operand×AV)} {W V:List Nat} {av:AV} {T:List (AV×AV)} (ss:List (Nat×AV×AV)) (bs:List (Bx×Bx)) (h:znf P o ins W V av T) (hc:zsp ins) (hd:(ss.all fun q=> !zpU o.dst q.1)=true) (hss:TnS W V T ss) (hb:BxsT W V T bs):
  zsm P o (zkk ins++(ss.map (fun q=> .sl q.1 q.2.1)++bs.map fun p=> .bx p.1)) W V (slOf o.dst av++(ss.map (fun q=> .sl q.1 q.2.2)++bs.map fun p=> .bx p.2)):=by
 intro γ ac w kg hr next Q hk;refine h γ ac w (zqg hc fun f hf=>hr f (ym _ hf)) next Q fun γ' w' v ht hv hT=>hk γ' w' v ht fun f hf=>?_
 rcases xA.1 hf with hf| hf
 ·exact zHT kg hv f hf
 ·rcases xA.1 hf with hf| hf
  ·obtain ⟨q,hq,rfl⟩:=xz.1 hf;have h0:=hr (.sl q.1 q.2.1) (yf _ (ym _ (xz.2 ⟨q,hq,rfl⟩)));have h1:=hss.at q hq _ _ _ _ ht hT _ h0;have h2:zpU o.dst q.1=false:=by simpa using xF.1 hd q hq
   show q.2.2.rel γ' w' ((ac.put o.dst v).tmps.getD q.1 undef);rw [zsZ h2];exact h1
  ·obtain ⟨p,hp,rfl⟩:=xz.1 hf;exact hb.rel ht hT (fun p hp=>hr (.bx p.1) (yf _ (yf _ (xz.2 ⟨p,hp,rfl⟩)))) p hp
theorem zyl {α β:Type _}:∀l:List (α×β),(l.map (·.1)).zip (l.map (·.2))=l
 | []=>rfl
 | p::l=>by rw [xH,xH,List.zip_cons_cons,zyl l]
theorem zLU {P:Program} {o:Oper} {κ α:Type} [DecidableEq κ] {rk:Rp κ} {r:Rp α} {e:TypeId} {ℓ:Nat} {C:List Nat} {m:List (κ×List α)} {q:κ} {f:FuncId} {ts:Array TypeId} {ins tns:List AV} {zs:List α}
  (b1 b2:List (Operand×AV)) (K:Nat) (D:List Nat) (j d:Nat) (ho:o.op= .call ⟨.value (.func f),(b1.map (·.1)++ .tmp j::b2.map (·.1)).toArray,ts⟩) (hc:∀as w,(callFunc f as).run P w= .ok (.enter f as) w)
  (ok:zfZ P f ins [.cu (mxC r e zs) K [0] []] tns) (hin:(b1.map (·.2)).map (inW [(ℓ,K)])++ .cu (mxC r e ((mget m q).getD [])) K [0] []::(b2.map (·.2)).map (inW [(ℓ,K)])=ins) (hd:o.dst=some d) (hK:spB K=true)
  (hx1:((zfI (b1.map (·.2))).all fun a=>subN (zfJ [(ℓ,K)] a) D)=true) (hx2:((zfI (b2.map (·.2))).all fun a=>subN (zfJ [(ℓ,K)] a) D)=true) (hz1:zrv [(ℓ,K)] (zfI (b1.map (·.2)))=[]) (hz2:zrv [(ℓ,K)] (zfI (b2.map (·.2)))=[])
  (hC:(subN C D&& !memN ℓ D)=true) (hcs:zsp (b1++b2)):
  zsm P o (.lk j rk r e ℓ C m q::zkk (b1++b2)) [ℓ] [] [.ap d rk r e ℓ D m q zs]:=by
 intro γ a w hs hr next Q hnx;simp only [xu,xU] at hC;have hK2:2<=K:=by have:=(zGE.1 hK).1;omega
 obtain ⟨bm,n,O,hm,hv⟩:=hr (.lk j rk r e ℓ C m q) (by simp);obtain ⟨v,hve⟩:∃v,v=a.tmps.getD j undef:=⟨_,rfl⟩;rw [<-hve] at hv;obtain ⟨o1,hrow,hap⟩:=zNK hm hv;have hnD:ℓ∉D:=fun h=>by rw [zab.2 h] at hC;cases hC.2
 have hCD:∀c∈C,c∈D:=zZ hC.1;have hothers:=zqg hcs (fun f hf=>hr f (xt _ hf));have h1:AV.relL γ w (b1.map (·.2)) ((b1.map (·.1)).map a.eval):=zkX (by simp) fun p hp=>hothers p (ym _ (by rwa [zyl] at hp))
 have h2:AV.relL γ w (b2.map (·.2)) ((b2.map (·.1)).map a.eval):=zkX (by simp) fun p hp=>hothers p (yf _ (by rwa [zyl] at hp))
 let S:Fp:=fun b=>o1/\v.ownBlock=some b
 have b3:zgY ([(ℓ,K)].map (·.1)) D=true:=by simp [zgY,hC.2]
 have hpf:zdX [(ℓ,K)] ℓ=some K:=by simp [zdX]
 have hpb:∀q∈[(ℓ,K)],zgI [(ℓ,K)] q.2=some q.1:=fun q hq=>by
  simp only [xx,xJ,xK] at hq;subst hq;simp [zgI]
 have hp2:∀q∈[(ℓ,K)],2<=q.2:=fun q hq=>by
  simp only [xx,xJ,xK] at hq;subst hq;exact hK2
 have hpa:([(ℓ,K)].all fun q=>Nat.ble 2 q.2)=true:=xF.2 fun q hq=>Nat.ble_eq_true_of_le (hp2 q hq)
 simp only [xF] at hx1 hx2;have in1:=zsD (S:=S) b3 hpb hp2 h1 (fun x hx c hc=>zZ (hx1 x hx) c hc) fun q hq ℓ' hℓ'=>by
  have:=znw hq hℓ';rw [hz1] at this;cases this
 have in2:=zsD (S:=S) b3 hpb hp2 h2 (fun x hx c hc=>zZ (hx2 x hx) c hc) fun q hq ℓ' hℓ'=>by
  have:=znw hq hℓ';rw [hz2] at this;cases this
 have hS:∀b,2<=(ghW γ D [(ℓ,K)] S).col b->γ.col b=ℓ/\S b:=fun b hb=>by
  obtain ⟨hs,k,hk⟩:=zsB hb;have:=zcY hk;simp only [xx,xJ,xK,yr] at this;exact ⟨this.1,hs⟩
 have hx:(AV.cu (mxC r e ((mget m q).getD [])) K [0] []).rel (ghW γ D [(ℓ,K)] S) w v:=by
  have hF:∀b,b<w.heap.size->γ.F C b->(ghW γ D [(ℓ,K)] S).F [0] b:=fun b _ hb=>by
   show (ghW γ D [(ℓ,K)] S).col b∈[0];rw [zMA b3 (hCD _ hb)];exact xr
  refine ⟨o1,?_⟩;rcases hrow with ⟨ho,cs,hw,hg,hA⟩| ⟨ho,hv,hL⟩
  ·exact .inl ⟨ho,cs,hw,fun g kd=>zFR (S:=S) ⟨ho,kd⟩ (by rw [hg g kd];exact hpf),hA.mono hF⟩
  ·exact .inr ⟨ho,hv,hL.mono hF⟩
 have hin':AV.relL (ghW γ D [(ℓ,K)] S) w ins ((b1.map (·.1)).map a.eval++v::(b2.map (·.1)).map a.eval):=by
  rw [<-hin];exact zqe in1 ⟨v,_,rfl,hx,in2⟩
 have ka:(execOp a.eval o).run P w= .ok (.enter f ((b1.map (·.1)).map a.eval++v::(b2.map (·.1)).map a.eval).toArray) w:=by
  have e1:a.eval (.tmp j)=v:=hve.symm;simp [execOp,ho,resolve,Act.eval,Deferred.ofValue,invoke,hc,hve]
 refine zGV (args:=b1.map (·.1)++ .tmp j::b2.map (·.1)) (ts:=ts) ka (fun c=>by rw [ho];simp) (ok w _ _ hin') fun e1 w' hR=>?_
 obtain ⟨γc,us,rfl,⟨⟨⟨x1,x2,x3,x4⟩,x5,x6,x7⟩,x8⟩,hru,_⟩:=hR;obtain ⟨v',us',rfl,hv',hus'⟩:=hru;cases hus';obtain ⟨o2,hnew⟩:=hv'
 let γ':Gh:=⟨fun b=>if b<w.heap.size then γ.col b else if γc.col b=K then ℓ else 1,γ.box⟩
 have kp:∀b,b<w.heap.size->γ'.col b=γ.col b:=fun b hb=>by show (if b<w.heap.size then γ.col b else _)=_;rw [xq hb]
 have hKold:∀b,b<w.heap.size->γc.col b=K->γ.col b=ℓ/\S b:=fun b hb hk=>by
  rcases yv ((ghW γ D [(ℓ,K)] S).col b) 2 with h| h
  ·have:=(x5 b hb h).1;omega
  ·exact hS b h
 have hbk:∀b,b<w.heap.size->¬(o1/\v.ownBlock=some b)->w'.heap[b]? =w.heap[b]? :=fun b hb hno=>by
  rcases yv ((ghW γ D [(ℓ,K)] S).col b) 2 with h| h
  ·exact (x5 b hb h).2
  ·exact absurd (hS b h).2 hno
 have ht:Tr [ℓ] [] γ w γ' w':=by
  refine ⟨x1,x2,x3,x4,fun b hb hn=>?_,kp,fun _ _=>rfl,fun b k1 k2 h0=>?_⟩
  ·rcases yv ((ghW γ D [(ℓ,K)] S).col b) 2 with h| h
   ·exact (x5 b hb h).2
   ·exact absurd (by rw [(hS b h).1];exact xr) hn
  ·have h0':(if b<w.heap.size then γ.col b else if γc.col b=K then ℓ else 1)=0:=h0;rw [xp (ql.2 k1)] at h0';split at h0'
   ·exact .inl (by rw [h0'];exact xr)
   ·cases h0'
 refine ⟨v',rfl,hnx γ' w' v' ht fun f hf=>?_⟩;simp only [xx,xJ,xK] at hf;subst hf;refine zKW (o2:=o2) hm hrow hap ht hbk hnD hCD (hnew.regh (fun b hb hk=>?_) (fun b hb h0=>?_)) (fun ho g hg=>?_) (by rw [hd,zde (hs d hd)])
 ·show (if b<w.heap.size then γ.col b else if γc.col b=K then ℓ else 1)=ℓ;by_cases wS:b<w.heap.size
  ·rw [xq wS];exact (hKold b wS hk).1
  ·rw [xp wS,xq hk]
 ·have h0':γc.col b=0:=by simpa using h0
  by_cases wS:b<w.heap.size
  ·rw [kp b wS];rcases yv ((ghW γ D [(ℓ,K)] S).col b) 2 with h| h
   ·exact zwJ (p:=[(ℓ,K)]) (S:=S) hpa (by rw [<-(x5 b wS h).1];exact h0')
   ·exact absurd h0' (x6 b wS h)
  ·exact absurd h0' (x7 b (yY wS) hb)
 ·rcases hnew with ⟨_,cs,hw,hgc,_⟩| ⟨hno,_⟩
  ·by_cases wS:g<w.heap.size
   ·exact .inr (hKold g wS (hgc g hg)).2
   ·exact .inl (yY wS)
  ·exact absurd ho hno
structure Ev (a:Act) (n:Nat) (l:List (Nat×Value)):Prop where
 defers:a.defers=[]
 size:a.tmps.size=n
 val:∀p∈l,a.tmps.getD p.1 undef=p.2
def ztM:List (Nat×Value)->Nat->Option Value
 | [],_=>none
 | p::l,k=>match Nat.beq p.1 k with
  | true=>some p.2
  | false=>ztM l k
theorem zrK:∀{l:List (Nat×Value)} {k:Nat} {v:Value},ztM l k=some v->(k,v)∈l
 | [],_,_,h=>by cases h
 | p::l,k,v,h=>by
  rw [ztM] at h;split at h
  ·rename_i hb;cases h;rw [<-xE hb];exact xr
  ·exact xt _ (zrK h)
def zuB:List (Nat×Value)->Nat->List (Nat×Value)
 | [],_=>[]
 | p::l,k=>match Nat.beq p.1 k with
  | true=>zuB l k
  | false=>p::zuB l k
theorem znn:∀{l:List (Nat×Value)} {k:Nat} {p:Nat×Value},p∈zuB l k->p∈l/\p.1≠k
 | [],_,_,h=>by cases h
 | q::l,k,p,h=>by
  rw [zuB] at h;split at h
  ·exact ⟨xt _ (znn h).1,(znn h).2⟩
  ·rename_i hb;cases h with
   | head=>exact ⟨xr,fun e=>by rw [e,Nat.beq_refl] at hb;cases hb⟩
   | tail _ h=>exact ⟨xt _ (znn h).1,(znn h).2⟩
section
variable {P:Program} {ops:Array Oper} {Q:Exit->Act->World->Prop} {l:List Oper} {o:Oper} {a:Act} {w w':World} {n d:Nat} {es:List (Nat×Value)} {v:Value}
theorem Ev.at (h:Ev a n es) (hk:ztM es k=some v):a.eval (.tmp k)=v:=h.val _ (zrK hk)
theorem Ev.sub (h:Ev a n es) (hs:∀p∈es',p∈es):Ev a n es':=⟨h.defers,h.size,fun p hp=>h.val p (hs p hp)⟩
theorem Ev.put (h:Ev a n es) (hd:Nat.blt d n=true):Ev (a.put (some d) v) n ((d,v)::zuB es d):=by
 have hd':d<a.tmps.size:=by rw [h.size];exact xN hd
 refine ⟨by rw [zhi];exact h.defers,by rw [znB];exact h.size,fun p hp=>?_⟩;cases hp with
 | head=>exact zde hd'
 | tail _ hp=>
  obtain ⟨h1,h2⟩:=znn hp;rw [ziJ h2];exact h.val p h1
theorem Ev.one (v:Value) (k:Nat):Ev ⟨#[v]++Array.replicate k undef,[]⟩ (1+k) [(0,v)]:=⟨rfl,by simp,fun p hp=>by
 simp only [xx,xJ,xK] at hp;subst hp;rw [yB,pv (by simp)];rfl⟩
def EvIn (es:List (Nat×Value)):List (Nat×Value)->Prop
 | []=>True
 | p::l=>ztM es p.1=some p.2/\EvIn es l
theorem EvIn.mem :∀{l:List (Nat×Value)},EvIn es l->∀p∈l,p∈es
 | q::l,h,p,hp=>by
  cases hp with
  | head=>exact zrK h.1
  | tail _ hp=>exact h.2.mem p hp
theorem Ev.pick (h:Ev a n es) (es':List (Nat×Value)) (hs:EvIn es es'):Ev a n es':=h.sub hs.mem
theorem wk (h:Ev a n es) (hg:o.guard=none) (hd:o.dst=some d) (hn:Nat.blt d n=true) (hr:(execOp a.eval o).run P w= .ok (.value v) w')
  (k:∀a',Ev a' n ((d,v)::zuB es d)->zlt P ops Q l a' w'):zlt P ops Q (o::l) a w:=
 ziK (by simp [Region.wanted,hg]) (zjB hr (k _ (by rw [hd];exact h.put hn)))
theorem zhH (h:Q .normal a w):zlt P ops Q [] a w:=fun _=>h
variable {ev:Operand->Value} {x y:Operand}
theorem zan (ho:o.op= .move x) (hx:ev x=v):(execOp ev o).run P w= .ok (.value v) w:=by simp [execOp,ho,hx]
theorem zht (ho:o.op= .assign x) (hx:ev x=v):(execOp ev o).run P w= .ok (.value v) w:=by simp [execOp,ho,hx]
theorem zIF (ho:o.op= .call ⟨.builtin .len,#[x],#[t]⟩) (hx:ev x= .slice A m c) (hu:P.underlying t=some (.slice e)):(execOp ev o).run P w= .ok (.value (.int .i64 (m:Int))) w:=by
 simp [execOp,ho,resolve,invoke,hx,builtin,Builtin.len_,run_underlying hu,goInt]
theorem zMZ (ho:o.op= .binOp .add t x y s) (hx:ev x= .int .i64 i) (hy:ev y= .int .i64 j):(execOp ev o).run P w= .ok (.value (.int .i64 (i64.wrap (i+j)))) w:=by
 simp [execOp,ho,hx,hy,zml,binOp];rfl
end
theorem zoF (x:Int):u8.wrap x=x%256:=by simp [IntKind.wrap,IntKind.bits,IntKind.signed]
theorem zDW (x:Int):u32.wrap x=x%4294967296:=by simp [IntKind.wrap,IntKind.bits,IntKind.signed]
theorem wrap_u64 (x:Int):u64.wrap x=x%18446744073709551616:=by simp [IntKind.wrap,IntKind.bits,IntKind.signed]
theorem wrap_i64 (h: -9223372036854775808<=x/\x<=9223372036854775807):i64.wrap x=x:=by
 simp [IntKind.wrap,IntKind.bits,IntKind.signed];split<;>omega
theorem uL {x:Int} (h: -9223372036854775808<=x/\x<=9223372036854775807:=by omega):i64.wrap x=x:=wrap_i64 h
theorem zIk (x:Int):i32.wrap x=if x%4294967296<2147483648 then x%4294967296 else x%4294967296 - 4294967296:=by
 simp [IntKind.wrap,IntKind.bits,IntKind.signed];split<;>split<;>omega
theorem ztD {k:IntKind} (hk:k.signed=false) {n:Nat} (h:n<2^k.bits):k.wrap (n:Int)=n:=by
 have h2:(n:Int)%(2^k.bits:Int)=n:=yL (by omega) (by exact_mod_cast h);simp only [IntKind.wrap,hk,yS,h2];simp
theorem zqJ {b n:Nat} (h:n<2^b):(BitVec.ofInt b (n:Int)).toNat=n:=by
 rw [BitVec.toNat_ofInt];have h2:(n:Int)%((2^b:Nat):Int)=n:=yL (by omega) (by exact_mod_cast h);rw [h2];rfl
theorem zBF {k:IntKind} (hk:k.signed=false) {a b:Nat} (ha:a<2^k.bits) (hb:b<2^k.bits):andI k a b=((a&&&b:Nat):Int):=by
 unfold andI;rw [BitVec.toNat_and,zqJ ha,zqJ hb];exact ztD hk (Nat.lt_of_le_of_lt Nat.and_le_left ha)
theorem zvM {k:IntKind} (hk:k.signed=false) {a b:Nat} (ha:a<2^k.bits) (hb:b<2^k.bits):orI k a b=((a||| b:Nat):Int):=by
 unfold orI;rw [BitVec.toNat_or,zqJ ha,zqJ hb];exact ztD hk (Nat.or_lt_two_pow ha hb)
theorem ztk {k:IntKind} {a b:Nat} (hb:b<=k.bits):shrI k a b=((a/2^b:Nat):Int):=by
 unfold shrI;have h2:(2:Int)^b=((2^b:Nat):Int):=by simp
 rw [xD,yO hb,h2,Int.fdiv_eq_ediv_of_nonneg _ (Int.natCast_nonneg (2^b)),Int.natCast_ediv]
theorem zxk (a c k:Nat) (h:a<2^k):a||| (c*2^k)=a+c*2^k:=by
 rw [pJ,yT,<-Nat.two_pow_add_eq_or_of_lt h,pK]
theorem zsn (n m:Nat):((n:Int)==(m:Int))=decide (n=m):=by
 by_cases h:n=m
 ·simp [h]
 ·have:¬((n:Int)=m):=by omega
  simp [h,this]
theorem zK {α:Type} {xs:List α} {i:Int} {n:Nat} (h:i=n) (hn:n<xs.length):idx xs i=some xs[n]:=by
 unfold idx;subst h;rw [xq (by omega),xD,xM hn]
theorem zgv {α:Type} {xs:List α} {i j:Int} {a b:Nat} (hi:i=a) (hj:j=b) (h:a<=b) (hb:b<=xs.length):cut xs i j=some ((xs.drop a).take (b - a)):=by
 unfold cut;subst hi hj;rw [xq (by omega),xD,xD]
theorem zpm {α:Type} {xs:List α} {i j:Int} {a:Nat} (hi:i=a) (hj:j=(xs.length:Int)) (h:a<=xs.length):cut xs i j=some (xs.drop a):=by
 rw [zgv hi hj h (xw _),yM (by simp)]
theorem zsr {α:Type} {xs:List α} {j:Int} {b:Nat} (hj:j=b) (hb:b<=xs.length):cut xs 0 j=some (xs.take b):=by
 have:=zgv (xs:=xs) (i:=0) (a:=0) rfl hj (xC _) hb;simpa using this
theorem zcF {α:Type} {bytes:Nat} {xs ys:List α} (h:(xs.length+ys.length)*bytes<=140737488355328):app bytes xs ys=some (xs++ys):=by
 unfold app LIM;rw [xq h]
theorem zEK {α:Type} {bytes:Nat} {x0:α} {n m:Int} {a:Nat} (hn:n=a) (h:n<=m) (hm:m*bytes<=140737488355328):mkO bytes x0 n m=some (List.replicate a x0):=by
 unfold mkO LIM;subst hn;rw [xq ⟨by omega,h,hm⟩,xD]
theorem zLI {α:Type} {bytes:Nat} {x0:α} {m:Int} (h:0<=m) (hm:m*bytes<=140737488355328):mkO bytes x0 0 m=some []:=by
 have:=zEK (x0:=x0) (n:=0) (a:=0) rfl h hm;simpa using this
theorem zBO (h:x=(c.toNat:Int)):zii x=some c:=by
 unfold zii;subst h;have:=c.toNat_lt;rw [xq (by omega),xD,UInt8.ofNat_toNat]
theorem zhr {x:Int} {n:Nat} (h:x=n) (hn:n<256):zii x=some (UInt8.ofNat n):=by
 refine zBO ?_;rw [h,UInt8.toNat_ofNat'];congr 1;omega
theorem zDt {k:IntKind} {x:Int} {n:Nat}:shlO k x n=some (shlI k x n):=by unfold shlO;rw [xp (by omega)]
theorem zKj {k:IntKind} {x:Int} {n:Nat}:shrO k x n=some (shrI k x n):=by unfold shrO;rw [xp (by omega)]
theorem sb {α β:Type} {a:α} {f:α->Option β}:((some a:Option α)>>=f)=f a:=rfl
theorem itT {α:Type} {c:Bool} {x y:α} (h:c=true):(if c then x else y)=x:=by rw [h];rfl
theorem uJ {α:Type} {c:Bool} {x y:α} (h:c=true:=by simp;omega):(if c then x else y)=x:=itT h
theorem uG {α:Type} {c:Bool} {x y:α} (h:c=true:=by rfl):(if c then x else y)=x:=itT h
theorem itF {α:Type} {c:Bool} {x y:α} (h:c=false):(if c then x else y)=y:=by rw [h];rfl
theorem uK {α:Type} {c:Bool} {x y:α} (h:c=false:=by simp;omega):(if c then x else y)=y:=itF h
theorem uI {α:Type} {c:Bool} {x y:α} (h:c=false:=by simp):(if c then x else y)=y:=itF h
theorem uH {α:Type} {c:Bool} {x y:α} (h:c=false:=by rfl):(if c then x else y)=y:=itF h
open Go.RowKit (wrap32 wrap64)
def sgnS (x:Int):Int:=if x%4294967296<2147483648 then x%4294967296 else x%4294967296 - 4294967296
def zoO (x:Int):Int:=if 0<=x then x else x+18446744073709551616
def lenN (n:Nat):Nat:=if n<128 then 1 else lenN (n/128)+1
termination_by n
decreasing_by omega
def zgA:Nat->Nat->List UInt8
 | 0,_=>[]
 | k+1,w=>UInt8.ofNat (w%256)::zgA k (w/256)
def word:List UInt8->Nat
 | []=>0
 | c::r=>c.toNat+256*word r
theorem zBi (x:Int): -2147483648<=sgnS x/\sgnS x<=2147483647:=by unfold sgnS;split<;>omega
theorem zMn (h: -9223372036854775808<=x/\x<=9223372036854775807):0<=zoO x/\zoO x<=18446744073709551615:=by unfold zoO;split<;>omega
theorem zKi {x:Int} (h: -2147483648<=x/\x<=2147483647):sgnS (zoO x)=x:=by unfold sgnS zoO;split<;>split<;>omega
theorem znu (n:Nat):1<=lenN n:=by unfold lenN;split<;>omega
theorem zdD (h:n<128):lenN n=1:=by rw [lenN,xq h]
theorem zdl (h:¬n<128):lenN n=lenN (n/128)+1:=by rw [lenN,xp h]
theorem zLw:∀(k n:Nat),n<128^k->0<k->lenN n<=k:=by
 intro k
 induction k with
 | zero=>intro n _ h;omega
 | succ k ih=>
  intro n hn _;by_cases h:n<128
  ·rw [zdD h];omega
  ·rw [zdl h];have h1:n/128<128^k:=by rw [yH] at hn;exact Nat.div_lt_of_lt_mul (by omega)
   have h2:0<k:=by
    rcases q8 k with rfl| h
    ·simp at h1;omega
    ·exact h
   have:=ih _ h1 h2;omega
theorem zsJ (h:n<18446744073709551616):lenN n<=10:=zLw 10 n (by omega) (by omega)
def lz (m:Nat):Nat:=if m=0 then 0 else lenN m
theorem zNy (h:m≠0):lz m=lz (m/128)+1:=by
 unfold lz;rw [xp h];split
 ·rw [zdD (by omega)]
 ·rw [zdl (by omega)]
theorem zNx (n:Nat):lenN n=1+lz (n/128):=by
 unfold lz;split
 ·rw [zdD (by omega)]
 ·rw [zdl (by omega),pK]
theorem zaB:∀(k n:Nat),(zgA k n).length=k
 | 0,_=>rfl
 | k+1,n=>by simp [zgA,zaB k]
theorem zqu:∀(k n:Nat),word (zgA k n)=n%256^k
 | 0,n=>by simp [zgA,word,Nat.mod_one]
 | k+1,n=>by
  rw [zgA,word,zqu k];have:(UInt8.ofNat (n%256)).toNat=n%256:=by simp
  rw [this,yH,yT (256^k),Nat.mod_mul]
theorem zuJ:∀(k n:Nat),zgA (k+1) n=zgA k n++[UInt8.ofNat (n/256^k%256)]
 | 0,n=>by simp [zgA]
 | k+1,n=>by
  rw [zgA,zuJ k,zgA];simp only [yj,yG,List.append_cancel_left_eq,qn,qo];rw [Nat.div_div_eq_div_mul,yH,yT (256^k)]
def zhv (n m j:Nat):List UInt8:=zgA j m++List.replicate (n - j) 0
theorem zAF (n m:Nat):zhv n m 0=List.replicate n 0:=by simp [zhv,zgA]
theorem zCG (n m:Nat):zhv n m n=zgA n m:=by simp [zhv]
theorem zwV {n m j:Nat} (h:j<=n):(zhv n m j).length=n:=by simp [zhv,zaB];omega
theorem zCH {n m j:Nat} (h:j<n):(zhv n m j).set j (UInt8.ofNat (m/256^j%256))=zhv n m (j+1):=by
 unfold zhv;rw [zuJ,List.set_append,xp (by rw [zaB];omega),zaB,Nat.sub_self,show n - j=(n - (j+1))+1 from by omega,List.replicate_succ,List.set_cons_zero,yk];rfl
theorem zvQ (j:Nat):2^(8*j)=256^j:=by rw [Nat.pow_mul]
theorem zCK (m j:Nat):((m/256^j:Nat):Int)%256=((UInt8.ofNat (m/256^j%256)).toNat:Int):=by
 have e:(UInt8.ofNat (m/256^j%256)).toNat=m/256^j%256:=by simp
 rw [e,Int.natCast_emod];rfl
theorem zvU:∀(l:List UInt8),word l<256^l.length
 | []=>by simp [word]
 | c::r=>by
  have h1:=zvU r;have h2:=c.toNat_lt;simp only [word,ye,yH];omega
theorem zut:∀(l:List UInt8) (c:UInt8),word (l++[c])=word l+c.toNat*256^l.length
 | [],c=>by simp [word]
 | d::r,c=>by
  simp only [yj,word,ye,zut r c,yH];rw [Nat.mul_add,<-qW,yT 256 c.toNat,qW c.toNat,yT (256^r.length)];omega
theorem zLP (a c k:Nat) (h:a<2^k):a||| (c*2^k)=a+c*2^k:=by
 have:=Nat.shiftLeft_add_eq_or_of_lt h c;rw [Nat.shiftLeft_eq] at this;rw [pJ,<-this,pK]
theorem zxt (h:j<=7):256^j<=72057594037927936:=by
 have:=pl (n:=256) (by omega) h;simpa using this
theorem zMq (a d j:Nat) (hj:j<8) (hd:d<256) (ha:a<256^j):
  bits .or .u64 (a:Int) (u64.wrap ((d:Int)*2^(8*j)))=((a+d*256^j:Nat):Int):=by
 have hp:=zxt (show j<=7 by omega);have hm:d*256^j<=255*72057594037927936:=pL (by omega) hp;have e:((d:Int)*2^(8*j))=((d*256^j:Nat):Int):=by
  rw [<-zvQ,Int.natCast_mul,Int.natCast_pow];rfl
 rw [e,pM,yL (by omega) (by omega),bits_or_u64_nat _ _ (by omega) (by omega),<-zvQ,zLP _ _ _ (by rw [zvQ];exact ha)]
theorem zKL (a d j:Nat) (hj:j<8) (hd:d<256) (ha:a<256^j):
  u64.wrap ((a:Int)+u64.wrap ((d:Int)*((256^j%18446744073709551616:Nat):Int)))=((a+d*256^j:Nat):Int):=by
 have hp:=zxt (show j<=7 by omega);have hm:d*256^j<=255*72057594037927936:=pL (by omega) hp;rw [qj (by omega)];have e:((d:Int)*((256^j:Nat):Int))=((d*256^j:Nat):Int):=by rw [Int.natCast_mul]
 have hs:a+d*256^j<18446744073709551616:=by
  have:a+d*256^j<256^j+255*256^j:=Nat.add_lt_add_of_lt_of_le ha (yC _ (by omega));omega
 rw [e,pM,pM];omega
theorem zEV (j:Nat):((256^(j+1)%18446744073709551616:Nat):Int)=u64.wrap (((256^j%18446744073709551616:Nat):Int)*256):=by
 rw [pM,yH];omega
end Go.Proofs.YtaglemhabeipfaaGreat

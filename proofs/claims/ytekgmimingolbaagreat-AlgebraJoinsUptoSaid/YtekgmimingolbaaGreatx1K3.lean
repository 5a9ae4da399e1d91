/-
  What every proof here stands on. No condition.
-/
import Derived.Laws.Bits64b
import Derived.IntWalk
import Derived.RowKit
import Derived.Test.YtekgmimingolbaaGreatx1K2
import Derived.Test.YtekgmimingolbaaGreatx1K1
set_option autoImplicit true
set_option relaxedAutoImplicit true
namespace Go.Proofs.YtekgmimingolbaaGreat
open Go Go.RowKit
def zwb:List LV->Option (List AV)
 | []=>some []
 | l::ls=>match l.plain,zwb ls with
  | true,some r=>some (.lf l::r)
  | _,_=>none
theorem zpJ :∀{ls:List LV} {as:List AV},zwb ls=some as->zjc as=some ls/\as.all (ztJ C)=true
 | [],as,h=>by cases h;exact ⟨rfl,rfl⟩
 | l::ls,as,h=>by
  rw [zwb] at h;split at h
  ·rename_i r h1 h2;cases h;obtain ⟨g1,g2⟩:=zpJ (C:=C) h2;exact ⟨by simp only [zjc,AV.toLV,g1],by simp only [yx,ztJ,h1,g2];rfl⟩
  ·cases h
def zwt:AV->Option (List AV)
 | .ag l=>some l
 | .rc r _ x=>zwb (r.lv x)
 | a=>match zpB a with
  | true=>some [a]
  | false=>none
def zAVs:List Value->Option (List AV)
 | []=>some []
 | v::l=>match zrJ v,zAVs l with
  | some a,some r=>some (a::r)
  | _,_=>none
theorem zzq :∀{vs:List Value} {as:List AV},zAVs vs=some as->AV.relL γ w as vs/\∀u∈vs,u.oneCell'=true
 | [],as,h=>by cases h;exact ⟨rfl,fun u hu=>by cases hu⟩
 | v::vs,as,h=>by
  rw [zAVs] at h;split at h
  ·rename_i a r h1 h2;cases h;obtain ⟨g1,g2⟩:=zzq (γ:=γ) (w:=w) h2;have hr:=znx h1 γ w;have h1c:v.oneCell'=true:=by
    unfold zrJ at h1;split at h1<;>first| rfl| cases h1
   exact ⟨⟨v,vs,rfl,hr,g1⟩,fun u hu=>by
    cases hu with
    | head=>exact h1c
    | tail _ hu=>exact g2 u hu⟩
  ·cases h
section
variable {P:Program} {o:Oper} {t:TypeId} {i:TypeInfo}
theorem ztZ (h:P.info? t=some i) (w:World):(sizeOf t).run P w= .ok i.size w:=by simp [sizeOf,typeInfo,h]
theorem zFt (ℓ:Nat) (ho:o.op= .alloc t) (hi:P.info? t=some i) (hz:i.zero=some z) (hs:zAVs z.cells.toList=some as):zA P o [] [] [] [ℓ] (.ptr ℓ 0) [⟨ℓ,t,as⟩]:=by
 have hzv:∀w,(zeroValue t).run P w= .ok z w:=fun w=>by simp [zeroValue,typeInfo,hi,hz]
 refine zS fun γ ev w _ _=>?_
 refine ⟨.pointer (some ⟨w.heap.size,0,none⟩),w.alloc (.cells z.cells t),_,?_,zpN γ w ℓ _,?_,fun b hb=>?_⟩
 ·simp [execOp,ho,Instr.alloc,Sem.run_bind,hzv,newVar,newRow]
 ·show _=_;rw [zfy]
 ·simp only [xz,xF,xG] at hb;subst hb;have h:=zzq (γ:=zdL γ w.heap.size ℓ w.heap.size) (w:=w.alloc (.cells z.cells t)) hs;refine ⟨by rw [zfy,zkr],z.cells.toList,?_,h.1,h.2⟩;rw [zfy,qz];exact yO w _
theorem zFv (hl:zwt a=some l) (ho:o.op= .store t y z) (hi:P.info? t=some i) (hn:Nat.beq l.length i.size=true) (hoff:Nat.ble (off+i.size) b.avs.length=true) (hf:AV.free [b.lab] [] (.ag l)=true):
  zA P o [(y,.ptr b.lab off),(z,a)] [b] [b.lab] [] .any [⟨b.lab,b.typ,(b.avs.map (AV.clear [b.lab] [])).take off++l++(b.avs.map (AV.clear [b.lab] [])).drop (off+i.size)⟩]:=by
 have hag:=zim (P:=P) (o:=o) (off:=off) (b:=b) l ho (fun w=>ztZ hi w) hn hoff hf;unfold zwt at hl;split at hl
 ·cases hl;exact hag
 ·rename_i r C x;obtain ⟨g1,g2⟩:=zpJ (C:=C) hl;exact hag.le ⟨⟨rfl,AV.le_refl _⟩,⟨rfl,zIV r C x l g1 g2⟩,trivial⟩
 ·split at hl
  ·rename_i h1;cases hl;have hs1:i.size=1:=(xL hn).symm;rw [hs1] at hoff|-;have hlt:off<b.avs.length:=qa (xW hoff);have hf':a.free [b.lab] []=true:=by simpa [AV.free,AV.cols,AV.colsL,AV.labs,AV.labsL] using hf
   have h:=zsO (P:=P) (o:=o) (off:=off) (b:=b) ho (fun w=>by rw [ztZ hi w,hs1]) (Nat.ble_eq_true_of_le hlt) h1 hf';rw [ui,xw (by simpa using hlt)] at h;simpa using h
  ·cases hl
end
def zzz (P:Program) (E:Env) (o:Oper) (ℓ:Nat):Option (List (Operand×AV)×List Bx×List Nat×List Nat×AV×List Bx):=
 match o.op with
 | .alloc t=>match P.info? t with
  | some i=>match i.zero with
   | some z=>match zAVs z.cells.toList with
    | some as=>some ([],[],[],[ℓ],.ptr ℓ 0,[⟨ℓ,t,as⟩])
    | none=>none
   | none=>none
  | none=>none
 | .box t x=>match E.opd x with
  | some (.ag l)=>match AV.free [] [ℓ] (.ag l) with
   | true=>some ([(x,.ag l)],[],[],[ℓ],.ptr ℓ 0,[⟨ℓ,t,l⟩])
   | false=>none
  | some a=>match zwt a,zfC a with
   | some as,some _=>match zjc as with
    | some _=>match as.all (ztJ a.cols) with
     | true=>some ([(x,a)],[],[],[ℓ],.ptr ℓ 0,[⟨ℓ,t,as⟩])
     | false=>none
    | none=>none
   | _,_=>none
  | none=>none
 | .store t y z=>match E.opd y,E.opd z,P.info? t with
  | some (.ptr k off),some a,some i=>match zik E.bx k,zwt a with
   | some b,some l=>match Nat.beq l.length i.size&&Nat.ble (off+i.size) b.avs.length&&AV.free [b.lab] [] (.ag l) with
    | true=>some ([(y,.ptr b.lab off),(z,a)],[b],[b.lab],[],.any,[⟨b.lab,b.typ,(b.avs.map (AV.clear [b.lab] [])).take off++l++(b.avs.map (AV.clear [b.lab] [])).drop (off+i.size)⟩])
    | false=>none
   | _,_=>none
  | _,_,_=>none
 | .load t y=>match E.opd y,P.underlying t,P.info? t with
  | some (.ptr k off),some (.struct _),some i=>match zik E.bx k with
   | some b=>match Nat.beq ((b.avs.drop off).take i.size).length i.size with
    | true=>some ([(y,.ptr b.lab off)],[b],[],[],.ag ((b.avs.drop off).take i.size),[])
    | false=>none
   | none=>none
  | _,_,_=>none
 | _=>none
theorem zzm (C:List Nat):subN C C=true:=by
 simp only [subN,xJ];exact fun c hc=>zbt.2 hc
theorem zFA (h1:zpB a=true) (hp:zfC a=some ls) (ht:zjc [a]=some ls'):zjc [a]=some ls:=by
 cases a<;>simp_all [zpB,zfC,zjc,AV.toLV]
theorem zCF (h:zzz P E o ℓ=some (ins,bxs,W,V,av,bs)):
  zA P o ins bxs W V av bs/\zqx E ins/\zyp E bxs:=by
 unfold zzz at h;split at h
 ·rename_i t ho;split at h
  ·rename_i i hi;split at h
   ·rename_i z hz;split at h
    ·rename_i as hs;simp only [yj,qe] at h;obtain ⟨rfl,rfl,rfl,rfl,rfl,rfl⟩:=h;exact ⟨zFt ℓ ho hi hz hs,trivial,trivial⟩
    ·cases h
   ·cases h
  ·cases h
 ·rename_i t x ho;split at h
  ·rename_i l hl;split at h
   ·rename_i hf;simp only [yj,qe] at h;obtain ⟨rfl,rfl,rfl,rfl,rfl,rfl⟩:=h;exact ⟨zIX ℓ ho hf,⟨hl,trivial⟩,trivial⟩
   ·cases h
  ·rename_i a _ ha;split at h
   ·rename_i as ls hc hp;split at h
    ·rename_i ls' ht;split at h
     ·rename_i hl;simp only [yj,qe] at h;obtain ⟨rfl,rfl,rfl,rfl,rfl,rfl⟩:=h;refine ⟨zbc ℓ as a.cols ho hp (zzm _) ?_ hl,⟨ha,trivial⟩,trivial⟩;unfold zwt at hc;split at hc
      ·cases hc;exact hp
      ·rename_i r C y _;cases hp;exact (zpJ (C:=C) hc).1
      ·split at hc
       ·cases hc;rename_i h1;exact zFA h1 hp ht
       ·cases hc
     ·cases h
    ·cases h
   ·cases h
  ·cases h
 ·rename_i t y z ho;split at h
  ·rename_i k off a i hy hz hi;split at h
   ·rename_i b l hb hc;split at h
    ·rename_i hk;simp only [xA] at hk;simp only [yj,qe] at h;obtain ⟨rfl,rfl,rfl,rfl,rfl,rfl⟩:=h;have e:=(zfj hb).2;refine ⟨zFv hc ho hi hk.1.1 hk.1.2 hk.2,⟨by rw [e];exact hy,hz,trivial⟩,?_⟩;refine ⟨?_,trivial⟩;rw [e];exact hb
    ·cases h
   ·cases h
  ·cases h
 ·rename_i t y ho;split at h
  ·rename_i k off fs i hy hu hi;split at h
   ·rename_i b hb;split at h
    ·rename_i hk;simp only [yj,qe] at h;obtain ⟨rfl,rfl,rfl,rfl,rfl,rfl⟩:=h;have e:=(zfj hb).2;refine ⟨zdg _ ho ⟨fun w=>by simp [isAgg,run_underlying hu],fun w=>ztZ hi w⟩ rfl hk,⟨by rw [e];exact hy,trivial⟩,?_⟩;refine ⟨?_,trivial⟩;rw [e];exact hb
    ·cases h
   ·cases h
  ·cases h
 ·cases h
def zKP:List Nat->Nat
 | []=>0
 | x::_=>x
def zLh:List Nat->List Nat->List Nat
 | [],ls=>ls
 | _::_,ls=>ls.tail
def runX (P:Program) (N:Lim) (ops:Array Oper):List Oper->List Nat->Env->Option Env
 | [],_,E=>some E
 | o::rest,ls,E=>match zgN ops E o with
  | some true=>match zjS N o.dst with
   | true=>match zuz P E.opd E.bx o.op with
    | some av=>runX P N ops rest ls ⟨zif o.dst av E.sl,E.bx⟩
    | none=>match zzz P E o (zKP ls) with
     | some (_,_,W,V,av,bs)=>match okW W&&okW V with
      | true=>runX P N ops rest (zLh V ls) (E.step W V o.dst av bs)
      | false=>none
     | none=>none
   | false=>none
  | some false=>match zjS N o.dst with
   | true=>runX P N ops rest ls ⟨zif o.dst (.tup []) E.sl,E.bx⟩
   | false=>none
  | none=>none
theorem zsg :∀(l:List Oper) (rest:List Oper) (ls:List Nat) (E:Env),runX P N ops l ls E=some E1->zcM P N ops rest E1 E'->zcM P N ops (l++rest) E E'
 | [],rest,ls,E,h,k=>by cases h;exact k
 | o::l,rest,ls,E,h,k=>by
  rw [runX] at h;split at h
  ·rename_i hg;split at h
   ·rename_i hd;split at h
    ·rename_i av he;intro cx a w Q hn hs hQ;obtain ⟨γ,hB,hS,hX⟩:=hs;obtain ⟨v,hr,hv⟩:=zpw he (γ:=γ) (w:=w) (ev:=a.eval) (fun x _ av hx=>Env.opd_rel hx hS) hX;rw [yz];refine zhJ (zfG hg hS) (zkv hr ?_);exact zsg l rest ls _ h k cx _ _ Q hn ⟨γ,hB.put _ _ (by rw [hn];exact zeU hd),hS.put (fun k hk=>by rw [hB.size,hn];exact zhu hd k hk) hv,hX⟩ hQ
    ·split at h
     ·rename_i ins bxs W V av bs hb;split at h
      ·rename_i hW;rw [xA] at hW;obtain ⟨h1,h2,h3⟩:=zCF hb;rw [yz];exact zwd hg h1 h2 h3 hW.1 hW.2 hd (zsg l rest _ _ h k)
      ·cases h
     ·cases h
   ·cases h
  ·rename_i hg;split at h
   ·rename_i hd;rw [yz];exact zJk hg hd (zsg l rest ls _ h k)
   ·cases h
  ·cases h
def zIg (P:Program) (N:Lim) (ops:Array Oper) (rest:List Oper) (n:Nat) (ls:List Nat) (o:Oper) (E:Env) (xs:List Operand) (bl W V:List Nat) (av:AV) (bs:List Bx):Option (List AV×List Bx×Env):=
 match runX P N ops (rest.take n) ls E with
 | some E0=>match zgN ops E0 o,okW W&&okW V&&zjS N o.dst,zop E0 xs,zrj E0.bx bl with
  | some true,true,some as,some bxs=>some (as,bxs,E0.step W V o.dst av bs)
  | _,_,_,_=>none
 | none=>none
def zCd (P:Program) (N:Lim) (ops:Array Oper) (rest:List Oper) (n:Nat) (ls:List Nat) (o:Oper) (E:Env) (xs:List Operand) (bl W V:List Nat) (av:AV) (bs:List Bx):Env:=
 match zIg P N ops rest n ls o E xs bl W V av bs with
 | some r=>r.2.2
 | none=>E
def zCc (P:Program) (N:Lim) (ops:Array Oper) (rest:List Oper) (n:Nat) (ls:List Nat) (o:Oper) (E:Env) (xs:List Operand) (bl W V:List Nat) (av:AV) (bs:List Bx):Option (List AV×List Bx):=
 match zIg P N ops rest n ls o E xs bl W V av bs with
 | some r=>some (r.1,r.2.1)
 | none=>none
def endE (P:Program) (N:Lim) (ops:Array Oper) (rest:List Oper) (ls:List Nat) (E:Env):Env:=match runX P N ops rest ls E with
 | some E1=>E1
 | none=>E
def endB (P:Program) (N:Lim) (ops:Array Oper) (rest:List Oper) (ls:List Nat) (E:Env):Bool:=match runX P N ops rest ls E with
 | some _=>true
 | none=>false
theorem zAY (h:endB P N ops rest ls E=true):runX P N ops rest ls E=some (endE P N ops rest ls E):=by
 unfold endB at h;unfold endE;split at h
 ·rename_i E1 h1;rw [h1]
 ·cases h
def splC (P:Program) (N:Lim) (ops:Array Oper) (rest:List Oper) (ls:List Nat) (E:Env) (t:Nat):Option AV:=match runX P N ops rest ls E with
 | some E1=>lookup E1.sl t
 | none=>none
def finC (P:Program) (N:Lim) (ops:Array Oper) (rest:List Oper) (ls:List Nat) (E:Env) (ks bs:List Nat):Option Env:=match runX P N ops rest ls E with
 | some E1=>E1.pick ks bs
 | none=>none
def zEE (ks ls:List Nat) (E:Env):Env:=match E.pick ks ls with
 | some E1=>E1
 | none=>E
def zED (ks ls:List Nat) (E:Env):Bool:=match E.pick ks ls with
 | some _=>true
 | none=>false
theorem zxq (h:zED ks ls E=true):E.pick ks ls=some (zEE ks ls E):=by
 unfold zED at h;unfold zEE;split at h
 ·rename_i E1 h1;rw [h1]
 ·cases h
section
variable {P:Program} {N:Lim} {ops:Array Oper} {rest:List Oper} {E E' E1:Env} {o:Oper} {ins:List (Operand×AV)} {bxs:List Bx} {W V:List Nat} {av:AV} {bs:List Bx} {ls:List Nat}
theorem zoW (n:Nat) (h:runX P N ops (rest.take n) ls E=some E1) (k:zcM P N ops (rest.drop n) E1 E'):zcM P N ops rest E E':=by
 have:=zsg _ _ _ _ h k
 rwa [qF] at this
theorem rcl (n:Nat) (ls:List Nat) (ho:nthO rest n=some o) (hl:zA P o ins bxs W V av bs) (k:zcM P N ops (rest.drop (n+1)) (zCd P N ops rest n ls o E (ins.map (·.1)) (bxs.map (·.lab)) W V av bs) E')
  (h:zCc P N ops rest n ls o E (ins.map (·.1)) (bxs.map (·.lab)) W V av bs=some (ins.map (·.2),bxs):=by kernel_rfl):zcM P N ops rest E E':=by
 unfold zCc at h;unfold zCd at k;split at h
 ·rename_i r h0;rw [h0] at k;simp only [yj,qe] at h;unfold zIg at h0;split at h0
  ·rename_i E0 hE;refine zoW n hE ?_;rw [zrY ho];split at h0
   ·rename_i as' bxs' h1 h2 h3 h4;cases h0;simp only at h k;obtain ⟨rfl,rfl⟩:=h;simp only [xA] at h2;exact zwd h1 hl (zsX h3) (zxr h4) h2.1.1 h2.1.2 h2.2 k
   ·cases h0
  ·cases h0
 ·cases h
theorem rc (n:Nat) (ho:nthO rest n=some o) (hl:zA P o ins bxs W V av bs) (k:zcM P N ops (rest.drop (n+1)) (zCd P N ops rest n [] o E (ins.map (·.1)) (bxs.map (·.lab)) W V av bs) E')
  (h:zCc P N ops rest n [] o E (ins.map (·.1)) (bxs.map (·.lab)) W V av bs=some (ins.map (·.2),bxs):=by kernel_rfl):zcM P N ops rest E E':=rcl n [] ho hl k h
theorem ral (n:Nat) (ls:List Nat) (as:List AV) (ho:nthO rest n=some o) (hl:zA P o ins bxs W V av bs) (ha:ins.map (·.2)=as) (k:zcM P N ops (rest.drop (n+1)) (zCd P N ops rest n ls o E (ins.map (·.1)) (bxs.map (·.lab)) W V av bs) E')
  (h:zCc P N ops rest n ls o E (ins.map (·.1)) (bxs.map (·.lab)) W V av bs=some (as,bxs):=by kernel_rfl):zcM P N ops rest E E':=rcl n ls ho hl k (by rw [ha];exact h)
theorem ra (n:Nat) (as:List AV) (ho:nthO rest n=some o) (hl:zA P o ins bxs W V av bs) (ha:ins.map (·.2)=as) (k:zcM P N ops (rest.drop (n+1)) (zCd P N ops rest n [] o E (ins.map (·.1)) (bxs.map (·.lab)) W V av bs) E')
  (h:zCc P N ops rest n [] o E (ins.map (·.1)) (bxs.map (·.lab)) W V av bs=some (as,bxs):=by kernel_rfl):zcM P N ops rest E E':=ral n [] as ho hl ha k h
theorem rfl' (ls:List Nat) (h:endB P N ops rest ls E=true:=by kernel_rfl):zcM P N ops rest E (endE P N ops rest ls E):=by
 have:=zsg rest [] ls E (zAY h) zKy
 rwa [yX] at this
theorem rf (h:endB P N ops rest [] E=true:=by kernel_rfl):zcM P N ops rest E (endE P N ops rest [] E):=rfl' [] h
theorem rgl (ls:List Nat) (h:finC P N ops rest ls E E'.keys E'.labs=some E':=by kernel_rfl):zcM P N ops rest E E':=by
 unfold finC at h;split at h
 ·rename_i E1 h1;have:=zsg rest [] ls E h1 (zKx _ _ h)
  rwa [yX] at this
 ·cases h
theorem rgg (h:finC P N ops rest [] E E'.keys E'.labs=some E':=by kernel_rfl):zcM P N ops rest E E':=rgl [] h
theorem rkl (n:Nat) (ls:List Nat) (E1:Env) (k:zcM P N ops (rest.drop n) E1 E') (h:finC P N ops (rest.take n) ls E E1.keys E1.labs=some E1:=by kernel_rfl):zcM P N ops rest E E':=by
 unfold finC at h;split at h
 ·rename_i E2 h1;exact zoW n h1 (zLi (zvR _ _ h) k)
 ·cases h
theorem rsl (n:Nat) (ls:List Nat) (t:Nat) (b:Bool) (h1:b=true->zcM P N ops (rest.drop n) ⟨zif (some t) (.lf (.bool true)) (endE P N ops (rest.take n) ls E).sl,(endE P N ops (rest.take n) ls E).bx⟩ E')
  (h0:b=false->zcM P N ops (rest.drop n) ⟨zif (some t) (.lf (.bool false)) (endE P N ops (rest.take n) ls E).sl,(endE P N ops (rest.take n) ls E).bx⟩ E')
  (h:splC P N ops (rest.take n) ls E t=some (.lf (.bool b)):=by kernel_rfl):zcM P N ops rest E E':=by
 have hB:endB P N ops (rest.take n) ls E=true:=by
  unfold splC at h;unfold endB;split at h
  ·rfl
  ·cases h
 have hr:=zAY hB;unfold splC at h;rw [hr] at h;exact zoW n hr (zHU t b h h1 h0)
theorem rbl (ls:List Nat) (t:Nat) (b:Bool) {b':Bool} (_:E'.opd (.tmp t)=some (.lf (.bool b'))) (hb:b=b') (hE:zJO t b' E'=E':=by kernel_rfl) (h:finC P N ops rest ls E E'.keys E'.labs=some (zJO t b E'):=by kernel_rfl):zcM P N ops rest E E':=by
 subst hb;rw [hE] at h;exact rgl ls h
theorem rel (ls:List Nat) (k:zfi (endE P N ops rest ls E) E') (h:endB P N ops rest ls E=true:=by kernel_rfl):zcM P N ops rest E E':=fun cx a w Q hn hs hQ=>rfl' ls h cx a w Q hn hs fun a' w' hs'=>hQ a' w' (k cx a' w' hs')
theorem lq {E E':Env} (E1:Env) (k:zfi E1 E') (h:E.pick E1.keys E1.labs=some E1:=by kernel_rfl):zfi E E':=zKU E1 h k
theorem lk (ks ls:List Nat) (x y:Nat) (k:zfi ((zEE ks ls E).ren x y) E') (h:(zED ks ls E&&(Nat.ble 2 x&&Nat.ble 2 y&& !spB x))=true:=by kernel_rfl):zfi E E':=by
 rw [xA] at h;exact (zvR _ _ (zxq h.1)).trans (zKV x y h.2 k)
theorem lzz (h:E.pick E'.keys E'.labs=some E':=by kernel_rfl):zfi E E':=zvR _ _ h
end
def cvA:AV->AV->AV
 | .ag l,.rc r _ x=> .rc r (AV.colsL l) x
 | y,_=>y
def argL:AV->AV->Option (List LV)
 | .ag l,.rc _ _ _=>zjc l
 | _,_=>none
def argR:AV->AV->Option (List LV)
 | .ag _,.rc r _ x=>some (r.lv x)
 | _,_=>none
theorem zJU (h:argL y i=argR y i):AV.le y (cvA y i):=by
 cases y with
 | ag l=>
  cases i with
  | rc r C x=>exact zaE r _ x l h (zzm _)
  | _=>exact AV.le_refl _
 | _=>exact AV.le_refl _
def zipA {α:Type _} (f:AV->AV->α):List AV->List AV->List α
 | x::l,y::m=>f x y::zipA f l m
 | _,_=>[]
theorem zCv {f:AV->AV->AV}:∀{l m:List AV},l.length=m.length->(zipA f l m).length=l.length
 | [],_,_=>rfl
 | x::l,[],h=>by simp at h
 | x::l,y::m,h=>by simp [zipA,zCv (l:=l) (m:=m) (by simpa using h)]
theorem zEk:∀{args:List Operand} {ys is:List AV},ys.length=args.length->is.length=args.length->zipA argL ys is=zipA argR ys is->leI (args.zip ys) (args.zip (zipA cvA ys is))
 | [],_,_,_,_,_=>trivial
 | x::args,[],_,h,_,_=>by simp at h
 | x::args,y::ys,[],_,h,_=>by simp at h
 | x::args,y::ys,i::is,h1,h2,h=>by
  simp only [zipA,yC] at h;exact ⟨⟨rfl,zJU h.1⟩,zEk (by simpa using h1) (by simpa using h2) h.2⟩
def zwq (P:Program) (N:Lim) (ops:Array Oper) (rest:List Oper) (n:Nat) (ls:List Nat) (f:FuncId) (ins outs:List AV) (D:List Nat) (s:Nat) (E:Env):Option (List (Option (List LV))×List AV×List (Option (List LV))):=
 match nthO rest n with
 | some o=>match o.op with
  | .call c=>match c.callee with
   | .value (.func g)=>match Nat.beq g f,runX P N ops (rest.take n) ls E with
    | true,some E0=>match zgN ops E0 o,okW (outs.flatMap (zkd s))&&zjS N o.dst,zop E0 c.args.toList with
     | some true,true,some ys=>match Nat.beq ys.length ins.length&&((zipA cvA ys ins).all fun a=>subN (zzM a) D)&& !D.isEmpty&&outs.all (zxm [1] D s) with
      | true=>some (zipA argL ys ins,(zipA cvA ys ins).map inAV,zipA argR ys ins)
      | false=>none
     | _,_,_=>none
    | _,_=>none
   | _=>none
  | _=>none
 | none=>none
def zGo (P:Program) (N:Lim) (ops:Array Oper) (rest:List Oper) (n:Nat) (ls:List Nat) (outs:List AV) (D:List Nat) (s:Nat) (E:Env):Env:=
 match nthO rest n,runX P N ops (rest.take n) ls E with
 | some o,some E0=>E0.step [] (outs.flatMap (zkd s)) o.dst (zzf (outs.map (zvs D s))) []
 | _,_=>E
def zGp (ins:List AV):Option (List (Option (List LV))×List AV×List (Option (List LV)))->Option (List (Option (List LV))×List AV×List (Option (List LV)))
 | some r=>some (r.2.2,ins,r.2.2)
 | none=>none
theorem zxi :∀{l:List Operand} {as:List AV},zop E l=some as->as.length=l.length
 | [],as,h=>by cases h;rfl
 | x::l,as,h=>by
  rw [zop] at h;split at h
  ·rename_i a r h1 h2;cases h;simp [zxi h2]
  ·cases h
theorem zxj :∀{l:List Operand} {as:List AV},zop E l=some as->zqx E (l.zip as)
 | [],as,_=>trivial
 | x::l,as,h=>by
  rw [zop] at h;split at h
  ·rename_i a r h1 h2;cases h;exact ⟨h1,zxj h2⟩
  ·cases h
section
variable {P:Program} {N:Lim} {ops:Array Oper} {rest:List Oper} {E E':Env} {f:FuncId} {ins outs:List AV}
theorem rll (n:Nat) (ls:List Nat) (D:List Nat) (s:Nat) (hc:∀as w,(callFunc f as).run P w= .ok (.enter f as) w) (ok:FnOk P f ins outs) (k:zcM P N ops (rest.drop (n+1)) (zGo P N ops rest n ls outs D s E) E')
  (h:zwq P N ops rest n ls f ins outs D s E=zGp ins (zwq P N ops rest n ls f ins outs D s E):=by kernel_rfl) (hs:(zwq P N ops rest n ls f ins outs D s E).isSome=true:=by kernel_rfl):zcM P N ops rest E E':=by
 obtain ⟨⟨q1,q2,q3⟩,hq⟩:=uM.1 hs;rw [hq] at h;simp only [zGp,yj,qe,qv] at h;rw [h.1,h.2] at hq;unfold zwq at hq;split at hq
 ·rename_i o ho;unfold zGo at k;rw [ho] at k;split at hq
  ·rename_i c hop;split at hq
   ·rename_i g hcal;split at hq
    ·rename_i E0 hg hE;rw [hE] at k;have hgf:=xL hg;refine zoW n hE ?_;rw [zrY ho];split at hq
     ·rename_i ys h1 h2 h3;split at hq
      ·rename_i hk;simp only [xA,ym] at hk h2;simp only [yj,qe] at hq;obtain ⟨e1,e2,e3⟩:=hq;have hlen:=xL hk.1.1.1;have hl:=zxi h3;have hop':o.op= .call ⟨.value (.func f),c.args.toList.toArray,c.argTypes⟩:=by
        rw [hop];obtain ⟨cal,args,ts⟩:=c;simp only at hcal;subst hcal hgf;simp
       have hlaw:=zQ (zipA cvA ys ins) D s hop' hc ok e2 (by rw [zCv hlen];exact hl) hk.1.1.2 hk.1.2 hk.2;refine zwd h1 (hlaw.le (zEk hl (by rw [<-hlen];exact hl) (e1.trans e3.symm))) (zxj h3) trivial rfl h2.1 h2.2 k
      ·cases hq
     ·cases hq
    ·cases hq
   ·cases hq
  ·cases hq
 ·cases hq
theorem rl (n:Nat) (D:List Nat) (s:Nat) (hc:∀as w,(callFunc f as).run P w= .ok (.enter f as) w) (ok:FnOk P f ins outs) (k:zcM P N ops (rest.drop (n+1)) (zGo P N ops rest n [] outs D s E) E')
  (h:zwq P N ops rest n [] f ins outs D s E=zGp ins (zwq P N ops rest n [] f ins outs D s E):=by kernel_rfl) (hs:(zwq P N ops rest n [] f ins outs D s E).isSome=true:=by kernel_rfl):zcM P N ops rest E E':=rll n [] D s hc ok k h hs
end
def isAg:TypeDesc->Bool
 | .struct _=>true
 | .array _ _=>true
 | _=>false
theorem zFj (h:P.underlying t=some d) (hd:isAg d=true) (w:World):(isAgg t).run P w= .ok true w:=by
 cases d<;>first| (cases hd;done)| simp [isAgg,run_underlying h]
def ldC (P:Program) (N:Lim) (ops:Array Oper) (rest:List Oper) (n:Nat) (ls:List Nat) (sz:Nat) (C:List Nat) (E:Env):Option (List LV):=
 match nthO rest n with
 | some o=>match o.op with
  | .load t y=>match runX P N ops (rest.take n) ls E with
   | some E0=>match zgN ops E0 o,zjS N o.dst,E0.opd y,P.underlying t,P.info? t with
    | some true,true,some (.ptr k off),some d,some i=>match zik E0.bx k with
     | some b=>match Nat.beq i.size sz&&subN (AV.colsL ((b.avs.drop off).take sz)) C&&isAg d with
      | true=>zjc ((b.avs.drop off).take sz)
      | false=>none
     | none=>none
    | _,_,_,_,_=>none
   | none=>none
  | _=>none
 | none=>none
def ldE (P:Program) (N:Lim) (ops:Array Oper) (rest:List Oper) (n:Nat) (ls:List Nat) (av:AV) (E:Env):Env:=
 match nthO rest n,runX P N ops (rest.take n) ls E with
 | some o,some E0=>E0.step [] [] o.dst av []
 | _,_=>E
section
variable {P:Program} {N:Lim} {ops:Array Oper} {rest:List Oper} {E E':Env} {α:Type}
theorem lbl (n:Nat) (ls:List Nat) (r:Rp α) (C:List Nat) (x:α) (k:zcM P N ops (rest.drop (n+1)) (ldE P N ops rest n ls (.rc r C x) E) E') (h:ldC P N ops rest n ls r.size C E=some (r.lv x):=by kernel_rfl):zcM P N ops rest E E':=by
 unfold ldC at h;split at h
 ·rename_i o ho;unfold ldE at k;rw [ho] at k;split at h
  ·rename_i t y hop;split at h
   ·rename_i E0 hE;rw [hE] at k;refine zoW n hE ?_;rw [zrY ho];split at h
    ·rename_i kk off fs i h1 h2 h3 h4 h5;split at h
     ·rename_i b hb;split at h
      ·rename_i hk;rw [xA,xA] at hk;have hsz:=xL hk.1.1;have e:=(zfj hb).2;have hlaw:=zKj (P:=P) (o:=o) (r:=r) (b:=b) (off:=off) x C hop ⟨zFj h4 hk.2,fun w=>by rw [ztZ h5 w,hsz]⟩ h hk.1.2;refine zwd h1 hlaw ⟨by rw [e];exact h3,trivial⟩ ⟨?_,trivial⟩ rfl rfl h2 k;rw [e];exact hb
      ·cases h
     ·cases h
    ·cases h
   ·cases h
  ·cases h
 ·cases h
theorem lb (n:Nat) (r:Rp α) (C:List Nat) (x:α) (k:zcM P N ops (rest.drop (n+1)) (ldE P N ops rest n [] (.rc r C x) E) E') (h:ldC P N ops rest n [] r.size C E=some (r.lv x):=by kernel_rfl):zcM P N ops rest E E':=lbl n [] r C x k h
end
section
variable {m:Bool} {P:Program} {l:List It} {cx:Cx} {E E':Env} {Q:Exit->Act->World->Prop} {id:Nat} {ops:List Oper} {o:Operand} {b:Bool} {x y:Code}
theorem jr (h:zcM P cx.n ops.toArray ops E E') (k:JI m P l (Sx cx E') Q):JI m P (.c (.region id ops.toArray false)::l) (Sx cx E) Q:=zab E' h k
theorem jq (ls:List Nat) (k:JI m P l (Sx cx (endE P cx.n ops.toArray ops ls E)) Q) (h:endB P cx.n ops.toArray ops ls E=true:=by kernel_rfl):JI m P (.c (.region id ops.toArray false)::l) (Sx cx E) Q:=zab _ (rfl' ls h) k
theorem jp (k:JI m P l (Sx cx (endE P cx.n ops.toArray ops [] E)) Q) (h:endB P cx.n ops.toArray ops [] E=true:=by kernel_rfl):JI m P (.c (.region id ops.toArray false)::l) (Sx cx E) Q:=jq [] k h
theorem jk (ks ls:List Nat) (k:JI m P l (Sx cx (zEE ks ls E)) Q) (h:zED ks ls E=true:=by kernel_rfl):JI m P l (Sx cx E) Q:=fun a w hs=>k a w (hs.pick (zxq h))
theorem jT (hb:b=true) (k:JI m P (znB x l) (Sx cx E) Q) (h:E.opd o=some (.lf (.bool b)):=by kernel_rfl):JI m P (.c (.cond o x y)::l) (Sx cx E) Q:=zHa h hb k
theorem jF (hb:b=false) (k:JI m P (znB y l) (Sx cx E) Q) (h:E.opd o=some (.lf (.bool b)):=by kernel_rfl):JI m P (.c (.cond o x y)::l) (Sx cx E) Q:=zGZ h hb k
theorem jI {α:Type} {p q:Option α} {r:α} (h:(if b then p else q)=some r) (hx:b=true->p=some r->JI m P (znB x l) (Sx cx E) Q) (hy:b=false->q=some r->JI m P (znB y l) (Sx cx E) Q) (ho:E.opd o=some (.lf (.bool b)):=by kernel_rfl):JI m P (.c (.cond o x y)::l) (Sx cx E) Q:=by
 rcases zGX h with ⟨c,h⟩| ⟨c,h⟩
 ·exact jT c (hx c h) ho
 ·exact jF c (hy c h) ho
end
theorem lx (h:zA P o ins bxs W V av bs) (h2:zfp P l ss is):
  zfp P (o::l) (.ex (bxs.map (·.lab)) W V av bs::ss) (⟨ins,bxs,[]⟩::is):=by simp only [zfp];exact ⟨h,h2⟩
theorem ly (as:List AV) (h:zA P o ins bxs W V av bs) (_:ins.map (·.2)=as) (h2:zfp P l ss is):
  zfp P (o::l) (.ex (bxs.map (·.lab)) W V av bs::ss) (⟨ins,bxs,[]⟩::is):=lx h h2
theorem l0 :zfp P l [] []:=by cases l<;>simp [zfp]
theorem lf1 (g:Nat) (h:zA P o ins bxs W V av bs):zA P o ((.func g,.lf (.val (.func (.func g) #[] #[])))::ins) bxs W V av bs:=h.cons _
def zJA (P:Program) (N:Lim) (ops:List Oper) (ss:List zmx) (E:Env) (ks bs:List Nat):Env:=match zvM P N ops ss E ks bs with
 | some r=>r.1
 | none=>E
def zJB (P:Program) (N:Lim) (ops:List Oper) (ss:List zmx) (E:Env) (ks bs:List Nat):Option (List DIn):=match zvM P N ops ss E ks bs with
 | some r=>some r.2
 | none=>none
theorem jd {m:Bool} {P:Program} {cx:Cx} {E:Env} {id:Nat} {ops:List Oper} {l:List It} {Q:Exit->Act->World->Prop} {ss:List zmx} {is:List DIn} (ks bs:List Nat) (hm:P.follows .mixedOrders=true) (hl:zfp P ops ss is)
  (k:JI m P l (Sx cx (zJA P cx.n ops ss E ks bs)) Q) (h:zJB P cx.n ops ss E ks bs=some is:=by kernel_rfl):JI m P (.c (.region id ops.toArray true)::l) (Sx cx E) Q:=by
 unfold zJB at h;unfold zJA at k;split at h
 ·rename_i r hr;obtain ⟨E1,is'⟩:=r;simp only [yj] at h;subst h;rw [hr] at k;exact zrQ E1 ss _ ks bs hm hr hl k
 ·cases h
open Go.RowKit (wrap32 wrap64)
def sgnS (x:Int):Int:=if x%4294967296<2147483648 then x%4294967296 else x%4294967296 - 4294967296
def zvy (x:Int):Int:=if 0<=x then x else x+18446744073709551616
theorem zDy (x:Int): -2147483648<=sgnS x/\sgnS x<=2147483647:=by unfold sgnS;split<;>omega
theorem zJt (h: -9223372036854775808<=x/\x<=9223372036854775807):0<=zvy x/\zvy x<=18446744073709551615:=by unfold zvy;split<;>omega
theorem zJS (h:(Lit.int .u64 x).wf=true):0<=x/\x<=18446744073709551615:=by simpa [Lit.wf,IntKind.min,IntKind.max,IntKind.bits,IntKind.signed] using h
set_option linter.unusedVariables false
theorem zyR:∀l:List Int,lexI l l=0
 | []=>rfl
 | x::l=>by rw [lexI,xu (qq x),xu (qq x),zyR l]
theorem zjk:∀l m:List Int,lexI l m= - lexI m l
 | [],[]=>rfl
 | [],_::_=>rfl
 | _::_,[]=>rfl
 | x::l,y::m=>by
  rw [lexI,lexI,zjk l m];by_cases h1:x<y
  ·rw [xw h1,xu (show ¬y<x by omega),xw h1]
  ·by_cases h2:y<x
   ·rw [xu h1,xw h2,xw h2];rfl
   ·rw [xu h1,xu h2,xu h2,xu h1]
theorem zrU:∀{l m:List Int},lexI l m=0->l=m
 | [],[],_=>rfl
 | [],_::_,h=>by cases h
 | _::_,[],h=>by cases h
 | x::l,y::m,h=>by
  rw [lexI] at h;split at h
  ·cases h
  ·split at h
   ·cases h
   ·rw [zrU h,show x=y by omega]
theorem zpC:∀{a b c:List Int},lexI a b<=0->lexI b c<=0->lexI a c<=0
 | [],[],_,_,h=>h
 | [],_::_,[],_,_=>qr _
 | [],_::_,_::_,_,_=>by rw [lexI];decide
 | _::_,[],_,h,_=>by rw [lexI] at h;exact absurd h (by decide)
 | _::_,_::_,[],_,h=>by rw [lexI] at h;exact absurd h (by decide)
 | x::a,y::b,z::c,h,k=>by
  rw [lexI] at h k|-;by_cases h1:x<y
  ·by_cases k1:y<z
   ·rw [xw (by omega)];decide
   ·by_cases k2:z<y
    ·rw [xu k1,xw k2] at k;exact absurd k (by decide)
    ·rw [xw (by omega)];decide
  ·by_cases h2:y<x
   ·rw [xu h1,xw h2] at h;exact absurd h (by decide)
   ·rw [xu h1,xu h2] at h;by_cases k1:y<z
    ·rw [xw (by omega)];decide
    ·by_cases k2:z<y
     ·rw [xu k1,xw k2] at k;exact absurd k (by decide)
     ·rw [xu k1,xu k2] at k;rw [xu (by omega),xu (by omega)];exact zpC h k
theorem zyQ {a b:List Int} (h:lexI a b<=0) (k:lexI b a<=0):a=b:=zrU (by have:=zjk a b;omega)
theorem zBZ (l:List (List Int)):(znN l).Pairwise fun a b=>lexI a b<=0:=by
 have h:=uN (le:=fun x y:List Int=>decide (lexI x y<=0)) (fun a b c h k=>by
  simp only [xS] at h k|-;exact zpC h k) (fun a b=>by
  have:=zjk a b;simp only [qk,xS];omega) l
 unfold znN;exact h.imp fun h=>by simpa using h
theorem ztg (l:List (List Int)):(znN l).Perm l:=List.mergeSort_perm l _
theorem zIc {l r:List (List Int)} (hp:r.Perm l) (hs:r.Pairwise fun a b=>lexI a b<=0):r=znN l:=
 List.Perm.eq_of_pairwise (fun a b _ _ h k=>zyQ h k) hs (zBZ l) (hp.trans (ztg l).symm)
end Go.Proofs.YtekgmimingolbaaGreat

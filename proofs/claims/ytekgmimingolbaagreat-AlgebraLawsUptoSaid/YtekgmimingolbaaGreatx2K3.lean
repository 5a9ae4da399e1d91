/-
  What every proof here stands on. No condition.
-/
import Derived.Laws.Bits64b
import Derived.IntWalk
import Derived.RowKit
import Derived.Test.YtekgmimingolbaaGreatx2K2
import Derived.Test.YtekgmimingolbaaGreatx2K1
set_option autoImplicit true
set_option relaxedAutoImplicit true
namespace Go.Proofs.YtekgmimingolbaaGreat
open Go Go.RowKit
def zsG:List LV->Option (List AV)
 | []=>some []
 | l::ls=>match l.plain,zsG ls with
  | true,some r=>some (.lf l::r)
  | _,_=>none
theorem zmV :∀{ls:List LV} {as:List AV},zsG ls=some as->zhr as=some ls/\as.all (zqu C)=true
 | [],as,h=>by cases h;exact ⟨rfl,rfl⟩
 | l::ls,as,h=>by
  rw [zsG] at h;split at h
  ·rename_i r h1 h2;cases h;obtain ⟨g1,g2⟩:=zmV (C:=C) h2;exact ⟨by simp only [zhr,AV.toLV,g1],by simp only [yw,zqu,h1,g2];rfl⟩
  ·cases h
def zsW:AV->Option (List AV)
 | .ag l=>some l
 | .rc r _ x=>zsG (r.lv x)
 | a=>match zmM a with
  | true=>some [a]
  | false=>none
def zAVs:List Value->Option (List AV)
 | []=>some []
 | v::l=>match zoD v,zAVs l with
  | some a,some r=>some (a::r)
  | _,_=>none
theorem zvU :∀{vs:List Value} {as:List AV},zAVs vs=some as->AV.relL γ w as vs/\∀u∈vs,u.oneCell'=true
 | [],as,h=>by cases h;exact ⟨rfl,fun u hu=>by cases hu⟩
 | v::vs,as,h=>by
  rw [zAVs] at h;split at h
  ·rename_i a r h1 h2;cases h;obtain ⟨g1,g2⟩:=zvU (γ:=γ) (w:=w) h2;have hr:=zlf h1 γ w;have h1c:v.oneCell'=true:=by
    unfold zoD at h1;split at h1<;>first| rfl| cases h1
   exact ⟨⟨v,vs,rfl,hr,g1⟩,fun u hu=>by
    cases hu with
    | head=>exact h1c
    | tail _ hu=>exact g2 u hu⟩
  ·cases h
section
variable {P:Program} {o:Oper} {t:TypeId} {i:TypeInfo}
theorem zqH (h:P.info? t=some i) (w:World):(sizeOf t).run P w= .ok i.size w:=by simp [sizeOf,typeInfo,h]
theorem zBT (ℓ:Nat) (ho:o.op= .alloc t) (hi:P.info? t=some i) (hz:i.zero=some z) (hs:zAVs z.cells.toList=some as):zy P o [] [] [] [ℓ] (.ptr ℓ 0) [⟨ℓ,t,as⟩]:=by
 have hzv:∀w,(zeroValue t).run P w= .ok z w:=fun w=>by simp [zeroValue,typeInfo,hi,hz]
 refine zT fun γ ev w _ _=>?_
 refine ⟨.pointer (some ⟨w.heap.size,0,none⟩),w.alloc (.cells z.cells t),_,?_,znb γ w ℓ _,?_,fun b hb=>?_⟩
 ·simp [execOp,ho,Instr.alloc,Sem.run_bind,hzv,newVar,newRow]
 ·show _=_;rw [zen]
 ·simp only [xw,xA,xB] at hb;subst hb;have h:=zvU (γ:=zcV γ w.heap.size ℓ w.heap.size) (w:=w.alloc (.cells z.cells t)) hs;refine ⟨by rw [zen,zis],z.cells.toList,?_,h.1,h.2⟩;rw [zen,qf];exact yB w _
theorem zBV (hl:zsW a=some l) (ho:o.op= .store t y z) (hi:P.info? t=some i) (hn:Nat.beq l.length i.size=true) (hoff:Nat.ble (off+i.size) b.avs.length=true) (hf:AV.free [b.lab] [] (.ag l)=true):
  zy P o [(y,.ptr b.lab off),(z,a)] [b] [b.lab] [] .any [⟨b.lab,b.typ,(b.avs.map (AV.clear [b.lab] [])).take off++l++(b.avs.map (AV.clear [b.lab] [])).drop (off+i.size)⟩]:=by
 have hag:=ziH (P:=P) (o:=o) (off:=off) (b:=b) l ho (fun w=>zqH hi w) hn hoff hf;unfold zsW at hl;split at hl
 ·cases hl;exact hag
 ·rename_i r C x;obtain ⟨g1,g2⟩:=zmV (C:=C) hl;exact hag.le ⟨⟨rfl,AV.le_refl _⟩,⟨rfl,zFo r C x l g1 g2⟩,trivial⟩
 ·split at hl
  ·rename_i h1;cases hl;have hs1:i.size=1:=(xD hn).symm;rw [hs1] at hoff|-;have hlt:off<b.avs.length:=yQ (xP hoff);have hf':a.free [b.lab] []=true:=by simpa [AV.free,AV.cols,AV.colsL,AV.labs,AV.labsL] using hf
   have h:=zDT (P:=P) (o:=o) (off:=off) (b:=b) ho (fun w=>by rw [zqH hi w,hs1]) (Nat.ble_eq_true_of_le hlt) h1 hf';rw [pM,xr (by simpa using hlt)] at h;simpa using h
  ·cases hl
end
def zwf (P:Program) (E:Env) (o:Oper) (ℓ:Nat):Option (List (Operand×AV)×List Bx×List Nat×List Nat×AV×List Bx):=
 match o.op with
 | .alloc t=>match P.info? t with
  | some i=>match i.zero with
   | some z=>match zAVs z.cells.toList with
    | some as=>some ([],[],[],[ℓ],.ptr ℓ 0,[⟨ℓ,t,as⟩])
    | none=>none
   | none=>none
  | none=>none
 | .box t x=>match E.opd x with
  | some (.ag l)=>match AV.free [] [ℓ] (.ag l) with
   | true=>some ([(x,.ag l)],[],[],[ℓ],.ptr ℓ 0,[⟨ℓ,t,l⟩])
   | false=>none
  | some a=>match zsW a,zhl a with
   | some as,some _=>match zhr as with
    | some _=>match as.all (zqu a.cols) with
     | true=>some ([(x,a)],[],[],[ℓ],.ptr ℓ 0,[⟨ℓ,t,as⟩])
     | false=>none
    | none=>none
   | _,_=>none
  | none=>none
 | .store t y z=>match E.opd y,E.opd z,P.info? t with
  | some (.ptr k off),some a,some i=>match zgy E.bx k,zsW a with
   | some b,some l=>match Nat.beq l.length i.size&&Nat.ble (off+i.size) b.avs.length&&AV.free [b.lab] [] (.ag l) with
    | true=>some ([(y,.ptr b.lab off),(z,a)],[b],[b.lab],[],.any,[⟨b.lab,b.typ,(b.avs.map (AV.clear [b.lab] [])).take off++l++(b.avs.map (AV.clear [b.lab] [])).drop (off+i.size)⟩])
    | false=>none
   | _,_=>none
  | _,_,_=>none
 | .load t y=>match E.opd y,P.underlying t,P.info? t with
  | some (.ptr k off),some (.struct _),some i=>match zgy E.bx k with
   | some b=>match Nat.beq ((b.avs.drop off).take i.size).length i.size with
    | true=>some ([(y,.ptr b.lab off)],[b],[],[],.ag ((b.avs.drop off).take i.size),[])
    | false=>none
   | none=>none
  | _,_,_=>none
 | _=>none
theorem zvP (C:List Nat):subN C C=true:=by
 simp only [subN,xC];exact fun c hc=>zbk.2 hc
theorem zCb (h1:zmM a=true) (hp:zhl a=some ls) (ht:zhr [a]=some ls'):zhr [a]=some ls:=by
 cases a<;>simp_all [zmM,zhl,zhr,AV.toLV]
theorem zzc (h:zwf P E o ℓ=some (ins,bxs,W,V,av,bs)):
  zy P o ins bxs W V av bs/\znz E ins/\zuP E bxs:=by
 unfold zwf at h;split at h
 ·rename_i t ho;split at h
  ·rename_i i hi;split at h
   ·rename_i z hz;split at h
    ·rename_i as hs;simp only [ya,yS] at h;obtain ⟨rfl,rfl,rfl,rfl,rfl,rfl⟩:=h;exact ⟨zBT ℓ ho hi hz hs,trivial,trivial⟩
    ·cases h
   ·cases h
  ·cases h
 ·rename_i t x ho;split at h
  ·rename_i l hl;split at h
   ·rename_i hf;simp only [ya,yS] at h;obtain ⟨rfl,rfl,rfl,rfl,rfl,rfl⟩:=h;exact ⟨zFq ℓ ho hf,⟨hl,trivial⟩,trivial⟩
   ·cases h
  ·rename_i a _ ha;split at h
   ·rename_i as ls hc hp;split at h
    ·rename_i ls' ht;split at h
     ·rename_i hl;simp only [ya,yS] at h;obtain ⟨rfl,rfl,rfl,rfl,rfl,rfl⟩:=h;refine ⟨zbw ℓ as a.cols ho hp (zvP _) ?_ hl,⟨ha,trivial⟩,trivial⟩;unfold zsW at hc;split at hc
      ·cases hc;exact hp
      ·rename_i r C y _;cases hp;exact (zmV (C:=C) hc).1
      ·split at hc
       ·cases hc;rename_i h1;exact zCb h1 hp ht
       ·cases hc
     ·cases h
    ·cases h
   ·cases h
  ·cases h
 ·rename_i t y z ho;split at h
  ·rename_i k off a i hy hz hi;split at h
   ·rename_i b l hb hc;split at h
    ·rename_i hk;simp only [xy] at hk;simp only [ya,yS] at h;obtain ⟨rfl,rfl,rfl,rfl,rfl,rfl⟩:=h;have e:=(zdX hb).2;refine ⟨zBV hc ho hi hk.1.1 hk.1.2 hk.2,⟨by rw [e];exact hy,hz,trivial⟩,?_⟩;refine ⟨?_,trivial⟩;rw [e];exact hb
    ·cases h
   ·cases h
  ·cases h
 ·rename_i t y ho;split at h
  ·rename_i k off fs i hy hu hi;split at h
   ·rename_i b hb;split at h
    ·rename_i hk;simp only [ya,yS] at h;obtain ⟨rfl,rfl,rfl,rfl,rfl,rfl⟩:=h;have e:=(zdX hb).2;refine ⟨zcX _ ho ⟨fun w=>by simp [isAgg,run_underlying hu],fun w=>zqH hi w⟩ rfl hk,⟨by rw [e];exact hy,trivial⟩,?_⟩;refine ⟨?_,trivial⟩;rw [e];exact hb
    ·cases h
   ·cases h
  ·cases h
 ·cases h
def zHj:List Nat->Nat
 | []=>0
 | x::_=>x
def zHC:List Nat->List Nat->List Nat
 | [],ls=>ls
 | _::_,ls=>ls.tail
def runX (P:Program) (N:Lim) (ops:Array Oper):List Oper->List Nat->Env->Option Env
 | [],_,E=>some E
 | o::rest,ls,E=>match zft ops E o with
  | some true=>match zhY N o.dst with
   | true=>match zrg P E.opd E.bx o.op with
    | some av=>runX P N ops rest ls ⟨zgw o.dst av E.sl,E.bx⟩
    | none=>match zwf P E o (zHj ls) with
     | some (_,_,W,V,av,bs)=>match okW W&&okW V with
      | true=>runX P N ops rest (zHC V ls) (E.step W V o.dst av bs)
      | false=>none
     | none=>none
   | false=>none
  | some false=>match zhY N o.dst with
   | true=>runX P N ops rest ls ⟨zgw o.dst (.tup []) E.sl,E.bx⟩
   | false=>none
  | none=>none
theorem zoW :∀(l:List Oper) (rest:List Oper) (ls:List Nat) (E:Env),runX P N ops l ls E=some E1->zcq P N ops rest E1 E'->zcq P N ops (l++rest) E E'
 | [],rest,ls,E,h,k=>by cases h;exact k
 | o::l,rest,ls,E,h,k=>by
  rw [runX] at h;split at h
  ·rename_i hg;split at h
   ·rename_i hd;split at h
    ·rename_i av he;intro cx a w Q hn hs hQ;obtain ⟨γ,hB,hS,hX⟩:=hs;obtain ⟨v,hr,hv⟩:=zmJ he (γ:=γ) (w:=w) (ev:=a.eval) (fun x _ av hx=>Env.opd_rel hx hS) hX;rw [yo];refine zge (zeu hg hS) (ziw hr ?_);exact zoW l rest ls _ h k cx _ _ Q hn ⟨γ,hB.put _ _ (by rw [hn];exact zdI hd),hS.put (fun k hk=>by rw [hB.size,hn];exact zfS hd k hk) hv,hX⟩ hQ
    ·split at h
     ·rename_i ins bxs W V av bs hb;split at h
      ·rename_i hW;rw [xy] at hW;obtain ⟨h1,h2,h3⟩:=zzc hb;rw [yo];exact zsI hg h1 h2 h3 hW.1 hW.2 hd (zoW l rest _ _ h k)
      ·cases h
     ·cases h
   ·cases h
  ·rename_i hg;split at h
   ·rename_i hd;rw [yo];exact zFF hg hd (zoW l rest ls _ h k)
   ·cases h
  ·cases h
def zEz (P:Program) (N:Lim) (ops:Array Oper) (rest:List Oper) (n:Nat) (ls:List Nat) (o:Oper) (E:Env) (xs:List Operand) (bl W V:List Nat) (av:AV) (bs:List Bx):Option (List AV×List Bx×Env):=
 match runX P N ops (rest.take n) ls E with
 | some E0=>match zft ops E0 o,okW W&&okW V&&zhY N o.dst,zlH E0 xs,zob E0.bx bl with
  | some true,true,some as,some bxs=>some (as,bxs,E0.step W V o.dst av bs)
  | _,_,_,_=>none
 | none=>none
def zyA (P:Program) (N:Lim) (ops:Array Oper) (rest:List Oper) (n:Nat) (ls:List Nat) (o:Oper) (E:Env) (xs:List Operand) (bl W V:List Nat) (av:AV) (bs:List Bx):Env:=
 match zEz P N ops rest n ls o E xs bl W V av bs with
 | some r=>r.2.2
 | none=>E
def zyz (P:Program) (N:Lim) (ops:Array Oper) (rest:List Oper) (n:Nat) (ls:List Nat) (o:Oper) (E:Env) (xs:List Operand) (bl W V:List Nat) (av:AV) (bs:List Bx):Option (List AV×List Bx):=
 match zEz P N ops rest n ls o E xs bl W V av bs with
 | some r=>some (r.1,r.2.1)
 | none=>none
def endE (P:Program) (N:Lim) (ops:Array Oper) (rest:List Oper) (ls:List Nat) (E:Env):Env:=match runX P N ops rest ls E with
 | some E1=>E1
 | none=>E
def endB (P:Program) (N:Lim) (ops:Array Oper) (rest:List Oper) (ls:List Nat) (E:Env):Bool:=match runX P N ops rest ls E with
 | some _=>true
 | none=>false
theorem zxC (h:endB P N ops rest ls E=true):runX P N ops rest ls E=some (endE P N ops rest ls E):=by
 unfold endB at h;unfold endE;split at h
 ·rename_i E1 h1;rw [h1]
 ·cases h
def splC (P:Program) (N:Lim) (ops:Array Oper) (rest:List Oper) (ls:List Nat) (E:Env) (t:Nat):Option AV:=match runX P N ops rest ls E with
 | some E1=>lookup E1.sl t
 | none=>none
def finC (P:Program) (N:Lim) (ops:Array Oper) (rest:List Oper) (ls:List Nat) (E:Env) (ks bs:List Nat):Option Env:=match runX P N ops rest ls E with
 | some E1=>E1.pick ks bs
 | none=>none
def zBc (ks ls:List Nat) (E:Env):Env:=match E.pick ks ls with
 | some E1=>E1
 | none=>E
def zBb (ks ls:List Nat) (E:Env):Bool:=match E.pick ks ls with
 | some _=>true
 | none=>false
theorem ztV (h:zBb ks ls E=true):E.pick ks ls=some (zBc ks ls E):=by
 unfold zBb at h;unfold zBc;split at h
 ·rename_i E1 h1;rw [h1]
 ·cases h
section
variable {P:Program} {N:Lim} {ops:Array Oper} {rest:List Oper} {E E' E1:Env} {o:Oper} {ins:List (Operand×AV)} {bxs:List Bx} {W V:List Nat} {av:AV} {bs:List Bx} {ls:List Nat}
theorem zmn (n:Nat) (h:runX P N ops (rest.take n) ls E=some E1) (k:zcq P N ops (rest.drop n) E1 E'):zcq P N ops rest E E':=by
 have:=zoW _ _ _ _ h k
 rwa [qm] at this
theorem rcl (n:Nat) (ls:List Nat) (ho:nthO rest n=some o) (hl:zy P o ins bxs W V av bs) (k:zcq P N ops (rest.drop (n+1)) (zyA P N ops rest n ls o E (ins.map (·.1)) (bxs.map (·.lab)) W V av bs) E')
  (h:zyz P N ops rest n ls o E (ins.map (·.1)) (bxs.map (·.lab)) W V av bs=some (ins.map (·.2),bxs):=by kernel_rfl):zcq P N ops rest E E':=by
 unfold zyz at h;unfold zyA at k;split at h
 ·rename_i r h0;rw [h0] at k;simp only [ya,yS] at h;unfold zEz at h0;split at h0
  ·rename_i E0 hE;refine zmn n hE ?_;rw [zoL ho];split at h0
   ·rename_i as' bxs' h1 h2 h3 h4;cases h0;simp only at h k;obtain ⟨rfl,rfl⟩:=h;simp only [xy] at h2;exact zsI h1 hl (zpM h3) (ztW h4) h2.1.1 h2.1.2 h2.2 k
   ·cases h0
  ·cases h0
 ·cases h
theorem rc (n:Nat) (ho:nthO rest n=some o) (hl:zy P o ins bxs W V av bs) (k:zcq P N ops (rest.drop (n+1)) (zyA P N ops rest n [] o E (ins.map (·.1)) (bxs.map (·.lab)) W V av bs) E')
  (h:zyz P N ops rest n [] o E (ins.map (·.1)) (bxs.map (·.lab)) W V av bs=some (ins.map (·.2),bxs):=by kernel_rfl):zcq P N ops rest E E':=rcl n [] ho hl k h
theorem ral (n:Nat) (ls:List Nat) (as:List AV) (ho:nthO rest n=some o) (hl:zy P o ins bxs W V av bs) (ha:ins.map (·.2)=as) (k:zcq P N ops (rest.drop (n+1)) (zyA P N ops rest n ls o E (ins.map (·.1)) (bxs.map (·.lab)) W V av bs) E')
  (h:zyz P N ops rest n ls o E (ins.map (·.1)) (bxs.map (·.lab)) W V av bs=some (as,bxs):=by kernel_rfl):zcq P N ops rest E E':=rcl n ls ho hl k (by rw [ha];exact h)
theorem ra (n:Nat) (as:List AV) (ho:nthO rest n=some o) (hl:zy P o ins bxs W V av bs) (ha:ins.map (·.2)=as) (k:zcq P N ops (rest.drop (n+1)) (zyA P N ops rest n [] o E (ins.map (·.1)) (bxs.map (·.lab)) W V av bs) E')
  (h:zyz P N ops rest n [] o E (ins.map (·.1)) (bxs.map (·.lab)) W V av bs=some (as,bxs):=by kernel_rfl):zcq P N ops rest E E':=ral n [] as ho hl ha k h
theorem rfl' (ls:List Nat) (h:endB P N ops rest ls E=true:=by kernel_rfl):zcq P N ops rest E (endE P N ops rest ls E):=by
 have:=zoW rest [] ls E (zxC h) zGS
 rwa [yR] at this
theorem rf (h:endB P N ops rest [] E=true:=by kernel_rfl):zcq P N ops rest E (endE P N ops rest [] E):=rfl' [] h
theorem rgl (ls:List Nat) (h:finC P N ops rest ls E E'.keys E'.labs=some E':=by kernel_rfl):zcq P N ops rest E E':=by
 unfold finC at h;split at h
 ·rename_i E1 h1;have:=zoW rest [] ls E h1 (zGR _ _ h)
  rwa [yR] at this
 ·cases h
theorem rgg (h:finC P N ops rest [] E E'.keys E'.labs=some E':=by kernel_rfl):zcq P N ops rest E E':=rgl [] h
theorem rkl (n:Nat) (ls:List Nat) (E1:Env) (k:zcq P N ops (rest.drop n) E1 E') (h:finC P N ops (rest.take n) ls E E1.keys E1.labs=some E1:=by kernel_rfl):zcq P N ops rest E E':=by
 unfold finC at h;split at h
 ·rename_i E2 h1;exact zmn n h1 (zHD (zsx _ _ h) k)
 ·cases h
theorem rsl (n:Nat) (ls:List Nat) (t:Nat) (b:Bool) (h1:b=true->zcq P N ops (rest.drop n) ⟨zgw (some t) (.lf (.bool true)) (endE P N ops (rest.take n) ls E).sl,(endE P N ops (rest.take n) ls E).bx⟩ E')
  (h0:b=false->zcq P N ops (rest.drop n) ⟨zgw (some t) (.lf (.bool false)) (endE P N ops (rest.take n) ls E).sl,(endE P N ops (rest.take n) ls E).bx⟩ E')
  (h:splC P N ops (rest.take n) ls E t=some (.lf (.bool b)):=by kernel_rfl):zcq P N ops rest E E':=by
 have hB:endB P N ops (rest.take n) ls E=true:=by
  unfold splC at h;unfold endB;split at h
  ·rfl
  ·cases h
 have hr:=zxC hB;unfold splC at h;rw [hr] at h;exact zmn n hr (zEo t b h h1 h0)
theorem rbl (ls:List Nat) (t:Nat) (b:Bool) {b':Bool} (_:E'.opd (.tmp t)=some (.lf (.bool b'))) (hb:b=b') (hE:zGh t b' E'=E':=by kernel_rfl) (h:finC P N ops rest ls E E'.keys E'.labs=some (zGh t b E'):=by kernel_rfl):zcq P N ops rest E E':=by
 subst hb;rw [hE] at h;exact rgl ls h
theorem rel (ls:List Nat) (k:zdV (endE P N ops rest ls E) E') (h:endB P N ops rest ls E=true:=by kernel_rfl):zcq P N ops rest E E':=fun cx a w Q hn hs hQ=>rfl' ls h cx a w Q hn hs fun a' w' hs'=>hQ a' w' (k cx a' w' hs')
theorem lq {E E':Env} (E1:Env) (k:zdV E1 E') (h:E.pick E1.keys E1.labs=some E1:=by kernel_rfl):zdV E E':=zHn E1 h k
theorem lk (ks ls:List Nat) (x y:Nat) (k:zdV ((zBc ks ls E).ren x y) E') (h:(zBb ks ls E&&(Nat.ble 2 x&&Nat.ble 2 y&& !spB x))=true:=by kernel_rfl):zdV E E':=by
 rw [xy] at h;exact (zsx _ _ (ztV h.1)).trans (zHo x y h.2 k)
theorem lzz (h:E.pick E'.keys E'.labs=some E':=by kernel_rfl):zdV E E':=zsx _ _ h
end
def cvA:AV->AV->AV
 | .ag l,.rc r _ x=> .rc r (AV.colsL l) x
 | y,_=>y
def argL:AV->AV->Option (List LV)
 | .ag l,.rc _ _ _=>zhr l
 | _,_=>none
def argR:AV->AV->Option (List LV)
 | .ag _,.rc r _ x=>some (r.lv x)
 | _,_=>none
theorem zGn (h:argL y i=argR y i):AV.le y (cvA y i):=by
 cases y with
 | ag l=>
  cases i with
  | rc r C x=>exact zaY r _ x l h (zvP _)
  | _=>exact AV.le_refl _
 | _=>exact AV.le_refl _
def zipA {α:Type _} (f:AV->AV->α):List AV->List AV->List α
 | x::l,y::m=>f x y::zipA f l m
 | _,_=>[]
theorem zyS {f:AV->AV->AV}:∀{l m:List AV},l.length=m.length->(zipA f l m).length=l.length
 | [],_,_=>rfl
 | x::l,[],h=>by simp at h
 | x::l,y::m,h=>by simp [zipA,zyS (l:=l) (m:=m) (by simpa using h)]
theorem zAH:∀{args:List Operand} {ys is:List AV},ys.length=args.length->is.length=args.length->zipA argL ys is=zipA argR ys is->leI (args.zip ys) (args.zip (zipA cvA ys is))
 | [],_,_,_,_,_=>trivial
 | x::args,[],_,h,_,_=>by simp at h
 | x::args,y::ys,[],_,h,_=>by simp at h
 | x::args,y::ys,i::is,h1,h2,h=>by
  simp only [zipA,yD] at h;exact ⟨⟨rfl,zGn h.1⟩,zAH (by simpa using h1) (by simpa using h2) h.2⟩
def zsT (P:Program) (N:Lim) (ops:Array Oper) (rest:List Oper) (n:Nat) (ls:List Nat) (f:FuncId) (ins outs:List AV) (D:List Nat) (s:Nat) (E:Env):Option (List (Option (List LV))×List AV×List (Option (List LV))):=
 match nthO rest n with
 | some o=>match o.op with
  | .call c=>match c.callee with
   | .value (.func g)=>match Nat.beq g f,runX P N ops (rest.take n) ls E with
    | true,some E0=>match zft ops E0 o,okW (outs.flatMap (zii s))&&zhY N o.dst,zlH E0 c.args.toList with
     | some true,true,some ys=>match Nat.beq ys.length ins.length&&((zipA cvA ys ins).all fun a=>subN (zwr a) D)&& !D.isEmpty&&outs.all (ztS [1] D s) with
      | true=>some (zipA argL ys ins,(zipA cvA ys ins).map inAV,zipA argR ys ins)
      | false=>none
     | _,_,_=>none
    | _,_=>none
   | _=>none
  | _=>none
 | none=>none
def zCL (P:Program) (N:Lim) (ops:Array Oper) (rest:List Oper) (n:Nat) (ls:List Nat) (outs:List AV) (D:List Nat) (s:Nat) (E:Env):Env:=
 match nthO rest n,runX P N ops (rest.take n) ls E with
 | some o,some E0=>E0.step [] (outs.flatMap (zii s)) o.dst (zvJ (outs.map (zsa D s))) []
 | _,_=>E
def zCM (ins:List AV):Option (List (Option (List LV))×List AV×List (Option (List LV)))->Option (List (Option (List LV))×List AV×List (Option (List LV)))
 | some r=>some (r.2.2,ins,r.2.2)
 | none=>none
theorem ztO :∀{l:List Operand} {as:List AV},zlH E l=some as->as.length=l.length
 | [],as,h=>by cases h;rfl
 | x::l,as,h=>by
  rw [zlH] at h;split at h
  ·rename_i a r h1 h2;cases h;simp [ztO h2]
  ·cases h
theorem ztP :∀{l:List Operand} {as:List AV},zlH E l=some as->znz E (l.zip as)
 | [],as,_=>trivial
 | x::l,as,h=>by
  rw [zlH] at h;split at h
  ·rename_i a r h1 h2;cases h;exact ⟨h1,ztP h2⟩
  ·cases h
section
variable {P:Program} {N:Lim} {ops:Array Oper} {rest:List Oper} {E E':Env} {f:FuncId} {ins outs:List AV}
theorem rll (n:Nat) (ls:List Nat) (D:List Nat) (s:Nat) (hc:∀as w,(callFunc f as).run P w= .ok (.enter f as) w) (ok:FnOk P f ins outs) (k:zcq P N ops (rest.drop (n+1)) (zCL P N ops rest n ls outs D s E) E')
  (h:zsT P N ops rest n ls f ins outs D s E=zCM ins (zsT P N ops rest n ls f ins outs D s E):=by kernel_rfl) (hs:(zsT P N ops rest n ls f ins outs D s E).isSome=true:=by kernel_rfl):zcq P N ops rest E E':=by
 obtain ⟨⟨q1,q2,q3⟩,hq⟩:=uo.1 hs;rw [hq] at h;simp only [zCM,ya,yS,qu] at h;rw [h.1,h.2] at hq;unfold zsT at hq;split at hq
 ·rename_i o ho;unfold zCL at k;rw [ho] at k;split at hq
  ·rename_i c hop;split at hq
   ·rename_i g hcal;split at hq
    ·rename_i E0 hg hE;rw [hE] at k;have hgf:=xD hg;refine zmn n hE ?_;rw [zoL ho];split at hq
     ·rename_i ys h1 h2 h3;split at hq
      ·rename_i hk;simp only [xy,yg] at hk h2;simp only [ya,yS] at hq;obtain ⟨e1,e2,e3⟩:=hq;have hlen:=xD hk.1.1.1;have hl:=ztO h3;have hop':o.op= .call ⟨.value (.func f),c.args.toList.toArray,c.argTypes⟩:=by
        rw [hop];obtain ⟨cal,args,ts⟩:=c;simp only at hcal;subst hcal hgf;simp
       have hlaw:=zU (zipA cvA ys ins) D s hop' hc ok e2 (by rw [zyS hlen];exact hl) hk.1.1.2 hk.1.2 hk.2;refine zsI h1 (hlaw.le (zAH hl (by rw [<-hlen];exact hl) (e1.trans e3.symm))) (ztP h3) trivial rfl h2.1 h2.2 k
      ·cases hq
     ·cases hq
    ·cases hq
   ·cases hq
  ·cases hq
 ·cases hq
theorem rl (n:Nat) (D:List Nat) (s:Nat) (hc:∀as w,(callFunc f as).run P w= .ok (.enter f as) w) (ok:FnOk P f ins outs) (k:zcq P N ops (rest.drop (n+1)) (zCL P N ops rest n [] outs D s E) E')
  (h:zsT P N ops rest n [] f ins outs D s E=zCM ins (zsT P N ops rest n [] f ins outs D s E):=by kernel_rfl) (hs:(zsT P N ops rest n [] f ins outs D s E).isSome=true:=by kernel_rfl):zcq P N ops rest E E':=rll n [] D s hc ok k h hs
end
def isAg:TypeDesc->Bool
 | .struct _=>true
 | .array _ _=>true
 | _=>false
theorem zBJ (h:P.underlying t=some d) (hd:isAg d=true) (w:World):(isAgg t).run P w= .ok true w:=by
 cases d<;>first| (cases hd;done)| simp [isAgg,run_underlying h]
def ldC (P:Program) (N:Lim) (ops:Array Oper) (rest:List Oper) (n:Nat) (ls:List Nat) (sz:Nat) (C:List Nat) (E:Env):Option (List LV):=
 match nthO rest n with
 | some o=>match o.op with
  | .load t y=>match runX P N ops (rest.take n) ls E with
   | some E0=>match zft ops E0 o,zhY N o.dst,E0.opd y,P.underlying t,P.info? t with
    | some true,true,some (.ptr k off),some d,some i=>match zgy E0.bx k with
     | some b=>match Nat.beq i.size sz&&subN (AV.colsL ((b.avs.drop off).take sz)) C&&isAg d with
      | true=>zhr ((b.avs.drop off).take sz)
      | false=>none
     | none=>none
    | _,_,_,_,_=>none
   | none=>none
  | _=>none
 | none=>none
def ldE (P:Program) (N:Lim) (ops:Array Oper) (rest:List Oper) (n:Nat) (ls:List Nat) (av:AV) (E:Env):Env:=
 match nthO rest n,runX P N ops (rest.take n) ls E with
 | some o,some E0=>E0.step [] [] o.dst av []
 | _,_=>E
section
variable {P:Program} {N:Lim} {ops:Array Oper} {rest:List Oper} {E E':Env} {α:Type}
theorem lbl (n:Nat) (ls:List Nat) (r:Rp α) (C:List Nat) (x:α) (k:zcq P N ops (rest.drop (n+1)) (ldE P N ops rest n ls (.rc r C x) E) E') (h:ldC P N ops rest n ls r.size C E=some (r.lv x):=by kernel_rfl):zcq P N ops rest E E':=by
 unfold ldC at h;split at h
 ·rename_i o ho;unfold ldE at k;rw [ho] at k;split at h
  ·rename_i t y hop;split at h
   ·rename_i E0 hE;rw [hE] at k;refine zmn n hE ?_;rw [zoL ho];split at h
    ·rename_i kk off fs i h1 h2 h3 h4 h5;split at h
     ·rename_i b hb;split at h
      ·rename_i hk;rw [xy,xy] at hk;have hsz:=xD hk.1.1;have e:=(zdX hb).2;have hlaw:=zGD (P:=P) (o:=o) (r:=r) (b:=b) (off:=off) x C hop ⟨zBJ h4 hk.2,fun w=>by rw [zqH h5 w,hsz]⟩ h hk.1.2;refine zsI h1 hlaw ⟨by rw [e];exact h3,trivial⟩ ⟨?_,trivial⟩ rfl rfl h2 k;rw [e];exact hb
      ·cases h
     ·cases h
    ·cases h
   ·cases h
  ·cases h
 ·cases h
theorem lb (n:Nat) (r:Rp α) (C:List Nat) (x:α) (k:zcq P N ops (rest.drop (n+1)) (ldE P N ops rest n [] (.rc r C x) E) E') (h:ldC P N ops rest n [] r.size C E=some (r.lv x):=by kernel_rfl):zcq P N ops rest E E':=lbl n [] r C x k h
end
section
variable {m:Bool} {P:Program} {l:List It} {cx:Cx} {E E':Env} {Q:Exit->Act->World->Prop} {id:Nat} {ops:List Oper} {o:Operand} {b:Bool} {x y:Code}
theorem jr (h:zcq P cx.n ops.toArray ops E E') (k:JI m P l (Sx cx E') Q):JI m P (.c (.region id ops.toArray false)::l) (Sx cx E) Q:=zaG E' h k
theorem jq (ls:List Nat) (k:JI m P l (Sx cx (endE P cx.n ops.toArray ops ls E)) Q) (h:endB P cx.n ops.toArray ops ls E=true:=by kernel_rfl):JI m P (.c (.region id ops.toArray false)::l) (Sx cx E) Q:=zaG _ (rfl' ls h) k
theorem jp (k:JI m P l (Sx cx (endE P cx.n ops.toArray ops [] E)) Q) (h:endB P cx.n ops.toArray ops [] E=true:=by kernel_rfl):JI m P (.c (.region id ops.toArray false)::l) (Sx cx E) Q:=jq [] k h
theorem jk (ks ls:List Nat) (k:JI m P l (Sx cx (zBc ks ls E)) Q) (h:zBb ks ls E=true:=by kernel_rfl):JI m P l (Sx cx E) Q:=fun a w hs=>k a w (hs.pick (ztV h))
theorem jT (hb:b=true) (k:JI m P (zln x l) (Sx cx E) Q) (h:E.opd o=some (.lf (.bool b)):=by kernel_rfl):JI m P (.c (.cond o x y)::l) (Sx cx E) Q:=zDv h hb k
theorem jF (hb:b=false) (k:JI m P (zln y l) (Sx cx E) Q) (h:E.opd o=some (.lf (.bool b)):=by kernel_rfl):JI m P (.c (.cond o x y)::l) (Sx cx E) Q:=zDu h hb k
theorem jI {α:Type} {p q:Option α} {r:α} (h:(if b then p else q)=some r) (hx:b=true->p=some r->JI m P (zln x l) (Sx cx E) Q) (hy:b=false->q=some r->JI m P (zln y l) (Sx cx E) Q) (ho:E.opd o=some (.lf (.bool b)):=by kernel_rfl):JI m P (.c (.cond o x y)::l) (Sx cx E) Q:=by
 rcases zDs h with ⟨c,h⟩| ⟨c,h⟩
 ·exact jT c (hx c h) ho
 ·exact jF c (hy c h) ho
end
theorem lx (h:zy P o ins bxs W V av bs) (h2:zec P l ss is):
  zec P (o::l) (.ex (bxs.map (·.lab)) W V av bs::ss) (⟨ins,bxs,[]⟩::is):=by simp only [zec];exact ⟨h,h2⟩
theorem ly (as:List AV) (h:zy P o ins bxs W V av bs) (_:ins.map (·.2)=as) (h2:zec P l ss is):
  zec P (o::l) (.ex (bxs.map (·.lab)) W V av bs::ss) (⟨ins,bxs,[]⟩::is):=lx h h2
theorem l0 :zec P l [] []:=by cases l<;>simp [zec]
theorem lf1 (g:Nat) (h:zy P o ins bxs W V av bs):zy P o ((.func g,.lf (.val (.func (.func g) #[] #[])))::ins) bxs W V av bs:=h.cons _
def zFU (P:Program) (N:Lim) (ops:List Oper) (ss:List zkw) (E:Env) (ks bs:List Nat):Env:=match zst P N ops ss E ks bs with
 | some r=>r.1
 | none=>E
def zFV (P:Program) (N:Lim) (ops:List Oper) (ss:List zkw) (E:Env) (ks bs:List Nat):Option (List DIn):=match zst P N ops ss E ks bs with
 | some r=>some r.2
 | none=>none
theorem jd {m:Bool} {P:Program} {cx:Cx} {E:Env} {id:Nat} {ops:List Oper} {l:List It} {Q:Exit->Act->World->Prop} {ss:List zkw} {is:List DIn} (ks bs:List Nat) (hm:P.follows .mixedOrders=true) (hl:zec P ops ss is)
  (k:JI m P l (Sx cx (zFU P cx.n ops ss E ks bs)) Q) (h:zFV P cx.n ops ss E ks bs=some is:=by kernel_rfl):JI m P (.c (.region id ops.toArray true)::l) (Sx cx E) Q:=by
 unfold zFV at h;unfold zFU at k;split at h
 ·rename_i r hr;obtain ⟨E1,is'⟩:=r;simp only [ya] at h;subst h;rw [hr] at k;exact zoH E1 ss _ ks bs hm hr hl k
 ·cases h
open Go.RowKit (wrap32 wrap64)
def sgnS (x:Int):Int:=if x%4294967296<2147483648 then x%4294967296 else x%4294967296 - 4294967296
def zvT (x:Int):Int:=if 0<=x then x else x+18446744073709551616
theorem zEr (x:Int): -2147483648<=sgnS x/\sgnS x<=2147483647:=by unfold sgnS;split<;>omega
theorem zFO (h: -9223372036854775808<=x/\x<=9223372036854775807):0<=zvT x/\zvT x<=18446744073709551615:=by unfold zvT;split<;>omega
theorem zGl (h:(Lit.int .u64 x).wf=true):0<=x/\x<=18446744073709551615:=by simpa [Lit.wf,IntKind.min,IntKind.max,IntKind.bits,IntKind.signed] using h
set_option linter.unusedVariables false
theorem zvu:∀l:List Int,lexI l l=0
 | []=>rfl
 | x::l=>by rw [lexI,xq (y7 x),xq (y7 x),zvu l]
theorem zhx:∀l m:List Int,lexI l m= - lexI m l
 | [],[]=>rfl
 | [],_::_=>rfl
 | _::_,[]=>rfl
 | x::l,y::m=>by
  rw [lexI,lexI,zhx l m];by_cases h1:x<y
  ·rw [xr h1,xq (show ¬y<x by omega),xr h1]
  ·by_cases h2:y<x
   ·rw [xq h1,xr h2,xr h2];rfl
   ·rw [xq h1,xq h2,xq h2,xq h1]
theorem zoJ:∀{l m:List Int},lexI l m=0->l=m
 | [],[],_=>rfl
 | [],_::_,h=>by cases h
 | _::_,[],h=>by cases h
 | x::l,y::m,h=>by
  rw [lexI] at h;split at h
  ·cases h
  ·split at h
   ·cases h
   ·rw [zoJ h,show x=y by omega]
theorem zmN:∀{a b c:List Int},lexI a b<=0->lexI b c<=0->lexI a c<=0
 | [],[],_,_,h=>h
 | [],_::_,[],_,_=>y8 _
 | [],_::_,_::_,_,_=>by rw [lexI];decide
 | _::_,[],_,h,_=>by rw [lexI] at h;exact absurd h (by decide)
 | _::_,_::_,[],_,h=>by rw [lexI] at h;exact absurd h (by decide)
 | x::a,y::b,z::c,h,k=>by
  rw [lexI] at h k|-;by_cases h1:x<y
  ·by_cases k1:y<z
   ·rw [xr (by omega)];decide
   ·by_cases k2:z<y
    ·rw [xq k1,xr k2] at k;exact absurd k (by decide)
    ·rw [xr (by omega)];decide
  ·by_cases h2:y<x
   ·rw [xq h1,xr h2] at h;exact absurd h (by decide)
   ·rw [xq h1,xq h2] at h;by_cases k1:y<z
    ·rw [xr (by omega)];decide
    ·by_cases k2:z<y
     ·rw [xq k1,xr k2] at k;exact absurd k (by decide)
     ·rw [xq k1,xq k2] at k;rw [xq (by omega),xq (by omega)];exact zmN h k
theorem zvt {a b:List Int} (h:lexI a b<=0) (k:lexI b a<=0):a=b:=zoJ (by have:=zhx a b;omega)
theorem zyx (l:List (List Int)):(zly l).Pairwise fun a b=>lexI a b<=0:=by
 have h:=up (le:=fun x y:List Int=>decide (lexI x y<=0)) (fun a b c h k=>by
  simp only [xU] at h k|-;exact zmN h k) (fun a b=>by
  have:=zhx a b;simp only [qk,xU];omega) l
 unfold zly;exact h.imp fun h=>by simpa using h
theorem zpV (l:List (List Int)):(zly l).Perm l:=List.mergeSort_perm l _
theorem zEv {l r:List (List Int)} (hp:r.Perm l) (hs:r.Pairwise fun a b=>lexI a b<=0):r=zly l:=
 List.Perm.eq_of_pairwise (fun a b _ _ h k=>zvt h k) hs (zyx l) (hp.trans (zpV l).symm)
end Go.Proofs.YtekgmimingolbaaGreat

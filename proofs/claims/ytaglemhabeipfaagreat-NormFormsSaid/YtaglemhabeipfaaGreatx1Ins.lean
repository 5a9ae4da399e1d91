/-
  The laws as plain functions. No condition.
-/
import Derived.Lib.AppendZerosOnto
import Derived.Lib.Overlaps
import Derived.Test.YtaglemhabeipfaaGreatx1K3
namespace Go.Proofs.YtaglemhabeipfaaGreat
open Go Go.RowKit
set_option linter.unusedVariables false
set_option linter.unusedSectionVars false
structure PX where
  deps:List Nat
  d:Nat
  v:Value
def pxAt (ps:List PX):List Nat->List (Nat×Value)
  | []=>[]
  | j::l=>(match ps[j]? with
    | some p=>[(p.d,p.v)]
    | none=>[])++pxAt ps l
theorem zFb {ps:List PX}:∀{l:List Nat} {q:Nat×Value},q∈pxAt ps l->∃j p,j∈l/\ps[j]? =some p/\q=(p.d,p.v)
  | j::l,q,h=>by
    simp only [pxAt,xF] at h;rcases h with h| h
    · cases hp:ps[j]? with
      | none=>rw [hp] at h;cases h
      | some p=>
        rw [hp] at h;simp only [xy,xL,xM] at h;exact ⟨j,p,xt,hp,h⟩
    · obtain ⟨j',p,h1,h2,h3⟩:=zFb h;exact ⟨j',p,xu _ h1,h2,h3⟩
def pxOk (n:Nat) (ks:List Nat):List PX->Bool
  | []=>true
  | p::l=> !memN p.d ks&&Nat.blt p.d n&& !memN p.d (l.map (·.d))&&pxOk n ks l
theorem zIE {n:Nat} {ks:List Nat}:∀{ps:List PX},pxOk n ks ps=true->∀{i:Nat} {p:PX},ps[i]? =some p->p.d∉ks/\p.d<n/\∀{j:Nat} {q:PX},ps[j]? =some q->j≠i->q.d≠p.d
  | [],_,i,p,hp=>by simp at hp
  | p0::l,h,i,p,hp=>by
    simp only [pxOk,xw,xZ] at h;obtain ⟨⟨⟨h1,h2⟩,h3⟩,h4⟩:=h;have n1:p0.d∉ks:=fun hm=>by rw [zaf.2 hm] at h1;cases h1
    have n3:∀{j:Nat} {q:PX},l[j]? =some q->q.d≠p0.d:=fun {j q} hq e=>by
      have:p0.d∈l.map (·.d):=xA.2 ⟨q,qS hq,e⟩;rw [zaf.2 this] at h3;cases h3
    cases i with
    | zero=>
      simp at hp;subst hp;refine ⟨n1,xP h2,fun {j q} hq hj=>?_⟩;cases j with
      | zero=>exact absurd rfl hj
      | succ j=>exact n3 (by simpa using hq)
    | succ i=>
      have hp':l[i]? =some p:=by simpa using hp
      obtain ⟨k1,k2,k3⟩:=zIE h4 hp';refine ⟨k1,k2,fun {j q} hq hj=>?_⟩;cases j with
      | zero=>simp at hq;subst hq;exact (n3 hp').symm
      | succ j=>exact k3 (by simpa using hq) (by omega)
def zDc (ms:List Nat):Nat->List PX->Bool
  | _,[]=>true
  | i,p::l=>(p.deps.all fun j=>Nat.blt j i&&(ms.getD i 0).testBit j)&&zDc ms (i+1) l
theorem zBA {ms:List Nat}:∀{l:List PX} {n:Nat},zDc ms n l=true->∀{i:Nat} {p:PX},l[i]? =some p->∀j∈p.deps,j<n+i/\(ms.getD (n+i) 0).testBit j=true
  | [],n,_,i,p,hp=>by simp at hp
  | p0::l,n,h,i,p,hp=>by
    simp only [zDc,xw,xI] at h;cases i with
    | zero=>
      simp at hp;subst hp;intro j hj;have:=h.1 j hj;exact ⟨xP this.1,this.2⟩
    | succ i=>
      intro j hj;have:=zBA h.2 (i:=i) (by simpa using hp) j hj
      rwa [show n+1+i=n+(i+1) by omega] at this
def zxd:Nat->List Oper->Bool
  | _,[]=>true
  | i,o::l=>(o.after.toList.all fun e=> !Region.binds .any e|| Nat.blt e.on i)&&zxd (i+1) l
theorem zxY:∀{l:List Oper} {n:Nat},zxd n l=true->∀{i:Nat} {o:Oper},l[i]? =some o->∀e∈o.after,Region.binds .any e=true->e.on<n+i
  | [],n,_,i,o,ho=>by simp at ho
  | o0::l,n,h,i,o,ho=>by
    simp only [zxd,xw,xI] at h;cases i with
    | zero=>
      simp at ho;subst ho;intro e he hb;have:=h.1 e (by simpa using he);rw [hb] at this;rw [Bool.not_true,pk] at this;exact xP this
    | succ i=>
      intro e he hb;have:=zxY h.2 (i:=i) (by simpa using ho) e he hb;omega
theorem zvh {P:Program} {m:Bool} {id N:Nat} {ops:Array Oper} {Q:Exit->Act->World->Prop} {a:Act} {w w1:World} {es:List (Nat×Value)} (ps:List PX) (h:Ev a N es) (hm:P.follows .mixedOrders=true) (hw1:w1={w with drawn:=w.drawn+1})
    (kG:ops.size=ps.length+1) (kz:pxOk N (es.map (·.1)) ps=true) (hdeps:zDc (zra ops.toList []) 0 ps=true) (hlast:((List.range ps.length).all fun j=>((zra ops.toList []).getD ps.length 0).testBit j)=true) (hdown:zxd 0 ops.toList=true)
    (hex:∀(i:Nat) (p:PX),ps[i]? =some p->∃o,ops[i]? =some o/\o.guard=none/\o.dst=some p.d/\∀a,Ev a N (pxAt ps p.deps++es)->(execOp a.eval o).run P w1= .ok (.value p.v) w1)
    (hend:∃o,ops[ps.length]? =some o/\o.guard=none/\∀a,Ev a N (ps.map (fun p=>(p.d,p.v))++es)->opq P o a w1 (fun a w=>Q .normal a w) Q):wq m P (.region id ops true) Q a w:=by
  subst hw1;refine zta hm ?_;have hdown':∀(i:Nat) (o:Oper),ops[i]? =some o->∀e∈o.after,Region.binds .any e=true->e.on<i:=fun i o ho e he hb=>by
    have:=zxY hdown (i:=i) (o:=o) (by simpa using ho) e he hb;omega
  -- all but the last
  have key:∀(fuel:Nat) (kD:Array Bool) (a:Act),kD.size=ops.size->znE ops (zcn kD)->(kD.toList.filter (·==false)).length<=fuel->Ev a N es->(∀i p,zcn kD i->ps[i]? =some p->a.tmps.getD p.d undef=p.v)->¬zcn kD ps.length->
      anyq P ops Q fuel kD a {w with drawn:=w.drawn+1}:=by
    intro fuel;have cnt:∀(l:List Bool) (i:Nat),l[i]? =some false->((l.set i true).filter (·==false)).length+1=(l.filter (·==false)).length:=by
      intro l
      induction l with
      | nil=>intro i h;simp at h
      | cons x l ihl=>
        intro i h;cases i with
        | zero=>simp at h;subst h;simp
        | succ i=>grind
    have notAll:∀kD:Array Bool,kD.size=ops.size->¬zcn kD ps.length->Region.ready .any ops kD≠[]:=fun kD hs hn hr=>hn (zxL hs hdown' hr _ (by omega))
    have hget:∀kD:Array Bool,kD.size=ops.size->∀i,i<ops.size->¬zcn kD i->kD.toList[i]? =some false:=fun kD hs i hi hn=>by
      have hil:i<kD.size:=by omega
      unfold zcn at hn;simp only [yF,pE hil,pl,ug] at hn;simp [Array.getElem?_eq_getElem hil,hn]
    induction fuel with
    | zero=>
      intro kD a hs hD hc hE hv hn;have:=hget kD hs ps.length (by omega) hn;have:=cnt _ _ this;omega
    | succ fuel ih=>
      intro kD a hs hD hc hE hv hn;refine fun ro=>⟨fun hr=>absurd hr (notAll kD hs hn),fun i hi=>?_⟩
      obtain ⟨hun,o,hoi,hall⟩:=qT.1 hi;have hilt:i<ops.size:=(yh.1 hoi).1;have hil:i<kD.size:=by omega
      have hni:¬zcn kD i:=by
        unfold zcn
        grind
      have hset:∀j,zcn (kD.setIfInBounds i true) j↔zcn kD j\/j=i:=zyD hil;have hD':znE ops (zcn (kD.setIfInBounds i true)):=fun j o hj hDj e he hb=>(hset _).2 (zlz hD hi j o hj ((hset j).1 hDj) e he hb)
      have hbits:∀j,((zra ops.toList []).getD i 0).testBit j=true->zcn kD j\/j=i:=fun j hb=>by
        have hm:=zpv (zlz hD hi) ops.toList [] (fun j=>by simp) (fun k m hk=>by simp at hk);cases hk:(zra ops.toList [])[i]? with
        | none=>simp [List.getD,hk] at hb
        | some m=>
          simp [List.getD,hk] at hb;exact hm i m hk (.inr rfl) j hb
      unfold wpOpIn;rw [hoi];simp only;by_cases km:i<ps.length
      · obtain ⟨p,hp⟩:∃p,ps[i]? =some p:=⟨_,xN km⟩;obtain ⟨o',ho',hg,hd,kF⟩:=hex i p hp;rw [hoi] at ho';cases ho';obtain ⟨k1,k2,k3⟩:=zIE kz hp;have hEv:Ev a N (pxAt ps p.deps++es):=⟨hE.defers,hE.size,fun q hq=>by
          rcases xF.1 hq with hq| hq
          · obtain ⟨j,pj,hj,hpj,rfl⟩:=zFb hq;have hb:=zBA hdeps hp j hj;rw [xK] at hb;rcases hbits j hb.2 with h| h
            · exact hv j pj h hpj
            · omega
          · exact hE.val q hq⟩
        rw [xr (by simp [Region.wanted,hg])];refine qU (fun a w h=>h ro) (zkt (Q:=Q) (kF a hEv) (next:=anyq P ops Q fuel (kD.setIfInBounds i true)) ?_ ro);rw [hd];have hsz':p.d<a.tmps.size:=by rw [hE.size];exact k2
        refine ih _ _ (by simp [hs]) hD' ?_ ⟨by rw [zhR];exact hE.defers,by rw [zoG];exact hE.size,fun q hq=>?_⟩ (fun j q hj hq=>?_) fun hl=>?_
        · have:=cnt _ _ (hget kD hs i hilt hni);simp only [Array.toList_setIfInBounds];omega
        · have kO:p.d≠q.1:=fun e=>k1 (xA.2 ⟨q,hq,e.symm⟩)
          rw [zjv kO.symm];exact hE.val q hq
        · by_cases hji:j=i
          · subst hji;rw [hp] at hq;cases hq;exact zdt hsz'
          · rw [zjv (fun e=>k3 hq hji (by rw [e]))];exact hv j q (((hset j).1 hj).resolve_right hji) hq
        · rcases (hset _).1 hl with h| h
          · exact hn h
          · omega
      · have hi':i=ps.length:=by omega
        subst hi';obtain ⟨o',ho',hg,kF⟩:=hend;rw [hoi] at ho';cases ho';have hlisted:∀j,j<ps.length->zcn kD j:=fun j hj=>by
          rcases hbits j (xI.1 hlast j (List.mem_range.2 hj)) with h| h
          · exact h
          · omega
        have hEv:Ev a N (ps.map (fun p=>(p.d,p.v))++es):=⟨hE.defers,hE.size,fun q hq=>by
          rcases xF.1 hq with hq| hq
          · obtain ⟨p,hp,rfl⟩:=xA.1 hq;obtain ⟨j,hj,hpj⟩:=qE hp;exact hv j p (hlisted j hj) (by rw [xN hj,hpj])
          · exact hE.val q hq⟩
        rw [xr (by simp [Region.wanted,hg])];refine qU (fun a w h=>h ro) (zLJ (kF a hEv) (next':=anyq P ops Q fuel (kD.setIfInBounds ps.length true)) (fun a w hq=>?_) ro);have hallL:∀j,j<ops.size->zcn (kD.setIfInBounds ps.length true) j:=fun j hj=>(hset j).2 (by
          by_cases e:j=ps.length
          · exact .inr e
          · exact .inl (hlisted j (by omega)))
        have hnone:Region.ready .any ops (kD.setIfInBounds ps.length true)=[]:=by
          cases hre:Region.ready .any ops (kD.setIfInBounds ps.length true) with
          | nil=>rfl
          | cons j l=>
            exfalso;have hj:j∈Region.ready .any ops (kD.setIfInBounds ps.length true):=by rw [hre];exact xt
            obtain ⟨hun2,o2,ho2,_⟩:=qT.1 hj;have:=hallL j (yh.1 ho2).1;unfold zcn at this;simp only [yF] at this hun2
            grind
        cases fuel with
        | zero=>exact fun _=>⟨hnone,hq⟩
        | succ fuel=>exact fun _=>⟨fun _=>hq,fun j hj=>by rw [hnone] at hj;cases hj⟩
  refine key ops.size _ a (by simp) (fun j o ho hj=>?_) (by simp) h (fun i p hi=>?_) fun hi=>?_
  · exfalso;unfold zcn at hj;simp at hj
    grind
  · exfalso;unfold zcn at hi;simp at hi
    grind
  · unfold zcn at hi;simp at hi
    grind
section
variable {P:Program} {o:Oper} {ev:Operand->Value} {w:World} {x y:Operand} {t e:TypeId}
theorem zFv (hT:ElT P t e 1 1) (w:World) (A:Option Addr) (n c:Nat) (hc:n<=c) (lo hi:Option Value) (i j:Nat)
    (hlo:(lo=none/\i=0)\/lo=some (.int .i64 i)) (hhi:(hi=none/\j=n)\/hi=some (.int .i64 j)) (h1:i<=j) (h2:j<=c):
    (Instr.sliceAt t (.slice A n c) lo hi none).run P w= .ok (.slice (if c=i then A else A.map (·.add i)) (j - i) (c - i)) w:=by
  have key:(Instr.sliceBounds true n c lo hi none).run P w= .ok (i,j,c) w:=by
    have b1:=zcS (P:=P) w .i64 j c .sliceAcap (by omega) (by omega);have b2:=zcS (P:=P) w .i64 i j .sliceB (by omega) (by omega);rcases hlo with ⟨rfl,rfl⟩| rfl<;>rcases hhi with ⟨rfl,rfl⟩| rfl
    · rfl
    · simp [Instr.sliceBounds,b1]
    · simp [Instr.sliceBounds,b2]
    · simp [Instr.sliceBounds,b1,b2]
  simp [Instr.sliceAt,Instr.slice,run_underlying hT.u,key,hT.size]
theorem zHR {A:Option Addr} {n c i:Nat} (ho:o.op= .slice t x (some y) none none) (hT:ElT P t e 1 1) (hx:ev x= .slice A n c) (hy:ev y= .int .i64 i) (h1:i<=n) (hc:n<=c):
    (execOp ev o).run P w= .ok (.value (.slice (if c=i then A else A.map (·.add i)) (n - i) (c - i))) w:=by
  simp [execOp,ho,hx,hy,zFv hT w A n c hc _ _ i n (.inr rfl) (.inl ⟨rfl,rfl⟩) h1 hc]
theorem zpn {g n c i:Nat} (ho:o.op= .slice t x (some y) none none) (hT:ElT P t e 1 1) (hx:ev x= .slice (some ⟨g,0,none⟩) n c) (hy:ev y= .int .i64 i) (h1:i<=n) (hc:n<=c) (hi:i<c):
    (execOp ev o).run P w= .ok (.value (.slice (some ⟨g,i,none⟩) (n - i) (c - i))) w:=by
  rw [zHR ho hT hx hy h1 hc,xq (by omega)];simp [zfU]
theorem zHQ {g n c j:Nat} (ho:o.op= .slice t x none (some y) none) (hT:ElT P t e 1 1) (hx:ev x= .slice (some ⟨g,0,none⟩) n c) (hy:ev y= .int .i64 j) (h1:j<=c) (hc:n<=c):
    (execOp ev o).run P w= .ok (.value (.slice (some ⟨g,0,none⟩) j c)) w:=by
  have h:=zFv hT w (some ⟨g,0,none⟩) n c hc none (some (.int .i64 j)) 0 j (.inl ⟨rfl,rfl⟩) (.inr rfl) (xC _) h1;have e1:(if c=0 then some (⟨g,0,none⟩:Addr) else (some (⟨g,0,none⟩:Addr)).map (·.add 0))=some ⟨g,0,none⟩:=by
    split<;>simp [zfU]
  rw [e1,qF,qF] at h;simp [execOp,ho,hx,hy,h]
theorem zPd {A:Option Addr} {m c:Nat} (ho:o.op= .call ⟨.builtin .cap,#[x],#[t]⟩) (hx:ev x= .slice A m c) (hu:P.underlying t=some (.slice e)):(execOp ev o).run P w= .ok (.value (.int .i64 (c:Int))) w:=by
  simp [execOp,ho,resolve,invoke,hx,builtin,Builtin.cap_,run_underlying hu,goInt]
theorem zrV {k s:TypeId} {i j:Nat} (ho:o.op= .binOp .add k x y s) (hx:ev x= .int .i64 (i:Int)) (hy:ev y= .int .i64 (j:Int)) (h:i+j<=9000000000000000000):(execOp ev o).run P w= .ok (.value (.int .i64 ((i+j:Nat):Int))) w:=by
  rw [zPb ho hx hy];congr 3;rw [IntKind.wrap_i64]<;>omega
theorem zNf {k s:TypeId} {i j:Nat} (ho:o.op= .binOp .sub k x y s) (hx:ev x= .int .i64 (i:Int)) (hy:ev y= .int .i64 (j:Int)) (h:j<=i) (h2:i<=9000000000000000000):(execOp ev o).run P w= .ok (.value (.int .i64 ((i - j:Nat):Int))) w:=by
  have h1:(execOp ev o).run P w= .ok (.value (.int .i64 (IntKind.i64.wrap ((i:Int) - (j:Int))))) w:=by
    simp [execOp,ho,hx,hy,zno,binOp];rfl
  rw [h1];congr 3;rw [IntKind.wrap_i64]<;>omega
theorem zHS {k s:TypeId} {i j:Nat} (ho:o.op= .binOp .eql k x y s) (hx:ev x= .int .i64 (i:Int)) (hy:ev y= .int .i64 (j:Int)):(execOp ev o).run P w= .ok (.value (.bool (decide (i=j)))) w:=by
  simp [execOp,ho,hx,hy,zno,binOp,Op.intCmp];by_cases h:i=j
  · simp [h]
  · simp [h];omega
theorem zNe {k s:TypeId} {i j:Nat} (ho:o.op= .binOp .gtr k x y s) (hx:ev x= .int .i64 (i:Int)) (hy:ev y= .int .i64 (j:Int)):(execOp ev o).run P w= .ok (.value (.bool (decide (j<i)))) w:=by
  simp [execOp,ho,hx,hy,zno,binOp,Op.intCmp]
theorem zPf {k:TypeId} {b:Bool} (ho:o.op= .unOp .not k x) (hx:ev x= .bool b):(execOp ev o).run P w= .ok (.value (.bool (!b))) w:=by
  simp [execOp,ho,hx,Op.unary]
end
def zOv (P:Program) (f:FuncId) (e:TypeId):Prop:=∀(w:World) (s u:Value) (n m i:Nat) (cs ds:List Value),w.ownsRow 0 e 1 s n cs->w.ownsRow 0 e 1 u m ds->(∀g,s.ownBlock=some g->u.ownBlock≠some g)->(∀v∈cs,v.oneCell'=true)->(∀v∈ds,v.oneCell'=true)->
  i<=n->n+m<=140737488355328->Calls P f #[s,.int .i64 (i:Int),u] w fun ex w'=>∃v',ex= .returned v'/\w'.ownsRow 0 e 1 v' (n+m) (cs.take i++ds++cs.drop i)/\w.grownBy w' s.ownBlock/\(v'.ownBlock=s.ownBlock\/v'.ownBlock=some w.heap.size)
theorem zJq {xs ys zs:List UInt8} {i:Int} (h:insO xs i ys=some zs):0<=i/\i<=xs.length/\xs.length+ys.length<=140737488355328/\zs=xs.take i.toNat++ys++xs.drop i.toNat:=by
  unfold insO at h;split at h
  · rename_i hc;cases h;exact ⟨hc.1,hc.2.1,hc.2.2,rfl⟩
  · cases h
theorem zPv {P:Program} {o:Oper} {f:FuncId} {xs ys zs:List UInt8} {i:Int} {C C2:List Nat} {x y z:Operand} {ts:Array TypeId} {e ℓ ℓ2:Nat} (ho:o.op= .call ⟨.value (.func f),#[x,y,z],ts⟩)
    (hc:∀as w,(callFunc f as).run P w= .ok (.enter f as) w) (ok:zOv P f e) (kO:Nat.beq ℓ ℓ2=false) (hz:insO xs i ys=some zs):
    zB P o [(x,.own Rp.byte e ℓ C xs),(y,.lf (.int .i64 i)),(z,.own Rp.byte e ℓ2 C2 ys)] [] [ℓ] [ℓ] (.own Rp.byte e ℓ C zs) []:=by
  intro γ a w hi hb next Q hk;obtain ⟨cs,kQ,hg,hA,hnot⟩:=hi (x,.own Rp.byte e ℓ C xs) (by simp);obtain ⟨ds,hown2,hg2,hA2,_⟩:=hi (z,.own Rp.byte e ℓ2 C2 ys) (by simp);have hy:a.eval y= .int .i64 i:=zdU (hi (y,.lf (.int .i64 i)) (by simp));simp only at kQ hown2 hg hg2;obtain ⟨h0,h1,h2,rfl⟩:=zJq hz;obtain ⟨k,rfl⟩:=Int.eq_ofNat_of_zero_le h0;have hap:∀g,(a.eval x).ownBlock=some g->(a.eval z).ownBlock≠some g:=fun g h3 h4=>by
    have e1:=(hg g h3).1;have e2:=(hg2 g h4).1;rw [e1] at e2;rw [e2] at kO;simp at kO
  have kF:(execOp a.eval o).run P w= .ok (.enter f #[a.eval x,.int .i64 (k:Int),a.eval z]) w:=by
    simp [execOp,ho,resolve,Act.eval,Deferred.ofValue,invoke,hc];simpa [Act.eval] using hy
  unfold Oper.wp;rw [kF,qG];refine (ok w _ _ xs.length ys.length k cs ds kQ hown2 hap hA.one hA2.one (by omega) h2).mono fun ex w' ⟨v',e1,hw,hgr,hbk⟩=>?_
  subst e1;obtain ⟨γ',ht,hg'⟩:=zHs kQ hg hgr hbk;have hpl:Rp.byte.Plain:=fun x l hl=>by
    simp only [Rp.byte,xy,xL,xM] at hl;subst hl;rfl
  refine hk γ' w' v' ht ⟨cs.take k++ds++cs.drop k,?_,hg',?_,hnot⟩ (fun b hb=>by cases hb)
  · have e1:(xs.take (k:Int).toNat++ys++xs.drop (k:Int).toNat).length=xs.length+ys.length:=by
      simp only [xD,xz,xS,xR];omega
    rw [e1];exact hw
  · rw [xD,ym,ym];have t1:=(hA.take k).plain (G:=γ'.F C) (w':=w') fun l hl=>hpl.flat xs l (uh hl)
    have t2:=(hA.drop k).plain (G:=γ'.F C) (w':=w') fun l hl=>hpl.flat xs l (pi hl)
    have t3:=hA2.plain (G:=γ'.F C) (w':=w') (hpl.flat ys);have f1:=Rp.byte.flat_take xs k;have f2:=Rp.byte.flat_drop xs k;rw [show Rp.byte.size=1 from rfl,yT] at f1 f2;rw [f1,f2];exact (t1.append t3).append t2
theorem zGp {P:Program} {f:FuncId} {fn:Func} {c:Code} {args:Array Value} {w:World} {R:Value->World->Prop} (k:Nat) (hf:P.funcs[f]? =some fn) (hb:fn.body=some c) (hr:fn.results.toList=[.tmp k])
    (h:wq true P c (fun ex a w'=>ex= .ret/\a.defers=[]/\(a.tmps.getD k undef).oneCell'=true/\R (a.tmps.getD k undef) w') ⟨args++Array.replicate (fn.ntmps - args.size) undef,[]⟩ w):Calls P f args w fun ex w'=>∃v',ex= .returned v'/\R v' w':=by
  refine pm hf hb (wp_mono (zFZ h) ?_);rintro ex a w' ⟨rfl,hd,h1,hR⟩;obtain ⟨us,hu,hu'⟩:=zjg (P:=P) (fn:=fn) (E:=⟨[(k,.lf (.val (a.tmps.getD k undef)))],[]⟩) (l:=[.lf (.val (a.tmps.getD k undef))]) (γ:=gh0 fun _=>False) (a:=a) (w:=w') (fun p hp=>by
    simp only [xy,xL,xM] at hp;subst hp;exact ⟨rfl,.val _ h1⟩) (fun p hp=>by cases hp) (by rw [hr];exact ⟨by simp [lookup],trivial⟩)
  obtain ⟨u,us',rfl,hu1,hu2⟩:=hu';cases hu2;have:u=a.tmps.getD k undef:=zqU hu1;subst this;exact ⟨hd,_,hu,_,rfl,hR⟩
theorem Ev.three (v0 v1 v2:Value) (k:Nat):Ev ⟨#[v0,v1,v2]++Array.replicate k undef,[]⟩ (3+k) [(0,v0),(1,v1),(2,v2)]:=⟨rfl,by simp,fun p hp=>by
  simp only [xy,xL,xM] at hp;rcases hp with rfl| rfl| rfl
  all_goals
    rw [yF,pF (by simp)];rfl⟩
section
variable {P:Program} {ops:Array Oper} {Q:Exit->Act->World->Prop} {l:List Oper} {o:Oper} {a:Act} {w w':World} {n d:Nat} {es:List (Nat×Value)} {v:Value} {R:Value->World->Prop}
theorem Ev.fin {k:Nat} (h:Ev a n es) (hk:zvs es k=some v) (h1:v.oneCell'=true) (hR:R v w'):Exit.ret=Exit.ret/\a.defers=[]/\(a.tmps.getD k undef).oneCell'=true/\R (a.tmps.getD k undef) w':=by
  have e:a.tmps.getD k undef=v:=h.at hk;rw [e];exact ⟨rfl,h.defers,h1,hR⟩
theorem zOT {α:Type} {val:α->Value} {wd:α->World} {p:α->Prop} (h:Ev a n es) (hg:o.guard=none) (hd:o.dst=some d) (hn:Nat.blt d n=true) (hr:∃z,(execOp a.eval o).run P w= .ok (.value (val z)) (wd z)/\p z)
    (k:∀z a',p z->Ev a' n ((d,val z)::zwl es d)->zmr P ops Q l a' (wd z)):zmr P ops Q (o::l) a w:=by
  obtain ⟨z,hr,hp⟩:=hr;exact wk h hg hd hn hr fun a' e=>k z a' hp e
theorem zBs (h:Ev a n es) (hd:o.dst=some d) (hn:Nat.blt d n=true) (hr:(execOp a.eval o).run P w= .ok (.value v) w') (k:∀a',Ev a' n ((d,v)::zwl es d)->Q .normal a' w'):opq P o a w (fun a w=>Q .normal a w) Q:=
  zkt hr (by rw [hd];exact k _ (h.put hn))
variable {ev:Operand->Value} {x y:Operand} {t e:TypeId}
theorem zPc {s u:Value} {N m:Nat} {cs ds:List Value} (ho:o.op= .call ⟨.builtin .append,#[x,y],#[t,t]⟩) (hT:ElT P t e 1 1) (hx:ev x=s) (hy:ev y=u) (hs:w.ownsRow 0 e 1 s N cs) (hu:w.ownsRow 0 e 1 u m ds) (h1:∀v∈ds,v.oneCell'=true) (hlim:N+m<=140737488355328):
    ∃z:Value×World,(execOp ev o).run P w= .ok (.value z.1) z.2/\z.2.ownsRow 0 e 1 z.1 (N+m) (cs++ds)/\w.grownBy z.2 s.ownBlock/\(z.1.ownBlock=s.ownBlock\/z.1.ownBlock=some w.heap.size):=by
  have hu':∃A c,u= .slice A m c/\(0<m->∃b off,A=some ⟨b,off,none⟩/\∀i,i<m*1->w.cell? ⟨b,off+i,none⟩=ds[i]?):=by
    rcases hu.2 with ⟨rfl,rfl⟩| ⟨g,kC,kM,rfl,_,hh,hnc,hcm,hcs,htake⟩
    · exact ⟨none,0,rfl,fun h=>absurd h (ui _)⟩
    · refine ⟨_,kC,rfl,fun _=>⟨g,0,rfl,fun i hi=>?_⟩⟩;rw [yW w g _ kM e (0,0) hh,<-htake,yX,xr hi,xK];simp
  obtain ⟨A,c,rfl,hA⟩:=hu';obtain ⟨v',w',hr,h2,h3,h4⟩:=zxw hT qH qH o.type w s N cs hs A m c ds hu.1 hA h1 (by omega);refine ⟨(v',w'),?_,h2,h3,h4⟩;refine zaG (args:=[x,y]) (ts:=[t,t]) ho rfl rfl rfl fun consts=>?_
  simp [builtin,hx,hy,hr]
theorem zNd {tn g sl sc k:Nat} {olds:List Value} (ho:o.op= .call ⟨.builtin .append,#[x,y],#[t,tn]⟩) (hT:ElT P t e 1 1) (hn:P.underlying tn=some (.int .i64)) (hx:ev x= .slice (some ⟨g,0,none⟩) sl sc) (hy:ev y= .int .i64 (k:Int))
    (hold:∀j v,olds[j]? =some v->w.cell? ⟨g,j,none⟩=some v) (hlo:olds.length=sl) (h0:0<k) (hg:sc<sl+k) (hlim:sl+k<=140737488355328):
    ∃z:Nat×Array Value,(execOp ev o).run P w= .ok (.value (.slice (some ⟨w.heap.size,0,none⟩) (sl+k) z.1)) (w.drew.alloc (.cells z.2 e))/\sl+k<=z.1/\z.1<=maxLen/\z.2.size=z.1/\z.2.toList.take sl=olds:=by
  obtain ⟨i,z,hi,hz,hs,hb,hzs⟩:=hT.ex;have hf:=run_firstCells_some (P:=P) w.drew i.size sl ⟨g,0,none⟩ sl sc olds (by rw [hlo,hs,yT]) (fun j v hj=>by rw [zfU];simpa using hold j v hj);have hr:=Lib.run_append_grow_zeros w t tn o.type e i z .i64 .i64 hT.u hn hi hz (some ⟨g,0,none⟩) sl sc olds hf k h0 (by omega) hg (by omega) (by rw [hb];omega) (by rw [hb];exact growslice_fits hg (by omega));refine ⟨(grownCap w (sl+k) sc e,olds.toArray++Builtin.zeroCells z.cells k++Builtin.zeroCells z.cells (grownCap w (sl+k) sc e - (sl+k))),?_,pG w (sl+k) sc e,uj w (sl+k) sc e (by unfold maxLen;omega),?_,?_⟩
  · refine zaG (args:=[x,y]) (ts:=[t,tn]) ho rfl rfl rfl fun consts=>?_
    simp only [Array.append_assoc] at hr|-;simp [builtin,hx,hy,hr]
  · have:=pG w (sl+k) sc e;simp only [Array.size_append,qf,pH,hzs,hlo,yT];omega
  · simp only [Array.toList_append,yj];rw [<-hlo];exact yY
theorem zxg {g o1 dl dc b so sl sc:Nat} {kM:Array Value} {cs:List Value} (ho:o.op= .call ⟨.builtin .copy,#[x,y],#[t,t]⟩) (hT:ElT P t e 1 1) (hx:ev x= .slice (some ⟨g,o1,none⟩) dl dc) (hy:ev y= .slice (some ⟨b,so,none⟩) sl sc) (hg:w.heap[g]? =some (.cells kM e (0,0)))
    (hn:cs.length=Nat.min sl dl) (hsrc:∀j v,cs[j]? =some v->w.cell? ⟨b,so+j,none⟩=some v) (hfit:o1+cs.length<=kM.size) (h1:∀v∈cs,v.oneCell'=true):
    (execOp ev o).run P w= .ok (.value (goInt cs.length)) (w.setRow g (kM.toList.take o1++cs++kM.toList.drop (o1+cs.length)).toArray):=by
  obtain ⟨i,z,hi,hz,hs,hb,hzs⟩:=hT.ex;have hr:=run_copy_row (P:=P) w t t o.type e g o1 dl dc ⟨b,so,none⟩ sl sc kM e cs hT.u (by rw [hi];simp [hs]) hg hn (fun j v hj=>by rw [zfU];exact hsrc j v hj) hfit h1;refine zaG (args:=[x,y]) (ts:=[t,t]) ho rfl rfl rfl fun consts=>?_
  simp [builtin,hx,hy,hr]
theorem zPe {f:FuncId} {ts:Array TypeId} {v1 v2 v:Value} (ho:o.op= .call ⟨.value (.func f),#[x,y],ts⟩) (hx:a.eval x=v1) (hy:a.eval y=v2) (hc:(callFunc f #[v1,v2]).run P w= .ok (.value v) w):(execOp a.eval o).run P w= .ok (.value v) w:=by
  have hf:a.eval (.func f)= .func (.func f) #[] #[]:=rfl;simp [execOp,ho,resolve,hf,hx,hy,Deferred.ofValue,invoke,hc]
theorem zBK {g:Nat} {kM:Array Value} {k:Nat×Nat} (h:w.heap[g]? =some (.cells kM t k)):w.shape? g=some (t,kM.size):=by simp [World.shape?,h]
end
theorem zwH (w:World) (g:Nat) (l:Array Value):(w.setRow g l).heap.size=w.heap.size:=by simp [World.setRow]
theorem zuL {w:World} {e:TypeId} {g n:Nat} {kM:Array Value} {cs:List Value} (hh:w.heap[g]? =some (.cells kM e (0,0))) (ht:kM.toList.take n=cs):∀(j:Nat) (v:Value),cs[j]? =some v->w.cell? ⟨g,j,none⟩=some v:=fun j v hv=>by
  rw [yW w g _ kM e (0,0) hh,<-uk];rw [<-ht,yX] at hv;split at hv
  · exact hv
  · cases hv
theorem zCY {w:World} {e:TypeId} {v:Value} {n:Nat} {cs:List Value} (h:w.ownsRow 0 e 1 v n cs):∃A c,v= .slice A n c/\n<=c/\c<=maxLen:=by
  rcases h.2 with ⟨h1,h2⟩| ⟨g,kC,kM,h1,_,_,h2,h3,_⟩
  · exact ⟨none,0,by rw [h1,h2],by omega,xC _⟩
  · exact ⟨_,kC,h1,h2,h3⟩
theorem zKZ {R cs ds:List Value} {i n m:Nat} (hR:n+m<=R.length) (h1:R.take i=cs.take i) (hc:cs.length=n) (hd:ds.length=m) (hi:i<=n):
    (((R.take i++ds++R.drop (i+m)).take (i+m)++cs.drop i++(R.take i++ds++R.drop (i+m)).drop (i+m+(n - i))).take (n+m)=cs.take i++ds++cs.drop i)/\
    ((R.take i++ds++R.drop (i+m)).take (i+m)++cs.drop i++(R.take i++ds++R.drop (i+m)).drop (i+m+(n - i))).length=R.length:=by
  have e1:(cs.take i++ds).length=i+m:=by rw [xz,xS];omega
  have e2:(R.take i++ds++R.drop (i+m)).take (i+m)=cs.take i++ds:=by rw [h1,<-e1,yY]
  have e3:(R.take i++ds++R.drop (i+m)).length=R.length:=by simp only [xz,xS,xR];omega
  have e4:(cs.take i++ds++cs.drop i).length=n+m:=by rw [xz,e1,xR];omega
  refine ⟨?_,?_⟩
  · rw [e2,<-e4,yY]
  · rw [e2,xz,e4,xR,e3];omega
theorem zJr {R cs ds:List Value} {i n m:Nat} (hR:n+m<=R.length) (h1:R.take n=cs) (hc:cs.length=n) (hd:ds.length=m) (hi:i<=n):
    (((R.take (i+m)++cs.drop i++R.drop (i+m+(n - i))).take i++ds++(R.take (i+m)++cs.drop i++R.drop (i+m+(n - i))).drop (i+m)).take (n+m)=cs.take i++ds++cs.drop i)/\
    ((R.take (i+m)++cs.drop i++R.drop (i+m+(n - i))).take i++ds++(R.take (i+m)++cs.drop i++R.drop (i+m+(n - i))).drop (i+m)).length=R.length/\(R.take (i+m)++cs.drop i++R.drop (i+m+(n - i))).length=R.length:=by
  have e0:(R.take (i+m)).length=i+m:=by rw [xS];omega
  have e1:(R.take (i+m)++cs.drop i++R.drop (i+m+(n - i))).take i=cs.take i:=by
    rw [yj,ul (by omega),qo,yU (by omega),<-h1,qo,yU hi]
  have e2:(R.take (i+m)++cs.drop i++R.drop (i+m+(n - i))).drop (i+m)=cs.drop i++R.drop (i+m+(n - i)):=by
    rw [yj];exact List.drop_left' e0
  have e4:(cs.take i++ds++cs.drop i).length=n+m:=by simp only [xz,xS,xR];omega
  have e3:(R.take (i+m)++cs.drop i++R.drop (i+m+(n - i))).length=R.length:=by simp only [xz,e0,xR];omega
  refine ⟨?_,?_,e3⟩
  · rw [e1,e2,<-yj,<-e4,yY]
  · rw [e1,e2,<-yj,xz,e4,xR];omega
end Go.Proofs.YtaglemhabeipfaaGreat

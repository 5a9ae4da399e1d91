/-
  The laws as plain functions. No condition.
-/
import Derived.Shelf.SortM.Plain
import Derived.Shelf.SortM.SortNone
import Derived.Sort.OwnSorted
import Derived.Shelf.SlicesG.CompactS
import Derived.Test.YtekgmimingolbaaGreatx2K2
namespace Go.Proofs.YtekgmimingolbaaGreat
open Go Go.RowKit Go.Sort Go.Shelf
theorem zwo:∀l:List (List UInt8),l.flatMap Rp.str.lv=l.map LV.str
  | []=>rfl
  | z::l=>by rw [xO,xU,zwo l];rfl
theorem zuo {F:Fp} {w:World} {xs:List (List UInt8)} {cs:List Value} (h:zas F w (xs.flatMap Rp.str.lv) cs):cs=xs.map encStr:=by
  rw [zwo] at h;obtain ⟨hl,hr⟩:=h;apply pJ;intro i;rw [yy];cases hx:xs[i]? with
  | none=>
    rw [List.getElem?_eq_none_iff] at hx;rw [yQ] at hl;rw [uf (by omega)];rfl
  | some x=>
    have hi:i<cs.length:=by
      have:=(yl.1 hx).1;rw [yQ] at hl;omega
    have h1:=hr i (.str x) cs[i] (by rw [yy,hx];rfl) (xI hi);rw [xI hi]
    generalize cs[i]=u at h1
    cases h1;rfl
theorem zzm {F:Fp} {w:World} (xs:List (List UInt8)):zas F w (xs.flatMap Rp.str.lv) (xs.map encStr):=by
  rw [zwo];refine ⟨by simp,fun i l u h1 h2=>?_⟩;rw [yy] at h1 h2;cases hx:xs[i]? with
  | none=>rw [hx] at h1;cases h1
  | some x=>rw [hx] at h1 h2;cases h1;cases h2;exact .str x
theorem zKp {P:Program} {ρ:Ren} (L:SlLaysM.n6 P ρ) (e:TypeId) {x r:List (List UInt8)} (h:zGU x=some r):zpx P (ρ.f 6) [.own Rp.str e 2 [0] x] [] [.own Rp.str e 2 [] r]:=by
  unfold zGU at h;split at h
  case isFalse=>cases h
  rename_i hlt;cases h;intro w γ0 vs hr;obtain ⟨v,vs',rfl,⟨cs,ho,hg,hA,hn⟩,hv⟩:=hr;cases hv;obtain rfl:=zuo hA;have hlen:(zkD x).length=x.length:=by simp [zkD]
  rcases ho.2 with ⟨rfl,h0⟩| ⟨g,cap,cur,rfl,_,hb,h1,h2,h3,h4⟩
  · have hx:x=[]:=yq h0;subst hx;refine (AnyM.slices_Sort_string_none L none 0 w).mono ?_;rintro e w' ⟨rfl,rfl⟩;refine ⟨⟨fun b=>if b<w'.heap.size then γ0.col b else 1,γ0.box⟩,[],rfl,⟨⟨rfl,rfl,rfl,xC _⟩,fun b hb h=>⟨by simp [hb],rfl⟩,fun b hb h=>by simp only [xx hb];omega,fun b k1 k2=>by omega⟩,rfl,?_⟩;rw [show zkD []=[] by simp [zkD]];exact ⟨_,[],rfl,⟨[],ho,fun g hg=>(by simp [Value.ownBlock] at hg),zzm [],by simp⟩,rfl⟩
  · have hgl:g<w.heap.size:=(yj.1 hb).1;obtain ⟨g1,g2⟩:=hg g rfl;have c:=AnyM.slices_Sort_string L g 0 cap x w (holds_of_block hb (by simpa [Rp.str] using h4)) hgl hlt;refine c.mono ?_;rintro e w' ⟨rfl,n,os,rfl⟩;obtain ⟨b1,b2,b3,b4,b5⟩:=grownBy_sorted (w:=w) (g:=g) (n:=n) (os:=os) (zkD x).toArray;refine ⟨⟨fun b=>if b<w.heap.size then γ0.col b else 1,γ0.box⟩,[],rfl,⟨⟨b1,b2,b3,b4⟩,fun b hb h=>⟨by simp [hb],b5 b hb fun e=>?_⟩,fun b hb h=>by simp only [xx hb];omega,fun b k1 k2=>by simp [Nat.not_lt.2 k1]⟩,rfl,?_⟩
    · cases e;omega
    · refine ⟨_,[],rfl,⟨(zkD x).map encStr,?_,fun g' hg'=>?_,zzm _,by simp⟩,rfl⟩
      · have:=ownsRow_sorted (n:=n) (os:=os) hlen (xF _) hb h1 h2 h3;rw [hlen];exact this
      · cases hg';exact ⟨by simp [hgl,g1],g2⟩
theorem zAe:∀(l:List (List UInt8)) (p:Option (List UInt8)),(zkR p l).length<=l.length
  | [],_=>xC _
  | x::l,p=>by
    have:=zAe l (some x);rw [zkR];split<;>simp<;>omega
theorem zIM (d:Array (List UInt8)):∀(l:List (List UInt8)) (m:Nat),d.toList.drop m=l->m<=d.size->Go.Lib.compactUpTo d d.size=Go.Lib.compactUpTo d m++zkR (if m=0 then none else some d[m - 1]!) l:=by
  intro l
  induction l with
  | nil=>
    intro m hm hle;have hl:d.toList.length<=m:=by simpa using hm
    have:m=d.size:=by simp at hl;omega
    subst this;simp [zkR]
  | cons x l ih=>
    intro m hm hle;have hlt:m<d.size:=by
      have:=congrArg List.length hm;simp at this;omega
    have hx:d[m]! =x:=by
      have h1:=congrArg (fun l:List (List UInt8)=>l[0]?) hm;simp only [qc,yK,uD] at h1;rw [qv] at h1;rw [getElem!_def,h1]
    have hd:d.toList.drop (m+1)=l:=by rw [<-qG,hm];rfl
    rw [ih (m+1) hd hlt,Go.Lib.compactUpTo_succ,xw (Nat.succ_ne_zero m),qR,hx,zkR,yN];congr 1;by_cases h0:m=0
    · subst h0;simp [Go.Lib.keeps]
    · simp only [xw h0];by_cases h1:d[m - 1]! =x
      · have:Go.Lib.keeps d m=false:=Go.Lib.keeps_neg (by omega) (by rw [hx,h1]);simp [this,h1]
      · have:Go.Lib.keeps d m=true:=Go.Lib.keeps_pos (by rw [hx];exact fun e=>h1 e.symm);simp [this,h1]
theorem zIN (l:List (List UInt8)):Go.Lib.compact l=zdn l:=by
  have:=zIM l.toArray l 0 (by simp) (xF _);simpa [Go.Lib.compact,Go.Lib.compactUpTo,zdn] using this
def zIs (P:Program) (f:FuncId):Prop:=
  ∀(e:TypeId) (w:World) (v:Value) (xs:List (List UInt8)),w.ownsRow 0 e 1 v xs.length (xs.map encStr)->Calls P f #[v] w fun e1 w'=>∃v',e1= .returned v'/\w.grownBy w' v.ownBlock/\w'.heap.size=w.heap.size/\
    w'.ownsRow 0 e 1 v' (zdn xs).length ((zdn xs).map encStr)/\∀g,v'.ownBlock=some g->v.ownBlock=some g
theorem zKS {P:Program} {ρ:Ren} (L:SlLaysN.n44 P ρ):zIs P (ρ.f 44):=by
  intro e w v xs ho;rcases ho.2 with ⟨rfl,h0⟩| ⟨g,cap,cur,rfl,_,hb,h1,h2,h3,h4⟩
  · have hx:xs=[]:=yq h0;subst hx;refine (AnyG.slices_Compact_string_empty L none 0 w).mono ?_;rintro e1 w' ⟨rfl,rfl⟩;exact ⟨_,rfl,⟨rfl,rfl,rfl,xC _,fun k _ _=>rfl⟩,rfl,ho,fun g hg=>hg⟩
  · have c:=AnyG.slices_Compact_string L g 0 cap xs w (holds_of_block hb (by simpa using h4)) (by unfold maxLen at h2;omega) h1;rw [zIN] at c;refine c.mono ?_;rintro e1 w' ⟨rfl,q,rfl⟩;have hle:(zdn xs).length<=xs.length:=zAe xs none;have hl:(zdn xs++List.replicate (xs.length - (zdn xs).length) ([]:List UInt8)).length=xs.length:=by simp;omega
    obtain ⟨b1,b2,b3,b4,b5⟩:=grownBy_sorted (w:=w) (g:=g) (n:=q) (os:=#[]) (zdn xs++List.replicate (xs.length - (zdn xs).length) ([]:List UInt8)).toArray;have hh:=heap_sorted (n:=q) (os:=#[]) (zdn xs++List.replicate (xs.length - (zdn xs).length) ([]:List UInt8)).toArray hb;rw [grow_empty] at b1 b2 b3 b4 b5 hh;refine ⟨_,rfl,⟨b1,b2,b3,b4,b5⟩,by simp [putRow,mapBlock,Sort.ahead],⟨by simp,.inr ⟨g,cap,_,rfl,xF _,hh,by omega,h2,by simp [putCells,h3],?_⟩⟩,fun g' hg'=>hg'⟩;have ht:=take_putCells cur (zdn xs++List.replicate (xs.length - (zdn xs).length) ([]:List UInt8)) (by rw [hl,h3];omega);have ht2:=congrArg (List.take (zdn xs).length) ht;rw [qY,hl,yY hle] at ht2;rw [qt,ht2];simp
theorem zMr {P:Program} {o:Oper} {f:FuncId} {x:Operand} {ts:Array TypeId} {e:TypeId} {ℓ:Nat} {C:List Nat} {xs:List (List UInt8)} (ho:o.op= .call ⟨.value (.func f),#[x],ts⟩) (hc:∀us w,(callFunc f us).run P w= .ok (.enter f us) w) (ok:zIs P f):
    zw P o [(x,.own Rp.str e ℓ C xs)] [] [ℓ] [] (.own Rp.str e ℓ C (zdn xs)) []:=by
  intro γ a w hi hb next Q hk;obtain ⟨cs,hown,hgb,hA,hnC⟩:=hi (x,.own Rp.str e ℓ C xs) (by simp);simp only at hown hgb;obtain rfl:=zuo hA;have hrun:(execOp a.eval o).run P w= .ok (.enter f #[a.eval x]) w:=by simp [execOp,ho,resolve,Act.eval,Deferred.ofValue,invoke,hc]
  unfold Oper.wp;rw [hrun,qV];refine (ok e w (a.eval x) xs hown).mono fun e1 w' ⟨v',he,hgr,hsz,hown',hbl⟩=>?_
  subst he;refine hk γ w' v' ⟨hgr.os,hgr.tape,hgr.output,hgr.size,fun b hb hn=>hgr.block b hb fun e1=>?_,fun b _=>rfl,fun ℓ _=>rfl,fun b k1 k2=>by omega⟩ ⟨_,hown',fun g hg=>hgb g (hbl g hg),zzm _,hnC⟩ (fun b hb=>by cases hb);exact hn (by rw [(hgb b e1.symm).1];exact xy)
end Go.Proofs.YtekgmimingolbaaGreat

/-
  The laws as plain functions. No condition.
-/
import Derived.Test.YtekgmimingolbaaGreatx2Dt
import Derived.Test.YtekgmimingolbaaGreatx2K2
namespace Go.Proofs.YtekgmimingolbaaGreat
open Go Go.RowKit
set_option linter.unusedVariables false
structure NW (M:TypeId) (F:Fp) (w w':World):Prop where
  os:w'.os=w.os
  tape:w'.tape=w.tape
  output:w'.output=w.output
  size:w.heap.size<=w'.heap.size
  blk:∀b,b<w.heap.size->w'.heap[b]? =w.heap[b]? \/(F b/\∃cur cur':Array Value,w.heap[b]? =some (.cells cur M (0,0))/\w'.heap[b]? =some (.cells cur' M (0,0))/\cur'.size=cur.size/\
    ∀j,cur'[j]? =cur[j]? \/(j%2=1/\cur'[j]? =some (.slice none 0 0)))
def Near (ds ds':List Value):Prop:=ds'.length=ds.length/\∀j,ds'[j]? =ds[j]? \/(j%2=1/\ds'[j]? =some (.slice none 0 0))
section
variable {e:Te} {M:TypeId} {F:Fp} {w w' w'':World}
theorem NW.refl (M:TypeId) (F:Fp) (w:World):NW M F w w:=⟨rfl,rfl,rfl,xx _,fun _ _=> .inl rfl⟩
theorem NW.trans (h:NW M F w w') (k:NW M F w' w''):NW M F w w'':=
  ⟨k.os.trans h.os,k.tape.trans h.tape,k.output.trans h.output,ye h.size k.size,fun b hb=>by
    have hb':b<w'.heap.size:=xL hb h.size;rcases h.blk b hb with h1| ⟨hF,cur,cur',h1,h2,h3,h4⟩<;>rcases k.blk b hb' with k1| ⟨kF,c,c',k1,k2,k3,k4⟩
    · exact .inl (k1.trans h1)
    · exact .inr ⟨kF,c,c',h1.symm.trans k1,k2,k3,k4⟩
    · exact .inr ⟨hF,cur,cur',h1,k1.trans h2,h3,h4⟩
    · rw [h2] at k1;simp only [ya,qn] at k1;obtain ⟨rfl,_⟩:=k1;refine .inr ⟨hF,cur,c',h1,k2,k3.trans h3,fun j=>?_⟩;rcases k4 j with e1| e1
      · rcases h4 j with e2| e2
        · exact .inl (e1.trans e2)
        · exact .inr ⟨e2.1,e1.trans e2.2⟩
      · exact .inr e1⟩
theorem NW.same (h:NW M F w w') {b:Nat} (hb:b<w.heap.size) (hF:¬F b):w'.heap[b]? =w.heap[b]? :=(h.blk b hb).resolve_right fun k=>hF k.1
theorem NW.other (h:NW M F w w') {b:Nat} {o:Obj} (hb:w.heap[b]? =some o) (ho:∀cur,o≠ .cells cur M (0,0)):w'.heap[b]? =some o:=by
  rcases h.blk b (xQ.1 hb).1 with h1| ⟨_,cur,_,h1,_⟩
  · exact h1.trans hb
  · rw [hb] at h1;cases h1;exact absurd rfl (ho cur)
theorem NW.row (h:NW M F w w') {t s n:Nat} {v:Value} {cs:List Value} (ht:t≠M) (ho:w.ownsRow 0 t s v n cs):w'.ownsRow 0 t s v n cs:=by
  refine ⟨ho.1,ho.2.imp id fun ⟨g,cap,cur,h1,h2,h3,h4⟩=>⟨g,cap,cur,h1,h2,h.other h3 fun c e=>?_,h4⟩⟩;cases e;exact ht rfl
theorem NW.rowM (h:NW M F w w') {n:Nat} {v:Value} {ds:List Value} (ho:w.ownsRow 0 M 2 v n ds):∃ds',w'.ownsRow 0 M 2 v n ds'/\Near ds ds':=by
  rcases ho.2 with h0| ⟨g,cap,cur,h1,h2,h3,h4,h5,h6,h7⟩
  · exact ⟨ds,⟨ho.1,.inl h0⟩,rfl,fun _=> .inl rfl⟩
  · rcases h.blk g (xQ.1 h3).1 with k| ⟨_,c,c',k1,k2,k3,k4⟩
    · exact ⟨ds,⟨ho.1,.inr ⟨g,cap,cur,h1,h2,k.trans h3,h4,h5,h6,h7⟩⟩,rfl,fun _=> .inl rfl⟩
    · rw [h3] at k1;simp only [ya,qn] at k1;obtain ⟨rfl,_⟩:=k1;have hcl:cur.toList.length=cap*2:=by rw [yv,h6]
      have hcl':c'.toList.length=cap*2:=by rw [yv,k3,h6]
      have hle:n*2<=cap*2:=x9 _ h4;refine ⟨c'.toList.take (n*2),⟨by rw [xM,hcl'];omega,.inr ⟨g,cap,c',h1,h2,k2,h4,h5,k3.trans h6,rfl⟩⟩,?_,fun j=>?_⟩
      · rw [xM,hcl',ho.1];omega
      · rw [<-h7,yf,yf];by_cases hj:j<n*2
        · rw [xr hj,xr hj];have:=k4 j;simpa using this
        · rw [xq hj,xq hj];exact .inl rfl
theorem ztc {ds:List Value} {i:Nat} (h:2*i+1<ds.length):∃a b,elAt 2 ds i=[a,b]/\ds[i*2]? =some a/\ds[i*2+1]? =some b:=by
  have h1:i*2<ds.length:=by omega
  have h2:i*2+1<ds.length:=by omega
  refine ⟨ds[i*2],ds[i*2+1],?_,xF h1,xF h2⟩;unfold elAt;rw [xT h1,xT h2];rfl
theorem Near.el {ds ds':List Value} (h:Near ds ds') {i:Nat} (hi:2*i+1<ds.length):∃a u u',elAt 2 ds i=[a,u]/\elAt 2 ds' i=[a,u']/\(u'=u\/u'= .slice none 0 0):=by
  obtain ⟨a,u,e1,e2,e3⟩:=ztc hi;obtain ⟨a',u',k1,k2,k3⟩:=ztc (ds:=ds') (i:=i) (by rw [h.1];exact hi);have ha:a'=a:=by
    rcases h.2 (i*2) with q| ⟨q,_⟩
    · rw [k2,e2] at q;exact yN q
    · omega
  subst ha;refine ⟨a',u,u',e1,k1,?_⟩;rcases h.2 (i*2+1) with q| ⟨_,q⟩
  · rw [k3,e3] at q;exact .inl (yN q)
  · rw [k3] at q;exact .inr (yN q)
theorem zEC {F':Fp} {ts:List Str} {cs:List Value} (h:zW F w (ts.flatMap Rp.str.lv) cs):zW F' w' (ts.flatMap Rp.str.lv) cs:=
  ⟨h.1,fun i l u h1 h2=>by
    have h3:=h.2 i l u h1 h2;obtain ⟨s,_,hs⟩:=qh.1 (yE h1);simp only [Rp.str,xw,xA,xB] at hs;subst hs;cases h3;exact .str _⟩
theorem zDo {F':Fp} {k:IntKind} {ts:List Int} {cs:List Value} (h:zW F w (ts.flatMap (Rp.int k).lv) cs):zW F' w' (ts.flatMap (Rp.int k).lv) cs:=
  ⟨h.1,fun i l u h1 h2=>by
    have h3:=h.2 i l u h1 h2;obtain ⟨s,_,hs⟩:=qh.1 (yE h1);simp only [Rp.int,xw,xA,xB] at hs;subst hs;cases h3;exact .int _ _⟩
theorem DT.nw {Q:List Str->Value->Prop} (hQ:∀us u,Q us u->Q us (.slice none 0 0)) (hV:e.V≠e.M) (hS:e.S≠e.M) (hU:e.U≠e.M) {G:Fp} (hn:NW e.M G w w') {t:zb⊕za} {cs:List Value} (h:DT e Q F w t cs):
    match t with
    | .inl x=>∀h u,cs=[h,u]->∀u',(u'=u\/u'= .slice none 0 0)->DT e Q F w' (.inl x) [h,u']
    | .inr y=>DT e Q F w' (.inr y) cs:=by
  induction h with
  | m x h u ds h1 h2 h3 h4 ih=>
    intro h' u1 he u' hu;simp only [yD,qu] at he;obtain ⟨rfl,rfl⟩:=he;refine .m x _ _ ds (hn.row hV h1) h2 ih ?_;rcases hu with rfl| rfl
    · exact h4
    · exact hQ _ _ h4
  | v y c1 c2 c3 ws ts ds h1 h2 h3 h4 h5 h6 h7 h8 h9 ih=>
    obtain ⟨ds',k1,k2⟩:=hn.rowM h7;refine .v y c1 c2 c3 ws ts ds' (hn.row hU h1) h2 (zDo h3) (hn.row hS h4) h5 (zEC h6) k1 h8 fun i z hz=>?_
    have hl:2*i+1<ds.length:=by
      have:=(xV.1 hz).1;rw [h7.1];omega
    obtain ⟨a,u,u',e1,e2,e3⟩:=k2.el hl;rw [e2];exact ih i z hz a u e1 u' e3
abbrev vN:Value:= .slice none 0 0
def stN (cur:Array Value) (off:Nat):Array Value:=(cur.toList.take off++[vN]++cur.toList.drop (off+1)).toArray
def Here (M:TypeId) (F:Fp) (w:World) (b off:Nat) (h u:Value):Prop:=F b/\off%2=0/\∃cur,w.heap[b]? =some (.cells cur M (0,0))/\cur[off]? =some h/\cur[off+1]? =some u
theorem Here.nw {b off:Nat} {h u:Value} (k:Here M F w b off h u) (hn:NW M F w w'):∃u',(u'=u\/u'= .slice none 0 0)/\Here M F w' b off h u':=by
  obtain ⟨hF,hoff,cur,h1,h2,h3⟩:=k;rcases hn.blk b (xQ.1 h1).1 with q| ⟨_,c,c',q1,q2,q3,q4⟩
  · exact ⟨u,.inl rfl,hF,hoff,cur,q.trans h1,h2,h3⟩
  · rw [h1] at q1;simp only [ya,qn] at q1;obtain ⟨rfl,_⟩:=q1;have e1:c'[off]? =some h:=by
      rcases q4 off with q| ⟨q,_⟩
      · exact q.trans h2
      · omega
    rcases q4 (off+1) with q| ⟨_,q⟩
    · exact ⟨u,.inl rfl,hF,hoff,c',q2,e1,q.trans h3⟩
    · exact ⟨_,.inr rfl,hF,hoff,c',q2,e1,q⟩
theorem Here.nil {b off:Nat} {h:Value} (k:Here M F w b off h (.slice none 0 0)) (hn:NW M F w w'):Here M F w' b off h (.slice none 0 0):=by
  obtain ⟨u',hu,k'⟩:=k.nw hn;rcases hu with rfl| rfl<;>exact k'
theorem zGI {b off:Nat} {h u:Value} {cur:Array Value} (hF:F b) (hoff:off%2=0) (hh:w.heap[b]? =some (.cells cur M (0,0))) (h0:cur[off]? =some h) (h1:cur[off+1]? =some u):
    NW M F w (w.setRow b (stN cur (off+1)))/\Here M F (w.setRow b (stN cur (off+1))) b off h (.slice none 0 0):=by
  have hsz:off+1<cur.size:=(xQ.1 h1).1;have hl:(cur.toList.take (off+1)).length=off+1:=by rw [xM,yv];omega
  have hat:∀j,(stN cur (off+1))[j]? =cur[j]? \/(j=off+1/\(stN cur (off+1))[j]? =some vN):=fun j=>by
    unfold stN;rw [List.getElem?_toArray,yH];rcases pO j (off+1) with hj| hj| hj
    · rw [ul (by rw [hl];exact hj),yf,xr hj];left;simp
    · subst hj;rw [qY (by rw [hl];exact xx _),hl];right;simp
    · rw [qY (by rw [hl];omega),hl];left;obtain ⟨q,rfl⟩:∃q,j=off+1+1+q:=⟨j - (off+1+1),by omega⟩;rw [show off+1+1+q - (off+1)=q+1 by omega,List.singleton_append,uf,yF];simp
  have hset:=yT w b cur (stN cur (off+1)) M (0,0) hh;refine ⟨⟨rfl,rfl,rfl,by simp,fun g hg=>?_⟩,hF,hoff,_,hset,?_,?_⟩
  · by_cases hgb:g=b
    · subst hgb;refine .inr ⟨hF,cur,_,hh,hset,?_,fun j=>?_⟩
      · unfold stN;simp only [ql,yc,hl,yl,yv,yi,q8];omega
      · rcases hat j with q| ⟨q1,q2⟩
        · exact .inl q
        · exact .inr ⟨by omega,q2⟩
    · exact .inl (pn w _ g _ hgb)
  · rcases hat off with q| ⟨q1,_⟩
    · exact q.trans h0
    · omega
  · rcases hat (off+1) with q| ⟨_,q⟩
    · unfold stN;rw [List.getElem?_toArray,yH,qY (by rw [hl];exact xx _),hl];simp
    · exact q
theorem Here.cell {b off:Nat} {h u:Value} (k:Here M F w b off h u):w.cell? ⟨b,off,none⟩=some h/\w.cell? ⟨b,off+1,none⟩=some u:=by
  obtain ⟨_,_,cur,h1,h2,h3⟩:=k;exact ⟨(yk w b off cur M _ h1).trans h2,(yk w b (off+1) cur M _ h1).trans h3⟩
theorem zGH (M:TypeId) (F:Fp) (w:World) (o:Obj) (cs:Array Value):NW M F w ((w.alloc o).setRow w.heap.size cs):=
  ⟨rfl,rfl,rfl,by simp,fun b hb=> .inl ((pn _ _ b _ (by omega)).trans (Below.heap_alloc _ _ _ hb))⟩
theorem zzU {t s n:Nat} {v:Value} {cs:List Value} (ho:w.ownsRow 0 t s v n cs) {i:Nat} (hi:i<n):
    ∃g c cur,v= .slice (some ⟨g,0,none⟩) n c/\w.heap[g]? =some (.cells cur t (0,0))/\(elAt s cs i).length=s/\∀q,q<s->cur[i*s+q]? =(elAt s cs i)[q]? :=by
  rcases ho.2 with ⟨_,h0⟩| ⟨g,cap,cur,h1,_,h3,h4,h5,h6,h7⟩
  · omega
  · have hle:(i+1)*s<=n*s:=x9 _ hi;rw [yn] at hle;refine ⟨g,cap,cur,h1,h3,?_,fun q hq=>?_⟩
    · unfold elAt;rw [xM,yl,ho.1];omega
    · unfold elAt;rw [yf,xr hq,yF,<-h7,yf,xr (by omega)];simp
theorem zoU {t s n:Nat} {v:Value} {cs:List Value} (ho:w.ownsRow 0 t s v n cs):n<=maxLen/\v.oneCell'=true/\∃A c,v= .slice A n c:=by
  rcases ho.2 with ⟨h,h0⟩| ⟨g,cap,cur,h1,_,h3,h4,h5,h6,h7⟩
  · rw [h0];exact ⟨xG _,by rw [h];rfl,none,0,h⟩
  · exact ⟨ye h4 h5,by rw [h1];rfl,_,_,h1⟩
theorem DT.inv {Q:List Str->Value->Prop} {y:za} {cs:List Value} (h:DT e Q F w (.inr y) cs):∃c1 c2 c3 ws ts ds,cs=[.int .i64 y.Number,c1,c2,c3]/\w.ownsRow 0 e.U 1 c1 y.Words.length ws/\(∀g,c1.ownBlock=some g->F g)/\zW F w (y.Words.flatMap (Rp.int .u64).lv) ws/\
    w.ownsRow 0 e.S 1 c2 y.Texts.length ts/\(∀g,c2.ownBlock=some g->F g)/\zW F w (y.Texts.flatMap Rp.str.lv) ts/\w.ownsRow 0 e.M 2 c3 y.Subs.length ds/\(∀g,c3.ownBlock=some g->F g)/\∀i z,y.Subs[i]? =some z->DT e Q F w (.inl z) (elAt 2 ds i):=by
  cases h with
  | v _ c1 c2 c3 ws ts ds h1 h2 h3 h4 h5 h6 h7 h8 h9=>exact ⟨c1,c2,c3,ws,ts,ds,rfl,h1,h2,h3,h4,h5,h6,h7,h8,h9⟩
theorem DT.invM {Q:List Str->Value->Prop} {x:zb} {h u:Value} (k:DT e Q F w (.inl x) [h,u]):∃ds,w.ownsRow 0 e.V 4 h x.Values.length ds/\(∀g,h.ownBlock=some g->F g)/\(∀i v,x.Values[i]? =some v->DT e Q F w (.inr v) (elAt 4 ds i))/\Q x.Unknown u:=by
  cases k with
  | m _ _ _ ds h1 h2 h3 h4=>exact ⟨ds,h1,h2,h3,h4⟩
theorem zBo {k m:Nat} (h:k<m) (hm:m<=maxLen):IntKind.i64.wrap ((k:Int)+1)=((k+1:Nat):Int):=by
  have:maxLen=9223372036854775807:=by unfold maxLen;rfl
  rw [uy];rfl
end
end Go.Proofs.YtekgmimingolbaaGreat

/-
  The laws as plain functions. No condition.
-/
import Derived.Shelf.SlSortCmp.NoneTotal
import Derived.Test.YtekgmimingolbaaGreatx1K2
import Derived.Test.YtekgmimingolbaaGreatx1K3
namespace Go.Proofs.YtekgmimingolbaaGreat
open Go Go.RowKit Go.Sort Go.Shelf
set_option linter.unusedVariables false
theorem zrT {xs ys:List Int} {k:Nat} (h:xs.take k=ys.take k) (hx:k<=xs.length) (hy:k<=ys.length):lexI xs ys=lexI (xs.drop k) (ys.drop k):=by
  induction k generalizing xs ys with
  | zero=>rfl
  | succ k ih=>
    cases xs with
    | nil=>simp at hx
    | cons x xs=>
      cases ys with
      | nil=>simp at hy
      | cons y ys=>
        simp only [yU,yC] at h;obtain ⟨rfl,h⟩:=h;rw [lexI,xu (qq x),xu (qq x),pD,pD];exact ih h (by simpa using hx) (by simpa using hy)
def RowI (w:World) (v:Value) (xs:List Int):Prop:=∃A c,v= .slice A xs.length c/\(0<xs.length->∃b off,A=some ⟨b,off,none⟩/\∀(i:Nat) (h:i<xs.length),w.cell? ⟨b,off+i,none⟩=some (.int .i64 xs[i]))
def zDK (P:Program) (g:Nat):Prop:=∀(w:World) (u v:Value) (xs ys:List Int),xs.length<9223372036854775807->ys.length<9223372036854775807->RowI w u xs->RowI w v ys->
  Calls P g #[u,v] w fun e w'=>e= .returned (.int .i64 (lexI xs ys))/\∃q,w'=w.drewN q
theorem zyH:∀l:List Int,l.flatMap (Rp.int .i64).lv=l.map fun x=>LV.int .i64 x
  | []=>rfl
  | z::l=>by rw [xN,ye,zyH l];rfl
theorem zEG {F:Fp} {w:World} {xs:List Int} {v:Value} (h:zbk F w (.sl xs.length (Rp.int .i64).size (xs.flatMap (Rp.int .i64).lv)) v):RowI w v xs:=by
  rw [zyH,show (Rp.int .i64).size=1 from rfl] at h;cases h with
  | sl n size ls A c cs hl hcs hc hm hA hr=>
    refine ⟨A,c,rfl,fun hn=>?_⟩;obtain ⟨b,off,e,_,_,hcell⟩:=hA hn;refine ⟨b,off,e,fun i hi=>?_⟩;have hci:i<cs.length:=by rw [hcs];omega
    have h1:=hr i (.int .i64 xs[i]) cs[i] (by rw [yB,xH hi];rfl) (xH hci);rw [hcell i (by omega),xH hci]
    generalize cs[i]=u at h1
    cases h1;rfl
section
variable {α:Type} [Inhabited α] {enc:α->Value} {w:World} {g n:Nat} {os:Array Obj}
theorem zxM (d:Array α) {b:Nat} (hb:b<w.heap.size) (hne:b≠g):(sortWorld enc w g 0 n d os).heap[b]? =w.heap[b]? :=by
  unfold sortWorld;rw [heap_grow_old _ _ (by simpa using hb)];have:g≠b:=fun e=>hne e.symm
  simp [putRow,mapBlock,Sort.ahead,Array.getElem?_modify,this]
theorem zwf (d:Array α):w.heap.size<=(sortWorld enc w g 0 n d os).heap.size:=by
  unfold sortWorld;rw [size_grow,size_putRow];show w.heap.size<=w.heap.size+_;omega
theorem zKE {cur:Array Value} {e:TypeId} {fr:Nat×Nat} (d:Array α) (hb:w.heap[g]? =some (.cells cur e fr)):(sortWorld enc w g 0 n d os).heap[g]? =some (.cells (putCells enc 0 d cur) e fr):=by
  have hg:g<w.heap.size:=(xY.1 hb).1;unfold sortWorld;rw [heap_grow_old _ _ (by simpa using hg)];simp [putRow,mapBlock,Sort.ahead,Array.getElem?_modify,hb,onCells]
theorem zHN (cur:Array Value) (d:Array α) (h:d.size<=cur.size):(putCells enc 0 d cur).toList.take d.size=d.toList.map enc:=by
  apply pL;intro j;by_cases hj:j<d.size
  · rw [List.getElem?_take_of_lt hj,qT];simp [putCells,hj,show j<cur.size by omega]
  · rw [List.getElem?_take_eq_none (by omega),List.getElem?_eq_none (by simp;omega)]
end
theorem zIL {β:Type} (l:List β):(List.finRange l.length).map (fun i=>l[i])=l:=by
  apply List.ext_getElem
  · simp
  · intro i h1 h2;simp
theorem zFN {P:Program} {ρ:Ren} (L:SlLaysF.n6 P ρ) {g:Nat} (eg:∀args w,(callFunc g args).run P w= .ok (.enter g args) w) (hg:zDK P g) (e:TypeId) {x r:List (List Int)} (h:zAo x=some r):
    zqw P (ρ.f 6) [.own (Rp.list (Rp.int .i64)) e 2 [0] x,.lf (.val (.func (.func g) #[] #[]))] [] [.own (Rp.list (Rp.int .i64)) e 2 [0] r,.any]:=by
  unfold zAo at h;split at h
  case isFalse=>cases h
  rename_i hh;obtain ⟨hlt,hall⟩:=hh;cases h;intro w γ0 vs hr;obtain ⟨v,vs',rfl,⟨cs,ho,hgb,hA,hn⟩,u,vs'',rfl,hu,hvs⟩:=hr;cases hvs;have hu:=zsM hu;subst hu;have hcl:cs.length=x.length:=by rw [ho.1];exact qK _
  have none_:∀(p:Option Addr) (cap:Nat),x=[]->v= .slice p 0 cap->Calls P (ρ.f 6) #[v,.func (.func g) #[] #[]] w fun e w'=>e= .returned (.tuple #[])/\w'=w:=fun p cap _ hv=>by
    rw [hv];exact AnyF.slices_SortFunc_none (P:=P) (ρ:=ρ) {L with} p cap _ w
  have nil_:x=[]->(∃p cap,v= .slice p 0 cap)->Calls P (ρ.f 6) #[v,.func (.func g) #[] #[]] w fun e1 w'=>∃γ us,e1= .returned (zlV us)/\(fnXW w γ0).X γ w'/\AV.relL γ w' [] us/\
      AV.relL γ w' [.own (Rp.list (Rp.int .i64)) e 2 [0] (znN x),.any] [v,.func (.func g) #[] #[]]:=fun hx ⟨p,cap,hv⟩=>by
    refine (none_ p cap hx hv).mono ?_;rintro e1 w' ⟨rfl,rfl⟩;refine ⟨⟨fun b=>if b<w'.heap.size then γ0.col b else 1,γ0.box⟩,[],rfl,⟨⟨rfl,rfl,rfl,xB _⟩,fun b hb h=>⟨by simp [hb],rfl⟩,fun b hb h=>by simp only [xw hb];omega,fun b k1 k2=>by omega⟩,rfl,?_⟩;subst hx;rw [show znN []=[] by simp [znN]];exact ⟨_,_,rfl,⟨cs,ho,fun g' hg'=>⟨by simp [(ho.lt g' hg').2,(hgb g' hg').1],(hgb g' hg').2⟩,hA.mono fun b hb hF=>by show (if b<w'.heap.size then γ0.col b else 1)∈[0];rw [xw hb];exact hF,by simp⟩,_,[],rfl,trivial,rfl⟩
  rcases ho.2 with ⟨hv,h0⟩| ⟨gb,cap,cur,hv,hbase,hb,h1,h2,h3,h4⟩
  · exact nil_ (yw h0) ⟨none,0,hv⟩
  · by_cases hx0:x.length=0
    · exact nil_ (yw hx0) ⟨_,cap,by rw [hv,hx0]⟩
    · have hgl:gb<w.heap.size:=(xY.1 hb).1;obtain ⟨g1,g2⟩:=hgb gb (by rw [hv];rfl)
      haveI:Inhabited (Fin x.length):=⟨⟨0,by omega⟩⟩
      have hA2:=hA;rw [zsN] at hA2;have hel:∀i:Fin x.length,zbk (γ0.F [0]) w (.sl x[i].length (Rp.int .i64).size (x[i].flatMap (Rp.int .i64).lv)) (cs[i.1]'(by omega)):=fun i=>
        hA2.2 i.1 _ _ (by rw [yB,xH i.2];rfl) (xH (by omega))
      obtain ⟨enc,henc⟩:∃enc:Fin x.length->Value,∀i,enc i=cs[i.1]'(by omega):=⟨fun i=>cs[i.1]'(by omega),fun _=>rfl⟩;obtain ⟨d,hd⟩:∃d:Array (Fin x.length),d=(List.finRange x.length).toArray:=⟨_,rfl⟩;have hds:d.size=x.length:=by rw [hd];simp
      have hdj:∀(j:Nat) (hj:j<x.length),d[j]! =⟨j,hj⟩:=fun j hj=>by
        rw [yV d j (by omega)];subst hd;simp
      have hO:OneCell enc:=fun i=>by rw [henc];exact (hel i).one
      have hcur:∀(j:Nat) (hj:j<x.length),cur[j]? =some (cs[j]'(by omega)):=fun j hj=>by
        have h5:=congrArg (fun l:List Value=>l[j]?) h4;rw [show (Rp.list (Rp.int .i64)).size=1 from rfl,qK] at h5;simp only [yk,xw hj] at h5;rw [<-qT,h5,xH]
      have hH:Go.Sort.Holds enc w gb 0 d:=fun j hj=>by
        rw [hds] at hj;refine ⟨?_,by simp [World.frozen?,hb]⟩;rw [hdj j hj,henc,xE,yv w _ _ _ _ _ hb];exact hcur j hj
      have hS:SWO (ltOf fun i j:Fin x.length=>lexI x[i] x[j]):=by
        refine ⟨fun i=>?_,fun i j k p q=>?_,fun i j k p q=>?_⟩
        · simp [ltOf,zyR]
        · simp only [ltOf,xS] at p q|-;have:=zpC (show lexI x[i] x[j]<=0 by omega) (show lexI x[j] x[k]<=0 by omega);rcases Int.lt_or_eq_of_le this with h| h
          · exact h
          · have e:=zrU h;have s1:=zjk x[i] x[j];rw [e] at s1 p;omega
        · simp only [ltOf,qJ] at p q|-;have s1:=zjk x[i] x[j];have s2:=zjk x[j] x[k];have s3:=zjk x[i] x[k];have:=zpC (show lexI x[k] x[j]<=0 by omega) (show lexI x[j] x[i]<=0 by omega);omega
      have hlen:∀i:Fin x.length,x[i].length<9223372036854775807:=fun i=>by
        have:=xJ.1 hall x[i] (xC i.2);simpa using this
      have hcmp:CmpLays1 P g #[] enc (fun i j:Fin x.length=>lexI x[i] x[j]) gb 0 d.size w:=fun m os dk hdk i j=>by
        have hk:zvd (γ0.F [0]) w (sortWorld enc w gb 0 m dk os):=⟨zwf dk,fun b hb' hF=>zxM dk hb' fun e=>by
          have:γ0.col b∈[0]:=hF;rw [e,g1] at this;simp at this⟩
        have c:=hg (sortWorld enc w gb 0 m dk os) (enc i) (enc j) x[i] x[j] (hlen i) (hlen j) (zEG ((henc i▸hel i).keep hk)) (zEG ((henc j▸hel j).keep hk));rw [Array.append_empty];exact c.mono fun e1 w' ⟨he,q,hq⟩=>⟨he,q,#[],by rw [hq,grow_empty]⟩
      have c:=Any.slices_SortFunc L enc hO (fun i j:Fin x.length=>lexI x[i] x[j]) hS g #[] gb 0 cap d w eg hcmp hH hgl (by rw [hds];exact hlt);rw [hds,<-hv] at c;refine c.mono ?_;rintro e1 w' ⟨rfl,d',q,os,⟨hp1,_,hp2⟩,hso,rfl⟩;have hd's:d'.size=x.length:=by rw [hp1,hds]
      have hex:∀a:Array (Fin x.length),a.size=x.length->a.extract 0 x.length=a:=fun a ha=>by have h:=Array.extract_size (xs:=a);rwa [ha] at h
      rw [hex d' hd's,hex d hds] at hp2;have hsl:d'.toList.map (fun i=>x[i])=znN x:=by
        refine zIc ?_ ?_
        · have hdl:d.toList=List.finRange x.length:=by rw [hd]
          rw [hdl] at hp2;have:=hp2.map (fun i:Fin x.length=>x[i])
          rwa [zIL] at this
        · rw [pN,uD];intro i j hi hj hij;have hi':i<d'.size:=by simpa using hi
          have hj':j<d'.size:=by simpa using hj
          have:=hso i j (xI _) hij (by omega);rw [yV d' i hi',yV d' j hj'] at this;simp only [ltOf,qJ] at this;have s:=zjk x[d'[i]] x[d'[j]];simp only [Array.getElem_toList];omega
      have hsn:(znN x).length=x.length:=(ztg x).length_eq;refine ⟨⟨fun b=>if b<w.heap.size then γ0.col b else 1,γ0.box⟩,[],rfl,⟨⟨rfl,rfl,rfl,zwf d'⟩,fun b hb' h=>⟨by simp [hb'],zxM d' hb' fun e=>by rw [e] at h;omega⟩,fun b hb' h=>by simp only [xw hb'];omega,fun b k1 k2=>by simp [Nat.not_lt.2 k1]⟩,rfl,?_⟩;refine ⟨_,_,rfl,⟨d'.toList.map enc,⟨by rw [hsn,yZ,yF,hd's];exact (qK _).symm,.inr ⟨gb,cap,_,by rw [hsn];exact hv,hbase,zKE d' hb,by rw [hsn];exact h1,h2,by simp [putCells,h3],?_⟩⟩,fun g' hg'=>?_,?_,by simp⟩,_,[],rfl,trivial,rfl⟩
      · have ht:=zHN (enc:=enc) cur d' (by rw [h3,show (Rp.list (Rp.int .i64)).size=1 from rfl,qK,hd's];exact h1);rw [hd's] at ht;rw [show (Rp.list (Rp.int .i64)).size=1 from rfl,qK,hsn];exact ht
      · rw [hv] at hg';cases hg';exact ⟨by simp [hgl,g1],g2⟩
      · have hk:zvd (γ0.F [0]) w (sortWorld enc w gb 0 q d' os):=⟨zwf d',fun b hb' hF=>zxM d' hb' fun e=>by
          have:γ0.col b∈[0]:=hF;rw [e,g1] at this;simp at this⟩
        rw [zsN,<-hsl];refine ⟨by simp,fun i l u k1 k2=>?_⟩;rw [pO,yB] at k1;rw [yB] at k2;cases hdi:d'.toList[i]? with
        | none=>rw [hdi] at k1;cases k1
        | some j=>
          rw [hdi] at k1 k2;cases k1;cases k2;rw [henc];have h1:zbk (fun b=>γ0.F [0] b/\b<w.heap.size) w (.sl x[j].length (Rp.int .i64).size (x[j].flatMap (Rp.int .i64).lv)) (cs[j.1]'(by omega)):=(hel j).mono fun b hb hF=>⟨hF,hb⟩
          refine (h1.keep (w':=sortWorld enc w gb 0 q d' os) ⟨zwf d',fun b hb' hF=>hk.block b hb' hF.1⟩).mono fun b hb' hF=>?_
          show (if b<w.heap.size then γ0.col b else 1)∈[0];rw [xw hF.2];exact hF.1
end Go.Proofs.YtekgmimingolbaaGreat

/-
  The laws as plain functions. No condition.
-/
import Derived.Deep.CondSized
import Derived.Deep.DeepHandedRow
import Derived.Test.YtkgohoggipdokaaGreatx2K1
import Derived.Test.YtkgohoggipdokaaGreatRows
namespace Go.Proofs.YtkgohoggipdokaaGreat
open Go Go.ChangeShapes Go.WideShapes Go.RowKit
theorem zET {H:Type} (d:DataW H):1<=Rows.uptoBulk d:=by
  cases d with
  | lit l=>cases l<;>simp [Rows.uptoBulk]
  | _=>simp [Rows.uptoBulk]
theorem zon {H:Type} {d:DataW H}:∀{l:List (DataW H)},d∈l->Rows.uptoBulk d<=Rows.uptoBulkAll l
  | x::r,h=>by
    simp only [Rows.uptoBulkAll];rcases xz.1 h with e| e
    · subst e;omega
    · have:=zon e;omega
theorem zyU {H:Type}:∀(l:List (DataW H)),l.length<=Rows.uptoBulkAll l
  | []=>by simp
  | x::r=>by have:=zET x;have:=zyU r;simp only [Rows.uptoBulkAll,xK];omega
def SzU (P:Program) {H:Type} (t:TypeId) (d:DataW H):Prop:=SzOk P t d/\Rows.uptoBulk d<=1048576
theorem SzU.of_each {H:Type} {P:Program} {ts:List TypeId} {ds:List (DataW H)} (h:(DataW.weightsEach P ts ds).all (·<=reachBytes)=true) (hk:Rows.uptoSmall H ds=true) (j:Nat) {t:TypeId} {d:DataW H} (ht:ts[j]? =some t) (hd:ds[j]? =some d):SzU P t d:=
  ⟨SzOk.of_each h j ht hd,yn (zon (qn hd)) (yr hk)⟩
def zic (P:Program) {α:Type} (n:Nat) (t:TypeId) (r:Rp α) (W:α->Prop):Prop:=
  ∀{H:Type} (enc:TypeId×Value->H) (w:World) (spare:Nat->Bool) (held:Bool) (cs:List Value) (x:DataW H×List MemPlace),DataW.trod enc P w 0 spare held n t cs=some x->SzU P t x.1->∃y:α,zaj allF w (r.lv y) cs/\W y
section
variable {P:Program} {n:Nat} {t e:TypeId}
theorem zkq {k:IntKind} (hu:P.underlying t=some (.int k)):zic P n t (Rp.int k) fun m=>(Lit.int k m).wf=true:=fun _ _ _ _ _ _ h _=>by
  obtain ⟨m,rfl,_,hw⟩:=DataW.trod_int hu h;exact ⟨m,zkd (.int k m),hw⟩
theorem zsv (hu:P.underlying t=some .bool):zic P n t Rp.bool fun _=>True:=fun _ _ _ _ _ _ h _=>by
  obtain ⟨b,rfl,_⟩:=DataW.trod_bool hu h;exact ⟨b,zkd (.bool b),trivial⟩
theorem zpz (hu:P.underlying t=some .string):zic P n t Rp.str fun l=>l.length<=140737488351232/\l.length<=1048576:=fun _ _ _ _ _ _ h hz=>by
  obtain ⟨s,rfl,rfl,hw⟩:=DataW.trod_string hu h;exact ⟨s.data.toList,zkd (by have:=zba.str (F:=allF) (w:=‹World›) s.data.toList;simpa using this),hz.1 _ (by simp [DataW.weights]),by have h1:=hz.2;simp only [Rows.uptoBulk] at h1;omega⟩
theorem zge {α:Type} {r:Rp α} {W:α->Prop}:zic P 0 t r W:=fun _ _ _ _ _ _ h _=>by simp [DataW.trod] at h
theorem zsw {α:Type} {r:Rp α} {W:α->Prop} {B:Nat} (hu:P.underlying t=some (.slice e)) (hc:P.cellsOf e=r.size) (hB:P.bytesOf e=B) (h:zic P n e r W):zic P (n+1) t r.list fun xs=>xs.length*B<=140737488351232/\xs.length<=1048576/\∀x∈xs,W x:=by
  intro H enc w spare held cs x hx hz;rcases DataW.trod_slice hu hx with ⟨rfl,_⟩| ⟨a,len,cap,elems,vZ,m,hm,rfl,rfl,_,hl,hcap,wb,hel,_⟩
  · exact ⟨[],zkd (.sl 0 _ _ _ 0 [] (by simp) (by simp) (xA _) (xI _) (fun h=>absurd h (by omega)) (fun i l u h1=>by simp at h1)),by simp,by simp,fun x hx=>by cases hx⟩
  · cases hm;rw [hc] at hel
    -- element by element
    have each:∀i,i<len->∃y cs',w.cells? 0 (a.add (i*r.size)) r.size=some cs'/\zaj allF w (r.lv y) cs'/\W y:=by
      intro i hi;have h1:=hel i hi;rw [xL (show i<elems.length by omega),Option.bind_eq_some_iff] at h1;obtain ⟨cs',h2,h3⟩:=h1;obtain ⟨y,h4,h5⟩:=h enc w spare held cs' _ h3 ⟨fun m hm=>hz.1 m (by
        simp only [DataW.weights,hu,xz,xB];refine .inr (.inl (zmP (i:=i) (d:=(elems[i]'(by omega)).1) ?_ m hm));rw [qd,xL (show i<elems.length by omega)];rfl),by
        have h1:=hz.2;simp only [Rows.uptoBulk] at h1;have h2:=zon (l:=elems.map (·.1)) (yT (xF (show i<elems.length by omega)));omega⟩
      exact ⟨y,cs',h2,h4,h5⟩
    have rows:∀k,k<=len->∃(ys:List α) (ds:List Value),ys.length=k/\zaj allF w (ys.flatMap r.lv) ds/\(∀y∈ys,W y)/\∀j,j<k*r.size->w.cell? (a.add j)=ds[j]? :=by
      intro k
      induction k with
      | zero=>exact fun _=>⟨[],[],rfl,.nil,(fun y hy=>by cases hy),fun j hj=>by omega⟩
      | succ k ih=>
        intro hk;obtain ⟨ys,ds,h1,h2,h3,h4⟩:=ih (by omega);obtain ⟨y,cs',h5,h6,h7⟩:=each k (by omega);obtain ⟨_,h8,h9⟩:=World.cells?_some h5;have hds:ds.length=k*r.size:=by rw [<-h2.1,r.flat,h1]
        refine ⟨ys++[y],ds++cs',by simp [h1],?_,?_,fun j hj=>?_⟩
        · rw [y6];simp only [xS,pW,yw];exact h2.append h6
        · intro z hz;rcases xB.1 hz with hz| hz
          · exact h3 z hz
          · simp at hz;subst hz;exact h7
        · rw [ph];split
          · rename_i hj';exact h4 j (by omega)
          · rename_i hj';rw [qh] at hj;have:=h9 (j - ds.length) (by omega);rw [<-this,hds,zxB];congr 2;omega
    obtain ⟨ys,ds,h1,h2,h3,h4⟩:=rows len (xA _);have hds:ds.length=len*r.size:=by rw [<-h2.1,r.flat,h1]
    have wh:=hz.1 ((elems.length+vZ.length)*P.bytesOf e) (by simp [DataW.weights,hu]);rw [hB] at wh;refine ⟨ys,zkd ?_,yn (yl B (by omega)) wh,by have h5:=hz.2;simp only [Rows.uptoBulk] at h5;have h6:=zyU (elems.map (·.1));rw [yE] at h6;omega,h3⟩;rw [h1];refine .sl len r.size _ (some a) cap ds (by rw [r.flat,h1]) hds hl hcap (fun h0=>?_) h2.2;have h0':0<len*r.size:=Nat.mul_pos h0 r.pos;have hc0:=h4 0 h0';rw [xL (show 0<ds.length by omega)] at hc0;obtain ⟨hb,hs⟩:=zBx hc0;have hs':a.spot=none:=by unfold Addr.add at hs;split at hs<;>simp_all
    have hb':a.block<w.heap.size:=by unfold Addr.add at hb;split at hb<;>simp_all
    refine ⟨a.block,a.off,by cases a;simp at hs';subst hs';rfl,trivial,hb',fun i hi=>?_⟩;have:=h4 i hi;rw [<-this];congr 1;exact (zvI hs' i).symm
theorem zqw {α:Type} {r:Rp α} {W:α->Prop} {B:Nat} (hu:P.underlying t=some (.slice e)) (hc:P.cellsOf e=r.size) (hB:P.bytesOf e=B) (h:∀q,q<n->zic P q e r W):zic P n t r.list fun xs=>xs.length*B<=140737488351232/\xs.length<=1048576/\∀x∈xs,W x:=by
  cases n with
  | zero=>exact zge
  | succ n=>exact zsw hu hc hB (h n (Nat.lt_succ_self n))
def FOkU (P:Program) (n:Nat) (fs:List Field) (off:Nat) (S:List LV->Prop):Prop:=
  ∀(H:Type) (enc:TypeId×Value->H) (w:World) (spare:Nat->Bool) (held:Bool) (cs:List Value),cs.length=off+(fs.map fun f=>P.cellsOf f.type).sum->
    (∀(i:Nat) (f:Field),fs[i]? =some f->∃x,DataW.trod enc P w 0 spare held n f.type ((cs.drop f.offset).take (P.cellsOf f.type))=some x/\SzU P f.type x.1)->∃ls,zaj allF w ls (cs.drop off)/\S ls
theorem zqh {off:Nat}:FOkU P n [] off fun ls=>ls=[]:=fun _ _ _ _ _ cs hl _=>by
  have:cs.drop off=[]:=yC (by simp at hl;omega);exact ⟨[],by rw [this];exact .nil,rfl⟩
theorem zdD {α:Type} {r:Rp α} {W:α->Prop} {f:Field} {fs:List Field} {off:Nat} {S:List LV->Prop} (h:zic P n f.type r W) (ho:f.offset=off) (hc:P.cellsOf f.type=r.size) (k:FOkU P n fs (off+r.size) S):
    FOkU P n (f::fs) off fun ls=>∃y ls',ls=r.lv y++ls'/\W y/\S ls':=by
  intro H enc w spare held cs hl hx;obtain ⟨x,hx0,hz0⟩:=hx 0 f rfl;rw [ho,hc] at hx0;obtain ⟨y,hy,hw⟩:=h enc w spare held _ _ hx0 hz0;obtain ⟨ls,h1,h2⟩:=k H enc w spare held cs (by simp [hc] at hl;omega) fun i g hg=>hx (i+1) g (by simpa using hg)
  refine ⟨r.lv y++ls,?_,y,ls,rfl,hw,h2⟩;have e:cs.drop off=(cs.drop off).take r.size++cs.drop (off+r.size):=by rw [<-yu,qU]
  rw [e];exact hy.append h1
theorem zln {α:Type} {r:Rp α} {W:α->Prop} {fs:Array Field} {S:List LV->Prop} (hu:P.underlying t=some (.struct fs)) (hc:P.cellsOf t=(fs.toList.map fun f=>P.cellsOf f.type).sum) (hf:FOkU P n fs.toList 0 S) (hy:∀ls,S ls->∃y,ls=r.lv y/\W y):zic P (n+1) t r W:=by
  intro H enc w spare held cs x hx hz;obtain ⟨xs,m,hm,rfl,hl,hxl,hget⟩:=DataW.trod_struct hu hx;cases hm;obtain ⟨ls,h1,h2⟩:=hf H enc w spare held cs (by rw [hl,hc];omega) fun i f hif=>by
    have hi:i<xs.length:=by rw [hxl];have:=(yv.1 hif).1;simpa using this
    refine ⟨xs[i],by rw [hget i f (by simpa using hif),xL hi],⟨fun m hm=>hz.1 m ?_,by
      have h1:=hz.2;simp only [Rows.uptoBulk] at h1;have h2:=zon (l:=xs.map (·.1)) (yT (xF hi));omega⟩⟩
    simp only [DataW.weights,hu];refine DataW.weights_mem_each (j:=i) (t:=f.type) (d:=xs[i].1) (by rw [qd,hif];rfl) (by rw [qd,xL hi];rfl) m hm
  obtain ⟨y,rfl,hw⟩:=hy ls h2;exact ⟨y,by simpa using h1,hw⟩
def zgM (P:Program) {α:Type} (t:TypeId) (r:Rp α) (W:α->Prop):Prop:=∀n,zic P n t r W
theorem zjI {α:Type} {r:Rp α} {W:α->Prop} {B:Nat} (hu:P.underlying t=some (.slice e)) (hc:P.cellsOf e=r.size) (hB:P.bytesOf e=B) (h:zgM P e r W):zgM P t r.list fun xs=>xs.length*B<=140737488351232/\xs.length<=1048576/\∀x∈xs,W x
  | 0=>zge
  | n+1=>zsw hu hc hB (h n)
theorem znD {α:Type} {r:Rp α} {W:α->Prop} {fs:Array Field} {S:List LV->Prop} (hu:P.underlying t=some (.struct fs)) (hc:P.cellsOf t=(fs.toList.map fun f=>P.cellsOf f.type).sum) (hf:∀n,FOkU P n fs.toList 0 S) (hy:∀ls,S ls->∃y,ls=r.lv y/\W y):zgM P t r W
  | 0=>zge
  | n+1=>zln hu hc (hf n) hy
end
section
variable {P:Program} {H:Type} {enc:TypeId×Value->H} {w:World} {t e:TypeId} {v:Value} {d:DataW H} {ps:List MemPlace}
theorem zEQ {k:IntKind} (hu:P.underlying t=some (.int k)) (hval:Value.okWide P w .any 0 t v) (h:DataW.Trod enc P w 0 (fun _=>true) true t v d ps) (_hz:SzU P t d):∃m:Int,AV.rel (gh0 allF) w (.lf (.int k m)) v/\(Lit.int k m).wf=true:=by
  obtain ⟨m,rfl,_,_,hw⟩:=open_int hu hval h;exact ⟨m,⟨rfl,.int k m⟩,hw⟩
theorem zHg {α:Type} {r:Rp α} {W:List α->Prop} (hu:P.underlying t=some (.slice e)) (ho:zgM P t r.list W) (hval:Value.okWide P w .any 0 t v) (h:DataW.Trod enc P w 0 (fun _=>true) true t v d ps) (hz:SzU P t d):∃xs:List α,AV.rel (gh0 allF) w (.sl r [0] xs) v/\W xs:=by
  obtain ⟨a,len,cap,rfl⟩:=okWide_slice hu hval;obtain ⟨fuel,hf⟩:=h;obtain ⟨y,hy,hw⟩:=ho fuel enc w _ _ _ _ hf hz;have hy':zaj allF w [.sl y.length r.size (y.flatMap r.lv)] [.slice a len cap]:=hy;obtain ⟨u,hu',hl⟩:=hy'.single;cases hu';exact ⟨y,zHd hl,hw⟩
theorem zCf {α:Type} {r:Rp α} {W:α->Prop} {fs:Array Field} (hu:P.underlying t=some (.struct fs)) (ho:zgM P t r W) (hval:Value.okWide P w .any 0 t v) (h:DataW.Trod enc P w 0 (fun _=>true) true t v d ps) (hz:SzU P t d):∃x:α,AV.rel (gh0 allF) w (.rc r [0] x) v/\W x:=by
  unfold Value.okWide at hval;rw [hu] at hval;obtain ⟨cs,rfl,_,_⟩:=hval;obtain ⟨fuel,hf⟩:=h;obtain ⟨y,hy,hw⟩:=ho fuel enc w _ _ _ _ hf hz;exact ⟨y,⟨cs.toList,by simp,⟨hy.1,fun i l u h1 h2=>by
    have:=hy.2 i l u h1 h2;refine zba.mono this fun b _ _=>?_
    show (gh0 allF).col b∈[0];rw [zxX allF b trivial];exact xw⟩⟩,hw⟩
end
end Go.Proofs.YtkgohoggipdokaaGreat

/-
  The laws as plain functions. No condition.
-/
import Derived.Test.YtekgmimingolbaaGreatx1K2
import Derived.Test.YtekgmimingolbaaGreatx1S1
namespace Go.Proofs.YtekgmimingolbaaGreat
open Go Go.RowKit
set_option linter.unusedVariables false
structure Te where
  V:TypeId
  M:TypeId
  S:TypeId
  U:TypeId
inductive DT (e:Te) (Q:List Str->Value->Prop) (F:Fp) (w:World):zc⊕za->List Value->Prop
  | m (x:zc) (h u:Value) (ds:List Value) (h1:w.ownsRow 0 e.V 4 h x.Values.length ds) (h2:∀g,h.ownBlock=some g->F g) (h3:∀i v,x.Values[i]? =some v->DT e Q F w (.inr v) (elAt 4 ds i)) (h4:Q x.Unknown u):DT e Q F w (.inl x) [h,u]
  | v (y:za) (c1 c2 c3:Value) (ws ts ds:List Value) (h1:w.ownsRow 0 e.U 1 c1 y.Words.length ws) (h2:∀g,c1.ownBlock=some g->F g) (h3:zW F w (y.Words.flatMap (Rp.int .u64).lv) ws)
    (h4:w.ownsRow 0 e.S 1 c2 y.Texts.length ts) (h5:∀g,c2.ownBlock=some g->F g) (h6:zW F w (y.Texts.flatMap Rp.str.lv) ts) (h7:w.ownsRow 0 e.M 2 c3 y.Subs.length ds) (h8:∀g,c3.ownBlock=some g->F g)
    (h9:∀i z,y.Subs[i]? =some z->DT e Q F w (.inl z) (elAt 2 ds i)):DT e Q F w (.inr y) [.int .i64 y.Number,c1,c2,c3]
def Qf (e:Te) (F:Fp) (w:World) (us:List Str) (u:Value):Prop:=∃cs,w.ownsRow 0 e.S 1 u us.length cs/\(∀g,u.ownBlock=some g->F g)/\zW F w (us.flatMap Rp.str.lv) cs
def Qa (us:List Str) (u:Value):Prop:=u.oneCell'=true
def Qn (us:List Str) (u:Value):Prop:=u= .slice none 0 0
section
variable {e:Te} {F F':Fp} {w w':World}
theorem zuv {ls:List LV} {cs:List Value} (h:zW F w ls cs) (hs:w.heap.size<=w'.heap.size) (hb:∀b,b<w.heap.size->F b->w'.heap[b]? =w.heap[b]? /\F' b):zW F' w' ls cs:=by
  have h3:zW (fun b=>F b/\b<w.heap.size) w ls cs:=h.mono fun b hl hF=>⟨hF,hl⟩
  exact (h3.keep (w':=w') ⟨hs,fun b hl hF=>(hb b hl hF.1).1⟩).mono fun b _ hF=>(hb b hF.2 hF.1).2
theorem zxC {t:TypeId} {s n:Nat} {v:Value} {cs:List Value} (ho:w.ownsRow 0 t s v n cs) (hF:∀g,v.ownBlock=some g->F g) (hb:∀b,b<w.heap.size->F b->w'.heap[b]? =w.heap[b]? /\F' b):w'.ownsRow 0 t s v n cs/\∀g,v.ownBlock=some g->F' g:=
  ⟨zjl ho fun g hg=>(hb g (ho.lt g hg).2 (hF g hg)).1,fun g hg=>(hb g (ho.lt g hg).2 (hF g hg)).2⟩
theorem DT.to {Q Q':List Str->Value->Prop} {t:zc⊕za} {cs:List Value} (h:DT e Q F w t cs) (hs:w.heap.size<=w'.heap.size) (hb:∀b,b<w.heap.size->F b->w'.heap[b]? =w.heap[b]? /\F' b) (hQ:∀us u,Q us u->Q' us u):DT e Q' F' w' t cs:=by
  induction h with
  | m x h u ds h1 h2 h3 h4 ih=>
    obtain ⟨a,b⟩:=zxC h1 h2 hb;exact .m x h u ds a b ih (hQ _ _ h4)
  | v y c1 c2 c3 ws ts ds h1 h2 h3 h4 h5 h6 h7 h8 h9 ih=>
    obtain ⟨a1,b1⟩:=zxC h1 h2 hb;obtain ⟨a2,b2⟩:=zxC h4 h5 hb;obtain ⟨a3,b3⟩:=zxC h7 h8 hb;exact .v y c1 c2 c3 ws ts ds a1 b1 (zuv h3 hs hb) a2 b2 (zuv h6 hs hb) a3 b3 ih
theorem Qf.to {us:List Str} {u:Value} (h:Qf e F w us u) (hs:w.heap.size<=w'.heap.size) (hb:∀b,b<w.heap.size->F b->w'.heap[b]? =w.heap[b]? /\F' b):Qf e F' w' us u:=by
  obtain ⟨cs,h1,h2,h3⟩:=h;obtain ⟨a,b⟩:=zxC h1 h2 hb;exact ⟨cs,a,b,zuv h3 hs hb⟩
theorem zHt {α:Type} {r:Rp α} {xs:List α} {cs:List Value} (hr:r.size=1) (h:zW F w (xs.flatMap r.lv) cs) {i:Nat} {x:α} (hx:xs[i]? =some x):zW F w (r.lv x) (elAt 1 cs i):=by
  have h1:=(h.drop (i*r.size)).take r.size;rw [r.flat_at xs i x hx,hr] at h1;exact h1
theorem zvS {α:Type} {r:Rp α} {xs:List α} {cs:List Value} {t:TypeId} {v:Value} (hr:r.size=1) (ho:w.ownsRow 0 t 1 v xs.length cs) (hF:∀g,v.ownBlock=some g->F g) (h:zW F w (xs.flatMap r.lv) cs):zbk F w (.sl xs.length r.size (xs.flatMap r.lv)) v:=
  zDw (r:=r) (e:=t) (by rw [hr];exact ho) hF fun i x hx=>by rw [hr];exact zHt hr h hx
theorem DT.lv {Q:List Str->Value->Prop} {t:zc⊕za} {cs:List Value} (fM:zc->zc) (fV:za->za)
    (hM:∀x,(fM x).Values=x.Values.map fV) (hV:∀y,fV y=⟨y.Number,y.Words,y.Texts,y.Subs.map fM⟩) (hQ:∀x u,Q x.Unknown u->zbk F w (.sl (fM x).Unknown.length Rp.str.size ((fM x).Unknown.flatMap Rp.str.lv)) u)
    (h:DT e Q F w t cs):zW F w (match t with
      | .inl x=>zd.lv (fM x)
      | .inr y=>zb.lv (fV y)) cs:=by
  induction h with
  | m x h u ds h1 h2 h3 h4 ih=>
    simp only at ih|-;rw [zk];refine .cons ?_ (.cons (hQ x u h4) .nil);have hm:=hM x;rw [hm];refine zDw (r:=zb) (e:=e.V) (cs:=ds) (by rw [yZ];exact h1) h2 fun i v hv=>?_
    rw [yB] at hv;cases hx:x.Values[i]? with
    | none=>rw [hx] at hv;cases hv
    | some y=>
      rw [hx] at hv;cases hv;exact ih i y hx
  | v y c1 c2 c3 ws ts ds h1 h2 h3 h4 h5 h6 h7 h8 h9 ih=>
    simp only at ih|-;rw [hV,zn];refine .cons (.int _ _) (.cons (zvS rfl h1 h2 h3) (.cons (zvS rfl h4 h5 h6) (.cons ?_ .nil)));refine zDw (r:=zd) (e:=e.M) (cs:=ds) (by rw [yZ];exact h7) h8 fun i v hv=>?_
    rw [yB] at hv;cases hx:y.Subs[i]? with
    | none=>rw [hx] at hv;cases hv
    | some z=>
      rw [hx] at hv;cases hv;exact ih i z hx
theorem DT.plain {t:zc⊕za} {cs:List Value} (h:DT e (Qf e F w) F w t cs):zW F w (match t with
      | .inl x=>zd.lv x
      | .inr y=>zb.lv y) cs:=by
  have h1:=h.lv id id (fun x=>(List.map_id _).symm) (fun y=>by cases y;simp) (fun x u ⟨cs,a,b,c⟩=>zvS rfl a b c);cases t<;>exact h1
end
def dpM (e:Te):Dp zc where
  r:=zd
  D F w x cs:=DT e (Qf e F w) F w (.inl x) cs
  lv:=fun h=>h.plain
  move:=fun hs hb h=>h.to hs hb fun us u hq=>hq.to hs hb
def dpV (e:Te):Dp za where
  r:=zb
  D F w x cs:=DT e (Qf e F w) F w (.inr x) cs
  lv:=fun h=>h.plain
  move:=fun hs hb h=>h.to hs hb fun us u hq=>hq.to hs hb
section
variable {e:Te} {γ:Gh} {w:World}
theorem zDr {α:Type} {r:Rp α} {t ℓ:Nat} {C D:List Nat} {xs:List α} {v:Value} (hr:r.size=1) (h:AV.rel γ w (.own r t ℓ C xs) v) (hD:∀c∈ℓ::C,c∈D):∃cs,w.ownsRow 0 t 1 v xs.length cs/\(∀g,v.ownBlock=some g->γ.F D g)/\zW (γ.F D) w (xs.flatMap r.lv) cs:=by
  obtain ⟨cs,ho,hg,hA,_⟩:=h;rw [hr] at ho;exact ⟨cs,ho,fun g hgb=>by show γ.col g∈D;rw [(hg g hgb).1];exact hD _ xx,hA.mono fun b _ hb=>hD _ (xy _ hb)⟩
theorem zHB {α:Type} {d:Dp α} {t n ℓ:Nat} {C1 C2 D:List Nat} {xs:List α} {v:Value} (h:AV.rel γ w (.cu (mix d t n n xs) ℓ C1 C2) v) (hD:∀c∈ℓ::C1,c∈D):
    ∃cs,w.ownsRow 0 t d.r.size v xs.length cs/\(∀g,v.ownBlock=some g->γ.F D g)/\∀i x,xs[i]? =some x->d.D (γ.F D) w x (elAt d.r.size cs i):=by
  obtain ⟨cs,ho,hg,hn,hE⟩:=h;refine ⟨cs,ho,fun g hgb=>by show γ.col g∈D;rw [(hg g hgb).1];exact hD _ xx,fun i x hx=>?_⟩;have:=(xZ.1 hx).1;exact d.move (xB _) (fun b _ hF=>⟨rfl,hD _ (xy _ hF)⟩) ((hE i x hx).1 (by omega))
theorem dt_V {nm:Int} {ws:List Int} {ts:List Str} {subs:List zc} {l1 l2 l3 n:Nat} {C1 C2 C3 C4:List Nat}:∀γ w v,AV.rel γ w (.ag [.lf (.int .i64 nm),.own (Rp.int .u64) e.U l1 C1 ws,.own Rp.str e.S l2 C2 ts,.cu (mix (dpM e) e.M n n subs) l3 C3 C4]) v->
    (dpV e).D (γ.F (l1::(C1++(l2::(C2++(l3::C3)))))) w ⟨nm,ws,ts,subs⟩ v.cells.toList:=fun γ w v ⟨vs,hv,hL,_⟩=>by
  obtain ⟨u0,_,rfl,h0,u1,_,rfl,h1,u2,_,rfl,h2,u3,_,rfl,h3,rfl⟩:=hL;subst hv;have e0:=zfA h0;subst e0;obtain ⟨a1,a2,a3,a4⟩:=zDr (D:=l1::(C1++(l2::(C2++(l3::C3))))) rfl h1 (fun c hc=>by simp only [xz,xD] at hc|-;rcases hc with h| h<;>simp [h]);obtain ⟨b1,b2,b3,b4⟩:=zDr (D:=l1::(C1++(l2::(C2++(l3::C3))))) rfl h2 (fun c hc=>by simp only [xz,xD] at hc|-;rcases hc with h| h<;>simp [h]);obtain ⟨c1,c2,c3,c4⟩:=zHB (D:=l1::(C1++(l2::(C2++(l3::C3))))) h3 (fun c hc=>by simp only [xz,xD] at hc|-;rcases hc with h| h<;>simp [h]);exact .v ⟨nm,ws,ts,subs⟩ u1 u2 u3 a1 b1 c1 a2 a3 a4 b2 b3 b4 c2 c3 c4
theorem dt_M {vals:List za} {us:List Str} {l1 l2 n:Nat} {C1 C2 C4:List Nat}:∀γ w v,AV.rel γ w (.ag [.cu (mix (dpV e) e.V n n vals) l1 C1 C4,.own Rp.str e.S l2 C2 us]) v->
    (dpM e).D (γ.F (l1::(C1++(l2::C2)))) w ⟨vals,us⟩ v.cells.toList:=fun γ w v ⟨vs,hv,hL,_⟩=>by
  obtain ⟨u0,_,rfl,h0,u1,_,rfl,h1,rfl⟩:=hL;subst hv;obtain ⟨b1,b2,b3,b4⟩:=zDr (D:=l1::(C1++(l2::C2))) rfl h1 (fun c hc=>by simp only [xz,xD] at hc|-;rcases hc with h| h<;>simp [h]);obtain ⟨c1,c2,c3,c4⟩:=zHB (D:=l1::(C1++(l2::C2))) h0 (fun c hc=>by simp only [xz,xD] at hc|-;rcases hc with h| h<;>simp [h]);exact .m ⟨vals,us⟩ u0 u1 c1 c2 c3 c4 ⟨b1,b2,b3,b4⟩
theorem dtV (y:za) {l1 l2 l3 n:Nat} {C1 C2 C3 C4:List Nat}:∀γ w v,AV.rel γ w (.ag [.lf (.int .i64 y.Number),.own (Rp.int .u64) e.U l1 C1 y.Words,.own Rp.str e.S l2 C2 y.Texts,.cu (mix (dpM e) e.M n n y.Subs) l3 C3 C4]) v->
    (dpV e).D (γ.F (l1::(C1++(l2::(C2++(l3::C3)))))) w y v.cells.toList:=by cases y;exact dt_V
theorem dtM (x:zc) {l1 l2 n:Nat} {C1 C2 C4:List Nat}:∀γ w v,AV.rel γ w (.ag [.cu (mix (dpV e) e.V n n x.Values) l1 C1 C4,.own Rp.str e.S l2 C2 x.Unknown]) v->
    (dpM e).D (γ.F (l1::(C1++(l2::C2)))) w x v.cells.toList:=by cases x;exact dt_M
end
end Go.Proofs.YtekgmimingolbaaGreat

/-
  The laws as plain functions. No condition.
-/
import Derived.Shelf.Strings.OnBuilder
import Derived.Test.YtekgmimingolbaaGreatx2Sort
namespace Go.Proofs.YtekgmimingolbaaGreat
open Go Go.RowKit Go.Shelf
theorem zJp {P:Program} {ρ:Ren} (L:Lays.n156 P ρ) (X:Builder.Extra P ρ) {xs:List (List UInt8)} {sep r:List UInt8} (h:zGw xs sep=some r):FnOk P (ρ.f 156) [.sl Rp.str [0] xs,.lf (.str sep)] [.lf (.str r)]:=by
  rw [show zGw xs sep=if xs.length<=140737488355328/\(Go.Lib.join xs sep).length<=140737488355328 then some (Go.Lib.join xs sep) else none from rfl] at h;split at h
  case isFalse=>cases h
  rename_i hc;cases h;obtain ⟨hn,hj⟩:=hc;intro w F vs hr;obtain ⟨v,vs',rfl,hx,v2,vs2,rfl,hs,hz⟩:=hr;cases hz;have hs':=zqI hs;subst hs';have hx':zbw ((gh0 F).F [0]) w (.sl xs.length Rp.str.size (xs.flatMap Rp.str.lv)) v:=hx
  have fin:∀{e:Ending} {w':World},e= .returned (.string ⟨(Go.Lib.join xs sep).toArray⟩)->Below w.heap.size w w'->∃γ us,e= .returned (zmT us)/\Below w.heap.size w w'/\
      ((∀b,b<w.heap.size->(γ.col b=0/\F b)\/γ.col b=1)/\∀b,w.heap.size<=b->b<w'.heap.size->γ.col b≠0)/\AV.relL γ w' [.lf (.str (Go.Lib.join xs sep))] us:=fun he hb=>by
    refine ⟨⟨fun b=>if b<w.heap.size then (gh0 F).col b else 1,(gh0 F).box⟩,[_],he,hb,⟨fun b hb=>?_,fun b h1 _=>by simp [Nat.not_lt.2 h1]⟩,_,[],rfl,⟨rfl,.str _⟩,rfl⟩;by_cases hF:F b<;>simp [gh0,hF,hb]
  cases hx' with
  | sl n size ls A c cs hl hcs hc hm hA hr=>
    have hcells:=zuo ⟨by rw [hl,hcs],hr⟩;subst hcells;rcases qP xs.length with h0| h0
    · have hx0:xs=[]:=yq h0;subst hx0;exact (Any.strings_Join_none L X A c _ w).mono fun e w' ⟨he,hw⟩=>fin he (hw▸Below.refl _ _)
    · obtain ⟨b,off,rfl,hF,hlt,hcell⟩:=hA h0;have hm1:(xs.map fun l=>(⟨l.toArray⟩:ByteArray)).map (fun y:ByteArray=>y.data.toList)=xs:=by
        rw [qQ];exact List.map_id' xs
      have hc1:=Any.strings_Join L X b off c (xs.map fun l=>(⟨l.toArray⟩:ByteArray)) ⟨sep.toArray⟩ w (fun j x hx=>by
        rw [yy] at hx;cases hy:xs[j]? with
        | none=>rw [hy] at hx;cases hx
        | some y=>
          rw [hy] at hx;cases hx;have hj:=(yl.1 hy).1;rw [hcell j (by show j<xs.length*1;omega),yy,hy];rfl) hlt (by simpa using hn) (by simpa using hc) (by rw [hm1];exact hj)
      rw [hm1] at hc1;rw [yQ] at hc1;exact hc1.mono fun e w' ⟨he,hw⟩=>fin he hw
end Go.Proofs.YtekgmimingolbaaGreat

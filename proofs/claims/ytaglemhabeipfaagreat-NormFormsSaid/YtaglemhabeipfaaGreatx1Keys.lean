/-
  The laws as plain functions. No condition.
-/
import Derived.Shelf.SlIterI.Sorted
import Derived.Shelf.SortM.Plain
import Derived.Shelf.SortM.SortNone
import Derived.Test.YtaglemhabeipfaaGreatx1K2
namespace Go.Proofs.YtaglemhabeipfaaGreat
open Go Go.RowKit Go.Maps Go.Sort Go.Shelf Go.WideElems
set_option linter.unusedVariables false
set_option linter.unusedSectionVars false
def SkOk (P:Program) (fk fs:FuncId) (kt:TypeId):Prop:=
  ∀(w:World) (b:Nat) (es:Array MapEntry) (cl:Nat) (ks:List Int),w.heap[b]? =some (.map es cl)->(∀x∈es.toList,x.born<cl)->(es.toList.map (·.born)).Nodup->es.toList.map (·.key)=ks.map (Value.int .i64)->ks.Nodup->
    (∀k∈ks,(Lit.int .i64 k).wf=true)->ks.length*8<=140737488355328->
    Calls P fk #[.map (some b)] w fun e w1=>∃v1,e= .returned v1/\Calls P fs #[v1] w1 fun e2 w2=>∃v,e2= .returned v/\Below w.heap.size w w2/\
      w2.ownsRow w.heap.size kt 1 v ks.length ((ks.mergeSort (fun x y=>decide (x<=y))).map (Value.int .i64))
theorem zMp {P:Program} {ρ1 ρ2:Ren} {kt:TypeId} (L1:SlLaysZI.n7 P ρ1) (L2:SlLaysZI.n6 P ρ2) (hs:∀m,AnyZI.SortsIn P ρ2 Fence.wide m) (e9:∀args w,(callFunc (ρ2.f 9) args).run P w= .ok (.enter (ρ2.f 9) args) w)
    (eg:∀args w,(callFunc (ρ1.f 10) args).run P w= .ok (.enter (ρ1.f 10) args) w) (h1:ρ1.t 26=kt) (h2:ρ2.t 26=kt):SkOk P (ρ1.f 7) (ρ2.f 6) kt:=by
  subst h1;intro w b es cl ks hb km hnd hk hks hwf ku;have hkey:∀x∈es.toList,∃z,x.key=Value.int .i64 z/\(Lit.int .i64 z).wf=true:=fun x hx=>by
    have:x.key∈ks.map (Value.int .i64):=by rw [<-hk];exact yP hx
    obtain ⟨z,hz,e⟩:=xA.1 this;exact ⟨z,e.symm,hwf z hz⟩
  have hkn:(es.toList.map (·.key)).Nodup:=by
    rw [hk];exact List.pairwise_map.2 (List.Pairwise.imp (fun h e=>h (by simpa using e)) hks)
  have hl:es.size=ks.length:=by
    have:=congrArg List.length hk;simpa using this
  let R:Value->Option (DataW Unit×List MemPlace):=fun _=>some (.nil,[])
  have hko:∀x∈es.toList,∃z,x.key=Value.int .i64 z/\keyOf P (ρ1.t 26) x.key=some (.int .i64 z):=fun x hx=>by
    obtain ⟨z,e,hz⟩:=hkey x hx;exact ⟨z,e,by rw [e];simp [keyOf,L1.t26,mapKey,hz]⟩
  have hrd:∀x∈es.toList,∃z,x.key=Value.int .i64 z/\rg P (ρ1.t 26) R x=(.int .i64 z,.nil):=fun x hx=>by
    obtain ⟨z,e,hz⟩:=hko x hx;exact ⟨z,e,by simp [rg,WideElems.rd,hz,R]⟩
  have hF:Fit P (ρ1.t 26) R es cl:=⟨by unfold maxLen;omega,⟨km,hnd,hkn⟩,fun x hx=>by
    obtain ⟨z,e,hz⟩:=hko x hx;exact ⟨(.int .i64 z,.nil),by simp [WideElems.rd,hz,R]⟩⟩
  have kQ:w.ownsMap P (ρ1.t 26) R b es.size (.map ((es.toList.map (rg P (ρ1.t 26) R)).foldr DataW.insert [])):=⟨es,cl,hb,hF,xx _,rfl⟩;have hik:(intKeys (DataW.map ((es.toList.map (rg P (ρ1.t 26) R)).foldr DataW.insert []))).Perm ks:=by
    have p1:(intKeys (DataW.map ((es.toList.map (rg P (ρ1.t 26) R)).foldr DataW.insert []))).Perm ((es.toList.map (rg P (ρ1.t 26) R)).map fun p:Lit×DataW Unit=>Go.intOf p.1):=(Go.WideShapes.sorted_perm _).map (fun p:Lit×DataW Unit=>Go.intOf p.1);refine p1.trans (List.Perm.of_eq ?_);have inj:∀{l l':List Int},l.map (Value.int .i64)=l'.map (Value.int .i64)->l=l':=fun {l l'} h=>by
      induction l generalizing l' with
      | nil=>cases l'<;>first| rfl| cases h
      | cons x l ih=>
        cases l' with
        | nil=>cases h
        | cons y l'=>
          simp only [xJ,yM] at h;rw [ih h.2];simpa using h.1
    refine inj ?_;rw [<-hk,yC,yC];refine qk fun x hx=>?_
    obtain ⟨z,e,hz⟩:=hrd x hx;simp [hz,e,Go.intOf]
  have kG:Maps.size (DataW.map ((es.toList.map (rg P (ρ1.t 26) R)).foldr DataW.insert []))=ks.length:=by
    simp only [Maps.size];rw [<-hik.length_eq];simp [intKeys]
  have hbl:=kQ.lt;have c1:=(qJ (n:=5)).1 (AnyZI.keys_in L1 Fence.wide 5 trivial rfl (some b) w);refine c1.mono fun e w1 ⟨he,hw1⟩=>⟨_,he,?_⟩
  have hseq:SeqGives Fence.wide 2 P (ρ1.f 10) #[.pointer (some ⟨w.heap.size,0,none⟩)] encZ (fun ss=>ss.Perm (intKeys (DataW.map ((es.toList.map (rg P (ρ1.t 26) R)).foldr DataW.insert [])))) (Maps.size (DataW.map ((es.toList.map (rg P (ρ1.t 26) R)).foldr DataW.insert []))) (w.alloc (.cells #[.map (some b)] (ρ1.t 23))):=
    AnyZI.keys_gives (ρ:=ρ1) {L1 with} Fence.wide _ trivial rfl (by omega) w.heap.size b es.size _ _ (by simp) (by simp) (by
      obtain ⟨es,clock,hb,Ft,hs,hD⟩:=kQ;exact ⟨es,clock,(Below.heap_alloc _ _ b hbl).trans hb,Ft,hs,hD⟩)
  have c2:=(qJ (n:=5)).1 (AnyZI.sorted_in L2 Fence.wide 5 trivial trivial trivial trivial rfl (by omega) (hs _) e9 (ρ1.f 10) #[.pointer (some ⟨w.heap.size,0,none⟩)] trivial eg _ _ (by rw [kG];unfold maxLen;omega) (by rw [kG];exact ku) _ hseq);subst hw1;refine c2.mono fun e2 w2 ⟨v,ss,he2,hS,hrow,hnil,hbel⟩=>⟨v,he2,((Below.refl _ w).alloc (xx _) _).trans (hbel.mono (by simp)),?_⟩
  have hp:ss.Perm ks:=hS.trans hik;rw [h2,hp.length_eq,show ss.mergeSort (fun x y=>decide (x<=y))=ks.mergeSort (fun x y=>decide (x<=y)) from mergeSort_of_perm_i hp] at hrow;exact ownsRow_base_a hrow (by simp)
theorem zGy {ν:Type} {rv:Rp ν} {F:Fp} {w:World} {m:List (Int×ν)} {es:List MapEntry} (h:zda F w (Rp.int .i64) rv m es):es.map (·.key)=(m.map Prod.fst).map (Value.int .i64):=by
  induction h with
  | nil=>rfl
  | cons h1 h2 _ ih=>
    rw [xJ,xJ,xJ,ih];congr 1;exact zzV (r:=Rp.int .i64) (l:= .int .i64 _) rfl rfl rfl h1
theorem zAU (k:IntKind):∀l:List Int,l.flatMap (Rp.int k).lv=l.map fun z=>LV.int k z
  | []=>rfl
  | z::l=>by rw [xE,xJ,zAU k l];rfl
theorem zFs {P:Program} {N:Lim} {ops:Array Oper} {kl:List Oper} {E E':Env} {o1 o2:Oper} {fk fs:FuncId} {ts1 ts2:Array TypeId} {x:Operand} {a:AV} {ν:Type} {rv:Rp ν} {m:List (Int×ν)} {D:List Nat} {d1 d2:Nat} {kt:TypeId} {xs:List Int} (ℓ:Nat)
    (hs:SkOk P fk fs kt) (ho1:o1.op= .call ⟨.value (.func fk),#[x],ts1⟩) (ho2:o2.op= .call ⟨.value (.func fs),#[.tmp d1],ts2⟩) (hd1:o1.dst=some d1) (hd2:o2.dst=some d2) (hg1:o1.guard=none) (hg2:o2.guard=none)
    (hc1:∀us w,(callFunc fk us).run P w= .ok (.enter fk us) w) (hc2:∀us w,(callFunc fs us).run P w= .ok (.enter fs us) w) (hE:E.opd x=some a) (hm:isMp (Rp.int .i64) rv m D a) (hx:zoA m=some xs)
    (hN:(zjZ N (some d1)&&zjZ N (some d2)&&Nat.ble 2 ℓ)=true)
    (k:zaM P N ops kl ⟨zjd (some d2) (.own (Rp.int .i64) kt ℓ [] xs) (zGv (some d1) (zqP [] [ℓ] E.sl)),zgZ [] [ℓ] E.bx⟩ E'):zaM P N ops (o1::o2::kl) E E':=by
  intro cx a0 w Q hn hst hQ;obtain ⟨γ,hB,hS,hX⟩:=hst;simp only [xw] at hN;obtain ⟨⟨n1,n2⟩,n3⟩:=hN;have l2:2<=ℓ:=xP n3;obtain ⟨b,es,cl,hv,hF,hb,⟨hh,s1,s2,s3⟩,hEs⟩:=hm γ w _ (Env.opd_rel hE hS);unfold zoA at hx;rw [zHo] at hx;split at hx
  case isFalse=>cases hx
  rename_i hxc;cases hx;have hcall:=hs w b es cl (m.map Prod.fst) hh s1 s2 (zGy hEs) s3 (fun q hq=>by
    obtain ⟨p,hp,rfl⟩:=xA.1 hq;exact xI.1 hxc.1 p hp) (by simpa using hxc.2)
  have r1:(execOp a0.eval o1).run P w= .ok (.enter fk #[a0.eval x]) w:=by simp [execOp,ho1,resolve,Act.eval,Deferred.ofValue,invoke,hc1]
  rw [show a0.eval x= .map (some b) from hv] at r1;have w1:∀(o:Oper) (t:Array Value),o.guard=none->Region.wanted o (yielded ops t)=true:=fun o t hg=>by unfold Region.wanted;rw [hg]
  refine zjx (w1 o1 _ hg1) (zrg (fun c hc=>by rw [ho1] at hc;cases hc) ?_);unfold Oper.wp;rw [r1,qG];refine hcall.mono fun e wm ⟨v1,he,hc⟩=>?_
  subst he;rw [hd1];refine zjx (w1 o2 _ hg2) (zrg (fun c hc=>by rw [ho2] at hc;cases hc) ?_);have kG:d1<a0.tmps.size:=by rw [hB.size,hn];exact zhQ n1 d1 rfl
  have e1:(a0.put (some d1) v1).eval (.tmp d1)=v1:=zdt kG;have r2:(execOp (a0.put (some d1) v1).eval o2).run P wm= .ok (.enter fs #[(a0.put (some d1) v1).eval (.tmp d1)]) wm:=by simp [execOp,ho2,resolve,Act.eval,Deferred.ofValue,invoke,hc2]
  rw [e1] at r2;unfold Oper.wp;rw [r2,qG];refine hc.mono fun e w2 ⟨v,he,hbel,hrow⟩=>?_
  subst he;rw [hd2];have ht:Tr [] [ℓ] γ w (zcD γ w.heap.size ℓ (v.ownBlock.getD 0)) w2:=⟨hbel.os,hbel.tape,hbel.output,hbel.size,fun b hb _=>hbel.block b hb,fun b hb=>by simp [zcD,hb],fun k hk=>by
    simp only [xy,xL,xM] at hk;simp [zcD,hk],fun b h1 _ h0=>by simp [zcD,Nat.not_lt.2 h1] at h0;omega⟩
  refine k cx _ _ Q hn ⟨zcD γ w.heap.size ℓ (v.ownBlock.getD 0),((hB.tr ht rfl (by simp [okW,n3])).put _ _ (by rw [hn];exact zfC n1)).put _ _ (by rw [hn];exact zfC n2),?_,hX.tr ht⟩ hQ;refine (Sl.drop (hS.tr ht) (some d1) v1).put (fun k hk=>by rw [zoG,hB.size,hn];exact zhQ n2 k hk) ?_;have ku:((m.map Prod.fst).mergeSort fun x y=>decide (x<=y)).length=(m.map Prod.fst).length:=by simp
  refine ⟨_,by rw [ku];exact ownsRow_base_a hrow (xC _),fun g hg=>?_,?_,by simp⟩
  · have h1:=(hrow.lt g hg).1;simp [zcD,Nat.not_lt.2 h1,hg]
  · rw [zAU];refine ⟨by simp,fun i l u h1 h2=>?_⟩;rw [qa] at h1;rw [qa] at h2;cases hz:((m.map Prod.fst).mergeSort fun x y=>decide (x<=y))[i]? with
    | none=>rw [hz] at h1;cases h1
    | some z=>
      rw [hz] at h1 h2;cases h1;cases h2;exact .int _ _
end Go.Proofs.YtaglemhabeipfaaGreat

/-
  The laws as plain functions. No condition.
-/
import Derived.Shelf.SlIterI.Sorted
import Derived.Shelf.SortM.Plain
import Derived.Shelf.SortM.SortNone
import Derived.Test.YtaglemhabeipfaaGreatx3K2
namespace Go.Proofs.YtaglemhabeipfaaGreat
open Go Go.RowKit Go.Maps Go.Sort Go.Shelf Go.WideElems
set_option linter.unusedVariables false
set_option linter.unusedSectionVars false
def SkOk (P:Program) (fk fs:FuncId) (kt:TypeId):Prop:=
  ∀(w:World) (b:Nat) (es:Array MapEntry) (cl:Nat) (ks:List Int),w.heap[b]? =some (.map es cl)->(∀x∈es.toList,x.born<cl)->(es.toList.map (·.born)).Nodup->es.toList.map (·.key)=ks.map (Value.int .i64)->ks.Nodup->
    (∀k∈ks,(Lit.int .i64 k).wf=true)->ks.length*8<=140737488355328->
    Calls P fk #[.map (some b)] w fun e w1=>∃v1,e= .returned v1/\Calls P fs #[v1] w1 fun e2 w2=>∃v,e2= .returned v/\Below w.heap.size w w2/\
      w2.ownsRow w.heap.size kt 1 v ks.length ((ks.mergeSort (fun x y=>decide (x<=y))).map (Value.int .i64))
theorem zEJ {P:Program} {ρ1 ρ2:Ren} {kt:TypeId} (L1:SlLaysZI.n7 P ρ1) (L2:SlLaysZI.n6 P ρ2) (hs:∀m,AnyZI.SortsIn P ρ2 Fence.wide m) (e9:∀args w,(callFunc (ρ2.f 9) args).run P w= .ok (.enter (ρ2.f 9) args) w)
    (eg:∀args w,(callFunc (ρ1.f 10) args).run P w= .ok (.enter (ρ1.f 10) args) w) (h1:ρ1.t 26=kt) (h2:ρ2.t 26=kt):SkOk P (ρ1.f 7) (ρ2.f 6) kt:=by
  subst h1;intro w b es cl ks hb vC hnd hk hks hwf vF;have hkey:∀x∈es.toList,∃z,x.key=Value.int .i64 z/\(Lit.int .i64 z).wf=true:=fun x hx=>by
    have:x.key∈ks.map (Value.int .i64):=by rw [<-hk];exact qk hx
    obtain ⟨z,hz,e⟩:=xu.1 this;exact ⟨z,e.symm,hwf z hz⟩
  have hkn:(es.toList.map (·.key)).Nodup:=by
    rw [hk];exact List.pairwise_map.2 (List.Pairwise.imp (fun h e=>h (by simpa using e)) hks)
  have hl:es.size=ks.length:=by
    have:=congrArg List.length hk;simpa using this
  let R:Value->Option (DataW Unit×List MemPlace):=fun _=>some (.nil,[])
  have hko:∀x∈es.toList,∃z,x.key=Value.int .i64 z/\keyOf P (ρ1.t 26) x.key=some (.int .i64 z):=fun x hx=>by
    obtain ⟨z,e,hz⟩:=hkey x hx;exact ⟨z,e,by rw [e];simp [keyOf,L1.t26,mapKey,hz]⟩
  have hrd:∀x∈es.toList,∃z,x.key=Value.int .i64 z/\rg P (ρ1.t 26) R x=(.int .i64 z,.nil):=fun x hx=>by
    obtain ⟨z,e,hz⟩:=hko x hx;exact ⟨z,e,by simp [rg,WideElems.rd,hz,R]⟩
  have hF:Fit P (ρ1.t 26) R es cl:=⟨by unfold maxLen;omega,⟨vC,hnd,hkn⟩,fun x hx=>by
    obtain ⟨z,e,hz⟩:=hko x hx;exact ⟨(.int .i64 z,.nil),by simp [WideElems.rd,hz,R]⟩⟩
  have vW:w.ownsMap P (ρ1.t 26) R b es.size (.map ((es.toList.map (rg P (ρ1.t 26) R)).foldr DataW.insert [])):=⟨es,cl,hb,hF,xr _,rfl⟩;have hik:(intKeys (DataW.map ((es.toList.map (rg P (ρ1.t 26) R)).foldr DataW.insert []))).Perm ks:=by
    have p1:(intKeys (DataW.map ((es.toList.map (rg P (ρ1.t 26) R)).foldr DataW.insert []))).Perm ((es.toList.map (rg P (ρ1.t 26) R)).map fun p:Lit×DataW Unit=>Go.intOf p.1):=(Go.WideShapes.sorted_perm _).map (fun p:Lit×DataW Unit=>Go.intOf p.1);refine p1.trans (List.Perm.of_eq ?_);have inj:∀{l l':List Int},l.map (Value.int .i64)=l'.map (Value.int .i64)->l=l':=fun {l l'} h=>by
      induction l generalizing l' with
      | nil=>cases l'<;>first| rfl| cases h
      | cons x l ih=>
        cases l' with
        | nil=>cases h
        | cons y l'=>
          simp only [xG,yR] at h;rw [ih h.2];simpa using h.1
    refine inj ?_;rw [<-hk,yK,yK];refine yT fun x hx=>?_
    obtain ⟨z,e,hz⟩:=hrd x hx;simp [hz,e,Go.intOf]
  have vO:Maps.size (DataW.map ((es.toList.map (rg P (ρ1.t 26) R)).foldr DataW.insert []))=ks.length:=by
    simp only [Maps.size];rw [<-hik.length_eq];simp [intKeys]
  have hbl:=vW.lt;have c1:=(qe (n:=5)).1 (AnyZI.keys_in L1 Fence.wide 5 trivial rfl (some b) w);refine c1.mono fun e w1 ⟨he,hw1⟩=>⟨_,he,?_⟩
  have hseq:SeqGives Fence.wide 2 P (ρ1.f 10) #[.pointer (some ⟨w.heap.size,0,none⟩)] encZ (fun ss=>ss.Perm (intKeys (DataW.map ((es.toList.map (rg P (ρ1.t 26) R)).foldr DataW.insert [])))) (Maps.size (DataW.map ((es.toList.map (rg P (ρ1.t 26) R)).foldr DataW.insert []))) (w.alloc (.cells #[.map (some b)] (ρ1.t 23))):=
    AnyZI.keys_gives (ρ:=ρ1) {L1 with} Fence.wide _ trivial rfl (by omega) w.heap.size b es.size _ _ (by simp) (by simp) (by
      obtain ⟨es,clock,hb,Ft,hs,hD⟩:=vW;exact ⟨es,clock,(Below.heap_alloc _ _ b hbl).trans hb,Ft,hs,hD⟩)
  have c2:=(qe (n:=5)).1 (AnyZI.sorted_in L2 Fence.wide 5 trivial trivial trivial trivial rfl (by omega) (hs _) e9 (ρ1.f 10) #[.pointer (some ⟨w.heap.size,0,none⟩)] trivial eg _ _ (by rw [vO];unfold maxLen;omega) (by rw [vO];exact vF) _ hseq);subst hw1;refine c2.mono fun e2 w2 ⟨v,ss,he2,hS,hrow,hnil,hbel⟩=>⟨v,he2,((Below.refl _ w).alloc (xr _) _).trans (hbel.mono (by simp)),?_⟩
  have hp:ss.Perm ks:=hS.trans hik;rw [h2,hp.length_eq,show ss.mergeSort (fun x y=>decide (x<=y))=ks.mergeSort (fun x y=>decide (x<=y)) from mergeSort_of_perm_i hp] at hrow;exact ownsRow_base_a hrow (by simp)
theorem zyX {ν:Type} {rv:Rp ν} {F:Fp} {w:World} {m:List (Int×ν)} {es:List MapEntry} (h:zbt F w (Rp.int .i64) rv m es):es.map (·.key)=(m.map Prod.fst).map (Value.int .i64):=by
  induction h with
  | nil=>rfl
  | cons h1 h2 _ ih=>
    rw [xG,xG,xG,ih];congr 1;exact ztk (r:=Rp.int .i64) (l:= .int .i64 _) rfl rfl rfl h1
theorem ztX (k:IntKind):∀l:List Int,l.flatMap (Rp.int k).lv=l.map fun z=>LV.int k z
  | []=>rfl
  | z::l=>by rw [xC,xG,ztX k l];rfl
theorem zxQ {P:Program} {N:Lim} {ops:Array Oper} {vB:List Oper} {E E':Env} {o1 o2:Oper} {fk fs:FuncId} {ts1 ts2:Array TypeId} {x:Operand} {a:AV} {ν:Type} {rv:Rp ν} {m:List (Int×ν)} {D:List Nat} {d1 d2:Nat} {kt:TypeId} {xs:List Int} (ℓ:Nat)
    (hs:SkOk P fk fs kt) (ho1:o1.op= .call ⟨.value (.func fk),#[x],ts1⟩) (ho2:o2.op= .call ⟨.value (.func fs),#[.tmp d1],ts2⟩) (hd1:o1.dst=some d1) (hd2:o2.dst=some d2) (hg1:o1.guard=none) (hg2:o2.guard=none)
    (hc1:∀us w,(callFunc fk us).run P w= .ok (.enter fk us) w) (hc2:∀us w,(callFunc fs us).run P w= .ok (.enter fs us) w) (hE:E.opd x=some a) (hm:isMp (Rp.int .i64) rv m D a) (hx:zjD m=some xs)
    (hN:(zgr N (some d1)&&zgr N (some d2)&&Nat.ble 2 ℓ)=true)
    (k:zaw P N ops vB ⟨zfD (some d2) (.own (Rp.int .i64) kt ℓ [] xs) (zyV (some d1) (zli [] [ℓ] E.sl)),zec [] [ℓ] E.bx⟩ E'):zaw P N ops (o1::o2::vB) E E':=by
  intro cx a0 w Q hn hst hQ;obtain ⟨γ,hB,hS,hX⟩:=hst;simp only [xp] at hN;obtain ⟨⟨n1,n2⟩,n3⟩:=hN;have l2:2<=ℓ:=xH n3;obtain ⟨b,es,cl,hv,hF,hb,⟨hh,s1,s2,s3⟩,hEs⟩:=hm γ w _ (Env.opd_rel hE hS);unfold zjD at hx;rw [zzH] at hx;split at hx
  case isFalse=>cases hx
  rename_i hxc;cases hx;have hcall:=hs w b es cl (m.map Prod.fst) hh s1 s2 (zyX hEs) s3 (fun q hq=>by
    obtain ⟨p,hp,rfl⟩:=xu.1 hq;exact xy.1 hxc.1 p hp) (by simpa using hxc.2)
  have r1:(execOp a0.eval o1).run P w= .ok (.enter fk #[a0.eval x]) w:=by simp [execOp,ho1,resolve,Act.eval,Deferred.ofValue,invoke,hc1]
  rw [show a0.eval x= .map (some b) from hv] at r1;have w1:∀(o:Oper) (t:Array Value),o.guard=none->Region.wanted o (yielded ops t)=true:=fun o t hg=>by unfold Region.wanted;rw [hg]
  refine zfW (w1 o1 _ hg1) (zlv (fun c hc=>by rw [ho1] at hc;cases hc) ?_);unfold Oper.wp;rw [r1,qa];refine hcall.mono fun e wm ⟨v1,he,hc⟩=>?_
  subst he;rw [hd1];refine zfW (w1 o2 _ hg2) (zlv (fun c hc=>by rw [ho2] at hc;cases hc) ?_);have vO:d1<a0.tmps.size:=by rw [hB.size,hn];exact zeI n1 d1 rfl
  have e1:(a0.put (some d1) v1).eval (.tmp d1)=v1:=zbF vO;have r2:(execOp (a0.put (some d1) v1).eval o2).run P wm= .ok (.enter fs #[(a0.put (some d1) v1).eval (.tmp d1)]) wm:=by simp [execOp,ho2,resolve,Act.eval,Deferred.ofValue,invoke,hc2]
  rw [e1] at r2;unfold Oper.wp;rw [r2,qa];refine hc.mono fun e w2 ⟨v,he,hbel,hrow⟩=>?_
  subst he;rw [hd2];have ht:Tr [] [ℓ] γ w (zbI γ w.heap.size ℓ (v.ownBlock.getD 0)) w2:=⟨hbel.os,hbel.tape,hbel.output,hbel.size,fun b hb _=>hbel.block b hb,fun b hb=>by simp [zbI,hb],fun k hk=>by
    simp only [xq,xE,xF] at hk;simp [zbI,hk],fun b h1 _ h0=>by simp [zbI,Nat.not_lt.2 h1] at h0;omega⟩
  refine k cx _ _ Q hn ⟨zbI γ w.heap.size ℓ (v.ownBlock.getD 0),((hB.tr ht rfl (by simp [okW,n3])).put _ _ (by rw [hn];exact zdd n1)).put _ _ (by rw [hn];exact zdd n2),?_,hX.tr ht⟩ hQ;refine (Sl.drop (hS.tr ht) (some d1) v1).put (fun k hk=>by rw [zjK,hB.size,hn];exact zeI n2 k hk) ?_;have vF:((m.map Prod.fst).mergeSort fun x y=>decide (x<=y)).length=(m.map Prod.fst).length:=by simp
  refine ⟨_,by rw [vF];exact ownsRow_base_a hrow (xB _),fun g hg=>?_,?_,by simp⟩
  · have h1:=(hrow.lt g hg).1;simp [zbI,Nat.not_lt.2 h1,hg]
  · rw [ztX];refine ⟨by simp,fun i l u h1 h2=>?_⟩;rw [qj] at h1;rw [qj] at h2;cases hz:((m.map Prod.fst).mergeSort fun x y=>decide (x<=y))[i]? with
    | none=>rw [hz] at h1;cases h1
    | some z=>
      rw [hz] at h1 h2;cases h1;cases h2;exact .int _ _
end Go.Proofs.YtaglemhabeipfaaGreat

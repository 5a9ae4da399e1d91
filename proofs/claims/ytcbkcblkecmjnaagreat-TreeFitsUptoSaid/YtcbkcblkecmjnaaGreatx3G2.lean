/-
  The Go functions do what the plain functions say. No condition.
-/
import Derived.Test.YtcbkcblkecmjnaaGreatx3T
namespace Go.Proofs.YtcbkcblkecmjnaaGreat
open Go Go.RowKit
set_option linter.unusedVariables false
set_option maxRecDepth 100000
set_option maxHeartbeats 3200000
theorem zif {sv:Str} {r:Bool} (h:zdy sv=some r):FnOk Tryz.prog 69 [kS sv] [kB r]:=by
 refine zC (E:=⟨[(2,kB r)],[]⟩) 55 Tryz.func69 rfl rfl rfl ⟨rfl,trivial⟩ (fun Xt=>?_)
 refine zr ?_
 unfold zdy at h
 refine jp ?_
 refine jp ?_
 refine zz ?_
 obtain ⟨q,h_q,h⟩:=bnd h
 refine zak (fun s:Int=>zaL sv s) (fun s=>⟨[(0,kS sv),(3,kI s)],[]⟩) (fun o e a w=>match o with| (.inl v_)=>e= .exit 0∧Sx ⟨⟨55,[]⟩,Xt,false,#[]⟩ ⟨[(0,kS sv)],[]⟩ a w| (.inr v_)=>e= .ret∧Sx ⟨⟨55,[]⟩,Xt,false,#[]⟩ ⟨[(2,kB false)],[]⟩ a w) ?_ h_q lzz ?_
 ·
  clear h
  intro i o h
  refine zr ?_
  replace h:zaL sv i=some o:=h
  unfold zaL at h
  refine jp ?_
  rcases zn h with ⟨hc1,h⟩| ⟨hc1,h⟩
  ·
   refine jT hc1 ?_
   refine zz ?_
   obtain ⟨c,h_c,h⟩:=bnd h
   refine jr (ra 2 [kS sv,kI i] rfl (zvv rfl Tryz.underlying9 h_c) rfl rf) ?_
   refine zS ⟨[(0,kS sv),(3,kI i),(5,kB (if (decide ((c.toNat:Int)≥65)) then ((decide ((c.toNat:Int)≤90))|| (if (decide ((c.toNat:Int)≥97)) then ((decide ((c.toNat:Int)≤122))|| (((c.toNat:Int)==95)|| ((decide (i>0))&&((decide ((c.toNat:Int)≥48))&&(decide ((c.toNat:Int)≤57)))))) else (((c.toNat:Int)==95)|| ((decide (i>0))&&((decide ((c.toNat:Int)≥48))&&(decide ((c.toNat:Int)≤57))))))) else (if (decide ((c.toNat:Int)≥97)) then ((decide ((c.toNat:Int)≤122))|| (((c.toNat:Int)==95)|| ((decide (i>0))&&((decide ((c.toNat:Int)≥48))&&(decide ((c.toNat:Int)≤57)))))) else (((c.toNat:Int)==95)|| ((decide (i>0))&&((decide ((c.toNat:Int)≥48))&&(decide ((c.toNat:Int)≤57))))))))],[]⟩ ?_ ?_
   ·
    refine (rsl 3 [] 17 (decide ((c.toNat:Int)≥65)) (fun hc2=>?_) (fun hc2=>?_))
    ·
     refine (rsl 4 [] 21 (decide ((c.toNat:Int)≤90)) (fun hc3=>?_) (fun hc3=>?_))
     · exact (rbl [] 5 true (if (decide ((c.toNat:Int)≥65)) then ((decide ((c.toNat:Int)≤90))|| (if (decide ((c.toNat:Int)≥97)) then ((decide ((c.toNat:Int)≤122))|| (((c.toNat:Int)==95)|| ((decide (i>0))&&((decide ((c.toNat:Int)≥48))&&(decide ((c.toNat:Int)≤57)))))) else (((c.toNat:Int)==95)|| ((decide (i>0))&&((decide ((c.toNat:Int)≥48))&&(decide ((c.toNat:Int)≤57))))))) else (if (decide ((c.toNat:Int)≥97)) then ((decide ((c.toNat:Int)≤122))|| (((c.toNat:Int)==95)|| ((decide (i>0))&&((decide ((c.toNat:Int)≥48))&&(decide ((c.toNat:Int)≤57)))))) else (((c.toNat:Int)==95)|| ((decide (i>0))&&((decide ((c.toNat:Int)≥48))&&(decide ((c.toNat:Int)≤57))))))) (by rw [hc2,hc3]<;>rfl))
     refine (rsl 3 [] 24 (decide ((c.toNat:Int)≥97)) (fun hc4=>?_) (fun hc4=>?_))
     ·
      refine (rsl 5 [] 29 (decide ((c.toNat:Int)≤122)) (fun hc5=>?_) (fun hc5=>?_))
      · exact (rbl [] 5 true (if (decide ((c.toNat:Int)≥65)) then ((decide ((c.toNat:Int)≤90))|| (if (decide ((c.toNat:Int)≥97)) then ((decide ((c.toNat:Int)≤122))|| (((c.toNat:Int)==95)|| ((decide (i>0))&&((decide ((c.toNat:Int)≥48))&&(decide ((c.toNat:Int)≤57)))))) else (((c.toNat:Int)==95)|| ((decide (i>0))&&((decide ((c.toNat:Int)≥48))&&(decide ((c.toNat:Int)≤57))))))) else (if (decide ((c.toNat:Int)≥97)) then ((decide ((c.toNat:Int)≤122))|| (((c.toNat:Int)==95)|| ((decide (i>0))&&((decide ((c.toNat:Int)≥48))&&(decide ((c.toNat:Int)≤57)))))) else (((c.toNat:Int)==95)|| ((decide (i>0))&&((decide ((c.toNat:Int)≥48))&&(decide ((c.toNat:Int)≤57))))))) (by rw [hc2,hc3,hc4,hc5]<;>rfl))
      refine (rsl 4 [] 33 ((c.toNat:Int)==95) (fun hc6=>?_) (fun hc6=>?_))
      · exact (rbl [] 5 true (if (decide ((c.toNat:Int)≥65)) then ((decide ((c.toNat:Int)≤90))|| (if (decide ((c.toNat:Int)≥97)) then ((decide ((c.toNat:Int)≤122))|| (((c.toNat:Int)==95)|| ((decide (i>0))&&((decide ((c.toNat:Int)≥48))&&(decide ((c.toNat:Int)≤57)))))) else (((c.toNat:Int)==95)|| ((decide (i>0))&&((decide ((c.toNat:Int)≥48))&&(decide ((c.toNat:Int)≤57))))))) else (if (decide ((c.toNat:Int)≥97)) then ((decide ((c.toNat:Int)≤122))|| (((c.toNat:Int)==95)|| ((decide (i>0))&&((decide ((c.toNat:Int)≥48))&&(decide ((c.toNat:Int)≤57)))))) else (((c.toNat:Int)==95)|| ((decide (i>0))&&((decide ((c.toNat:Int)≥48))&&(decide ((c.toNat:Int)≤57))))))) (by rw [hc2,hc3,hc4,hc5,hc6]<;>rfl))
      refine (rsl 3 [] 36 (decide (i>0)) (fun hc7=>?_) (fun hc7=>?_))
      ·
       refine (rsl 4 [] 40 (decide ((c.toNat:Int)≥48)) (fun hc8=>?_) (fun hc8=>?_))
       · exact (rbl [] 5 (decide ((c.toNat:Int)≤57)) (if (decide ((c.toNat:Int)≥65)) then ((decide ((c.toNat:Int)≤90))|| (if (decide ((c.toNat:Int)≥97)) then ((decide ((c.toNat:Int)≤122))|| (((c.toNat:Int)==95)|| ((decide (i>0))&&((decide ((c.toNat:Int)≥48))&&(decide ((c.toNat:Int)≤57)))))) else (((c.toNat:Int)==95)|| ((decide (i>0))&&((decide ((c.toNat:Int)≥48))&&(decide ((c.toNat:Int)≤57))))))) else (if (decide ((c.toNat:Int)≥97)) then ((decide ((c.toNat:Int)≤122))|| (((c.toNat:Int)==95)|| ((decide (i>0))&&((decide ((c.toNat:Int)≥48))&&(decide ((c.toNat:Int)≤57)))))) else (((c.toNat:Int)==95)|| ((decide (i>0))&&((decide ((c.toNat:Int)≥48))&&(decide ((c.toNat:Int)≤57))))))) (by rw [hc2,hc3,hc4,hc5,hc6,hc7,hc8]<;>rfl))
       exact (rbl [] 5 false (if (decide ((c.toNat:Int)≥65)) then ((decide ((c.toNat:Int)≤90))|| (if (decide ((c.toNat:Int)≥97)) then ((decide ((c.toNat:Int)≤122))|| (((c.toNat:Int)==95)|| ((decide (i>0))&&((decide ((c.toNat:Int)≥48))&&(decide ((c.toNat:Int)≤57)))))) else (((c.toNat:Int)==95)|| ((decide (i>0))&&((decide ((c.toNat:Int)≥48))&&(decide ((c.toNat:Int)≤57))))))) else (if (decide ((c.toNat:Int)≥97)) then ((decide ((c.toNat:Int)≤122))|| (((c.toNat:Int)==95)|| ((decide (i>0))&&((decide ((c.toNat:Int)≥48))&&(decide ((c.toNat:Int)≤57)))))) else (((c.toNat:Int)==95)|| ((decide (i>0))&&((decide ((c.toNat:Int)≥48))&&(decide ((c.toNat:Int)≤57))))))) (by rw [hc2,hc3,hc4,hc5,hc6,hc7,hc8]<;>rfl))
      exact (rbl [] 5 false (if (decide ((c.toNat:Int)≥65)) then ((decide ((c.toNat:Int)≤90))|| (if (decide ((c.toNat:Int)≥97)) then ((decide ((c.toNat:Int)≤122))|| (((c.toNat:Int)==95)|| ((decide (i>0))&&((decide ((c.toNat:Int)≥48))&&(decide ((c.toNat:Int)≤57)))))) else (((c.toNat:Int)==95)|| ((decide (i>0))&&((decide ((c.toNat:Int)≥48))&&(decide ((c.toNat:Int)≤57))))))) else (if (decide ((c.toNat:Int)≥97)) then ((decide ((c.toNat:Int)≤122))|| (((c.toNat:Int)==95)|| ((decide (i>0))&&((decide ((c.toNat:Int)≥48))&&(decide ((c.toNat:Int)≤57)))))) else (((c.toNat:Int)==95)|| ((decide (i>0))&&((decide ((c.toNat:Int)≥48))&&(decide ((c.toNat:Int)≤57))))))) (by rw [hc2,hc3,hc4,hc5,hc6,hc7]<;>rfl))
     refine (rsl 9 [] 33 ((c.toNat:Int)==95) (fun hc9=>?_) (fun hc9=>?_))
     · exact (rbl [] 5 true (if (decide ((c.toNat:Int)≥65)) then ((decide ((c.toNat:Int)≤90))|| (if (decide ((c.toNat:Int)≥97)) then ((decide ((c.toNat:Int)≤122))|| (((c.toNat:Int)==95)|| ((decide (i>0))&&((decide ((c.toNat:Int)≥48))&&(decide ((c.toNat:Int)≤57)))))) else (((c.toNat:Int)==95)|| ((decide (i>0))&&((decide ((c.toNat:Int)≥48))&&(decide ((c.toNat:Int)≤57))))))) else (if (decide ((c.toNat:Int)≥97)) then ((decide ((c.toNat:Int)≤122))|| (((c.toNat:Int)==95)|| ((decide (i>0))&&((decide ((c.toNat:Int)≥48))&&(decide ((c.toNat:Int)≤57)))))) else (((c.toNat:Int)==95)|| ((decide (i>0))&&((decide ((c.toNat:Int)≥48))&&(decide ((c.toNat:Int)≤57))))))) (by rw [hc2,hc3,hc4,hc9]<;>rfl))
     refine (rsl 3 [] 36 (decide (i>0)) (fun hc10=>?_) (fun hc10=>?_))
     ·
      refine (rsl 4 [] 40 (decide ((c.toNat:Int)≥48)) (fun hc11=>?_) (fun hc11=>?_))
      · exact (rbl [] 5 (decide ((c.toNat:Int)≤57)) (if (decide ((c.toNat:Int)≥65)) then ((decide ((c.toNat:Int)≤90))|| (if (decide ((c.toNat:Int)≥97)) then ((decide ((c.toNat:Int)≤122))|| (((c.toNat:Int)==95)|| ((decide (i>0))&&((decide ((c.toNat:Int)≥48))&&(decide ((c.toNat:Int)≤57)))))) else (((c.toNat:Int)==95)|| ((decide (i>0))&&((decide ((c.toNat:Int)≥48))&&(decide ((c.toNat:Int)≤57))))))) else (if (decide ((c.toNat:Int)≥97)) then ((decide ((c.toNat:Int)≤122))|| (((c.toNat:Int)==95)|| ((decide (i>0))&&((decide ((c.toNat:Int)≥48))&&(decide ((c.toNat:Int)≤57)))))) else (((c.toNat:Int)==95)|| ((decide (i>0))&&((decide ((c.toNat:Int)≥48))&&(decide ((c.toNat:Int)≤57))))))) (by rw [hc2,hc3,hc4,hc9,hc10,hc11]<;>rfl))
      exact (rbl [] 5 false (if (decide ((c.toNat:Int)≥65)) then ((decide ((c.toNat:Int)≤90))|| (if (decide ((c.toNat:Int)≥97)) then ((decide ((c.toNat:Int)≤122))|| (((c.toNat:Int)==95)|| ((decide (i>0))&&((decide ((c.toNat:Int)≥48))&&(decide ((c.toNat:Int)≤57)))))) else (((c.toNat:Int)==95)|| ((decide (i>0))&&((decide ((c.toNat:Int)≥48))&&(decide ((c.toNat:Int)≤57))))))) else (if (decide ((c.toNat:Int)≥97)) then ((decide ((c.toNat:Int)≤122))|| (((c.toNat:Int)==95)|| ((decide (i>0))&&((decide ((c.toNat:Int)≥48))&&(decide ((c.toNat:Int)≤57)))))) else (((c.toNat:Int)==95)|| ((decide (i>0))&&((decide ((c.toNat:Int)≥48))&&(decide ((c.toNat:Int)≤57))))))) (by rw [hc2,hc3,hc4,hc9,hc10,hc11]<;>rfl))
     exact (rbl [] 5 false (if (decide ((c.toNat:Int)≥65)) then ((decide ((c.toNat:Int)≤90))|| (if (decide ((c.toNat:Int)≥97)) then ((decide ((c.toNat:Int)≤122))|| (((c.toNat:Int)==95)|| ((decide (i>0))&&((decide ((c.toNat:Int)≥48))&&(decide ((c.toNat:Int)≤57)))))) else (((c.toNat:Int)==95)|| ((decide (i>0))&&((decide ((c.toNat:Int)≥48))&&(decide ((c.toNat:Int)≤57))))))) else (if (decide ((c.toNat:Int)≥97)) then ((decide ((c.toNat:Int)≤122))|| (((c.toNat:Int)==95)|| ((decide (i>0))&&((decide ((c.toNat:Int)≥48))&&(decide ((c.toNat:Int)≤57)))))) else (((c.toNat:Int)==95)|| ((decide (i>0))&&((decide ((c.toNat:Int)≥48))&&(decide ((c.toNat:Int)≤57))))))) (by rw [hc2,hc3,hc4,hc9,hc10]<;>rfl))
    refine (rsl 7 [] 24 (decide ((c.toNat:Int)≥97)) (fun hc12=>?_) (fun hc12=>?_))
    ·
     refine (rsl 5 [] 29 (decide ((c.toNat:Int)≤122)) (fun hc13=>?_) (fun hc13=>?_))
     · exact (rbl [] 5 true (if (decide ((c.toNat:Int)≥65)) then ((decide ((c.toNat:Int)≤90))|| (if (decide ((c.toNat:Int)≥97)) then ((decide ((c.toNat:Int)≤122))|| (((c.toNat:Int)==95)|| ((decide (i>0))&&((decide ((c.toNat:Int)≥48))&&(decide ((c.toNat:Int)≤57)))))) else (((c.toNat:Int)==95)|| ((decide (i>0))&&((decide ((c.toNat:Int)≥48))&&(decide ((c.toNat:Int)≤57))))))) else (if (decide ((c.toNat:Int)≥97)) then ((decide ((c.toNat:Int)≤122))|| (((c.toNat:Int)==95)|| ((decide (i>0))&&((decide ((c.toNat:Int)≥48))&&(decide ((c.toNat:Int)≤57)))))) else (((c.toNat:Int)==95)|| ((decide (i>0))&&((decide ((c.toNat:Int)≥48))&&(decide ((c.toNat:Int)≤57))))))) (by rw [hc2,hc12,hc13]<;>rfl))
     refine (rsl 4 [] 33 ((c.toNat:Int)==95) (fun hc14=>?_) (fun hc14=>?_))
     · exact (rbl [] 5 true (if (decide ((c.toNat:Int)≥65)) then ((decide ((c.toNat:Int)≤90))|| (if (decide ((c.toNat:Int)≥97)) then ((decide ((c.toNat:Int)≤122))|| (((c.toNat:Int)==95)|| ((decide (i>0))&&((decide ((c.toNat:Int)≥48))&&(decide ((c.toNat:Int)≤57)))))) else (((c.toNat:Int)==95)|| ((decide (i>0))&&((decide ((c.toNat:Int)≥48))&&(decide ((c.toNat:Int)≤57))))))) else (if (decide ((c.toNat:Int)≥97)) then ((decide ((c.toNat:Int)≤122))|| (((c.toNat:Int)==95)|| ((decide (i>0))&&((decide ((c.toNat:Int)≥48))&&(decide ((c.toNat:Int)≤57)))))) else (((c.toNat:Int)==95)|| ((decide (i>0))&&((decide ((c.toNat:Int)≥48))&&(decide ((c.toNat:Int)≤57))))))) (by rw [hc2,hc12,hc13,hc14]<;>rfl))
     refine (rsl 3 [] 36 (decide (i>0)) (fun hc15=>?_) (fun hc15=>?_))
     ·
      refine (rsl 4 [] 40 (decide ((c.toNat:Int)≥48)) (fun hc16=>?_) (fun hc16=>?_))
      · exact (rbl [] 5 (decide ((c.toNat:Int)≤57)) (if (decide ((c.toNat:Int)≥65)) then ((decide ((c.toNat:Int)≤90))|| (if (decide ((c.toNat:Int)≥97)) then ((decide ((c.toNat:Int)≤122))|| (((c.toNat:Int)==95)|| ((decide (i>0))&&((decide ((c.toNat:Int)≥48))&&(decide ((c.toNat:Int)≤57)))))) else (((c.toNat:Int)==95)|| ((decide (i>0))&&((decide ((c.toNat:Int)≥48))&&(decide ((c.toNat:Int)≤57))))))) else (if (decide ((c.toNat:Int)≥97)) then ((decide ((c.toNat:Int)≤122))|| (((c.toNat:Int)==95)|| ((decide (i>0))&&((decide ((c.toNat:Int)≥48))&&(decide ((c.toNat:Int)≤57)))))) else (((c.toNat:Int)==95)|| ((decide (i>0))&&((decide ((c.toNat:Int)≥48))&&(decide ((c.toNat:Int)≤57))))))) (by rw [hc2,hc12,hc13,hc14,hc15,hc16]<;>rfl))
      exact (rbl [] 5 false (if (decide ((c.toNat:Int)≥65)) then ((decide ((c.toNat:Int)≤90))|| (if (decide ((c.toNat:Int)≥97)) then ((decide ((c.toNat:Int)≤122))|| (((c.toNat:Int)==95)|| ((decide (i>0))&&((decide ((c.toNat:Int)≥48))&&(decide ((c.toNat:Int)≤57)))))) else (((c.toNat:Int)==95)|| ((decide (i>0))&&((decide ((c.toNat:Int)≥48))&&(decide ((c.toNat:Int)≤57))))))) else (if (decide ((c.toNat:Int)≥97)) then ((decide ((c.toNat:Int)≤122))|| (((c.toNat:Int)==95)|| ((decide (i>0))&&((decide ((c.toNat:Int)≥48))&&(decide ((c.toNat:Int)≤57)))))) else (((c.toNat:Int)==95)|| ((decide (i>0))&&((decide ((c.toNat:Int)≥48))&&(decide ((c.toNat:Int)≤57))))))) (by rw [hc2,hc12,hc13,hc14,hc15,hc16]<;>rfl))
     exact (rbl [] 5 false (if (decide ((c.toNat:Int)≥65)) then ((decide ((c.toNat:Int)≤90))|| (if (decide ((c.toNat:Int)≥97)) then ((decide ((c.toNat:Int)≤122))|| (((c.toNat:Int)==95)|| ((decide (i>0))&&((decide ((c.toNat:Int)≥48))&&(decide ((c.toNat:Int)≤57)))))) else (((c.toNat:Int)==95)|| ((decide (i>0))&&((decide ((c.toNat:Int)≥48))&&(decide ((c.toNat:Int)≤57))))))) else (if (decide ((c.toNat:Int)≥97)) then ((decide ((c.toNat:Int)≤122))|| (((c.toNat:Int)==95)|| ((decide (i>0))&&((decide ((c.toNat:Int)≥48))&&(decide ((c.toNat:Int)≤57)))))) else (((c.toNat:Int)==95)|| ((decide (i>0))&&((decide ((c.toNat:Int)≥48))&&(decide ((c.toNat:Int)≤57))))))) (by rw [hc2,hc12,hc13,hc14,hc15]<;>rfl))
    refine (rsl 9 [] 33 ((c.toNat:Int)==95) (fun hc17=>?_) (fun hc17=>?_))
    · exact (rbl [] 5 true (if (decide ((c.toNat:Int)≥65)) then ((decide ((c.toNat:Int)≤90))|| (if (decide ((c.toNat:Int)≥97)) then ((decide ((c.toNat:Int)≤122))|| (((c.toNat:Int)==95)|| ((decide (i>0))&&((decide ((c.toNat:Int)≥48))&&(decide ((c.toNat:Int)≤57)))))) else (((c.toNat:Int)==95)|| ((decide (i>0))&&((decide ((c.toNat:Int)≥48))&&(decide ((c.toNat:Int)≤57))))))) else (if (decide ((c.toNat:Int)≥97)) then ((decide ((c.toNat:Int)≤122))|| (((c.toNat:Int)==95)|| ((decide (i>0))&&((decide ((c.toNat:Int)≥48))&&(decide ((c.toNat:Int)≤57)))))) else (((c.toNat:Int)==95)|| ((decide (i>0))&&((decide ((c.toNat:Int)≥48))&&(decide ((c.toNat:Int)≤57))))))) (by rw [hc2,hc12,hc17]<;>rfl))
    refine (rsl 3 [] 36 (decide (i>0)) (fun hc18=>?_) (fun hc18=>?_))
    ·
     refine (rsl 4 [] 40 (decide ((c.toNat:Int)≥48)) (fun hc19=>?_) (fun hc19=>?_))
     · exact (rbl [] 5 (decide ((c.toNat:Int)≤57)) (if (decide ((c.toNat:Int)≥65)) then ((decide ((c.toNat:Int)≤90))|| (if (decide ((c.toNat:Int)≥97)) then ((decide ((c.toNat:Int)≤122))|| (((c.toNat:Int)==95)|| ((decide (i>0))&&((decide ((c.toNat:Int)≥48))&&(decide ((c.toNat:Int)≤57)))))) else (((c.toNat:Int)==95)|| ((decide (i>0))&&((decide ((c.toNat:Int)≥48))&&(decide ((c.toNat:Int)≤57))))))) else (if (decide ((c.toNat:Int)≥97)) then ((decide ((c.toNat:Int)≤122))|| (((c.toNat:Int)==95)|| ((decide (i>0))&&((decide ((c.toNat:Int)≥48))&&(decide ((c.toNat:Int)≤57)))))) else (((c.toNat:Int)==95)|| ((decide (i>0))&&((decide ((c.toNat:Int)≥48))&&(decide ((c.toNat:Int)≤57))))))) (by rw [hc2,hc12,hc17,hc18,hc19]<;>rfl))
     exact (rbl [] 5 false (if (decide ((c.toNat:Int)≥65)) then ((decide ((c.toNat:Int)≤90))|| (if (decide ((c.toNat:Int)≥97)) then ((decide ((c.toNat:Int)≤122))|| (((c.toNat:Int)==95)|| ((decide (i>0))&&((decide ((c.toNat:Int)≥48))&&(decide ((c.toNat:Int)≤57)))))) else (((c.toNat:Int)==95)|| ((decide (i>0))&&((decide ((c.toNat:Int)≥48))&&(decide ((c.toNat:Int)≤57))))))) else (if (decide ((c.toNat:Int)≥97)) then ((decide ((c.toNat:Int)≤122))|| (((c.toNat:Int)==95)|| ((decide (i>0))&&((decide ((c.toNat:Int)≥48))&&(decide ((c.toNat:Int)≤57)))))) else (((c.toNat:Int)==95)|| ((decide (i>0))&&((decide ((c.toNat:Int)≥48))&&(decide ((c.toNat:Int)≤57))))))) (by rw [hc2,hc12,hc17,hc18,hc19]<;>rfl))
    exact (rbl [] 5 false (if (decide ((c.toNat:Int)≥65)) then ((decide ((c.toNat:Int)≤90))|| (if (decide ((c.toNat:Int)≥97)) then ((decide ((c.toNat:Int)≤122))|| (((c.toNat:Int)==95)|| ((decide (i>0))&&((decide ((c.toNat:Int)≥48))&&(decide ((c.toNat:Int)≤57)))))) else (((c.toNat:Int)==95)|| ((decide (i>0))&&((decide ((c.toNat:Int)≥48))&&(decide ((c.toNat:Int)≤57))))))) else (if (decide ((c.toNat:Int)≥97)) then ((decide ((c.toNat:Int)≤122))|| (((c.toNat:Int)==95)|| ((decide (i>0))&&((decide ((c.toNat:Int)≥48))&&(decide ((c.toNat:Int)≤57)))))) else (((c.toNat:Int)==95)|| ((decide (i>0))&&((decide ((c.toNat:Int)≥48))&&(decide ((c.toNat:Int)≤57))))))) (by rw [hc2,hc12,hc17,hc18]<;>rfl))
   refine jp ?_
   rcases zn h with ⟨hc20,h⟩| ⟨hc20,h⟩
   ·
    refine jT hc20 ?_
    refine jp ?_
    obtain rfl:=sj h
    exact zbr lzz
   refine jF hc20 ?_
   refine zX ?_
   refine jp ?_
   obtain rfl:=sj h
   exact zG lzz
  refine jF hc1 ?_
  obtain rfl:=sj h
  exact zal rfl lzz
 rcases q with u| u2
 ·
  refine zaM _ rfl ?_
  refine zS ⟨[(2,kB ((decide ((sv.length:Int)≥1))&&(decide ((sv.length:Int)≤60))))],[]⟩ ?_ ?_
  ·
   refine (rsl 4 [] 50 (decide ((sv.length:Int)≥1)) (fun hc21=>?_) (fun hc21=>?_))
   · exact (rbl [] 2 (decide ((sv.length:Int)≤60)) ((decide ((sv.length:Int)≥1))&&(decide ((sv.length:Int)≤60))) (by rw [hc21]<;>rfl))
   exact (rbl [] 2 false ((decide ((sv.length:Int)≥1))&&(decide ((sv.length:Int)≤60))) (by rw [hc21]<;>rfl))
  obtain rfl:=sj h
  exact zy lzz
 obtain rfl:=sj h
 exact zdr lzz
theorem zfG {k:Int} {r:Bool} (h:zbD k=some r):FnOk Tryz.prog 54 [kI k] [kB r]:=by
 refine zC (E:=⟨[(2,kB r)],[]⟩) 9 Tryz.func54 rfl rfl rfl ⟨rfl,trivial⟩ (fun Xt=>?_)
 refine zr ?_
 unfold zbD at h
 refine jp ?_
 refine zS ⟨[(2,kB ((decide (k≥1))&&(decide (k≤17))))],[]⟩ ?_ ?_
 ·
  refine (rsl 3 [] 5 (decide (k≥1)) (fun hc1=>?_) (fun hc1=>?_))
  · exact (rbl [] 2 (decide (k≤17)) ((decide (k≥1))&&(decide (k≤17))) (by rw [hc1]<;>rfl))
  exact (rbl [] 2 false ((decide (k≥1))&&(decide (k≤17))) (by rw [hc1]<;>rfl))
 obtain rfl:=sj h
 exact zy lzz
theorem zfl {k:Int} {r:Bool} (h:zbX k=some r):FnOk Tryz.prog 39 [kI k] [kB r]:=by
 refine zC (E:=⟨[(2,kB r)],[]⟩) 9 Tryz.func39 rfl rfl rfl ⟨rfl,trivial⟩ (fun Xt=>?_)
 refine zr ?_
 unfold zbX at h
 refine jp ?_
 refine zS ⟨[(2,kB ((decide (k≥1))&&(decide (k≤14))))],[]⟩ ?_ ?_
 ·
  refine (rsl 3 [] 5 (decide (k≥1)) (fun hc1=>?_) (fun hc1=>?_))
  · exact (rbl [] 2 (decide (k≤14)) ((decide (k≥1))&&(decide (k≤14))) (by rw [hc1]<;>rfl))
  exact (rbl [] 2 false ((decide (k≥1))&&(decide (k≤14))) (by rw [hc1]<;>rfl))
 obtain rfl:=sj h
 exact zy lzz
theorem zfQ {b:(List UInt8)} {atv:Int} {r:(Int×Int×Int)} (h:zcO b atv=some r):FnOk Tryz.prog 68 [.sl Rp.byte [0] b,kI atv] [kU r.1,kI r.2.1,kI r.2.2]:=by
 refine zC (E:=⟨[(4,kU r.1),(5,kI r.2.1),(6,kI r.2.2)],[]⟩) 69 Tryz.func68 rfl rfl rfl ⟨rfl,rfl,rfl,trivial⟩ (fun Xt=>?_)
 refine zr ?_
 unfold zcO at h
 refine jp ?_
 refine jp ?_
 refine zz ?_
 obtain ⟨q,h_q,h⟩:=bnd h
 refine zak (fun s:Int=>zay atv b s) (fun s=>⟨[(0,.sl Rp.byte [0] b),(1,kI atv),(7,kI s)],[]⟩) (fun o e a w=>e= .exit 0∧Sx ⟨⟨69,[]⟩,Xt,false,#[]⟩ ⟨[(0,.sl Rp.byte [0] b),(1,kI atv),(7,kI o)],[]⟩ a w) ?_ h_q lzz ?_
 ·
  clear h
  intro n o h
  refine zr ?_
  replace h:zay atv b n=some o:=h
  unfold zay at h
  obtain ⟨g,h_g,h⟩:=bnd h
  refine zS ⟨[(0,.sl Rp.byte [0] b),(1,kI atv),(7,kI n),(28,kB g)],[]⟩ ?_ ?_
  ·
   refine (rsl 7 [] 16 (decide ((IntKind.i64.wrap (atv+n))<(b.length:Int))) (fun hc1=>?_) (fun hc1=>?_))
   ·
    replace h_g:=iteT h_g hc1
    refine (rsl 4 [] 20 (decide (n<10)) (fun hc2=>?_) (fun hc2=>?_))
    ·
     replace h_g:=iteT h_g hc2
     obtain ⟨x,h_x,h_g⟩:=bnd h_g
     obtain rfl:=sj h_g
     exact (ra 4 [.sl Rp.byte [0] b,kI (IntKind.i64.wrap (atv+n))] rfl (zar rfl zdD.el (zI _ _ _) h_x) rfl rgg)
    replace h_g:=iteF h_g hc2
    obtain rfl:=sj h_g
    exact rgg
   replace h_g:=iteF h_g hc1
   obtain rfl:=sj h_g
   exact rgg
  rcases zn h with ⟨hc3,h⟩| ⟨hc3,h⟩
  ·
   refine jT hc3 ?_
   refine zz ?_
   refine jp ?_
   refine zX ?_
   obtain rfl:=sj h
   exact zG lzz
  refine jF hc3 ?_
  obtain rfl:=sj h
  exact zal rfl lzz
 refine zaM _ rfl ?_
 refine jp ?_
 rcases zn h with ⟨hc4,h⟩| ⟨hc4,h⟩
 ·
  refine jT hc4 ?_
  refine jp ?_
  obtain rfl:=sj h
  exact zy lzz
 refine jF hc4 ?_
 refine jp ?_
 rcases zn h with ⟨hc5,h⟩| ⟨hc5,h⟩
 ·
  refine jT hc5 ?_
  refine jp ?_
  obtain rfl:=sj h
  exact zy lzz
 refine jF hc5 ?_
 obtain ⟨g2,h_g2,h⟩:=bnd h
 refine zS ⟨[(0,.sl Rp.byte [0] b),(1,kI atv),(7,kI q),(49,kB g2)],[]⟩ ?_ ?_
 ·
  refine (rsl 3 [] 41 (q==9) (fun hc6=>?_) (fun hc6=>?_))
  ·
   replace h_g2:=iteT h_g2 hc6
   obtain ⟨x2,h_x2,h_g2⟩:=bnd h_g2
   obtain rfl:=sj h_g2
   exact (ra 4 [.sl Rp.byte [0] b,kI (IntKind.i64.wrap (atv+q))] rfl (zar rfl zdD.el (zI _ _ _) h_x2) rfl rgg)
  replace h_g2:=iteF h_g2 hc6
  obtain rfl:=sj h_g2
  exact rgg
 rcases zn h with ⟨hc7,h⟩| ⟨hc7,h⟩
 ·
  refine jT hc7 ?_
  refine jp ?_
  obtain rfl:=sj h
  exact zy lzz
 refine jF hc7 ?_
 refine jp ?_
 refine jp ?_
 refine zz ?_
 obtain ⟨q2,h_q2,h⟩:=bnd h
 refine zak (fun s:(Int×Int)=>zaV atv b s.1 s.2) (fun s=>⟨[(0,.sl Rp.byte [0] b),(1,kI atv),(7,kI q),(8,kU s.1),(9,kI s.2)],[]⟩) (fun o e a w=>e= .exit 2∧Sx ⟨⟨69,[]⟩,Xt,false,#[]⟩ ⟨[(7,kI q),(8,kU o)],[]⟩ a w) ?_ h_q2 lzz ?_
 ·
  clear h
  intro s o h
  obtain ⟨wv,i⟩:=s
  refine zr ?_
  replace h:zaV atv b wv i=some o:=h
  unfold zaV at h
  refine jp ?_
  rcases zn h with ⟨hc8,h⟩| ⟨hc8,h⟩
  ·
   refine jT hc8 ?_
   refine zz ?_
   obtain ⟨x3,h_x3,h⟩:=bnd h
   refine jr (ra 6 [.sl Rp.byte [0] b,kI (IntKind.i64.wrap (atv+i))] rfl (zar rfl zdD.el (zI _ _ _) h_x3) rfl rf) ?_
   refine zX ?_
   refine jp ?_
   obtain rfl:=sj h
   exact zG lzz
  refine jF hc8 ?_
  obtain rfl:=sj h
  exact zal rfl lzz
 refine zaM _ rfl ?_
 refine jp ?_
 obtain rfl:=sj h
 exact zy lzz
theorem zmh {number:Int} {wire:Int} {r:Bool} (h:zdZ number wire=some r):FnOk Tryz.prog 95 [kI number,kI wire] [kB r]:=by
 refine zC (E:=⟨[(4,kB r)],[]⟩) 27 Tryz.func95 rfl rfl rfl ⟨rfl,trivial⟩ (fun Xt=>?_)
 refine zr ?_
 unfold zdZ at h
 refine jp ?_
 refine zS ⟨[(4,kB ((decide (number≥1))&&((decide (number≤536870911))&&((wire==0)|| ((wire==1)|| ((wire==2)|| (wire==5)))))))],[]⟩ ?_ ?_
 ·
  refine (rsl 3 [] 7 (decide (number≥1)) (fun hc1=>?_) (fun hc1=>?_))
  ·
   refine (rsl 4 [] 11 (decide (number≤536870911)) (fun hc2=>?_) (fun hc2=>?_))
   ·
    refine (rsl 3 [] 14 (wire==0) (fun hc3=>?_) (fun hc3=>?_))
    · exact (rbl [] 4 true ((decide (number≥1))&&((decide (number≤536870911))&&((wire==0)|| ((wire==1)|| ((wire==2)|| (wire==5)))))) (by rw [hc1,hc2,hc3]<;>rfl))
    refine (rsl 4 [] 18 (wire==1) (fun hc4=>?_) (fun hc4=>?_))
    · exact (rbl [] 4 true ((decide (number≥1))&&((decide (number≤536870911))&&((wire==0)|| ((wire==1)|| ((wire==2)|| (wire==5)))))) (by rw [hc1,hc2,hc3,hc4]<;>rfl))
    refine (rsl 4 [] 22 (wire==2) (fun hc5=>?_) (fun hc5=>?_))
    · exact (rbl [] 4 true ((decide (number≥1))&&((decide (number≤536870911))&&((wire==0)|| ((wire==1)|| ((wire==2)|| (wire==5)))))) (by rw [hc1,hc2,hc3,hc4,hc5]<;>rfl))
    exact (rbl [] 4 (wire==5) ((decide (number≥1))&&((decide (number≤536870911))&&((wire==0)|| ((wire==1)|| ((wire==2)|| (wire==5)))))) (by rw [hc1,hc2,hc3,hc4,hc5]<;>rfl))
   exact (rbl [] 4 false ((decide (number≥1))&&((decide (number≤536870911))&&((wire==0)|| ((wire==1)|| ((wire==2)|| (wire==5)))))) (by rw [hc1,hc2]<;>rfl))
  exact (rbl [] 4 false ((decide (number≥1))&&((decide (number≤536870911))&&((wire==0)|| ((wire==1)|| ((wire==2)|| (wire==5)))))) (by rw [hc1]<;>rfl))
 obtain rfl:=sj h
 exact zy lzz
theorem zhv {m:zg} {number:Int} {r:Int} (h:zdg m number=some r):FnOk Tryz.prog 44 [.rc zi [0] m,kI number] [kI r]:=by
 refine zC (E:=⟨[(4,kI r)],[]⟩) 22 Tryz.func44 rfl rfl rfl ⟨rfl,trivial⟩ (fun Xt=>?_)
 refine zr ?_
 unfold zdg at h
 refine jr (ra 0 [.rc zi [0] m] rfl (zds 11 [kS m.Name,.sl zb [0] m.Fields] [0] rfl rfl rfl rfl rfl) rfl rf) ?_
 refine jp ?_
 refine zz ?_
 obtain ⟨q,h_q,h⟩:=bnd h
 refine zak (fun s:Int=>zaF m number s) (fun s=>⟨[(1,kI number),(2,.ptr 11 0),(5,kI s)],[⟨11,73,[kS m.Name,.sl zb [0] m.Fields]⟩]⟩) (fun o e a w=>match o with| (.inl v_)=>e= .exit 0∧Sx ⟨⟨22,[]⟩,Xt,false,#[]⟩ ⟨[],[]⟩ a w| (.inr v_)=>e= .ret∧Sx ⟨⟨22,[]⟩,Xt,false,#[]⟩ ⟨[(4,kI v_)],[]⟩ a w) ?_ h_q lzz ?_
 ·
  clear h
  intro i o h
  refine zr ?_
  replace h:zaF m number i=some o:=h
  unfold zaF at h
  refine jp ?_
  rcases zn h with ⟨hc1,h⟩| ⟨hc1,h⟩
  ·
   refine jT hc1 ?_
   refine zz ?_
   obtain ⟨x,h_x,h⟩:=bnd h
   refine jr (ra 3 [.sl zb [0] m.Fields,kI i] rfl (zar rfl ziJ.el (zI _ _ _) h_x) rfl rf) ?_
   rcases zn h with ⟨hc2,h⟩| ⟨hc2,h⟩
   ·
    refine jT hc2 ?_
    refine jp ?_
    obtain rfl:=sj h
    exact zbr lzz
   refine jF hc2 ?_
   refine zX ?_
   refine jp ?_
   obtain rfl:=sj h
   exact zG lzz
  refine jF hc1 ?_
  obtain rfl:=sj h
  exact zal rfl lzz
 rcases q with u| u2
 ·
  refine zaM _ rfl ?_
  refine jp ?_
  obtain rfl:=sj h
  exact zy lzz
 obtain rfl:=sj h
 exact zdr lzz
theorem znK {rv:Int} {r:(List UInt8)} (h:zeZ rv=some r):FnOk Tryz.prog 132 [kI rv] [.own Rp.byte 5 2 [] r]:=by
 refine zC (E:=⟨[(2,.own Rp.byte 5 2 [] r)],[]⟩) 68 Tryz.func132 rfl rfl rfl ⟨rfl,trivial⟩ (fun Xt=>?_)
 refine zr ?_
 unfold zeZ at h
 refine jp ?_
 refine zS ⟨[(0,kI rv),(16,kB ((decide (rv<0))|| ((decide (rv>1114111))|| ((decide (rv≥55296))&&(decide (rv≤57343))))))],[]⟩ ?_ ?_
 ·
  refine (rsl 3 [] 5 (decide (rv<0)) (fun hc1=>?_) (fun hc1=>?_))
  · exact (rbl [] 16 true ((decide (rv<0))|| ((decide (rv>1114111))|| ((decide (rv≥55296))&&(decide (rv≤57343))))) (by rw [hc1]<;>rfl))
  refine (rsl 4 [] 9 (decide (rv>1114111)) (fun hc2=>?_) (fun hc2=>?_))
  · exact (rbl [] 16 true ((decide (rv<0))|| ((decide (rv>1114111))|| ((decide (rv≥55296))&&(decide (rv≤57343))))) (by rw [hc1,hc2]<;>rfl))
  refine (rsl 3 [] 12 (decide (rv≥55296)) (fun hc3=>?_) (fun hc3=>?_))
  · exact (rbl [] 16 (decide (rv≤57343)) ((decide (rv<0))|| ((decide (rv>1114111))|| ((decide (rv≥55296))&&(decide (rv≤57343))))) (by rw [hc1,hc2,hc3]<;>rfl))
  exact (rbl [] 16 false ((decide (rv<0))|| ((decide (rv>1114111))|| ((decide (rv≥55296))&&(decide (rv≤57343))))) (by rw [hc1,hc2,hc3]<;>rfl))
 rcases zn h with ⟨hc4,h⟩| ⟨hc4,h⟩
 ·
  refine jT hc4 ?_
  refine jp ?_
  obtain rfl:=sj h
  refine zy ?_
  refine zbU ⟨[(2,kN)],[]⟩ (by kernel_rfl) ?_
  refine zdM 2 (.own Rp.byte 5 2 [] ([]:(List UInt8))) rfl (zbE Rp.byte 5 2 [] rfl) ?_
  exact lzz
 refine jF hc4 ?_
 refine jp ?_
 rcases zn h with ⟨hc5,h⟩| ⟨hc5,h⟩
 ·
  refine jT hc5 ?_
  obtain ⟨y,h_y,h⟩:=bnd h
  refine jr (rc 2 rfl (zH.le (ins':=[(.tmp 20,.lf (.int .u8 (IntKind.u8.wrap rv)))]) (zfa [.lf (.int .u8 (y.toNat:Int))] 12 [] [y] rfl zdD rfl rfl rfl rfl) ⟨⟨rfl,zhU h_y⟩,trivial⟩) rf) ?_
  obtain rfl:=sj h
  refine zy ?_
  refine lk [2] [] 12 2 ?_
  exact lzz
 refine jF hc5 ?_
 refine jp ?_
 rcases zn h with ⟨hc6,h⟩| ⟨hc6,h⟩
 ·
  refine jT hc6 ?_
  obtain ⟨y2,h_y2,h⟩:=bnd h
  obtain ⟨y3,h_y3,h⟩:=bnd h
  refine jr (rc 8 rfl (zH.le (ins':=[(.tmp 27,.lf (.int .u8 (IntKind.u8.wrap (IntKind.i64.wrap (192+(IntKind.i64.wrap (Int.tdiv rv 64))))))),(.tmp 31,.lf (.int .u8 (IntKind.u8.wrap (IntKind.i64.wrap (128+(Int.tmod rv 64))))))]) (zfa [.lf (.int .u8 (y2.toNat:Int)),.lf (.int .u8 (y3.toNat:Int))] 13 [] [y2,y3] rfl zdD rfl rfl rfl rfl) ⟨⟨rfl,zhU h_y2⟩,⟨rfl,zhU h_y3⟩,trivial⟩) rf) ?_
  obtain rfl:=sj h
  refine zy ?_
  refine lk [2] [] 13 2 ?_
  exact lzz
 refine jF hc6 ?_
 refine jp ?_
 rcases zn h with ⟨hc7,h⟩| ⟨hc7,h⟩
 ·
  refine jT hc7 ?_
  obtain ⟨y4,h_y4,h⟩:=bnd h
  obtain ⟨y5,h_y5,h⟩:=bnd h
  obtain ⟨y6,h_y6,h⟩:=bnd h
  refine jr (rc 13 rfl (zH.le (ins':=[(.tmp 38,.lf (.int .u8 (IntKind.u8.wrap (IntKind.i64.wrap (224+(IntKind.i64.wrap (Int.tdiv rv 4096))))))),(.tmp 43,.lf (.int .u8 (IntKind.u8.wrap (IntKind.i64.wrap (128+(Int.tmod (IntKind.i64.wrap (Int.tdiv rv 64)) 64)))))),(.tmp 47,.lf (.int .u8 (IntKind.u8.wrap (IntKind.i64.wrap (128+(Int.tmod rv 64))))))]) (zfa [.lf (.int .u8 (y4.toNat:Int)),.lf (.int .u8 (y5.toNat:Int)),.lf (.int .u8 (y6.toNat:Int))] 14 [] [y4,y5,y6] rfl zdD rfl rfl rfl rfl) ⟨⟨rfl,zhU h_y4⟩,⟨rfl,zhU h_y5⟩,⟨rfl,zhU h_y6⟩,trivial⟩) rf) ?_
  obtain rfl:=sj h
  refine zy ?_
  refine lk [2] [] 14 2 ?_
  exact lzz
 refine jF hc7 ?_
 obtain ⟨y7,h_y7,h⟩:=bnd h
 obtain ⟨y8,h_y8,h⟩:=bnd h
 obtain ⟨y9,h_y9,h⟩:=bnd h
 obtain ⟨y10,h_y10,h⟩:=bnd h
 refine jr (rc 18 rfl (zH.le (ins':=[(.tmp 52,.lf (.int .u8 (IntKind.u8.wrap (IntKind.i64.wrap (240+(IntKind.i64.wrap (Int.tdiv rv 262144))))))),(.tmp 57,.lf (.int .u8 (IntKind.u8.wrap (IntKind.i64.wrap (128+(Int.tmod (IntKind.i64.wrap (Int.tdiv rv 4096)) 64)))))),(.tmp 62,.lf (.int .u8 (IntKind.u8.wrap (IntKind.i64.wrap (128+(Int.tmod (IntKind.i64.wrap (Int.tdiv rv 64)) 64)))))),(.tmp 66,.lf (.int .u8 (IntKind.u8.wrap (IntKind.i64.wrap (128+(Int.tmod rv 64))))))]) (zfa [.lf (.int .u8 (y7.toNat:Int)),.lf (.int .u8 (y8.toNat:Int)),.lf (.int .u8 (y9.toNat:Int)),.lf (.int .u8 (y10.toNat:Int))] 15 [] [y7,y8,y9,y10] rfl zdD rfl rfl rfl rfl) ⟨⟨rfl,zhU h_y7⟩,⟨rfl,zhU h_y8⟩,⟨rfl,zhU h_y9⟩,⟨rfl,zhU h_y10⟩,trivial⟩) rf) ?_
 obtain rfl:=sj h
 refine zy ?_
 refine lk [2] [] 15 2 ?_
 exact lzz
theorem znJ {rec_darninglaw14_Of:zf→Option zf} {rec_darninglaw14_OfValue:zc→Option zc} (hrec_darninglaw14_Of:∀{x:zf} {r:zf},rec_darninglaw14_Of x=some r→FnOk Tryz.prog 12 [.rc zj [0] x] [.ag [.own zd 56 3 [4,0] r.Values,.own Rp.str 9 5 [] r.Unknown]]) (hrec_darninglaw14_OfValue:∀{v:zc} {r:zc},rec_darninglaw14_OfValue v=some r→FnOk Tryz.prog 24 [.rc zd [0] v] [.ag [kI r.Number,.sl (Rp.int .u64) [0] r.Words,.sl Rp.str [0] r.Texts,.own zj 39 3 [4,0] r.Subs]]) {x:zf} {r:zf} (h:zex rec_darninglaw14_Of rec_darninglaw14_OfValue x=some r):FnOk Tryz.prog 12 [.rc zj [0] x] [.ag [.own zd 56 3 [4,0] r.Values,.own Rp.str 9 5 [] r.Unknown]]:=by
 refine zC (E:=⟨[(2,.ptr 2 0)],[⟨2,39,[.own zd 56 3 [4,0] r.Values,.own Rp.str 9 5 [] r.Unknown]⟩]⟩) 29 Tryz.func12 rfl rfl rfl ⟨⟨_,_,rfl,rfl,rfl,⟨Tryz.isAgg39,Tryz.sizeOf39⟩⟩,trivial⟩ (fun Xt=>?_)
 refine zr ?_
 unfold zex at h
 refine jr (ra 0 [.rc zj [0] x] rfl (zds 21 [.sl zd [0] x.Values,.sl Rp.str [0] x.Unknown] [0] rfl rfl rfl (by rw [zab]<;>rfl) rfl) rfl (rfl' [22])) ?_
 obtain ⟨v,h_v,h⟩:=bnd h
 refine jr (rc 0 rfl (zfa [] 23 [] ([]:(List Str)) rfl zkk rfl rfl rfl rfl) (ra 2 [.own Rp.str 9 23 [] ([]:(List Str)),.sl Rp.str [0] x.Unknown] rfl (zlJ 23 [] rfl zkk.el rfl (zgg _ _ _ _ _) (zI _ _ _) h_v (.inl zuq) rfl) rfl (ra 0 [.own Rp.str 9 23 [] v] rfl (zgU [.own Rp.str 9 23 [] v] [kN,.own Rp.str 9 23 [] v] rfl zFS rfl) rfl (rfl' [24])))) ?_
 refine jp ?_
 refine zz ?_
 obtain ⟨q,h_q,h⟩:=bnd h
 refine zak (fun s:(Int×(List zc))=>zbo rec_darninglaw14_OfValue x s.1 s.2) (fun s=>⟨[(1,.ptr 21 0),(2,.ptr 22 0),(3,.ptr 24 0),(4,kI s.1)],[⟨21,30,[.sl zd [0] x.Values,.sl Rp.str [0] x.Unknown]⟩,⟨22,39,[kN,kN]⟩,⟨24,39,[.own zd 56 30 [25,0] s.2,.own Rp.str 9 23 [] v]⟩]⟩) (fun o e a w=>e= .exit 0∧Sx ⟨⟨29,[]⟩,Xt,false,#[]⟩ ⟨[(2,.ptr 22 0),(3,.ptr 24 0)],[⟨22,39,[kN,kN]⟩,⟨24,39,[.own zd 56 30 [25,0] o,.own Rp.str 9 23 [] v]⟩]⟩ a w) ?_ h_q ?_ ?_
 ·
  clear h
  intro s o h
  obtain ⟨i,f⟩:=s
  refine zr ?_
  replace h:zbo rec_darninglaw14_OfValue x i f=some o:=h
  unfold zbo at h
  refine jp ?_
  rcases zn h with ⟨hc1,h⟩| ⟨hc1,h⟩
  ·
   refine jT hc1 ?_
   refine zz ?_
   obtain ⟨x2,h_x2,h⟩:=bnd h
   obtain ⟨rv,h_rv,h⟩:=bnd h
   obtain ⟨v2,h_v2,h⟩:=bnd h
   refine jd [1,2,3,4] [21,22,24] zcp (by exact (lw_e (lw_e (lw_e (lw_e (lw_e (ly [.sl zd [0] x.Values,kI i] (zar rfl zpF.el (zI _ _ _) h_x2) rfl (ly [.ep zd [0] x2 0] (zcq rfl ⟨Tryz.isAgg50,Tryz.sizeOf50⟩) rfl (lx (lf1 24 (zbz [.rc zd [0] x2] [0] 33 rfl Tryz.call24 (hrec_darninglaw14_OfValue h_rv) rfl rfl rfl rfl rfl)) (lx (zH.le (ins':=[(.tmp 24,.ag [kI rv.Number,.sl (Rp.int .u64) [0] rv.Words,.sl Rp.str [0] rv.Texts,.own zj 39 36 [37,0] rv.Subs])]) (zfa [.rc zd [0,36,37] rv] 38 [0,36,37] ([rv]:(List zc)) rfl zpG rfl rfl rfl (by simp only [zqH,ziS,ziB,zx,List.flatMap_cons,List.flatMap_nil]<;>rfl)) ⟨⟨rfl,zcP zd [0,36,37] rv [kI rv.Number,.sl (Rp.int .u64) [0] rv.Words,.sl Rp.str [0] rv.Texts,.own zj 39 36 [37,0] rv.Subs] (by rw [zx]<;>rfl) rfl⟩,trivial⟩) (ly [.own zd 56 30 [25,0] f,.own zd 56 38 [0,36,37] ([rv]:(List zc))] (zH.withBx (zlJ 30 [25,0,38,36,37] rfl zpG.el rfl (zgg _ _ _ _ _) (zeg _ _ _ _ _) h_v2 (.inr rfl) rfl) ⟨24,39,[.own zd 56 30 [25,0] f,.own Rp.str 9 23 [] v]⟩ rfl rfl) rfl (lw_e (ly [.ptr 24 0,.own zd 56 30 [25,0,38,36,37] v2] (zvy (b:=⟨24,39,[.any,.own Rp.str 9 23 [] v]⟩) (off:=0) rfl Tryz.sizeOf37 rfl rfl rfl) rfl l0))))))))))))) ?_
   refine zX ?_
   refine jp ?_
   obtain rfl:=sj h
   refine zG ?_
   refine lk [1,2,3,4] [21,22,24] 38 25 ?_
   refine lk [1,2,3,4] [21,22,24] 36 25 ?_
   refine lk [1,2,3,4] [21,22,24] 37 25 ?_
   refine zbU ⟨[(1,.ptr 21 0),(2,.ptr 22 0),(3,.ptr 24 0),(4,kI (IntKind.i64.wrap (i+1)))],[⟨21,30,[.sl zd [0] x.Values,.sl Rp.str [0] x.Unknown]⟩,⟨22,39,[kN,kN]⟩,⟨24,39,[.own zd 56 30 [25,0,25,25,25] v2,.own Rp.str 9 23 [] v]⟩]⟩ (by kernel_rfl) ?_
   refine zhk 24 0 (.own zd 56 30 [25,0] v2) rfl rfl (zmN _ _ _ _ _ _ rfl rfl) ?_
   exact lzz
  refine jF hc1 ?_
  obtain rfl:=sj h
  exact zal rfl lzz
 ·
  refine zbU ⟨[(1,.ptr 21 0),(2,.ptr 22 0),(3,.ptr 24 0),(4,kI 0)],[⟨21,30,[.sl zd [0] x.Values,.sl Rp.str [0] x.Unknown]⟩,⟨22,39,[kN,kN]⟩,⟨24,39,[kN,.own Rp.str 9 23 [] v]⟩]⟩ (by kernel_rfl) ?_
  refine zhk 24 0 (.own zd 56 30 [25,0] []) rfl rfl (zbE zd 56 30 [25,0] rfl) ?_
  exact lzz
 refine zaM _ rfl ?_
 refine jp ?_
 obtain rfl:=sj h
 refine zy ?_
 refine lk [2] [22] 22 2 ?_
 refine lk [2] [2] 30 3 ?_
 refine lk [2] [2] 23 5 ?_
 refine lk [2] [2] 25 4 ?_
 exact lzz
theorem zkl {rec_darninglaw14_Of:zf→Option zf} {rec_darninglaw14_OfValue:zc→Option zc} (hrec_darninglaw14_Of:∀{x:zf} {r:zf},rec_darninglaw14_Of x=some r→FnOk Tryz.prog 12 [.rc zj [0] x] [.ag [.own zd 56 3 [4,0] r.Values,.own Rp.str 9 5 [] r.Unknown]]) (hrec_darninglaw14_OfValue:∀{v:zc} {r:zc},rec_darninglaw14_OfValue v=some r→FnOk Tryz.prog 24 [.rc zd [0] v] [.ag [kI r.Number,.sl (Rp.int .u64) [0] r.Words,.sl Rp.str [0] r.Texts,.own zj 39 3 [4,0] r.Subs]]) {v:zc} {r:zc} (h:zcN rec_darninglaw14_Of rec_darninglaw14_OfValue v=some r):FnOk Tryz.prog 24 [.rc zd [0] v] [.ag [kI r.Number,.sl (Rp.int .u64) [0] r.Words,.sl Rp.str [0] r.Texts,.own zj 39 3 [4,0] r.Subs]]:=by
 refine zC (E:=⟨[(2,.ptr 2 0)],[⟨2,56,[kI r.Number,.sl (Rp.int .u64) [0] r.Words,.sl Rp.str [0] r.Texts,.own zj 39 3 [4,0] r.Subs]⟩]⟩) 31 Tryz.func24 rfl rfl rfl ⟨⟨_,_,rfl,rfl,rfl,⟨Tryz.isAgg56,Tryz.sizeOf56⟩⟩,trivial⟩ (fun Xt=>?_)
 refine zr ?_
 unfold zcN at h
 refine jr (ra 0 [.rc zd [0] v] rfl (zds 21 [kI v.Number,.sl (Rp.int .u64) [0] v.Words,.sl Rp.str [0] v.Texts,.sl zj [0] v.Subs] [0] rfl rfl rfl (by rw [zx]<;>rfl) rfl) rfl (rfl' [22])) ?_
 refine jr (ra 6 [kI v.Number,.sl (Rp.int .u64) [0] v.Words,.sl Rp.str [0] v.Texts] rfl (zgU [kI v.Number,.sl (Rp.int .u64) [0] v.Words,.sl Rp.str [0] v.Texts] [kI v.Number,.sl (Rp.int .u64) [0] v.Words,.sl Rp.str [0] v.Texts,kN] rfl zFU rfl) rfl (rfl' [23])) ?_
 refine jp ?_
 refine zz ?_
 obtain ⟨q,h_q,h⟩:=bnd h
 refine zak (fun s:(Int×(List zf))=>zaA rec_darninglaw14_Of v s.1 s.2) (fun s=>⟨[(1,.ptr 21 0),(2,.ptr 22 0),(3,.ptr 23 0),(4,kI s.1)],[⟨21,50,[kI v.Number,.sl (Rp.int .u64) [0] v.Words,.sl Rp.str [0] v.Texts,.sl zj [0] v.Subs]⟩,⟨22,56,[kI 0,kN,kN,kN]⟩,⟨23,56,[kI v.Number,.sl (Rp.int .u64) [0] v.Words,.sl Rp.str [0] v.Texts,.own zj 39 30 [24,0] s.2]⟩]⟩) (fun o e a w=>e= .exit 0∧Sx ⟨⟨31,[]⟩,Xt,false,#[]⟩ ⟨[(2,.ptr 22 0),(3,.ptr 23 0)],[⟨22,56,[kI 0,kN,kN,kN]⟩,⟨23,56,[kI v.Number,.sl (Rp.int .u64) [0] v.Words,.sl Rp.str [0] v.Texts,.own zj 39 30 [24,0] o]⟩]⟩ a w) ?_ h_q ?_ ?_
 ·
  clear h
  intro s o h
  obtain ⟨i,f⟩:=s
  refine zr ?_
  replace h:zaA rec_darninglaw14_Of v i f=some o:=h
  unfold zaA at h
  refine jp ?_
  rcases zn h with ⟨hc1,h⟩| ⟨hc1,h⟩
  ·
   refine jT hc1 ?_
   refine zz ?_
   obtain ⟨x,h_x,h⟩:=bnd h
   obtain ⟨rv,h_rv,h⟩:=bnd h
   obtain ⟨v2,h_v2,h⟩:=bnd h
   refine jd [1,2,3,4] [21,22,23] zcp (by exact (lw_e (lw_e (lw_e (lw_e (lw_e (ly [.sl zj [0] v.Subs,kI i] (zar rfl zuI.el (zI _ _ _) h_x) rfl (ly [.ep zj [0] x 0] (zcq rfl ⟨Tryz.isAgg30,Tryz.sizeOf30⟩) rfl (lx (lf1 12 (zbz [.rc zj [0] x] [0] 34 rfl Tryz.call12 (hrec_darninglaw14_Of h_rv) rfl rfl rfl rfl rfl)) (lx (zH.le (ins':=[(.tmp 26,.ag [.own zd 56 37 [38,0] rv.Values,.own Rp.str 9 39 [] rv.Unknown])]) (zfa [.rc zj [37,38,0,39] rv] 40 [37,38,0,39] ([rv]:(List zf)) rfl zDf rfl rfl rfl (by simp only [zqH,ziS,ziB,zab,List.flatMap_cons,List.flatMap_nil]<;>rfl)) ⟨⟨rfl,zcP zj [37,38,0,39] rv [.own zd 56 37 [38,0] rv.Values,.own Rp.str 9 39 [] rv.Unknown] (by rw [zab]<;>rfl) rfl⟩,trivial⟩) (ly [.own zj 39 30 [24,0] f,.own zj 39 40 [37,38,0,39] ([rv]:(List zf))] (zH.withBx (zlJ 30 [24,0,40,37,38,39] rfl zDf.el rfl (zgg _ _ _ _ _) (zeg _ _ _ _ _) h_v2 (.inr rfl) rfl) ⟨23,56,[kI v.Number,.sl (Rp.int .u64) [0] v.Words,.sl Rp.str [0] v.Texts,.own zj 39 30 [24,0] f]⟩ rfl rfl) rfl (lw_e (ly [.ptr 23 3,.own zj 39 30 [24,0,40,37,38,39] v2] (zvy (b:=⟨23,56,[kI v.Number,.sl (Rp.int .u64) [0] v.Words,.sl Rp.str [0] v.Texts,.any]⟩) (off:=3) rfl Tryz.sizeOf54 rfl rfl rfl) rfl l0))))))))))))) ?_
   refine zX ?_
   refine jp ?_
   obtain rfl:=sj h
   refine zG ?_
   refine lk [1,2,3,4] [21,22,23] 40 24 ?_
   refine lk [1,2,3,4] [21,22,23] 37 24 ?_
   refine lk [1,2,3,4] [21,22,23] 38 24 ?_
   refine lk [1,2,3,4] [21,22,23] 39 24 ?_
   refine zbU ⟨[(1,.ptr 21 0),(2,.ptr 22 0),(3,.ptr 23 0),(4,kI (IntKind.i64.wrap (i+1)))],[⟨21,50,[kI v.Number,.sl (Rp.int .u64) [0] v.Words,.sl Rp.str [0] v.Texts,.sl zj [0] v.Subs]⟩,⟨22,56,[kI 0,kN,kN,kN]⟩,⟨23,56,[kI v.Number,.sl (Rp.int .u64) [0] v.Words,.sl Rp.str [0] v.Texts,.own zj 39 30 [24,0,24,24,24,24] v2]⟩]⟩ (by kernel_rfl) ?_
   refine zhk 23 3 (.own zj 39 30 [24,0] v2) rfl rfl (zmN _ _ _ _ _ _ rfl rfl) ?_
   exact lzz
  refine jF hc1 ?_
  obtain rfl:=sj h
  exact zal rfl lzz
 ·
  refine zbU ⟨[(1,.ptr 21 0),(2,.ptr 22 0),(3,.ptr 23 0),(4,kI 0)],[⟨21,50,[kI v.Number,.sl (Rp.int .u64) [0] v.Words,.sl Rp.str [0] v.Texts,.sl zj [0] v.Subs]⟩,⟨22,56,[kI 0,kN,kN,kN]⟩,⟨23,56,[kI v.Number,.sl (Rp.int .u64) [0] v.Words,.sl Rp.str [0] v.Texts,kN]⟩]⟩ (by kernel_rfl) ?_
  refine zhk 23 3 (.own zj 39 30 [24,0] []) rfl rfl (zbE zj 39 30 [24,0] rfl) ?_
  exact lzz
 refine zaM _ rfl ?_
 refine jp ?_
 obtain rfl:=sj h
 refine zy ?_
 refine lk [2] [22] 22 2 ?_
 refine lk [2] [2] 30 3 ?_
 refine lk [2] [2] 24 4 ?_
 exact lzz
theorem zfh (fuel:Nat):(∀{x:zf} {r:zf},zer fuel x=some r→FnOk Tryz.prog 12 [.rc zj [0] x] [.ag [.own zd 56 3 [4,0] r.Values,.own Rp.str 9 5 [] r.Unknown]])∧(∀{v:zc} {r:zc},zbj fuel v=some r→FnOk Tryz.prog 24 [.rc zd [0] v] [.ag [kI r.Number,.sl (Rp.int .u64) [0] r.Words,.sl Rp.str [0] r.Texts,.own zj 39 3 [4,0] r.Subs]]):=by
  induction fuel with
  | zero=>exact ⟨fun h=>absurd h nofun,fun h=>absurd h nofun⟩
  | succ fuel ih=>exact ⟨fun h=>znJ (fun hh=>ih.1 hh) (fun hh=>ih.2 hh) h,fun h=>zkl (fun hh=>ih.1 hh) (fun hh=>ih.2 hh) h⟩
theorem zkV {fuel:Nat} {v:zc} {r:zc} (h:zbj fuel v=some r):FnOk Tryz.prog 24 [.rc zd [0] v] [.ag [kI r.Number,.sl (Rp.int .u64) [0] r.Words,.sl Rp.str [0] r.Texts,.own zj 39 3 [4,0] r.Subs]]:=(zfh fuel).2 h
end Go.Proofs.YtcbkcblkecmjnaaGreat

/-
  The Go functions do what the plain functions say. No condition.
-/
import Derived.Test.YtcbkcblkecmjnaaGreatx2T
namespace Go.Proofs.YtcbkcblkecmjnaaGreat
open Go Go.RowKit
set_option linter.unusedVariables false
set_option maxRecDepth 100000
set_option maxHeartbeats 3200000
theorem zku {sv:Str} {r:Bool} (h:zeN sv=some r):FnOk Tryz.prog 69 [kS sv] [kB r]:=by
 refine zC (E:=⟨[(2,kB r)],[]⟩) 55 Tryz.func69 rfl rfl rfl ⟨rfl,trivial⟩ (fun Xt=>?_)
 refine zp ?_
 unfold zeN at h
 refine jp ?_
 refine jp ?_
 refine zA ?_
 obtain ⟨q,h_q,h⟩:=bnd h
 refine zal (fun s:Int=>zbi sv s) (fun s=>⟨[(0,kS sv),(3,kI s)],[]⟩) (fun o e a w=>match o with| (.inl v_)=>e= .exit 0∧Sx ⟨⟨55,[]⟩,Xt,false,#[]⟩ ⟨[(0,kS sv)],[]⟩ a w| (.inr v_)=>e= .ret∧Sx ⟨⟨55,[]⟩,Xt,false,#[]⟩ ⟨[(2,kB false)],[]⟩ a w) ?_ h_q lzz ?_
 ·
  clear h
  intro i o h
  refine zp ?_
  replace h:zbi sv i=some o:=h
  unfold zbi at h
  refine jp ?_
  rcases zm h with ⟨hc1,h⟩| ⟨hc1,h⟩
  ·
   refine jT hc1 ?_
   refine zA ?_
   obtain ⟨c,h_c,h⟩:=bnd h
   refine jr (ra 2 [kS sv,kI i] rfl (zyu rfl Tryz.underlying9 h_c) rfl rf) ?_
   refine zW ⟨[(0,kS sv),(3,kI i),(5,kB (if (decide ((c.toNat:Int)≥65)) then ((decide ((c.toNat:Int)≤90))|| (if (decide ((c.toNat:Int)≥97)) then ((decide ((c.toNat:Int)≤122))|| (((c.toNat:Int)==95)|| ((decide (i>0))&&((decide ((c.toNat:Int)≥48))&&(decide ((c.toNat:Int)≤57)))))) else (((c.toNat:Int)==95)|| ((decide (i>0))&&((decide ((c.toNat:Int)≥48))&&(decide ((c.toNat:Int)≤57))))))) else (if (decide ((c.toNat:Int)≥97)) then ((decide ((c.toNat:Int)≤122))|| (((c.toNat:Int)==95)|| ((decide (i>0))&&((decide ((c.toNat:Int)≥48))&&(decide ((c.toNat:Int)≤57)))))) else (((c.toNat:Int)==95)|| ((decide (i>0))&&((decide ((c.toNat:Int)≥48))&&(decide ((c.toNat:Int)≤57))))))))],[]⟩ ?_ ?_
   ·
    refine (rsl 3 [] 17 (decide ((c.toNat:Int)≥65)) (fun hc2=>?_) (fun hc2=>?_))
    ·
     refine (rsl 4 [] 21 (decide ((c.toNat:Int)≤90)) (fun hc3=>?_) (fun hc3=>?_))
     · exact (rbl [] 5 true (if (decide ((c.toNat:Int)≥65)) then ((decide ((c.toNat:Int)≤90))|| (if (decide ((c.toNat:Int)≥97)) then ((decide ((c.toNat:Int)≤122))|| (((c.toNat:Int)==95)|| ((decide (i>0))&&((decide ((c.toNat:Int)≥48))&&(decide ((c.toNat:Int)≤57)))))) else (((c.toNat:Int)==95)|| ((decide (i>0))&&((decide ((c.toNat:Int)≥48))&&(decide ((c.toNat:Int)≤57))))))) else (if (decide ((c.toNat:Int)≥97)) then ((decide ((c.toNat:Int)≤122))|| (((c.toNat:Int)==95)|| ((decide (i>0))&&((decide ((c.toNat:Int)≥48))&&(decide ((c.toNat:Int)≤57)))))) else (((c.toNat:Int)==95)|| ((decide (i>0))&&((decide ((c.toNat:Int)≥48))&&(decide ((c.toNat:Int)≤57))))))) (by rw [hc2,hc3]<;>rfl))
     refine (rsl 3 [] 24 (decide ((c.toNat:Int)≥97)) (fun hc4=>?_) (fun hc4=>?_))
     ·
      refine (rsl 5 [] 29 (decide ((c.toNat:Int)≤122)) (fun hc5=>?_) (fun hc5=>?_))
      · exact (rbl [] 5 true (if (decide ((c.toNat:Int)≥65)) then ((decide ((c.toNat:Int)≤90))|| (if (decide ((c.toNat:Int)≥97)) then ((decide ((c.toNat:Int)≤122))|| (((c.toNat:Int)==95)|| ((decide (i>0))&&((decide ((c.toNat:Int)≥48))&&(decide ((c.toNat:Int)≤57)))))) else (((c.toNat:Int)==95)|| ((decide (i>0))&&((decide ((c.toNat:Int)≥48))&&(decide ((c.toNat:Int)≤57))))))) else (if (decide ((c.toNat:Int)≥97)) then ((decide ((c.toNat:Int)≤122))|| (((c.toNat:Int)==95)|| ((decide (i>0))&&((decide ((c.toNat:Int)≥48))&&(decide ((c.toNat:Int)≤57)))))) else (((c.toNat:Int)==95)|| ((decide (i>0))&&((decide ((c.toNat:Int)≥48))&&(decide ((c.toNat:Int)≤57))))))) (by rw [hc2,hc3,hc4,hc5]<;>rfl))
      refine (rsl 4 [] 33 ((c.toNat:Int)==95) (fun hc6=>?_) (fun hc6=>?_))
      · exact (rbl [] 5 true (if (decide ((c.toNat:Int)≥65)) then ((decide ((c.toNat:Int)≤90))|| (if (decide ((c.toNat:Int)≥97)) then ((decide ((c.toNat:Int)≤122))|| (((c.toNat:Int)==95)|| ((decide (i>0))&&((decide ((c.toNat:Int)≥48))&&(decide ((c.toNat:Int)≤57)))))) else (((c.toNat:Int)==95)|| ((decide (i>0))&&((decide ((c.toNat:Int)≥48))&&(decide ((c.toNat:Int)≤57))))))) else (if (decide ((c.toNat:Int)≥97)) then ((decide ((c.toNat:Int)≤122))|| (((c.toNat:Int)==95)|| ((decide (i>0))&&((decide ((c.toNat:Int)≥48))&&(decide ((c.toNat:Int)≤57)))))) else (((c.toNat:Int)==95)|| ((decide (i>0))&&((decide ((c.toNat:Int)≥48))&&(decide ((c.toNat:Int)≤57))))))) (by rw [hc2,hc3,hc4,hc5,hc6]<;>rfl))
      refine (rsl 3 [] 36 (decide (i>0)) (fun hc7=>?_) (fun hc7=>?_))
      ·
       refine (rsl 4 [] 40 (decide ((c.toNat:Int)≥48)) (fun hc8=>?_) (fun hc8=>?_))
       · exact (rbl [] 5 (decide ((c.toNat:Int)≤57)) (if (decide ((c.toNat:Int)≥65)) then ((decide ((c.toNat:Int)≤90))|| (if (decide ((c.toNat:Int)≥97)) then ((decide ((c.toNat:Int)≤122))|| (((c.toNat:Int)==95)|| ((decide (i>0))&&((decide ((c.toNat:Int)≥48))&&(decide ((c.toNat:Int)≤57)))))) else (((c.toNat:Int)==95)|| ((decide (i>0))&&((decide ((c.toNat:Int)≥48))&&(decide ((c.toNat:Int)≤57))))))) else (if (decide ((c.toNat:Int)≥97)) then ((decide ((c.toNat:Int)≤122))|| (((c.toNat:Int)==95)|| ((decide (i>0))&&((decide ((c.toNat:Int)≥48))&&(decide ((c.toNat:Int)≤57)))))) else (((c.toNat:Int)==95)|| ((decide (i>0))&&((decide ((c.toNat:Int)≥48))&&(decide ((c.toNat:Int)≤57))))))) (by rw [hc2,hc3,hc4,hc5,hc6,hc7,hc8]<;>rfl))
       exact (rbl [] 5 false (if (decide ((c.toNat:Int)≥65)) then ((decide ((c.toNat:Int)≤90))|| (if (decide ((c.toNat:Int)≥97)) then ((decide ((c.toNat:Int)≤122))|| (((c.toNat:Int)==95)|| ((decide (i>0))&&((decide ((c.toNat:Int)≥48))&&(decide ((c.toNat:Int)≤57)))))) else (((c.toNat:Int)==95)|| ((decide (i>0))&&((decide ((c.toNat:Int)≥48))&&(decide ((c.toNat:Int)≤57))))))) else (if (decide ((c.toNat:Int)≥97)) then ((decide ((c.toNat:Int)≤122))|| (((c.toNat:Int)==95)|| ((decide (i>0))&&((decide ((c.toNat:Int)≥48))&&(decide ((c.toNat:Int)≤57)))))) else (((c.toNat:Int)==95)|| ((decide (i>0))&&((decide ((c.toNat:Int)≥48))&&(decide ((c.toNat:Int)≤57))))))) (by rw [hc2,hc3,hc4,hc5,hc6,hc7,hc8]<;>rfl))
      exact (rbl [] 5 false (if (decide ((c.toNat:Int)≥65)) then ((decide ((c.toNat:Int)≤90))|| (if (decide ((c.toNat:Int)≥97)) then ((decide ((c.toNat:Int)≤122))|| (((c.toNat:Int)==95)|| ((decide (i>0))&&((decide ((c.toNat:Int)≥48))&&(decide ((c.toNat:Int)≤57)))))) else (((c.toNat:Int)==95)|| ((decide (i>0))&&((decide ((c.toNat:Int)≥48))&&(decide ((c.toNat:Int)≤57))))))) else (if (decide ((c.toNat:Int)≥97)) then ((decide ((c.toNat:Int)≤122))|| (((c.toNat:Int)==95)|| ((decide (i>0))&&((decide ((c.toNat:Int)≥48))&&(decide ((c.toNat:Int)≤57)))))) else (((c.toNat:Int)==95)|| ((decide (i>0))&&((decide ((c.toNat:Int)≥48))&&(decide ((c.toNat:Int)≤57))))))) (by rw [hc2,hc3,hc4,hc5,hc6,hc7]<;>rfl))
     refine (rsl 9 [] 33 ((c.toNat:Int)==95) (fun hc9=>?_) (fun hc9=>?_))
     · exact (rbl [] 5 true (if (decide ((c.toNat:Int)≥65)) then ((decide ((c.toNat:Int)≤90))|| (if (decide ((c.toNat:Int)≥97)) then ((decide ((c.toNat:Int)≤122))|| (((c.toNat:Int)==95)|| ((decide (i>0))&&((decide ((c.toNat:Int)≥48))&&(decide ((c.toNat:Int)≤57)))))) else (((c.toNat:Int)==95)|| ((decide (i>0))&&((decide ((c.toNat:Int)≥48))&&(decide ((c.toNat:Int)≤57))))))) else (if (decide ((c.toNat:Int)≥97)) then ((decide ((c.toNat:Int)≤122))|| (((c.toNat:Int)==95)|| ((decide (i>0))&&((decide ((c.toNat:Int)≥48))&&(decide ((c.toNat:Int)≤57)))))) else (((c.toNat:Int)==95)|| ((decide (i>0))&&((decide ((c.toNat:Int)≥48))&&(decide ((c.toNat:Int)≤57))))))) (by rw [hc2,hc3,hc4,hc9]<;>rfl))
     refine (rsl 3 [] 36 (decide (i>0)) (fun hc10=>?_) (fun hc10=>?_))
     ·
      refine (rsl 4 [] 40 (decide ((c.toNat:Int)≥48)) (fun hc11=>?_) (fun hc11=>?_))
      · exact (rbl [] 5 (decide ((c.toNat:Int)≤57)) (if (decide ((c.toNat:Int)≥65)) then ((decide ((c.toNat:Int)≤90))|| (if (decide ((c.toNat:Int)≥97)) then ((decide ((c.toNat:Int)≤122))|| (((c.toNat:Int)==95)|| ((decide (i>0))&&((decide ((c.toNat:Int)≥48))&&(decide ((c.toNat:Int)≤57)))))) else (((c.toNat:Int)==95)|| ((decide (i>0))&&((decide ((c.toNat:Int)≥48))&&(decide ((c.toNat:Int)≤57))))))) else (if (decide ((c.toNat:Int)≥97)) then ((decide ((c.toNat:Int)≤122))|| (((c.toNat:Int)==95)|| ((decide (i>0))&&((decide ((c.toNat:Int)≥48))&&(decide ((c.toNat:Int)≤57)))))) else (((c.toNat:Int)==95)|| ((decide (i>0))&&((decide ((c.toNat:Int)≥48))&&(decide ((c.toNat:Int)≤57))))))) (by rw [hc2,hc3,hc4,hc9,hc10,hc11]<;>rfl))
      exact (rbl [] 5 false (if (decide ((c.toNat:Int)≥65)) then ((decide ((c.toNat:Int)≤90))|| (if (decide ((c.toNat:Int)≥97)) then ((decide ((c.toNat:Int)≤122))|| (((c.toNat:Int)==95)|| ((decide (i>0))&&((decide ((c.toNat:Int)≥48))&&(decide ((c.toNat:Int)≤57)))))) else (((c.toNat:Int)==95)|| ((decide (i>0))&&((decide ((c.toNat:Int)≥48))&&(decide ((c.toNat:Int)≤57))))))) else (if (decide ((c.toNat:Int)≥97)) then ((decide ((c.toNat:Int)≤122))|| (((c.toNat:Int)==95)|| ((decide (i>0))&&((decide ((c.toNat:Int)≥48))&&(decide ((c.toNat:Int)≤57)))))) else (((c.toNat:Int)==95)|| ((decide (i>0))&&((decide ((c.toNat:Int)≥48))&&(decide ((c.toNat:Int)≤57))))))) (by rw [hc2,hc3,hc4,hc9,hc10,hc11]<;>rfl))
     exact (rbl [] 5 false (if (decide ((c.toNat:Int)≥65)) then ((decide ((c.toNat:Int)≤90))|| (if (decide ((c.toNat:Int)≥97)) then ((decide ((c.toNat:Int)≤122))|| (((c.toNat:Int)==95)|| ((decide (i>0))&&((decide ((c.toNat:Int)≥48))&&(decide ((c.toNat:Int)≤57)))))) else (((c.toNat:Int)==95)|| ((decide (i>0))&&((decide ((c.toNat:Int)≥48))&&(decide ((c.toNat:Int)≤57))))))) else (if (decide ((c.toNat:Int)≥97)) then ((decide ((c.toNat:Int)≤122))|| (((c.toNat:Int)==95)|| ((decide (i>0))&&((decide ((c.toNat:Int)≥48))&&(decide ((c.toNat:Int)≤57)))))) else (((c.toNat:Int)==95)|| ((decide (i>0))&&((decide ((c.toNat:Int)≥48))&&(decide ((c.toNat:Int)≤57))))))) (by rw [hc2,hc3,hc4,hc9,hc10]<;>rfl))
    refine (rsl 7 [] 24 (decide ((c.toNat:Int)≥97)) (fun hc12=>?_) (fun hc12=>?_))
    ·
     refine (rsl 5 [] 29 (decide ((c.toNat:Int)≤122)) (fun hc13=>?_) (fun hc13=>?_))
     · exact (rbl [] 5 true (if (decide ((c.toNat:Int)≥65)) then ((decide ((c.toNat:Int)≤90))|| (if (decide ((c.toNat:Int)≥97)) then ((decide ((c.toNat:Int)≤122))|| (((c.toNat:Int)==95)|| ((decide (i>0))&&((decide ((c.toNat:Int)≥48))&&(decide ((c.toNat:Int)≤57)))))) else (((c.toNat:Int)==95)|| ((decide (i>0))&&((decide ((c.toNat:Int)≥48))&&(decide ((c.toNat:Int)≤57))))))) else (if (decide ((c.toNat:Int)≥97)) then ((decide ((c.toNat:Int)≤122))|| (((c.toNat:Int)==95)|| ((decide (i>0))&&((decide ((c.toNat:Int)≥48))&&(decide ((c.toNat:Int)≤57)))))) else (((c.toNat:Int)==95)|| ((decide (i>0))&&((decide ((c.toNat:Int)≥48))&&(decide ((c.toNat:Int)≤57))))))) (by rw [hc2,hc12,hc13]<;>rfl))
     refine (rsl 4 [] 33 ((c.toNat:Int)==95) (fun hc14=>?_) (fun hc14=>?_))
     · exact (rbl [] 5 true (if (decide ((c.toNat:Int)≥65)) then ((decide ((c.toNat:Int)≤90))|| (if (decide ((c.toNat:Int)≥97)) then ((decide ((c.toNat:Int)≤122))|| (((c.toNat:Int)==95)|| ((decide (i>0))&&((decide ((c.toNat:Int)≥48))&&(decide ((c.toNat:Int)≤57)))))) else (((c.toNat:Int)==95)|| ((decide (i>0))&&((decide ((c.toNat:Int)≥48))&&(decide ((c.toNat:Int)≤57))))))) else (if (decide ((c.toNat:Int)≥97)) then ((decide ((c.toNat:Int)≤122))|| (((c.toNat:Int)==95)|| ((decide (i>0))&&((decide ((c.toNat:Int)≥48))&&(decide ((c.toNat:Int)≤57)))))) else (((c.toNat:Int)==95)|| ((decide (i>0))&&((decide ((c.toNat:Int)≥48))&&(decide ((c.toNat:Int)≤57))))))) (by rw [hc2,hc12,hc13,hc14]<;>rfl))
     refine (rsl 3 [] 36 (decide (i>0)) (fun hc15=>?_) (fun hc15=>?_))
     ·
      refine (rsl 4 [] 40 (decide ((c.toNat:Int)≥48)) (fun hc16=>?_) (fun hc16=>?_))
      · exact (rbl [] 5 (decide ((c.toNat:Int)≤57)) (if (decide ((c.toNat:Int)≥65)) then ((decide ((c.toNat:Int)≤90))|| (if (decide ((c.toNat:Int)≥97)) then ((decide ((c.toNat:Int)≤122))|| (((c.toNat:Int)==95)|| ((decide (i>0))&&((decide ((c.toNat:Int)≥48))&&(decide ((c.toNat:Int)≤57)))))) else (((c.toNat:Int)==95)|| ((decide (i>0))&&((decide ((c.toNat:Int)≥48))&&(decide ((c.toNat:Int)≤57))))))) else (if (decide ((c.toNat:Int)≥97)) then ((decide ((c.toNat:Int)≤122))|| (((c.toNat:Int)==95)|| ((decide (i>0))&&((decide ((c.toNat:Int)≥48))&&(decide ((c.toNat:Int)≤57)))))) else (((c.toNat:Int)==95)|| ((decide (i>0))&&((decide ((c.toNat:Int)≥48))&&(decide ((c.toNat:Int)≤57))))))) (by rw [hc2,hc12,hc13,hc14,hc15,hc16]<;>rfl))
      exact (rbl [] 5 false (if (decide ((c.toNat:Int)≥65)) then ((decide ((c.toNat:Int)≤90))|| (if (decide ((c.toNat:Int)≥97)) then ((decide ((c.toNat:Int)≤122))|| (((c.toNat:Int)==95)|| ((decide (i>0))&&((decide ((c.toNat:Int)≥48))&&(decide ((c.toNat:Int)≤57)))))) else (((c.toNat:Int)==95)|| ((decide (i>0))&&((decide ((c.toNat:Int)≥48))&&(decide ((c.toNat:Int)≤57))))))) else (if (decide ((c.toNat:Int)≥97)) then ((decide ((c.toNat:Int)≤122))|| (((c.toNat:Int)==95)|| ((decide (i>0))&&((decide ((c.toNat:Int)≥48))&&(decide ((c.toNat:Int)≤57)))))) else (((c.toNat:Int)==95)|| ((decide (i>0))&&((decide ((c.toNat:Int)≥48))&&(decide ((c.toNat:Int)≤57))))))) (by rw [hc2,hc12,hc13,hc14,hc15,hc16]<;>rfl))
     exact (rbl [] 5 false (if (decide ((c.toNat:Int)≥65)) then ((decide ((c.toNat:Int)≤90))|| (if (decide ((c.toNat:Int)≥97)) then ((decide ((c.toNat:Int)≤122))|| (((c.toNat:Int)==95)|| ((decide (i>0))&&((decide ((c.toNat:Int)≥48))&&(decide ((c.toNat:Int)≤57)))))) else (((c.toNat:Int)==95)|| ((decide (i>0))&&((decide ((c.toNat:Int)≥48))&&(decide ((c.toNat:Int)≤57))))))) else (if (decide ((c.toNat:Int)≥97)) then ((decide ((c.toNat:Int)≤122))|| (((c.toNat:Int)==95)|| ((decide (i>0))&&((decide ((c.toNat:Int)≥48))&&(decide ((c.toNat:Int)≤57)))))) else (((c.toNat:Int)==95)|| ((decide (i>0))&&((decide ((c.toNat:Int)≥48))&&(decide ((c.toNat:Int)≤57))))))) (by rw [hc2,hc12,hc13,hc14,hc15]<;>rfl))
    refine (rsl 9 [] 33 ((c.toNat:Int)==95) (fun hc17=>?_) (fun hc17=>?_))
    · exact (rbl [] 5 true (if (decide ((c.toNat:Int)≥65)) then ((decide ((c.toNat:Int)≤90))|| (if (decide ((c.toNat:Int)≥97)) then ((decide ((c.toNat:Int)≤122))|| (((c.toNat:Int)==95)|| ((decide (i>0))&&((decide ((c.toNat:Int)≥48))&&(decide ((c.toNat:Int)≤57)))))) else (((c.toNat:Int)==95)|| ((decide (i>0))&&((decide ((c.toNat:Int)≥48))&&(decide ((c.toNat:Int)≤57))))))) else (if (decide ((c.toNat:Int)≥97)) then ((decide ((c.toNat:Int)≤122))|| (((c.toNat:Int)==95)|| ((decide (i>0))&&((decide ((c.toNat:Int)≥48))&&(decide ((c.toNat:Int)≤57)))))) else (((c.toNat:Int)==95)|| ((decide (i>0))&&((decide ((c.toNat:Int)≥48))&&(decide ((c.toNat:Int)≤57))))))) (by rw [hc2,hc12,hc17]<;>rfl))
    refine (rsl 3 [] 36 (decide (i>0)) (fun hc18=>?_) (fun hc18=>?_))
    ·
     refine (rsl 4 [] 40 (decide ((c.toNat:Int)≥48)) (fun hc19=>?_) (fun hc19=>?_))
     · exact (rbl [] 5 (decide ((c.toNat:Int)≤57)) (if (decide ((c.toNat:Int)≥65)) then ((decide ((c.toNat:Int)≤90))|| (if (decide ((c.toNat:Int)≥97)) then ((decide ((c.toNat:Int)≤122))|| (((c.toNat:Int)==95)|| ((decide (i>0))&&((decide ((c.toNat:Int)≥48))&&(decide ((c.toNat:Int)≤57)))))) else (((c.toNat:Int)==95)|| ((decide (i>0))&&((decide ((c.toNat:Int)≥48))&&(decide ((c.toNat:Int)≤57))))))) else (if (decide ((c.toNat:Int)≥97)) then ((decide ((c.toNat:Int)≤122))|| (((c.toNat:Int)==95)|| ((decide (i>0))&&((decide ((c.toNat:Int)≥48))&&(decide ((c.toNat:Int)≤57)))))) else (((c.toNat:Int)==95)|| ((decide (i>0))&&((decide ((c.toNat:Int)≥48))&&(decide ((c.toNat:Int)≤57))))))) (by rw [hc2,hc12,hc17,hc18,hc19]<;>rfl))
     exact (rbl [] 5 false (if (decide ((c.toNat:Int)≥65)) then ((decide ((c.toNat:Int)≤90))|| (if (decide ((c.toNat:Int)≥97)) then ((decide ((c.toNat:Int)≤122))|| (((c.toNat:Int)==95)|| ((decide (i>0))&&((decide ((c.toNat:Int)≥48))&&(decide ((c.toNat:Int)≤57)))))) else (((c.toNat:Int)==95)|| ((decide (i>0))&&((decide ((c.toNat:Int)≥48))&&(decide ((c.toNat:Int)≤57))))))) else (if (decide ((c.toNat:Int)≥97)) then ((decide ((c.toNat:Int)≤122))|| (((c.toNat:Int)==95)|| ((decide (i>0))&&((decide ((c.toNat:Int)≥48))&&(decide ((c.toNat:Int)≤57)))))) else (((c.toNat:Int)==95)|| ((decide (i>0))&&((decide ((c.toNat:Int)≥48))&&(decide ((c.toNat:Int)≤57))))))) (by rw [hc2,hc12,hc17,hc18,hc19]<;>rfl))
    exact (rbl [] 5 false (if (decide ((c.toNat:Int)≥65)) then ((decide ((c.toNat:Int)≤90))|| (if (decide ((c.toNat:Int)≥97)) then ((decide ((c.toNat:Int)≤122))|| (((c.toNat:Int)==95)|| ((decide (i>0))&&((decide ((c.toNat:Int)≥48))&&(decide ((c.toNat:Int)≤57)))))) else (((c.toNat:Int)==95)|| ((decide (i>0))&&((decide ((c.toNat:Int)≥48))&&(decide ((c.toNat:Int)≤57))))))) else (if (decide ((c.toNat:Int)≥97)) then ((decide ((c.toNat:Int)≤122))|| (((c.toNat:Int)==95)|| ((decide (i>0))&&((decide ((c.toNat:Int)≥48))&&(decide ((c.toNat:Int)≤57)))))) else (((c.toNat:Int)==95)|| ((decide (i>0))&&((decide ((c.toNat:Int)≥48))&&(decide ((c.toNat:Int)≤57))))))) (by rw [hc2,hc12,hc17,hc18]<;>rfl))
   refine jp ?_
   rcases zm h with ⟨hc20,h⟩| ⟨hc20,h⟩
   ·
    refine jT hc20 ?_
    refine jp ?_
    obtain rfl:=sj h
    exact zaZ lzz
   refine jF hc20 ?_
   refine zag ?_
   refine jp ?_
   obtain rfl:=sj h
   exact zL lzz
  refine jF hc1 ?_
  obtain rfl:=sj h
  exact zam rfl lzz
 rcases q with u| u2
 ·
  refine zaD _ rfl ?_
  refine zW ⟨[(2,kB ((decide ((sv.length:Int)≥1))&&(decide ((sv.length:Int)≤60))))],[]⟩ ?_ ?_
  ·
   refine (rsl 4 [] 50 (decide ((sv.length:Int)≥1)) (fun hc21=>?_) (fun hc21=>?_))
   · exact (rbl [] 2 (decide ((sv.length:Int)≤60)) ((decide ((sv.length:Int)≥1))&&(decide ((sv.length:Int)≤60))) (by rw [hc21]<;>rfl))
   exact (rbl [] 2 false ((decide ((sv.length:Int)≥1))&&(decide ((sv.length:Int)≤60))) (by rw [hc21]<;>rfl))
  obtain rfl:=sj h
  exact zz lzz
 obtain rfl:=sj h
 exact zcK lzz
theorem zhp {k:Int} {r:Bool} (h:zcC k=some r):FnOk Tryz.prog 54 [kI k] [kB r]:=by
 refine zC (E:=⟨[(2,kB r)],[]⟩) 9 Tryz.func54 rfl rfl rfl ⟨rfl,trivial⟩ (fun Xt=>?_)
 refine zp ?_
 unfold zcC at h
 refine jp ?_
 refine zW ⟨[(2,kB ((decide (k≥1))&&(decide (k≤17))))],[]⟩ ?_ ?_
 ·
  refine (rsl 3 [] 5 (decide (k≥1)) (fun hc1=>?_) (fun hc1=>?_))
  · exact (rbl [] 2 (decide (k≤17)) ((decide (k≥1))&&(decide (k≤17))) (by rw [hc1]<;>rfl))
  exact (rbl [] 2 false ((decide (k≥1))&&(decide (k≤17))) (by rw [hc1]<;>rfl))
 obtain rfl:=sj h
 exact zz lzz
theorem zgV {k:Int} {r:Bool} (h:zcX k=some r):FnOk Tryz.prog 39 [kI k] [kB r]:=by
 refine zC (E:=⟨[(2,kB r)],[]⟩) 9 Tryz.func39 rfl rfl rfl ⟨rfl,trivial⟩ (fun Xt=>?_)
 refine zp ?_
 unfold zcX at h
 refine jp ?_
 refine zW ⟨[(2,kB ((decide (k≥1))&&(decide (k≤14))))],[]⟩ ?_ ?_
 ·
  refine (rsl 3 [] 5 (decide (k≥1)) (fun hc1=>?_) (fun hc1=>?_))
  · exact (rbl [] 2 (decide (k≤14)) ((decide (k≥1))&&(decide (k≤14))) (by rw [hc1]<;>rfl))
  exact (rbl [] 2 false ((decide (k≥1))&&(decide (k≤14))) (by rw [hc1]<;>rfl))
 obtain rfl:=sj h
 exact zz lzz
theorem zhC {b:(List UInt8)} {atv:Int} {r:(Int×Int×Int)} (h:zdW b atv=some r):FnOk Tryz.prog 68 [.sl Rp.byte [0] b,kI atv] [kU r.1,kI r.2.1,kI r.2.2]:=by
 refine zC (E:=⟨[(4,kU r.1),(5,kI r.2.1),(6,kI r.2.2)],[]⟩) 69 Tryz.func68 rfl rfl rfl ⟨rfl,rfl,rfl,trivial⟩ (fun Xt=>?_)
 refine zp ?_
 unfold zdW at h
 refine jp ?_
 refine jp ?_
 refine zA ?_
 obtain ⟨q,h_q,h⟩:=bnd h
 refine zal (fun s:Int=>zaQ atv b s) (fun s=>⟨[(0,.sl Rp.byte [0] b),(1,kI atv),(7,kI s)],[]⟩) (fun o e a w=>e= .exit 0∧Sx ⟨⟨69,[]⟩,Xt,false,#[]⟩ ⟨[(0,.sl Rp.byte [0] b),(1,kI atv),(7,kI o)],[]⟩ a w) ?_ h_q lzz ?_
 ·
  clear h
  intro n o h
  refine zp ?_
  replace h:zaQ atv b n=some o:=h
  unfold zaQ at h
  obtain ⟨g,h_g,h⟩:=bnd h
  refine zW ⟨[(0,.sl Rp.byte [0] b),(1,kI atv),(7,kI n),(28,kB g)],[]⟩ ?_ ?_
  ·
   refine (rsl 7 [] 16 (decide ((IntKind.i64.wrap (atv+n))<(b.length:Int))) (fun hc1=>?_) (fun hc1=>?_))
   ·
    replace h_g:=iteT h_g hc1
    refine (rsl 4 [] 20 (decide (n<10)) (fun hc2=>?_) (fun hc2=>?_))
    ·
     replace h_g:=iteT h_g hc2
     obtain ⟨x,h_x,h_g⟩:=bnd h_g
     obtain rfl:=sj h_g
     exact (ra 4 [.sl Rp.byte [0] b,kI (IntKind.i64.wrap (atv+n))] rfl (zao rfl zeU.el (zJ _ _ _) h_x) rfl rgg)
    replace h_g:=iteF h_g hc2
    obtain rfl:=sj h_g
    exact rgg
   replace h_g:=iteF h_g hc1
   obtain rfl:=sj h_g
   exact rgg
  rcases zm h with ⟨hc3,h⟩| ⟨hc3,h⟩
  ·
   refine jT hc3 ?_
   refine zA ?_
   refine jp ?_
   refine zag ?_
   obtain rfl:=sj h
   exact zL lzz
  refine jF hc3 ?_
  obtain rfl:=sj h
  exact zam rfl lzz
 refine zaD _ rfl ?_
 refine jp ?_
 rcases zm h with ⟨hc4,h⟩| ⟨hc4,h⟩
 ·
  refine jT hc4 ?_
  refine jp ?_
  obtain rfl:=sj h
  exact zz lzz
 refine jF hc4 ?_
 refine jp ?_
 rcases zm h with ⟨hc5,h⟩| ⟨hc5,h⟩
 ·
  refine jT hc5 ?_
  refine jp ?_
  obtain rfl:=sj h
  exact zz lzz
 refine jF hc5 ?_
 obtain ⟨g2,h_g2,h⟩:=bnd h
 refine zW ⟨[(0,.sl Rp.byte [0] b),(1,kI atv),(7,kI q),(49,kB g2)],[]⟩ ?_ ?_
 ·
  refine (rsl 3 [] 41 (q==9) (fun hc6=>?_) (fun hc6=>?_))
  ·
   replace h_g2:=iteT h_g2 hc6
   obtain ⟨x2,h_x2,h_g2⟩:=bnd h_g2
   obtain rfl:=sj h_g2
   exact (ra 4 [.sl Rp.byte [0] b,kI (IntKind.i64.wrap (atv+q))] rfl (zao rfl zeU.el (zJ _ _ _) h_x2) rfl rgg)
  replace h_g2:=iteF h_g2 hc6
  obtain rfl:=sj h_g2
  exact rgg
 rcases zm h with ⟨hc7,h⟩| ⟨hc7,h⟩
 ·
  refine jT hc7 ?_
  refine jp ?_
  obtain rfl:=sj h
  exact zz lzz
 refine jF hc7 ?_
 refine jp ?_
 refine jp ?_
 refine zA ?_
 obtain ⟨q2,h_q2,h⟩:=bnd h
 refine zal (fun s:(Int×Int)=>zbF atv b s.1 s.2) (fun s=>⟨[(0,.sl Rp.byte [0] b),(1,kI atv),(7,kI q),(8,kU s.1),(9,kI s.2)],[]⟩) (fun o e a w=>e= .exit 2∧Sx ⟨⟨69,[]⟩,Xt,false,#[]⟩ ⟨[(7,kI q),(8,kU o)],[]⟩ a w) ?_ h_q2 lzz ?_
 ·
  clear h
  intro s o h
  obtain ⟨wv,i⟩:=s
  refine zp ?_
  replace h:zbF atv b wv i=some o:=h
  unfold zbF at h
  refine jp ?_
  rcases zm h with ⟨hc8,h⟩| ⟨hc8,h⟩
  ·
   refine jT hc8 ?_
   refine zA ?_
   obtain ⟨x3,h_x3,h⟩:=bnd h
   refine jr (ra 6 [.sl Rp.byte [0] b,kI (IntKind.i64.wrap (atv+i))] rfl (zao rfl zeU.el (zJ _ _ _) h_x3) rfl rf) ?_
   refine zag ?_
   refine jp ?_
   obtain rfl:=sj h
   exact zL lzz
  refine jF hc8 ?_
  obtain rfl:=sj h
  exact zam rfl lzz
 refine zaD _ rfl ?_
 refine jp ?_
 obtain rfl:=sj h
 exact zz lzz
theorem zoJ {number:Int} {wire:Int} {r:Bool} (h:zfv number wire=some r):FnOk Tryz.prog 95 [kI number,kI wire] [kB r]:=by
 refine zC (E:=⟨[(4,kB r)],[]⟩) 27 Tryz.func95 rfl rfl rfl ⟨rfl,trivial⟩ (fun Xt=>?_)
 refine zp ?_
 unfold zfv at h
 refine jp ?_
 refine zW ⟨[(4,kB ((decide (number≥1))&&((decide (number≤536870911))&&((wire==0)|| ((wire==1)|| ((wire==2)|| (wire==5)))))))],[]⟩ ?_ ?_
 ·
  refine (rsl 3 [] 7 (decide (number≥1)) (fun hc1=>?_) (fun hc1=>?_))
  ·
   refine (rsl 4 [] 11 (decide (number≤536870911)) (fun hc2=>?_) (fun hc2=>?_))
   ·
    refine (rsl 3 [] 14 (wire==0) (fun hc3=>?_) (fun hc3=>?_))
    · exact (rbl [] 4 true ((decide (number≥1))&&((decide (number≤536870911))&&((wire==0)|| ((wire==1)|| ((wire==2)|| (wire==5)))))) (by rw [hc1,hc2,hc3]<;>rfl))
    refine (rsl 4 [] 18 (wire==1) (fun hc4=>?_) (fun hc4=>?_))
    · exact (rbl [] 4 true ((decide (number≥1))&&((decide (number≤536870911))&&((wire==0)|| ((wire==1)|| ((wire==2)|| (wire==5)))))) (by rw [hc1,hc2,hc3,hc4]<;>rfl))
    refine (rsl 4 [] 22 (wire==2) (fun hc5=>?_) (fun hc5=>?_))
    · exact (rbl [] 4 true ((decide (number≥1))&&((decide (number≤536870911))&&((wire==0)|| ((wire==1)|| ((wire==2)|| (wire==5)))))) (by rw [hc1,hc2,hc3,hc4,hc5]<;>rfl))
    exact (rbl [] 4 (wire==5) ((decide (number≥1))&&((decide (number≤536870911))&&((wire==0)|| ((wire==1)|| ((wire==2)|| (wire==5)))))) (by rw [hc1,hc2,hc3,hc4,hc5]<;>rfl))
   exact (rbl [] 4 false ((decide (number≥1))&&((decide (number≤536870911))&&((wire==0)|| ((wire==1)|| ((wire==2)|| (wire==5)))))) (by rw [hc1,hc2]<;>rfl))
  exact (rbl [] 4 false ((decide (number≥1))&&((decide (number≤536870911))&&((wire==0)|| ((wire==1)|| ((wire==2)|| (wire==5)))))) (by rw [hc1]<;>rfl))
 obtain rfl:=sj h
 exact zz lzz
theorem zjC {m:zh} {number:Int} {r:Int} (h:zes m number=some r):FnOk Tryz.prog 44 [.rc zi [0] m,kI number] [kI r]:=by
 refine zC (E:=⟨[(4,kI r)],[]⟩) 22 Tryz.func44 rfl rfl rfl ⟨rfl,trivial⟩ (fun Xt=>?_)
 refine zp ?_
 unfold zes at h
 refine jr (ra 0 [.rc zi [0] m] rfl (zcb 11 [kS m.Name,.sl zf [0] m.Fields] [0] rfl rfl rfl rfl rfl) rfl rf) ?_
 refine jp ?_
 refine zA ?_
 obtain ⟨q,h_q,h⟩:=bnd h
 refine zal (fun s:Int=>zaW m number s) (fun s=>⟨[(1,kI number),(2,.ptr 11 0),(5,kI s)],[⟨11,73,[kS m.Name,.sl zf [0] m.Fields]⟩]⟩) (fun o e a w=>match o with| (.inl v_)=>e= .exit 0∧Sx ⟨⟨22,[]⟩,Xt,false,#[]⟩ ⟨[],[]⟩ a w| (.inr v_)=>e= .ret∧Sx ⟨⟨22,[]⟩,Xt,false,#[]⟩ ⟨[(4,kI v_)],[]⟩ a w) ?_ h_q lzz ?_
 ·
  clear h
  intro i o h
  refine zp ?_
  replace h:zaW m number i=some o:=h
  unfold zaW at h
  refine jp ?_
  rcases zm h with ⟨hc1,h⟩| ⟨hc1,h⟩
  ·
   refine jT hc1 ?_
   refine zA ?_
   obtain ⟨x,h_x,h⟩:=bnd h
   refine jr (ra 3 [.sl zf [0] m.Fields,kI i] rfl (zao rfl zle.el (zJ _ _ _) h_x) rfl rf) ?_
   rcases zm h with ⟨hc2,h⟩| ⟨hc2,h⟩
   ·
    refine jT hc2 ?_
    refine jp ?_
    obtain rfl:=sj h
    exact zaZ lzz
   refine jF hc2 ?_
   refine zag ?_
   refine jp ?_
   obtain rfl:=sj h
   exact zL lzz
  refine jF hc1 ?_
  obtain rfl:=sj h
  exact zam rfl lzz
 rcases q with u| u2
 ·
  refine zaD _ rfl ?_
  refine jp ?_
  obtain rfl:=sj h
  exact zz lzz
 obtain rfl:=sj h
 exact zcK lzz
theorem zqq {rv:Int} {r:(List UInt8)} (h:zgx rv=some r):FnOk Tryz.prog 132 [kI rv] [.own Rp.byte 5 2 [] r]:=by
 refine zC (E:=⟨[(2,.own Rp.byte 5 2 [] r)],[]⟩) 68 Tryz.func132 rfl rfl rfl ⟨rfl,trivial⟩ (fun Xt=>?_)
 refine zp ?_
 unfold zgx at h
 refine jp ?_
 refine zW ⟨[(0,kI rv),(16,kB ((decide (rv<0))|| ((decide (rv>1114111))|| ((decide (rv≥55296))&&(decide (rv≤57343))))))],[]⟩ ?_ ?_
 ·
  refine (rsl 3 [] 5 (decide (rv<0)) (fun hc1=>?_) (fun hc1=>?_))
  · exact (rbl [] 16 true ((decide (rv<0))|| ((decide (rv>1114111))|| ((decide (rv≥55296))&&(decide (rv≤57343))))) (by rw [hc1]<;>rfl))
  refine (rsl 4 [] 9 (decide (rv>1114111)) (fun hc2=>?_) (fun hc2=>?_))
  · exact (rbl [] 16 true ((decide (rv<0))|| ((decide (rv>1114111))|| ((decide (rv≥55296))&&(decide (rv≤57343))))) (by rw [hc1,hc2]<;>rfl))
  refine (rsl 3 [] 12 (decide (rv≥55296)) (fun hc3=>?_) (fun hc3=>?_))
  · exact (rbl [] 16 (decide (rv≤57343)) ((decide (rv<0))|| ((decide (rv>1114111))|| ((decide (rv≥55296))&&(decide (rv≤57343))))) (by rw [hc1,hc2,hc3]<;>rfl))
  exact (rbl [] 16 false ((decide (rv<0))|| ((decide (rv>1114111))|| ((decide (rv≥55296))&&(decide (rv≤57343))))) (by rw [hc1,hc2,hc3]<;>rfl))
 rcases zm h with ⟨hc4,h⟩| ⟨hc4,h⟩
 ·
  refine jT hc4 ?_
  refine jp ?_
  obtain rfl:=sj h
  refine zz ?_
  refine zbX ⟨[(2,kN)],[]⟩ (by kernel_rfl) ?_
  refine zdF 2 (.own Rp.byte 5 2 [] ([]:(List UInt8))) rfl (zbv Rp.byte 5 2 [] rfl) ?_
  exact lzz
 refine jF hc4 ?_
 refine jp ?_
 rcases zm h with ⟨hc5,h⟩| ⟨hc5,h⟩
 ·
  refine jT hc5 ?_
  obtain ⟨y,h_y,h⟩:=bnd h
  refine jr (rc 2 rfl (zG.le (ins':=[(.tmp 20,.lf (.int .u8 (IntKind.u8.wrap rv)))]) (zfk [.lf (.int .u8 (y.toNat:Int))] 12 [] [y] rfl zeU rfl rfl rfl rfl) ⟨⟨rfl,zki h_y⟩,trivial⟩) rf) ?_
  obtain rfl:=sj h
  refine zz ?_
  refine lk [2] [] 12 2 ?_
  exact lzz
 refine jF hc5 ?_
 refine jp ?_
 rcases zm h with ⟨hc6,h⟩| ⟨hc6,h⟩
 ·
  refine jT hc6 ?_
  obtain ⟨y2,h_y2,h⟩:=bnd h
  obtain ⟨y3,h_y3,h⟩:=bnd h
  refine jr (rc 8 rfl (zG.le (ins':=[(.tmp 27,.lf (.int .u8 (IntKind.u8.wrap (IntKind.i64.wrap (192+(IntKind.i64.wrap (Int.tdiv rv 64))))))),(.tmp 31,.lf (.int .u8 (IntKind.u8.wrap (IntKind.i64.wrap (128+(Int.tmod rv 64))))))]) (zfk [.lf (.int .u8 (y2.toNat:Int)),.lf (.int .u8 (y3.toNat:Int))] 13 [] [y2,y3] rfl zeU rfl rfl rfl rfl) ⟨⟨rfl,zki h_y2⟩,⟨rfl,zki h_y3⟩,trivial⟩) rf) ?_
  obtain rfl:=sj h
  refine zz ?_
  refine lk [2] [] 13 2 ?_
  exact lzz
 refine jF hc6 ?_
 refine jp ?_
 rcases zm h with ⟨hc7,h⟩| ⟨hc7,h⟩
 ·
  refine jT hc7 ?_
  obtain ⟨y4,h_y4,h⟩:=bnd h
  obtain ⟨y5,h_y5,h⟩:=bnd h
  obtain ⟨y6,h_y6,h⟩:=bnd h
  refine jr (rc 13 rfl (zG.le (ins':=[(.tmp 38,.lf (.int .u8 (IntKind.u8.wrap (IntKind.i64.wrap (224+(IntKind.i64.wrap (Int.tdiv rv 4096))))))),(.tmp 43,.lf (.int .u8 (IntKind.u8.wrap (IntKind.i64.wrap (128+(Int.tmod (IntKind.i64.wrap (Int.tdiv rv 64)) 64)))))),(.tmp 47,.lf (.int .u8 (IntKind.u8.wrap (IntKind.i64.wrap (128+(Int.tmod rv 64))))))]) (zfk [.lf (.int .u8 (y4.toNat:Int)),.lf (.int .u8 (y5.toNat:Int)),.lf (.int .u8 (y6.toNat:Int))] 14 [] [y4,y5,y6] rfl zeU rfl rfl rfl rfl) ⟨⟨rfl,zki h_y4⟩,⟨rfl,zki h_y5⟩,⟨rfl,zki h_y6⟩,trivial⟩) rf) ?_
  obtain rfl:=sj h
  refine zz ?_
  refine lk [2] [] 14 2 ?_
  exact lzz
 refine jF hc7 ?_
 obtain ⟨y7,h_y7,h⟩:=bnd h
 obtain ⟨y8,h_y8,h⟩:=bnd h
 obtain ⟨y9,h_y9,h⟩:=bnd h
 obtain ⟨y10,h_y10,h⟩:=bnd h
 refine jr (rc 18 rfl (zG.le (ins':=[(.tmp 52,.lf (.int .u8 (IntKind.u8.wrap (IntKind.i64.wrap (240+(IntKind.i64.wrap (Int.tdiv rv 262144))))))),(.tmp 57,.lf (.int .u8 (IntKind.u8.wrap (IntKind.i64.wrap (128+(Int.tmod (IntKind.i64.wrap (Int.tdiv rv 4096)) 64)))))),(.tmp 62,.lf (.int .u8 (IntKind.u8.wrap (IntKind.i64.wrap (128+(Int.tmod (IntKind.i64.wrap (Int.tdiv rv 64)) 64)))))),(.tmp 66,.lf (.int .u8 (IntKind.u8.wrap (IntKind.i64.wrap (128+(Int.tmod rv 64))))))]) (zfk [.lf (.int .u8 (y7.toNat:Int)),.lf (.int .u8 (y8.toNat:Int)),.lf (.int .u8 (y9.toNat:Int)),.lf (.int .u8 (y10.toNat:Int))] 15 [] [y7,y8,y9,y10] rfl zeU rfl rfl rfl rfl) ⟨⟨rfl,zki h_y7⟩,⟨rfl,zki h_y8⟩,⟨rfl,zki h_y9⟩,⟨rfl,zki h_y10⟩,trivial⟩) rf) ?_
 obtain rfl:=sj h
 refine zz ?_
 refine lk [2] [] 15 2 ?_
 exact lzz
theorem zqp {rec_darninglaw14_Of:zc→Option zc} {rec_darninglaw14_OfValue:zb→Option zb} (hrec_darninglaw14_Of:∀{x:zc} {r:zc},rec_darninglaw14_Of x=some r→FnOk Tryz.prog 12 [.rc zd [0] x] [.ag [.own za 56 3 [4,0] r.Values,.own Rp.str 9 5 [] r.Unknown]]) (hrec_darninglaw14_OfValue:∀{v:zb} {r:zb},rec_darninglaw14_OfValue v=some r→FnOk Tryz.prog 24 [.rc za [0] v] [.ag [kI r.Number,.sl (Rp.int .u64) [0] r.Words,.sl Rp.str [0] r.Texts,.own zd 39 3 [4,0] r.Subs]]) {x:zc} {r:zc} (h:zfT rec_darninglaw14_Of rec_darninglaw14_OfValue x=some r):FnOk Tryz.prog 12 [.rc zd [0] x] [.ag [.own za 56 3 [4,0] r.Values,.own Rp.str 9 5 [] r.Unknown]]:=by
 refine zC (E:=⟨[(2,.ptr 2 0)],[⟨2,39,[.own za 56 3 [4,0] r.Values,.own Rp.str 9 5 [] r.Unknown]⟩]⟩) 29 Tryz.func12 rfl rfl rfl ⟨⟨_,_,rfl,rfl,rfl,⟨Tryz.isAgg39,Tryz.sizeOf39⟩⟩,trivial⟩ (fun Xt=>?_)
 refine zp ?_
 unfold zfT at h
 refine jr (ra 0 [.rc zd [0] x] rfl (zcb 21 [.sl za [0] x.Values,.sl Rp.str [0] x.Unknown] [0] rfl rfl rfl (by rw [zo]<;>rfl) rfl) rfl (rfl' [22])) ?_
 obtain ⟨v,h_v,h⟩:=bnd h
 refine jr (rc 0 rfl (zfk [] 23 [] ([]:(List Str)) rfl zif rfl rfl rfl rfl) (ra 2 [.own Rp.str 9 23 [] ([]:(List Str)),.sl Rp.str [0] x.Unknown] rfl (zjS 23 [] rfl zif.el rfl (zfq _ _ _ _ _) (zJ _ _ _) h_v (.inl zsV) rfl) rfl (ra 0 [.own Rp.str 9 23 [] v] rfl (zeP [.own Rp.str 9 23 [] v] [kN,.own Rp.str 9 23 [] v] rfl zJc rfl) rfl (rfl' [24])))) ?_
 refine jp ?_
 refine zA ?_
 obtain ⟨q,h_q,h⟩:=bnd h
 refine zal (fun s:(Int×(List zb))=>zcf rec_darninglaw14_OfValue x s.1 s.2) (fun s=>⟨[(1,.ptr 21 0),(2,.ptr 22 0),(3,.ptr 24 0),(4,kI s.1)],[⟨21,30,[.sl za [0] x.Values,.sl Rp.str [0] x.Unknown]⟩,⟨22,39,[kN,kN]⟩,⟨24,39,[.own za 56 30 [25,0] s.2,.own Rp.str 9 23 [] v]⟩]⟩) (fun o e a w=>e= .exit 0∧Sx ⟨⟨29,[]⟩,Xt,false,#[]⟩ ⟨[(2,.ptr 22 0),(3,.ptr 24 0)],[⟨22,39,[kN,kN]⟩,⟨24,39,[.own za 56 30 [25,0] o,.own Rp.str 9 23 [] v]⟩]⟩ a w) ?_ h_q ?_ ?_
 ·
  clear h
  intro s o h
  obtain ⟨i,f⟩:=s
  refine zp ?_
  replace h:zcf rec_darninglaw14_OfValue x i f=some o:=h
  unfold zcf at h
  refine jp ?_
  rcases zm h with ⟨hc1,h⟩| ⟨hc1,h⟩
  ·
   refine jT hc1 ?_
   refine zA ?_
   obtain ⟨x2,h_x2,h⟩:=bnd h
   obtain ⟨rv,h_rv,h⟩:=bnd h
   obtain ⟨v2,h_v2,h⟩:=bnd h
   refine jd [1,2,3,4] [21,22,24] zcc (by exact (lw_e (lw_e (lw_e (lw_e (lw_e (ly [.sl za [0] x.Values,kI i] (zao rfl zkQ.el (zJ _ _ _) h_x2) rfl (ly [.ep za [0] x2 0] (zci rfl ⟨Tryz.isAgg50,Tryz.sizeOf50⟩) rfl (lx (lf1 24 (zae [.rc za [0] x2] [0] 33 rfl Tryz.call24 (hrec_darninglaw14_OfValue h_rv) rfl rfl rfl rfl rfl)) (lx (zG.le (ins':=[(.tmp 24,.ag [kI rv.Number,.sl (Rp.int .u64) [0] rv.Words,.sl Rp.str [0] rv.Texts,.own zd 39 36 [37,0] rv.Subs])]) (zfk [.rc za [0,36,37] rv] 38 [0,36,37] ([rv]:(List zb)) rfl zlY rfl rfl rfl (by simp only [ztu,zln,zkV,zq,List.flatMap_cons,List.flatMap_nil]<;>rfl)) ⟨⟨rfl,zaa za [0,36,37] rv [kI rv.Number,.sl (Rp.int .u64) [0] rv.Words,.sl Rp.str [0] rv.Texts,.own zd 39 36 [37,0] rv.Subs] (by rw [zq]<;>rfl) rfl⟩,trivial⟩) (ly [.own za 56 30 [25,0] f,.own za 56 38 [0,36,37] ([rv]:(List zb))] (zG.withBx (zjS 30 [25,0,38,36,37] rfl zlY.el rfl (zfq _ _ _ _ _) (zfd _ _ _ _ _) h_v2 (.inr rfl) rfl) ⟨24,39,[.own za 56 30 [25,0] f,.own Rp.str 9 23 [] v]⟩ rfl rfl) rfl (lw_e (ly [.ptr 24 0,.own za 56 30 [25,0,38,36,37] v2] (zyw (b:=⟨24,39,[.any,.own Rp.str 9 23 [] v]⟩) (off:=0) rfl Tryz.sizeOf37 rfl rfl rfl) rfl l0))))))))))))) ?_
   refine zag ?_
   refine jp ?_
   obtain rfl:=sj h
   refine zL ?_
   refine lk [1,2,3,4] [21,22,24] 38 25 ?_
   refine lk [1,2,3,4] [21,22,24] 36 25 ?_
   refine lk [1,2,3,4] [21,22,24] 37 25 ?_
   refine zbX ⟨[(1,.ptr 21 0),(2,.ptr 22 0),(3,.ptr 24 0),(4,kI (IntKind.i64.wrap (i+1)))],[⟨21,30,[.sl za [0] x.Values,.sl Rp.str [0] x.Unknown]⟩,⟨22,39,[kN,kN]⟩,⟨24,39,[.own za 56 30 [25,0,25,25,25] v2,.own Rp.str 9 23 [] v]⟩]⟩ (by kernel_rfl) ?_
   refine zdN 24 0 (.own za 56 30 [25,0] v2) rfl rfl (zij _ _ _ _ _ _ rfl rfl) ?_
   exact lzz
  refine jF hc1 ?_
  obtain rfl:=sj h
  exact zam rfl lzz
 ·
  refine zbX ⟨[(1,.ptr 21 0),(2,.ptr 22 0),(3,.ptr 24 0),(4,kI 0)],[⟨21,30,[.sl za [0] x.Values,.sl Rp.str [0] x.Unknown]⟩,⟨22,39,[kN,kN]⟩,⟨24,39,[kN,.own Rp.str 9 23 [] v]⟩]⟩ (by kernel_rfl) ?_
  refine zdN 24 0 (.own za 56 30 [25,0] []) rfl rfl (zbv za 56 30 [25,0] rfl) ?_
  exact lzz
 refine zaD _ rfl ?_
 refine jp ?_
 obtain rfl:=sj h
 refine zz ?_
 refine lk [2] [22] 22 2 ?_
 refine lk [2] [2] 30 3 ?_
 refine lk [2] [2] 23 5 ?_
 refine lk [2] [2] 25 4 ?_
 exact lzz
theorem zmC {rec_darninglaw14_Of:zc→Option zc} {rec_darninglaw14_OfValue:zb→Option zb} (hrec_darninglaw14_Of:∀{x:zc} {r:zc},rec_darninglaw14_Of x=some r→FnOk Tryz.prog 12 [.rc zd [0] x] [.ag [.own za 56 3 [4,0] r.Values,.own Rp.str 9 5 [] r.Unknown]]) (hrec_darninglaw14_OfValue:∀{v:zb} {r:zb},rec_darninglaw14_OfValue v=some r→FnOk Tryz.prog 24 [.rc za [0] v] [.ag [kI r.Number,.sl (Rp.int .u64) [0] r.Words,.sl Rp.str [0] r.Texts,.own zd 39 3 [4,0] r.Subs]]) {v:zb} {r:zb} (h:zdU rec_darninglaw14_Of rec_darninglaw14_OfValue v=some r):FnOk Tryz.prog 24 [.rc za [0] v] [.ag [kI r.Number,.sl (Rp.int .u64) [0] r.Words,.sl Rp.str [0] r.Texts,.own zd 39 3 [4,0] r.Subs]]:=by
 refine zC (E:=⟨[(2,.ptr 2 0)],[⟨2,56,[kI r.Number,.sl (Rp.int .u64) [0] r.Words,.sl Rp.str [0] r.Texts,.own zd 39 3 [4,0] r.Subs]⟩]⟩) 31 Tryz.func24 rfl rfl rfl ⟨⟨_,_,rfl,rfl,rfl,⟨Tryz.isAgg56,Tryz.sizeOf56⟩⟩,trivial⟩ (fun Xt=>?_)
 refine zp ?_
 unfold zdU at h
 refine jr (ra 0 [.rc za [0] v] rfl (zcb 21 [kI v.Number,.sl (Rp.int .u64) [0] v.Words,.sl Rp.str [0] v.Texts,.sl zd [0] v.Subs] [0] rfl rfl rfl (by rw [zq]<;>rfl) rfl) rfl (rfl' [22])) ?_
 refine jr (ra 6 [kI v.Number,.sl (Rp.int .u64) [0] v.Words,.sl Rp.str [0] v.Texts] rfl (zeP [kI v.Number,.sl (Rp.int .u64) [0] v.Words,.sl Rp.str [0] v.Texts] [kI v.Number,.sl (Rp.int .u64) [0] v.Words,.sl Rp.str [0] v.Texts,kN] rfl zHL rfl) rfl (rfl' [23])) ?_
 refine jp ?_
 refine zA ?_
 obtain ⟨q,h_q,h⟩:=bnd h
 refine zal (fun s:(Int×(List zc))=>zaS rec_darninglaw14_Of v s.1 s.2) (fun s=>⟨[(1,.ptr 21 0),(2,.ptr 22 0),(3,.ptr 23 0),(4,kI s.1)],[⟨21,50,[kI v.Number,.sl (Rp.int .u64) [0] v.Words,.sl Rp.str [0] v.Texts,.sl zd [0] v.Subs]⟩,⟨22,56,[kI 0,kN,kN,kN]⟩,⟨23,56,[kI v.Number,.sl (Rp.int .u64) [0] v.Words,.sl Rp.str [0] v.Texts,.own zd 39 30 [24,0] s.2]⟩]⟩) (fun o e a w=>e= .exit 0∧Sx ⟨⟨31,[]⟩,Xt,false,#[]⟩ ⟨[(2,.ptr 22 0),(3,.ptr 23 0)],[⟨22,56,[kI 0,kN,kN,kN]⟩,⟨23,56,[kI v.Number,.sl (Rp.int .u64) [0] v.Words,.sl Rp.str [0] v.Texts,.own zd 39 30 [24,0] o]⟩]⟩ a w) ?_ h_q ?_ ?_
 ·
  clear h
  intro s o h
  obtain ⟨i,f⟩:=s
  refine zp ?_
  replace h:zaS rec_darninglaw14_Of v i f=some o:=h
  unfold zaS at h
  refine jp ?_
  rcases zm h with ⟨hc1,h⟩| ⟨hc1,h⟩
  ·
   refine jT hc1 ?_
   refine zA ?_
   obtain ⟨x,h_x,h⟩:=bnd h
   obtain ⟨rv,h_rv,h⟩:=bnd h
   obtain ⟨v2,h_v2,h⟩:=bnd h
   refine jd [1,2,3,4] [21,22,23] zcc (by exact (lw_e (lw_e (lw_e (lw_e (lw_e (ly [.sl zd [0] v.Subs,kI i] (zao rfl zoG.el (zJ _ _ _) h_x) rfl (ly [.ep zd [0] x 0] (zci rfl ⟨Tryz.isAgg30,Tryz.sizeOf30⟩) rfl (lx (lf1 12 (zae [.rc zd [0] x] [0] 34 rfl Tryz.call12 (hrec_darninglaw14_Of h_rv) rfl rfl rfl rfl rfl)) (lx (zG.le (ins':=[(.tmp 26,.ag [.own za 56 37 [38,0] rv.Values,.own Rp.str 9 39 [] rv.Unknown])]) (zfk [.rc zd [37,38,0,39] rv] 40 [37,38,0,39] ([rv]:(List zc)) rfl zxI rfl rfl rfl (by simp only [ztu,zln,zkV,zo,List.flatMap_cons,List.flatMap_nil]<;>rfl)) ⟨⟨rfl,zaa zd [37,38,0,39] rv [.own za 56 37 [38,0] rv.Values,.own Rp.str 9 39 [] rv.Unknown] (by rw [zo]<;>rfl) rfl⟩,trivial⟩) (ly [.own zd 39 30 [24,0] f,.own zd 39 40 [37,38,0,39] ([rv]:(List zc))] (zG.withBx (zjS 30 [24,0,40,37,38,39] rfl zxI.el rfl (zfq _ _ _ _ _) (zfd _ _ _ _ _) h_v2 (.inr rfl) rfl) ⟨23,56,[kI v.Number,.sl (Rp.int .u64) [0] v.Words,.sl Rp.str [0] v.Texts,.own zd 39 30 [24,0] f]⟩ rfl rfl) rfl (lw_e (ly [.ptr 23 3,.own zd 39 30 [24,0,40,37,38,39] v2] (zyw (b:=⟨23,56,[kI v.Number,.sl (Rp.int .u64) [0] v.Words,.sl Rp.str [0] v.Texts,.any]⟩) (off:=3) rfl Tryz.sizeOf54 rfl rfl rfl) rfl l0))))))))))))) ?_
   refine zag ?_
   refine jp ?_
   obtain rfl:=sj h
   refine zL ?_
   refine lk [1,2,3,4] [21,22,23] 40 24 ?_
   refine lk [1,2,3,4] [21,22,23] 37 24 ?_
   refine lk [1,2,3,4] [21,22,23] 38 24 ?_
   refine lk [1,2,3,4] [21,22,23] 39 24 ?_
   refine zbX ⟨[(1,.ptr 21 0),(2,.ptr 22 0),(3,.ptr 23 0),(4,kI (IntKind.i64.wrap (i+1)))],[⟨21,50,[kI v.Number,.sl (Rp.int .u64) [0] v.Words,.sl Rp.str [0] v.Texts,.sl zd [0] v.Subs]⟩,⟨22,56,[kI 0,kN,kN,kN]⟩,⟨23,56,[kI v.Number,.sl (Rp.int .u64) [0] v.Words,.sl Rp.str [0] v.Texts,.own zd 39 30 [24,0,24,24,24,24] v2]⟩]⟩ (by kernel_rfl) ?_
   refine zdN 23 3 (.own zd 39 30 [24,0] v2) rfl rfl (zij _ _ _ _ _ _ rfl rfl) ?_
   exact lzz
  refine jF hc1 ?_
  obtain rfl:=sj h
  exact zam rfl lzz
 ·
  refine zbX ⟨[(1,.ptr 21 0),(2,.ptr 22 0),(3,.ptr 23 0),(4,kI 0)],[⟨21,50,[kI v.Number,.sl (Rp.int .u64) [0] v.Words,.sl Rp.str [0] v.Texts,.sl zd [0] v.Subs]⟩,⟨22,56,[kI 0,kN,kN,kN]⟩,⟨23,56,[kI v.Number,.sl (Rp.int .u64) [0] v.Words,.sl Rp.str [0] v.Texts,kN]⟩]⟩ (by kernel_rfl) ?_
  refine zdN 23 3 (.own zd 39 30 [24,0] []) rfl rfl (zbv zd 39 30 [24,0] rfl) ?_
  exact lzz
 refine zaD _ rfl ?_
 refine jp ?_
 obtain rfl:=sj h
 refine zz ?_
 refine lk [2] [22] 22 2 ?_
 refine lk [2] [2] 30 3 ?_
 refine lk [2] [2] 24 4 ?_
 exact lzz
theorem zdM (fuel:Nat):(∀{x:zc} {r:zc},zcm fuel x=some r→FnOk Tryz.prog 12 [.rc zd [0] x] [.ag [.own za 56 3 [4,0] r.Values,.own Rp.str 9 5 [] r.Unknown]])∧(∀{v:zb} {r:zb},zbD fuel v=some r→FnOk Tryz.prog 24 [.rc za [0] v] [.ag [kI r.Number,.sl (Rp.int .u64) [0] r.Words,.sl Rp.str [0] r.Texts,.own zd 39 3 [4,0] r.Subs]]):=by
  induction fuel with
  | zero=>exact ⟨fun h=>absurd h nofun,fun h=>absurd h nofun⟩
  | succ fuel ih=>exact ⟨fun h=>zqp (fun hh=>ih.1 hh) (fun hh=>ih.2 hh) h,fun h=>zmC (fun hh=>ih.1 hh) (fun hh=>ih.2 hh) h⟩
theorem ziJ {fuel:Nat} {x:zc} {r:zc} (h:zcm fuel x=some r):FnOk Tryz.prog 12 [.rc zd [0] x] [.ag [.own za 56 3 [4,0] r.Values,.own Rp.str 9 5 [] r.Unknown]]:=(zdM fuel).1 h
theorem zgw {fuel:Nat} {v:zb} {r:zb} (h:zbD fuel v=some r):FnOk Tryz.prog 24 [.rc za [0] v] [.ag [kI r.Number,.sl (Rp.int .u64) [0] r.Words,.sl Rp.str [0] r.Texts,.own zd 39 3 [4,0] r.Subs]]:=(zdM fuel).2 h
theorem zoS {rec_darningref14_Same:zc→zc→Option Bool} {rec_darningref14_SameValue:zb→zb→Option Bool} (hrec_darningref14_Same:∀{av:zc} {b:zc} {r:Bool},rec_darningref14_Same av b=some r→FnOk Tryz.prog 11 [.rc zd [0] av,.rc zd [0] b] [kB r]) (hrec_darningref14_SameValue:∀{av:zb} {b:zb} {r:Bool},rec_darningref14_SameValue av b=some r→FnOk Tryz.prog 23 [.rc za [0] av,.rc za [0] b] [kB r]) {av:zc} {b:zc} {r:Bool} (h:zfc rec_darningref14_Same rec_darningref14_SameValue av b=some r):FnOk Tryz.prog 11 [.rc zd [0] av,.rc zd [0] b] [kB r]:=by
 refine zC (E:=⟨[(4,kB r)],[]⟩) 60 Tryz.func11 rfl rfl rfl ⟨rfl,trivial⟩ (fun Xt=>?_)
 refine zp ?_
 unfold zfc at h
 refine jr (ra 0 [.rc zd [0] av] rfl (zcb 11 [.sl za [0] av.Values,.sl Rp.str [0] av.Unknown] [0] rfl rfl rfl (by rw [zo]<;>rfl) rfl) rfl (ra 0 [.rc zd [0] b] rfl (zcb 12 [.sl za [0] b.Values,.sl Rp.str [0] b.Unknown] [0] rfl rfl rfl (by rw [zo]<;>rfl) rfl) rfl rf)) ?_
 refine zW ⟨[(2,.ptr 11 0),(3,.ptr 12 0),(22,kB (((av.Values.length:Int) !=(b.Values.length:Int))|| ((av.Unknown.length:Int) !=(b.Unknown.length:Int))))],[⟨11,39,[.sl za [0] av.Values,.sl Rp.str [0] av.Unknown]⟩,⟨12,39,[.sl za [0] b.Values,.sl Rp.str [0] b.Unknown]⟩]⟩ ?_ ?_
 ·
  refine (rsl 8 [] 14 ((av.Values.length:Int) !=(b.Values.length:Int)) (fun hc1=>?_) (fun hc1=>?_))
  · exact (rbl [] 22 true (((av.Values.length:Int) !=(b.Values.length:Int))|| ((av.Unknown.length:Int) !=(b.Unknown.length:Int))) (by rw [hc1]<;>rfl))
  exact (rbl [] 22 ((av.Unknown.length:Int) !=(b.Unknown.length:Int)) (((av.Values.length:Int) !=(b.Values.length:Int))|| ((av.Unknown.length:Int) !=(b.Unknown.length:Int))) (by rw [hc1]<;>rfl))
 rcases zm h with ⟨hc2,h⟩| ⟨hc2,h⟩
 ·
  refine jT hc2 ?_
  refine jp ?_
  obtain rfl:=sj h
  exact zz lzz
 refine jF hc2 ?_
 refine jp ?_
 refine zA ?_
 obtain ⟨q,h_q,h⟩:=bnd h
 refine zal (fun s:Int=>zbj av b rec_darningref14_SameValue s) (fun s=>⟨[(2,.ptr 11 0),(3,.ptr 12 0),(5,kI s)],[⟨11,39,[.sl za [0] av.Values,.sl Rp.str [0] av.Unknown]⟩,⟨12,39,[.sl za [0] b.Values,.sl Rp.str [0] b.Unknown]⟩]⟩) (fun o e a w=>match o with| (.inl v_)=>e= .exit 0∧Sx ⟨⟨60,[]⟩,Xt,false,#[]⟩ ⟨[(2,.ptr 11 0),(3,.ptr 12 0)],[⟨11,39,[.sl za [0] av.Values,.sl Rp.str [0] av.Unknown]⟩,⟨12,39,[.sl za [0] b.Values,.sl Rp.str [0] b.Unknown]⟩]⟩ a w| (.inr v_)=>e= .ret∧Sx ⟨⟨60,[]⟩,Xt,false,#[]⟩ ⟨[(4,kB false)],[]⟩ a w) ?_ h_q lzz ?_
 ·
  clear h
  intro i o h
  refine zp ?_
  replace h:zbj av b rec_darningref14_SameValue i=some o:=h
  unfold zbj at h
  refine jp ?_
  rcases zm h with ⟨hc3,h⟩| ⟨hc3,h⟩
  ·
   refine jT hc3 ?_
   refine zA ?_
   obtain ⟨x,h_x,h⟩:=bnd h
   obtain ⟨x2,h_x2,h⟩:=bnd h
   obtain ⟨rv,h_rv,h⟩:=bnd h
   refine jd [2,3,5,41] [11,12] zcc (by exact (lw_e (lw_e (lw_e (ly [.sl za [0] av.Values,kI i] (zao rfl zlY.el (zJ _ _ _) h_x) rfl (ly [.ep za [0] x 0] (zci rfl ⟨Tryz.isAgg56,Tryz.sizeOf56⟩) rfl (lw_e (lw_e (lw_e (ly [.sl za [0] b.Values,kI i] (zao rfl zlY.el (zJ _ _ _) h_x2) rfl (ly [.ep za [0] x2 0] (zci rfl ⟨Tryz.isAgg56,Tryz.sizeOf56⟩) rfl (lx (lf1 23 (zae [.rc za [0] x,.rc za [0] x2] [0] 12 rfl Tryz.call23 (hrec_darningref14_SameValue h_rv) rfl rfl rfl rfl rfl)) l0)))))))))))) ?_
   rcases zm h with ⟨hc4,h⟩| ⟨hc4,h⟩
   ·
    refine jT hc4 ?_
    refine jp ?_
    obtain rfl:=sj h
    exact zaZ lzz
   refine jF hc4 ?_
   refine zag ?_
   refine jp ?_
   obtain rfl:=sj h
   exact zL lzz
  refine jF hc3 ?_
  obtain rfl:=sj h
  exact zam rfl lzz
 rcases q with u| u4
 ·
  refine zaD _ rfl ?_
  refine jp ?_
  refine zA ?_
  obtain ⟨q2,h_q2,h⟩:=bnd h
  refine zal (fun s:Int=>zbk av b s) (fun s=>⟨[(2,.ptr 11 0),(3,.ptr 12 0),(6,kI s)],[⟨11,39,[.sl za [0] av.Values,.sl Rp.str [0] av.Unknown]⟩,⟨12,39,[.sl za [0] b.Values,.sl Rp.str [0] b.Unknown]⟩]⟩) (fun o e a w=>match o with| (.inl v_)=>e= .exit 2∧Sx ⟨⟨60,[]⟩,Xt,false,#[]⟩ ⟨[],[]⟩ a w| (.inr v_)=>e= .ret∧Sx ⟨⟨60,[]⟩,Xt,false,#[]⟩ ⟨[(4,kB false)],[]⟩ a w) ?_ h_q2 lzz ?_
  ·
   clear h
   intro i2 o h
   refine zp ?_
   replace h:zbk av b i2=some o:=h
   unfold zbk at h
   refine jp ?_
   rcases zm h with ⟨hc5,h⟩| ⟨hc5,h⟩
   ·
    refine jT hc5 ?_
    refine zA ?_
    obtain ⟨x3,h_x3,h⟩:=bnd h
    obtain ⟨x4,h_x4,h⟩:=bnd h
    refine jd [2,3,6,59] [11,12] zcc (by exact (lw_e (lw_e (lw_e (ly [.sl Rp.str [0] av.Unknown,kI i2] (zao rfl zif.el (zJ _ _ _) h_x3) rfl (lw_e (lw_e (lw_e (lw_e (ly [.sl Rp.str [0] b.Unknown,kI i2] (zao rfl zif.el (zJ _ _ _) h_x4) rfl l0)))))))))) ?_
    rcases zm h with ⟨hc6,h⟩| ⟨hc6,h⟩
    ·
     refine jT hc6 ?_
     refine jp ?_
     obtain rfl:=sj h
     exact zaZ lzz
    refine jF hc6 ?_
    refine zag ?_
    refine jp ?_
    obtain rfl:=sj h
    exact zL lzz
   refine jF hc5 ?_
   obtain rfl:=sj h
   exact zam rfl lzz
  rcases q2 with u2| u3
  ·
   refine zaD _ rfl ?_
   refine jp ?_
   obtain rfl:=sj h
   exact zz lzz
  obtain rfl:=sj h
  exact zcK lzz
 obtain rfl:=sj h
 exact zcK lzz
theorem zlB {rec_darningref14_Same:zc→zc→Option Bool} {rec_darningref14_SameValue:zb→zb→Option Bool} (hrec_darningref14_Same:∀{av:zc} {b:zc} {r:Bool},rec_darningref14_Same av b=some r→FnOk Tryz.prog 11 [.rc zd [0] av,.rc zd [0] b] [kB r]) (hrec_darningref14_SameValue:∀{av:zb} {b:zb} {r:Bool},rec_darningref14_SameValue av b=some r→FnOk Tryz.prog 23 [.rc za [0] av,.rc za [0] b] [kB r]) {av:zb} {b:zb} {r:Bool} (h:zdn rec_darningref14_Same rec_darningref14_SameValue av b=some r):FnOk Tryz.prog 23 [.rc za [0] av,.rc za [0] b] [kB r]:=by
 refine zC (E:=⟨[(4,kB r)],[]⟩) 95 Tryz.func23 rfl rfl rfl ⟨rfl,trivial⟩ (fun Xt=>?_)
 refine zp ?_
 unfold zdn at h
 refine jr (ra 0 [.rc za [0] av] rfl (zcb 11 [kI av.Number,.sl (Rp.int .u64) [0] av.Words,.sl Rp.str [0] av.Texts,.sl zd [0] av.Subs] [0] rfl rfl rfl (by rw [zq]<;>rfl) rfl) rfl (ra 0 [.rc za [0] b] rfl (zcb 12 [kI b.Number,.sl (Rp.int .u64) [0] b.Words,.sl Rp.str [0] b.Texts,.sl zd [0] b.Subs] [0] rfl rfl rfl (by rw [zq]<;>rfl) rfl) rfl rf)) ?_
 refine zW ⟨[(2,.ptr 11 0),(3,.ptr 12 0),(39,kB ((av.Number !=b.Number)|| (((av.Words.length:Int) !=(b.Words.length:Int))|| (((av.Texts.length:Int) !=(b.Texts.length:Int))|| ((av.Subs.length:Int) !=(b.Subs.length:Int))))))],[⟨11,56,[kI av.Number,.sl (Rp.int .u64) [0] av.Words,.sl Rp.str [0] av.Texts,.sl zd [0] av.Subs]⟩,⟨12,56,[kI b.Number,.sl (Rp.int .u64) [0] b.Words,.sl Rp.str [0] b.Texts,.sl zd [0] b.Subs]⟩]⟩ ?_ ?_
 ·
  refine (rsl 6 [] 13 (av.Number !=b.Number) (fun hc1=>?_) (fun hc1=>?_))
  · exact (rbl [] 39 true ((av.Number !=b.Number)|| (((av.Words.length:Int) !=(b.Words.length:Int))|| (((av.Texts.length:Int) !=(b.Texts.length:Int))|| ((av.Subs.length:Int) !=(b.Subs.length:Int))))) (by rw [hc1]<;>rfl))
  refine (rsl 9 [] 22 ((av.Words.length:Int) !=(b.Words.length:Int)) (fun hc2=>?_) (fun hc2=>?_))
  · exact (rbl [] 39 true ((av.Number !=b.Number)|| (((av.Words.length:Int) !=(b.Words.length:Int))|| (((av.Texts.length:Int) !=(b.Texts.length:Int))|| ((av.Subs.length:Int) !=(b.Subs.length:Int))))) (by rw [hc1,hc2]<;>rfl))
  refine (rsl 9 [] 31 ((av.Texts.length:Int) !=(b.Texts.length:Int)) (fun hc3=>?_) (fun hc3=>?_))
  · exact (rbl [] 39 true ((av.Number !=b.Number)|| (((av.Words.length:Int) !=(b.Words.length:Int))|| (((av.Texts.length:Int) !=(b.Texts.length:Int))|| ((av.Subs.length:Int) !=(b.Subs.length:Int))))) (by rw [hc1,hc2,hc3]<;>rfl))
  exact (rbl [] 39 ((av.Subs.length:Int) !=(b.Subs.length:Int)) ((av.Number !=b.Number)|| (((av.Words.length:Int) !=(b.Words.length:Int))|| (((av.Texts.length:Int) !=(b.Texts.length:Int))|| ((av.Subs.length:Int) !=(b.Subs.length:Int))))) (by rw [hc1,hc2,hc3]<;>rfl))
 rcases zm h with ⟨hc4,h⟩| ⟨hc4,h⟩
 ·
  refine jT hc4 ?_
  refine jp ?_
  obtain rfl:=sj h
  exact zz lzz
 refine jF hc4 ?_
 refine jp ?_
 refine zA ?_
 obtain ⟨q,h_q,h⟩:=bnd h
 refine zal (fun s:Int=>zaA av b s) (fun s=>⟨[(2,.ptr 11 0),(3,.ptr 12 0),(5,kI s)],[⟨11,56,[kI av.Number,.sl (Rp.int .u64) [0] av.Words,.sl Rp.str [0] av.Texts,.sl zd [0] av.Subs]⟩,⟨12,56,[kI b.Number,.sl (Rp.int .u64) [0] b.Words,.sl Rp.str [0] b.Texts,.sl zd [0] b.Subs]⟩]⟩) (fun o e a w=>match o with| (.inl v_)=>e= .exit 0∧Sx ⟨⟨95,[]⟩,Xt,false,#[]⟩ ⟨[(2,.ptr 11 0),(3,.ptr 12 0)],[⟨11,56,[kI av.Number,.sl (Rp.int .u64) [0] av.Words,.sl Rp.str [0] av.Texts,.sl zd [0] av.Subs]⟩,⟨12,56,[kI b.Number,.sl (Rp.int .u64) [0] b.Words,.sl Rp.str [0] b.Texts,.sl zd [0] b.Subs]⟩]⟩ a w| (.inr v_)=>e= .ret∧Sx ⟨⟨95,[]⟩,Xt,false,#[]⟩ ⟨[(4,kB false)],[]⟩ a w) ?_ h_q lzz ?_
 ·
  clear h
  intro i o h
  refine zp ?_
  replace h:zaA av b i=some o:=h
  unfold zaA at h
  refine jp ?_
  rcases zm h with ⟨hc5,h⟩| ⟨hc5,h⟩
  ·
   refine jT hc5 ?_
   refine zA ?_
   obtain ⟨x,h_x,h⟩:=bnd h
   obtain ⟨x2,h_x2,h⟩:=bnd h
   refine jd [2,3,5,57] [11,12] zcc (by exact (lw_e (lw_e (lw_e (ly [.sl (Rp.int .u64) [0] av.Words,kI i] (zao rfl zld.el (zJ _ _ _) h_x) rfl (lw_e (lw_e (lw_e (lw_e (ly [.sl (Rp.int .u64) [0] b.Words,kI i] (zao rfl zld.el (zJ _ _ _) h_x2) rfl l0)))))))))) ?_
   rcases zm h with ⟨hc6,h⟩| ⟨hc6,h⟩
   ·
    refine jT hc6 ?_
    refine jp ?_
    obtain rfl:=sj h
    exact zaZ lzz
   refine jF hc6 ?_
   refine zag ?_
   refine jp ?_
   obtain rfl:=sj h
   exact zL lzz
  refine jF hc5 ?_
  obtain rfl:=sj h
  exact zam rfl lzz
 rcases q with u| u6
 ·
  refine zaD _ rfl ?_
  refine jp ?_
  refine zA ?_
  obtain ⟨q2,h_q2,h⟩:=bnd h
  refine zal (fun s:Int=>zaB av b s) (fun s=>⟨[(2,.ptr 11 0),(3,.ptr 12 0),(6,kI s)],[⟨11,56,[kI av.Number,.sl (Rp.int .u64) [0] av.Words,.sl Rp.str [0] av.Texts,.sl zd [0] av.Subs]⟩,⟨12,56,[kI b.Number,.sl (Rp.int .u64) [0] b.Words,.sl Rp.str [0] b.Texts,.sl zd [0] b.Subs]⟩]⟩) (fun o e a w=>match o with| (.inl v_)=>e= .exit 2∧Sx ⟨⟨95,[]⟩,Xt,false,#[]⟩ ⟨[(2,.ptr 11 0),(3,.ptr 12 0)],[⟨11,56,[kI av.Number,.sl (Rp.int .u64) [0] av.Words,.sl Rp.str [0] av.Texts,.sl zd [0] av.Subs]⟩,⟨12,56,[kI b.Number,.sl (Rp.int .u64) [0] b.Words,.sl Rp.str [0] b.Texts,.sl zd [0] b.Subs]⟩]⟩ a w| (.inr v_)=>e= .ret∧Sx ⟨⟨95,[]⟩,Xt,false,#[]⟩ ⟨[(4,kB false)],[]⟩ a w) ?_ h_q2 lzz ?_
  ·
   clear h
   intro i2 o h
   refine zp ?_
   replace h:zaB av b i2=some o:=h
   unfold zaB at h
   refine jp ?_
   rcases zm h with ⟨hc7,h⟩| ⟨hc7,h⟩
   ·
    refine jT hc7 ?_
    refine zA ?_
    obtain ⟨x3,h_x3,h⟩:=bnd h
    obtain ⟨x4,h_x4,h⟩:=bnd h
    refine jd [2,3,6,75] [11,12] zcc (by exact (lw_e (lw_e (lw_e (ly [.sl Rp.str [0] av.Texts,kI i2] (zao rfl zif.el (zJ _ _ _) h_x3) rfl (lw_e (lw_e (lw_e (lw_e (ly [.sl Rp.str [0] b.Texts,kI i2] (zao rfl zif.el (zJ _ _ _) h_x4) rfl l0)))))))))) ?_
    rcases zm h with ⟨hc8,h⟩| ⟨hc8,h⟩
    ·
     refine jT hc8 ?_
     refine jp ?_
     obtain rfl:=sj h
     exact zaZ lzz
    refine jF hc8 ?_
    refine zag ?_
    refine jp ?_
    obtain rfl:=sj h
    exact zL lzz
   refine jF hc7 ?_
   obtain rfl:=sj h
   exact zam rfl lzz
  rcases q2 with u2| u5
  ·
   refine zaD _ rfl ?_
   refine jp ?_
   refine zA ?_
   obtain ⟨q3,h_q3,h⟩:=bnd h
   refine zal (fun s:Int=>zaC av b rec_darningref14_Same s) (fun s=>⟨[(2,.ptr 11 0),(3,.ptr 12 0),(7,kI s)],[⟨11,56,[kI av.Number,.sl (Rp.int .u64) [0] av.Words,.sl Rp.str [0] av.Texts,.sl zd [0] av.Subs]⟩,⟨12,56,[kI b.Number,.sl (Rp.int .u64) [0] b.Words,.sl Rp.str [0] b.Texts,.sl zd [0] b.Subs]⟩]⟩) (fun o e a w=>match o with| (.inl v_)=>e= .exit 4∧Sx ⟨⟨95,[]⟩,Xt,false,#[]⟩ ⟨[],[]⟩ a w| (.inr v_)=>e= .ret∧Sx ⟨⟨95,[]⟩,Xt,false,#[]⟩ ⟨[(4,kB false)],[]⟩ a w) ?_ h_q3 lzz ?_
   ·
    clear h
    intro i3 o h
    refine zp ?_
    replace h:zaC av b rec_darningref14_Same i3=some o:=h
    unfold zaC at h
    refine jp ?_
    rcases zm h with ⟨hc9,h⟩| ⟨hc9,h⟩
    ·
     refine jT hc9 ?_
     refine zA ?_
     obtain ⟨x5,h_x5,h⟩:=bnd h
     obtain ⟨x6,h_x6,h⟩:=bnd h
     obtain ⟨rv,h_rv,h⟩:=bnd h
     refine jd [2,3,7,94] [11,12] zcc (by exact (lw_e (lw_e (lw_e (ly [.sl zd [0] av.Subs,kI i3] (zao rfl zxI.el (zJ _ _ _) h_x5) rfl (ly [.ep zd [0] x5 0] (zci rfl ⟨Tryz.isAgg39,Tryz.sizeOf39⟩) rfl (lw_e (lw_e (lw_e (ly [.sl zd [0] b.Subs,kI i3] (zao rfl zxI.el (zJ _ _ _) h_x6) rfl (ly [.ep zd [0] x6 0] (zci rfl ⟨Tryz.isAgg39,Tryz.sizeOf39⟩) rfl (lx (lf1 11 (zae [.rc zd [0] x5,.rc zd [0] x6] [0] 14 rfl Tryz.call11 (hrec_darningref14_Same h_rv) rfl rfl rfl rfl rfl)) l0)))))))))))) ?_
     rcases zm h with ⟨hc10,h⟩| ⟨hc10,h⟩
     ·
      refine jT hc10 ?_
      refine jp ?_
      obtain rfl:=sj h
      exact zaZ lzz
     refine jF hc10 ?_
     refine zag ?_
     refine jp ?_
     obtain rfl:=sj h
     exact zL lzz
    refine jF hc9 ?_
    obtain rfl:=sj h
    exact zam rfl lzz
   rcases q3 with u3| u4
   ·
    refine zaD _ rfl ?_
    refine jp ?_
    obtain rfl:=sj h
    exact zz lzz
   obtain rfl:=sj h
   exact zcK lzz
  obtain rfl:=sj h
  exact zcK lzz
 obtain rfl:=sj h
 exact zcK lzz
theorem zda (fuel:Nat):(∀{av:zc} {b:zc} {r:Bool},zbl fuel av b=some r→FnOk Tryz.prog 11 [.rc zd [0] av,.rc zd [0] b] [kB r])∧(∀{av:zb} {b:zb} {r:Bool},zaO fuel av b=some r→FnOk Tryz.prog 23 [.rc za [0] av,.rc za [0] b] [kB r]):=by
  induction fuel with
  | zero=>exact ⟨fun h=>absurd h nofun,fun h=>absurd h nofun⟩
  | succ fuel ih=>exact ⟨fun h=>zoS (fun hh=>ih.1 hh) (fun hh=>ih.2 hh) h,fun h=>zlB (fun hh=>ih.1 hh) (fun hh=>ih.2 hh) h⟩
theorem zdD {fuel:Nat} {av:zc} {b:zc} {r:Bool} (h:zbl fuel av b=some r):FnOk Tryz.prog 11 [.rc zd [0] av,.rc zd [0] b] [kB r]:=(zda fuel).1 h
theorem zfK {fuel:Nat} {av:zb} {b:zb} {r:Bool} (h:zaO fuel av b=some r):FnOk Tryz.prog 23 [.rc za [0] av,.rc za [0] b] [kB r]:=(zda fuel).2 h
end Go.Proofs.YtcbkcblkecmjnaaGreat

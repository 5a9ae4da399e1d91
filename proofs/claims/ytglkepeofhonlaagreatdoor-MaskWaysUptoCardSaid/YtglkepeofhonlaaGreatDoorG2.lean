/-
  The Go functions do what the plain functions say. No condition.
-/
import Derived.Test.YtglkepeofhonlaaGreatDoorT
import Derived.Test.YtglkepeofhonlaaGreatDoorY
namespace Go.Proofs.YtglkepeofhonlaaGreatDoor
open Go Go.RowKit
set_option linter.unusedVariables false
set_option maxRecDepth 100000
set_option maxHeartbeats 3200000
theorem zjR {sv : (List zc)} {r : Bool} (h : zfd sv = some r) : FnOk Tryz.prog 8 [.sl zd [0] sv] [kB r] := by
 refine zo (E := ⟨[(2, kB r)], []⟩) 54 Tryz.func8 rfl rfl rfl ⟨rfl, trivial⟩ (fun Xt => ?_)
 refine zh ?_
 unfold zfd at h
 refine jp ?_
 refine jp ?_
 refine jp ?_
 refine zn ?_
 obtain ⟨q2, h_q2, h⟩ := bnd h
 refine zam (fun s : (Int × Int) => zbJ sv s.1 s.2) (fun s => ⟨[(0, .sl zd [0] sv), (3, kI s.1), (4, kI s.2)], []⟩) (fun o e a w => e = .exit 0 ∧ Sx ⟨⟨54, []⟩, Xt, false, #[]⟩ ⟨[(3, kI o)], []⟩ a w) ?_ h_q2 lzz ?_
 ·
  clear h
  intro s o h
  obtain ⟨n, i⟩ := s
  refine zh ?_
  replace h : zbJ sv n i = some o := h
  unfold zbJ at h
  refine jp ?_
  rcases zg h with ⟨hc1, h⟩ | ⟨hc1, h⟩
  ·
   refine jT hc1 ?_
   refine zn ?_
   obtain ⟨x, h_x, h⟩ := bnd h
   obtain ⟨x2, h_x2, h⟩ := bnd h
   refine jd [0, 3, 4] [] zcB (by exact (lw_e (lw_e (lw_e (lw_e (ly [.sl zd [0] sv, kI i] (zW rfl zhD.el (zv _ _ _) h_x) rfl (lw_e (lw_e (lw_e (lw_e (lw_e (lw_e (lw_e (ly [.sl zd [0] sv, kI i] (zW rfl zhD.el (zv _ _ _) h_x2) rfl (lw_e (ly [.ep zd [0] x2 1] (zaK za x2.Fields rfl rfl rfl) rfl l0)))))))))))))))) ?_
   refine jp ?_
   refine zn ?_
   obtain ⟨q, h_q, h⟩ := bnd h
   refine zam (fun s : (Int × Int) => zbK i sv s.1 s.2) (fun s => ⟨[(0, .sl zd [0] sv), (3, kI s.1), (4, kI i), (5, kI s.2)], []⟩) (fun o e a w => e = .exit 2 ∧ Sx ⟨⟨54, []⟩, Xt, false, #[]⟩ ⟨[(0, .sl zd [0] sv), (3, kI o), (4, kI i)], []⟩ a w) ?_ h_q lzz ?_
   ·
    clear h
    intro s o h
    obtain ⟨n3, k⟩ := s
    refine zh ?_
    replace h : zbK i sv n3 k = some o := h
    unfold zbK at h
    obtain ⟨x3, h_x3, h⟩ := bnd h
    refine jr (ra 3 [.sl zd [0] sv, kI i] rfl (zW rfl zhD.el (zv _ _ _) h_x3) rfl (ra 1 [.ep zd [0] x3 1] rfl (zaK za x3.Fields rfl rfl rfl) rfl rf)) ?_
    rcases zg h with ⟨hc2, h⟩ | ⟨hc2, h⟩
    ·
     refine jT hc2 ?_
     refine zn ?_
     obtain ⟨x4, h_x4, h⟩ := bnd h
     obtain ⟨x5, h_x5, h⟩ := bnd h
     refine jr (ra 3 [.sl zd [0] sv, kI i] rfl (zW rfl zhD.el (zv _ _ _) h_x4) rfl (ra 1 [.ep zd [0] x4 1] rfl (zaK za x4.Fields rfl rfl rfl) rfl (ra 1 [.sl za [0] x4.Fields, kI k] rfl (zW rfl ziw.el (zv _ _ _) h_x5) rfl rf))) ?_
     refine zaf ?_
     refine jp ?_
     obtain rfl := sj h
     exact zJ lzz
    refine jF hc2 ?_
    obtain rfl := sj h
    exact zai rfl lzz
   refine zaJ _ rfl ?_
   refine zaf ?_
   refine jp ?_
   obtain rfl := sj h
   exact zJ lzz
  refine jF hc1 ?_
  obtain rfl := sj h
  exact zai rfl lzz
 refine zaJ _ rfl ?_
 refine jp ?_
 obtain rfl := sj h
 exact zp lzz
theorem zjo {l : (List Str)} {r : Bool} (h : zeN l = some r) : FnOk Tryz.prog 9 [.sl Rp.str [0] l] [kB r] := by
 refine zo (E := ⟨[(2, kB r)], []⟩) 21 Tryz.func9 rfl rfl rfl ⟨rfl, trivial⟩ (fun Xt => ?_)
 refine zh ?_
 unfold zeN at h
 refine jp ?_
 refine jp ?_
 refine jp ?_
 refine zn ?_
 obtain ⟨q, h_q, h⟩ := bnd h
 refine zam (fun s : (Int × Int) => zbx l s.1 s.2) (fun s => ⟨[(0, .sl Rp.str [0] l), (3, kI s.1), (4, kI s.2)], []⟩) (fun o e a w => e = .exit 0 ∧ Sx ⟨⟨21, []⟩, Xt, false, #[]⟩ ⟨[(3, kI o)], []⟩ a w) ?_ h_q lzz ?_
 ·
  clear h
  intro s o h
  obtain ⟨n, i⟩ := s
  refine zh ?_
  replace h : zbx l n i = some o := h
  unfold zbx at h
  refine jp ?_
  rcases zg h with ⟨hc1, h⟩ | ⟨hc1, h⟩
  ·
   refine jT hc1 ?_
   refine zn ?_
   obtain ⟨x, h_x, h⟩ := bnd h
   refine jr (ra 3 [.sl Rp.str [0] l, kI i] rfl (zW rfl zfY.el (zv _ _ _) h_x) rfl rf) ?_
   refine zaf ?_
   refine jp ?_
   obtain rfl := sj h
   exact zJ lzz
  refine jF hc1 ?_
  obtain rfl := sj h
  exact zai rfl lzz
 refine zaJ _ rfl ?_
 refine jp ?_
 obtain rfl := sj h
 exact zp lzz
theorem zeH {l : (List (List Int))} {r : Bool} (h : zcz l = some r) : FnOk Tryz.prog 10 [.sl (Rp.list (Rp.int .i64)) [0] l] [kB r] := by
 refine zo (E := ⟨[(2, kB r)], []⟩) 21 Tryz.func10 rfl rfl rfl ⟨rfl, trivial⟩ (fun Xt => ?_)
 refine zh ?_
 unfold zcz at h
 refine jp ?_
 refine jp ?_
 refine jp ?_
 refine zn ?_
 obtain ⟨q, h_q, h⟩ := bnd h
 refine zam (fun s : (Int × Int) => zby l s.1 s.2) (fun s => ⟨[(0, .sl (Rp.list (Rp.int .i64)) [0] l), (3, kI s.1), (4, kI s.2)], []⟩) (fun o e a w => e = .exit 0 ∧ Sx ⟨⟨21, []⟩, Xt, false, #[]⟩ ⟨[(3, kI o)], []⟩ a w) ?_ h_q lzz ?_
 ·
  clear h
  intro s o h
  obtain ⟨n, i⟩ := s
  refine zh ?_
  replace h : zby l n i = some o := h
  unfold zby at h
  refine jp ?_
  rcases zg h with ⟨hc1, h⟩ | ⟨hc1, h⟩
  ·
   refine jT hc1 ?_
   refine zn ?_
   obtain ⟨x, h_x, h⟩ := bnd h
   refine jr (ra 4 [.sl (Rp.list (Rp.int .i64)) [0] l, kI i] rfl (zW rfl zaF.el (zv _ _ _) h_x) rfl (ra 0 [.ep (Rp.list (Rp.int .i64)) [0] x 0] rfl (zaK (Rp.int .i64) x rfl rfl rfl) rfl rf)) ?_
   refine zaf ?_
   refine jp ?_
   obtain rfl := sj h
   exact zJ lzz
  refine jF hc1 ?_
  obtain rfl := sj h
  exact zai rfl lzz
 refine zaJ _ rfl ?_
 refine jp ?_
 obtain rfl := sj h
 exact zp lzz
theorem zhb {sv : Str} {r : Bool} (h : zdK sv = some r) : FnOk Tryz.prog 57 [kS sv] [kB r] := by
 refine zo (E := ⟨[(2, kB r)], []⟩) 55 Tryz.func57 rfl rfl rfl ⟨rfl, trivial⟩ (fun Xt => ?_)
 refine zh ?_
 unfold zdK at h
 refine jp ?_
 refine jp ?_
 refine zn ?_
 obtain ⟨q, h_q, h⟩ := bnd h
 refine zam (fun s : Int => zbl sv s) (fun s => ⟨[(0, kS sv), (3, kI s)], []⟩) (fun o e a w => match o with | (.inl v_) => e = .exit 0 ∧ Sx ⟨⟨55, []⟩, Xt, false, #[]⟩ ⟨[(0, kS sv)], []⟩ a w | (.inr v_) => e = .ret ∧ Sx ⟨⟨55, []⟩, Xt, false, #[]⟩ ⟨[(2, kB false)], []⟩ a w) ?_ h_q lzz ?_
 ·
  clear h
  intro i o h
  refine zh ?_
  replace h : zbl sv i = some o := h
  unfold zbl at h
  refine jp ?_
  rcases zg h with ⟨hc1, h⟩ | ⟨hc1, h⟩
  ·
   refine jT hc1 ?_
   refine zn ?_
   obtain ⟨c, h_c, h⟩ := bnd h
   refine jr (ra 2 [kS sv, kI i] rfl (zmo rfl Tryz.underlying9 h_c) rfl rf) ?_
   refine zN ⟨[(0, kS sv), (3, kI i), (5, kB (if (decide ((c.toNat : Int) ≥ 65)) then ((decide ((c.toNat : Int) ≤ 90)) || (if (decide ((c.toNat : Int) ≥ 97)) then ((decide ((c.toNat : Int) ≤ 122)) || (((c.toNat : Int) == 95) || ((decide (i > 0)) && ((decide ((c.toNat : Int) ≥ 48)) && (decide ((c.toNat : Int) ≤ 57)))))) else (((c.toNat : Int) == 95) || ((decide (i > 0)) && ((decide ((c.toNat : Int) ≥ 48)) && (decide ((c.toNat : Int) ≤ 57))))))) else (if (decide ((c.toNat : Int) ≥ 97)) then ((decide ((c.toNat : Int) ≤ 122)) || (((c.toNat : Int) == 95) || ((decide (i > 0)) && ((decide ((c.toNat : Int) ≥ 48)) && (decide ((c.toNat : Int) ≤ 57)))))) else (((c.toNat : Int) == 95) || ((decide (i > 0)) && ((decide ((c.toNat : Int) ≥ 48)) && (decide ((c.toNat : Int) ≤ 57))))))))], []⟩ ?_ ?_
   ·
    refine (rsl 3 [] 17 (decide ((c.toNat : Int) ≥ 65)) (fun hc2 => ?_) (fun hc2 => ?_))
    ·
     refine (rsl 4 [] 21 (decide ((c.toNat : Int) ≤ 90)) (fun hc3 => ?_) (fun hc3 => ?_))
     · exact (rbl [] 5 true (if (decide ((c.toNat : Int) ≥ 65)) then ((decide ((c.toNat : Int) ≤ 90)) || (if (decide ((c.toNat : Int) ≥ 97)) then ((decide ((c.toNat : Int) ≤ 122)) || (((c.toNat : Int) == 95) || ((decide (i > 0)) && ((decide ((c.toNat : Int) ≥ 48)) && (decide ((c.toNat : Int) ≤ 57)))))) else (((c.toNat : Int) == 95) || ((decide (i > 0)) && ((decide ((c.toNat : Int) ≥ 48)) && (decide ((c.toNat : Int) ≤ 57))))))) else (if (decide ((c.toNat : Int) ≥ 97)) then ((decide ((c.toNat : Int) ≤ 122)) || (((c.toNat : Int) == 95) || ((decide (i > 0)) && ((decide ((c.toNat : Int) ≥ 48)) && (decide ((c.toNat : Int) ≤ 57)))))) else (((c.toNat : Int) == 95) || ((decide (i > 0)) && ((decide ((c.toNat : Int) ≥ 48)) && (decide ((c.toNat : Int) ≤ 57))))))) (by rw [hc2, hc3] <;> rfl))
     refine (rsl 3 [] 24 (decide ((c.toNat : Int) ≥ 97)) (fun hc4 => ?_) (fun hc4 => ?_))
     ·
      refine (rsl 5 [] 29 (decide ((c.toNat : Int) ≤ 122)) (fun hc5 => ?_) (fun hc5 => ?_))
      · exact (rbl [] 5 true (if (decide ((c.toNat : Int) ≥ 65)) then ((decide ((c.toNat : Int) ≤ 90)) || (if (decide ((c.toNat : Int) ≥ 97)) then ((decide ((c.toNat : Int) ≤ 122)) || (((c.toNat : Int) == 95) || ((decide (i > 0)) && ((decide ((c.toNat : Int) ≥ 48)) && (decide ((c.toNat : Int) ≤ 57)))))) else (((c.toNat : Int) == 95) || ((decide (i > 0)) && ((decide ((c.toNat : Int) ≥ 48)) && (decide ((c.toNat : Int) ≤ 57))))))) else (if (decide ((c.toNat : Int) ≥ 97)) then ((decide ((c.toNat : Int) ≤ 122)) || (((c.toNat : Int) == 95) || ((decide (i > 0)) && ((decide ((c.toNat : Int) ≥ 48)) && (decide ((c.toNat : Int) ≤ 57)))))) else (((c.toNat : Int) == 95) || ((decide (i > 0)) && ((decide ((c.toNat : Int) ≥ 48)) && (decide ((c.toNat : Int) ≤ 57))))))) (by rw [hc2, hc3, hc4, hc5] <;> rfl))
      refine (rsl 4 [] 33 ((c.toNat : Int) == 95) (fun hc6 => ?_) (fun hc6 => ?_))
      · exact (rbl [] 5 true (if (decide ((c.toNat : Int) ≥ 65)) then ((decide ((c.toNat : Int) ≤ 90)) || (if (decide ((c.toNat : Int) ≥ 97)) then ((decide ((c.toNat : Int) ≤ 122)) || (((c.toNat : Int) == 95) || ((decide (i > 0)) && ((decide ((c.toNat : Int) ≥ 48)) && (decide ((c.toNat : Int) ≤ 57)))))) else (((c.toNat : Int) == 95) || ((decide (i > 0)) && ((decide ((c.toNat : Int) ≥ 48)) && (decide ((c.toNat : Int) ≤ 57))))))) else (if (decide ((c.toNat : Int) ≥ 97)) then ((decide ((c.toNat : Int) ≤ 122)) || (((c.toNat : Int) == 95) || ((decide (i > 0)) && ((decide ((c.toNat : Int) ≥ 48)) && (decide ((c.toNat : Int) ≤ 57)))))) else (((c.toNat : Int) == 95) || ((decide (i > 0)) && ((decide ((c.toNat : Int) ≥ 48)) && (decide ((c.toNat : Int) ≤ 57))))))) (by rw [hc2, hc3, hc4, hc5, hc6] <;> rfl))
      refine (rsl 3 [] 36 (decide (i > 0)) (fun hc7 => ?_) (fun hc7 => ?_))
      ·
       refine (rsl 4 [] 40 (decide ((c.toNat : Int) ≥ 48)) (fun hc8 => ?_) (fun hc8 => ?_))
       · exact (rbl [] 5 (decide ((c.toNat : Int) ≤ 57)) (if (decide ((c.toNat : Int) ≥ 65)) then ((decide ((c.toNat : Int) ≤ 90)) || (if (decide ((c.toNat : Int) ≥ 97)) then ((decide ((c.toNat : Int) ≤ 122)) || (((c.toNat : Int) == 95) || ((decide (i > 0)) && ((decide ((c.toNat : Int) ≥ 48)) && (decide ((c.toNat : Int) ≤ 57)))))) else (((c.toNat : Int) == 95) || ((decide (i > 0)) && ((decide ((c.toNat : Int) ≥ 48)) && (decide ((c.toNat : Int) ≤ 57))))))) else (if (decide ((c.toNat : Int) ≥ 97)) then ((decide ((c.toNat : Int) ≤ 122)) || (((c.toNat : Int) == 95) || ((decide (i > 0)) && ((decide ((c.toNat : Int) ≥ 48)) && (decide ((c.toNat : Int) ≤ 57)))))) else (((c.toNat : Int) == 95) || ((decide (i > 0)) && ((decide ((c.toNat : Int) ≥ 48)) && (decide ((c.toNat : Int) ≤ 57))))))) (by rw [hc2, hc3, hc4, hc5, hc6, hc7, hc8] <;> rfl))
       exact (rbl [] 5 false (if (decide ((c.toNat : Int) ≥ 65)) then ((decide ((c.toNat : Int) ≤ 90)) || (if (decide ((c.toNat : Int) ≥ 97)) then ((decide ((c.toNat : Int) ≤ 122)) || (((c.toNat : Int) == 95) || ((decide (i > 0)) && ((decide ((c.toNat : Int) ≥ 48)) && (decide ((c.toNat : Int) ≤ 57)))))) else (((c.toNat : Int) == 95) || ((decide (i > 0)) && ((decide ((c.toNat : Int) ≥ 48)) && (decide ((c.toNat : Int) ≤ 57))))))) else (if (decide ((c.toNat : Int) ≥ 97)) then ((decide ((c.toNat : Int) ≤ 122)) || (((c.toNat : Int) == 95) || ((decide (i > 0)) && ((decide ((c.toNat : Int) ≥ 48)) && (decide ((c.toNat : Int) ≤ 57)))))) else (((c.toNat : Int) == 95) || ((decide (i > 0)) && ((decide ((c.toNat : Int) ≥ 48)) && (decide ((c.toNat : Int) ≤ 57))))))) (by rw [hc2, hc3, hc4, hc5, hc6, hc7, hc8] <;> rfl))
      exact (rbl [] 5 false (if (decide ((c.toNat : Int) ≥ 65)) then ((decide ((c.toNat : Int) ≤ 90)) || (if (decide ((c.toNat : Int) ≥ 97)) then ((decide ((c.toNat : Int) ≤ 122)) || (((c.toNat : Int) == 95) || ((decide (i > 0)) && ((decide ((c.toNat : Int) ≥ 48)) && (decide ((c.toNat : Int) ≤ 57)))))) else (((c.toNat : Int) == 95) || ((decide (i > 0)) && ((decide ((c.toNat : Int) ≥ 48)) && (decide ((c.toNat : Int) ≤ 57))))))) else (if (decide ((c.toNat : Int) ≥ 97)) then ((decide ((c.toNat : Int) ≤ 122)) || (((c.toNat : Int) == 95) || ((decide (i > 0)) && ((decide ((c.toNat : Int) ≥ 48)) && (decide ((c.toNat : Int) ≤ 57)))))) else (((c.toNat : Int) == 95) || ((decide (i > 0)) && ((decide ((c.toNat : Int) ≥ 48)) && (decide ((c.toNat : Int) ≤ 57))))))) (by rw [hc2, hc3, hc4, hc5, hc6, hc7] <;> rfl))
     refine (rsl 9 [] 33 ((c.toNat : Int) == 95) (fun hc9 => ?_) (fun hc9 => ?_))
     · exact (rbl [] 5 true (if (decide ((c.toNat : Int) ≥ 65)) then ((decide ((c.toNat : Int) ≤ 90)) || (if (decide ((c.toNat : Int) ≥ 97)) then ((decide ((c.toNat : Int) ≤ 122)) || (((c.toNat : Int) == 95) || ((decide (i > 0)) && ((decide ((c.toNat : Int) ≥ 48)) && (decide ((c.toNat : Int) ≤ 57)))))) else (((c.toNat : Int) == 95) || ((decide (i > 0)) && ((decide ((c.toNat : Int) ≥ 48)) && (decide ((c.toNat : Int) ≤ 57))))))) else (if (decide ((c.toNat : Int) ≥ 97)) then ((decide ((c.toNat : Int) ≤ 122)) || (((c.toNat : Int) == 95) || ((decide (i > 0)) && ((decide ((c.toNat : Int) ≥ 48)) && (decide ((c.toNat : Int) ≤ 57)))))) else (((c.toNat : Int) == 95) || ((decide (i > 0)) && ((decide ((c.toNat : Int) ≥ 48)) && (decide ((c.toNat : Int) ≤ 57))))))) (by rw [hc2, hc3, hc4, hc9] <;> rfl))
     refine (rsl 3 [] 36 (decide (i > 0)) (fun hc10 => ?_) (fun hc10 => ?_))
     ·
      refine (rsl 4 [] 40 (decide ((c.toNat : Int) ≥ 48)) (fun hc11 => ?_) (fun hc11 => ?_))
      · exact (rbl [] 5 (decide ((c.toNat : Int) ≤ 57)) (if (decide ((c.toNat : Int) ≥ 65)) then ((decide ((c.toNat : Int) ≤ 90)) || (if (decide ((c.toNat : Int) ≥ 97)) then ((decide ((c.toNat : Int) ≤ 122)) || (((c.toNat : Int) == 95) || ((decide (i > 0)) && ((decide ((c.toNat : Int) ≥ 48)) && (decide ((c.toNat : Int) ≤ 57)))))) else (((c.toNat : Int) == 95) || ((decide (i > 0)) && ((decide ((c.toNat : Int) ≥ 48)) && (decide ((c.toNat : Int) ≤ 57))))))) else (if (decide ((c.toNat : Int) ≥ 97)) then ((decide ((c.toNat : Int) ≤ 122)) || (((c.toNat : Int) == 95) || ((decide (i > 0)) && ((decide ((c.toNat : Int) ≥ 48)) && (decide ((c.toNat : Int) ≤ 57)))))) else (((c.toNat : Int) == 95) || ((decide (i > 0)) && ((decide ((c.toNat : Int) ≥ 48)) && (decide ((c.toNat : Int) ≤ 57))))))) (by rw [hc2, hc3, hc4, hc9, hc10, hc11] <;> rfl))
      exact (rbl [] 5 false (if (decide ((c.toNat : Int) ≥ 65)) then ((decide ((c.toNat : Int) ≤ 90)) || (if (decide ((c.toNat : Int) ≥ 97)) then ((decide ((c.toNat : Int) ≤ 122)) || (((c.toNat : Int) == 95) || ((decide (i > 0)) && ((decide ((c.toNat : Int) ≥ 48)) && (decide ((c.toNat : Int) ≤ 57)))))) else (((c.toNat : Int) == 95) || ((decide (i > 0)) && ((decide ((c.toNat : Int) ≥ 48)) && (decide ((c.toNat : Int) ≤ 57))))))) else (if (decide ((c.toNat : Int) ≥ 97)) then ((decide ((c.toNat : Int) ≤ 122)) || (((c.toNat : Int) == 95) || ((decide (i > 0)) && ((decide ((c.toNat : Int) ≥ 48)) && (decide ((c.toNat : Int) ≤ 57)))))) else (((c.toNat : Int) == 95) || ((decide (i > 0)) && ((decide ((c.toNat : Int) ≥ 48)) && (decide ((c.toNat : Int) ≤ 57))))))) (by rw [hc2, hc3, hc4, hc9, hc10, hc11] <;> rfl))
     exact (rbl [] 5 false (if (decide ((c.toNat : Int) ≥ 65)) then ((decide ((c.toNat : Int) ≤ 90)) || (if (decide ((c.toNat : Int) ≥ 97)) then ((decide ((c.toNat : Int) ≤ 122)) || (((c.toNat : Int) == 95) || ((decide (i > 0)) && ((decide ((c.toNat : Int) ≥ 48)) && (decide ((c.toNat : Int) ≤ 57)))))) else (((c.toNat : Int) == 95) || ((decide (i > 0)) && ((decide ((c.toNat : Int) ≥ 48)) && (decide ((c.toNat : Int) ≤ 57))))))) else (if (decide ((c.toNat : Int) ≥ 97)) then ((decide ((c.toNat : Int) ≤ 122)) || (((c.toNat : Int) == 95) || ((decide (i > 0)) && ((decide ((c.toNat : Int) ≥ 48)) && (decide ((c.toNat : Int) ≤ 57)))))) else (((c.toNat : Int) == 95) || ((decide (i > 0)) && ((decide ((c.toNat : Int) ≥ 48)) && (decide ((c.toNat : Int) ≤ 57))))))) (by rw [hc2, hc3, hc4, hc9, hc10] <;> rfl))
    refine (rsl 7 [] 24 (decide ((c.toNat : Int) ≥ 97)) (fun hc12 => ?_) (fun hc12 => ?_))
    ·
     refine (rsl 5 [] 29 (decide ((c.toNat : Int) ≤ 122)) (fun hc13 => ?_) (fun hc13 => ?_))
     · exact (rbl [] 5 true (if (decide ((c.toNat : Int) ≥ 65)) then ((decide ((c.toNat : Int) ≤ 90)) || (if (decide ((c.toNat : Int) ≥ 97)) then ((decide ((c.toNat : Int) ≤ 122)) || (((c.toNat : Int) == 95) || ((decide (i > 0)) && ((decide ((c.toNat : Int) ≥ 48)) && (decide ((c.toNat : Int) ≤ 57)))))) else (((c.toNat : Int) == 95) || ((decide (i > 0)) && ((decide ((c.toNat : Int) ≥ 48)) && (decide ((c.toNat : Int) ≤ 57))))))) else (if (decide ((c.toNat : Int) ≥ 97)) then ((decide ((c.toNat : Int) ≤ 122)) || (((c.toNat : Int) == 95) || ((decide (i > 0)) && ((decide ((c.toNat : Int) ≥ 48)) && (decide ((c.toNat : Int) ≤ 57)))))) else (((c.toNat : Int) == 95) || ((decide (i > 0)) && ((decide ((c.toNat : Int) ≥ 48)) && (decide ((c.toNat : Int) ≤ 57))))))) (by rw [hc2, hc12, hc13] <;> rfl))
     refine (rsl 4 [] 33 ((c.toNat : Int) == 95) (fun hc14 => ?_) (fun hc14 => ?_))
     · exact (rbl [] 5 true (if (decide ((c.toNat : Int) ≥ 65)) then ((decide ((c.toNat : Int) ≤ 90)) || (if (decide ((c.toNat : Int) ≥ 97)) then ((decide ((c.toNat : Int) ≤ 122)) || (((c.toNat : Int) == 95) || ((decide (i > 0)) && ((decide ((c.toNat : Int) ≥ 48)) && (decide ((c.toNat : Int) ≤ 57)))))) else (((c.toNat : Int) == 95) || ((decide (i > 0)) && ((decide ((c.toNat : Int) ≥ 48)) && (decide ((c.toNat : Int) ≤ 57))))))) else (if (decide ((c.toNat : Int) ≥ 97)) then ((decide ((c.toNat : Int) ≤ 122)) || (((c.toNat : Int) == 95) || ((decide (i > 0)) && ((decide ((c.toNat : Int) ≥ 48)) && (decide ((c.toNat : Int) ≤ 57)))))) else (((c.toNat : Int) == 95) || ((decide (i > 0)) && ((decide ((c.toNat : Int) ≥ 48)) && (decide ((c.toNat : Int) ≤ 57))))))) (by rw [hc2, hc12, hc13, hc14] <;> rfl))
     refine (rsl 3 [] 36 (decide (i > 0)) (fun hc15 => ?_) (fun hc15 => ?_))
     ·
      refine (rsl 4 [] 40 (decide ((c.toNat : Int) ≥ 48)) (fun hc16 => ?_) (fun hc16 => ?_))
      · exact (rbl [] 5 (decide ((c.toNat : Int) ≤ 57)) (if (decide ((c.toNat : Int) ≥ 65)) then ((decide ((c.toNat : Int) ≤ 90)) || (if (decide ((c.toNat : Int) ≥ 97)) then ((decide ((c.toNat : Int) ≤ 122)) || (((c.toNat : Int) == 95) || ((decide (i > 0)) && ((decide ((c.toNat : Int) ≥ 48)) && (decide ((c.toNat : Int) ≤ 57)))))) else (((c.toNat : Int) == 95) || ((decide (i > 0)) && ((decide ((c.toNat : Int) ≥ 48)) && (decide ((c.toNat : Int) ≤ 57))))))) else (if (decide ((c.toNat : Int) ≥ 97)) then ((decide ((c.toNat : Int) ≤ 122)) || (((c.toNat : Int) == 95) || ((decide (i > 0)) && ((decide ((c.toNat : Int) ≥ 48)) && (decide ((c.toNat : Int) ≤ 57)))))) else (((c.toNat : Int) == 95) || ((decide (i > 0)) && ((decide ((c.toNat : Int) ≥ 48)) && (decide ((c.toNat : Int) ≤ 57))))))) (by rw [hc2, hc12, hc13, hc14, hc15, hc16] <;> rfl))
      exact (rbl [] 5 false (if (decide ((c.toNat : Int) ≥ 65)) then ((decide ((c.toNat : Int) ≤ 90)) || (if (decide ((c.toNat : Int) ≥ 97)) then ((decide ((c.toNat : Int) ≤ 122)) || (((c.toNat : Int) == 95) || ((decide (i > 0)) && ((decide ((c.toNat : Int) ≥ 48)) && (decide ((c.toNat : Int) ≤ 57)))))) else (((c.toNat : Int) == 95) || ((decide (i > 0)) && ((decide ((c.toNat : Int) ≥ 48)) && (decide ((c.toNat : Int) ≤ 57))))))) else (if (decide ((c.toNat : Int) ≥ 97)) then ((decide ((c.toNat : Int) ≤ 122)) || (((c.toNat : Int) == 95) || ((decide (i > 0)) && ((decide ((c.toNat : Int) ≥ 48)) && (decide ((c.toNat : Int) ≤ 57)))))) else (((c.toNat : Int) == 95) || ((decide (i > 0)) && ((decide ((c.toNat : Int) ≥ 48)) && (decide ((c.toNat : Int) ≤ 57))))))) (by rw [hc2, hc12, hc13, hc14, hc15, hc16] <;> rfl))
     exact (rbl [] 5 false (if (decide ((c.toNat : Int) ≥ 65)) then ((decide ((c.toNat : Int) ≤ 90)) || (if (decide ((c.toNat : Int) ≥ 97)) then ((decide ((c.toNat : Int) ≤ 122)) || (((c.toNat : Int) == 95) || ((decide (i > 0)) && ((decide ((c.toNat : Int) ≥ 48)) && (decide ((c.toNat : Int) ≤ 57)))))) else (((c.toNat : Int) == 95) || ((decide (i > 0)) && ((decide ((c.toNat : Int) ≥ 48)) && (decide ((c.toNat : Int) ≤ 57))))))) else (if (decide ((c.toNat : Int) ≥ 97)) then ((decide ((c.toNat : Int) ≤ 122)) || (((c.toNat : Int) == 95) || ((decide (i > 0)) && ((decide ((c.toNat : Int) ≥ 48)) && (decide ((c.toNat : Int) ≤ 57)))))) else (((c.toNat : Int) == 95) || ((decide (i > 0)) && ((decide ((c.toNat : Int) ≥ 48)) && (decide ((c.toNat : Int) ≤ 57))))))) (by rw [hc2, hc12, hc13, hc14, hc15] <;> rfl))
    refine (rsl 9 [] 33 ((c.toNat : Int) == 95) (fun hc17 => ?_) (fun hc17 => ?_))
    · exact (rbl [] 5 true (if (decide ((c.toNat : Int) ≥ 65)) then ((decide ((c.toNat : Int) ≤ 90)) || (if (decide ((c.toNat : Int) ≥ 97)) then ((decide ((c.toNat : Int) ≤ 122)) || (((c.toNat : Int) == 95) || ((decide (i > 0)) && ((decide ((c.toNat : Int) ≥ 48)) && (decide ((c.toNat : Int) ≤ 57)))))) else (((c.toNat : Int) == 95) || ((decide (i > 0)) && ((decide ((c.toNat : Int) ≥ 48)) && (decide ((c.toNat : Int) ≤ 57))))))) else (if (decide ((c.toNat : Int) ≥ 97)) then ((decide ((c.toNat : Int) ≤ 122)) || (((c.toNat : Int) == 95) || ((decide (i > 0)) && ((decide ((c.toNat : Int) ≥ 48)) && (decide ((c.toNat : Int) ≤ 57)))))) else (((c.toNat : Int) == 95) || ((decide (i > 0)) && ((decide ((c.toNat : Int) ≥ 48)) && (decide ((c.toNat : Int) ≤ 57))))))) (by rw [hc2, hc12, hc17] <;> rfl))
    refine (rsl 3 [] 36 (decide (i > 0)) (fun hc18 => ?_) (fun hc18 => ?_))
    ·
     refine (rsl 4 [] 40 (decide ((c.toNat : Int) ≥ 48)) (fun hc19 => ?_) (fun hc19 => ?_))
     · exact (rbl [] 5 (decide ((c.toNat : Int) ≤ 57)) (if (decide ((c.toNat : Int) ≥ 65)) then ((decide ((c.toNat : Int) ≤ 90)) || (if (decide ((c.toNat : Int) ≥ 97)) then ((decide ((c.toNat : Int) ≤ 122)) || (((c.toNat : Int) == 95) || ((decide (i > 0)) && ((decide ((c.toNat : Int) ≥ 48)) && (decide ((c.toNat : Int) ≤ 57)))))) else (((c.toNat : Int) == 95) || ((decide (i > 0)) && ((decide ((c.toNat : Int) ≥ 48)) && (decide ((c.toNat : Int) ≤ 57))))))) else (if (decide ((c.toNat : Int) ≥ 97)) then ((decide ((c.toNat : Int) ≤ 122)) || (((c.toNat : Int) == 95) || ((decide (i > 0)) && ((decide ((c.toNat : Int) ≥ 48)) && (decide ((c.toNat : Int) ≤ 57)))))) else (((c.toNat : Int) == 95) || ((decide (i > 0)) && ((decide ((c.toNat : Int) ≥ 48)) && (decide ((c.toNat : Int) ≤ 57))))))) (by rw [hc2, hc12, hc17, hc18, hc19] <;> rfl))
     exact (rbl [] 5 false (if (decide ((c.toNat : Int) ≥ 65)) then ((decide ((c.toNat : Int) ≤ 90)) || (if (decide ((c.toNat : Int) ≥ 97)) then ((decide ((c.toNat : Int) ≤ 122)) || (((c.toNat : Int) == 95) || ((decide (i > 0)) && ((decide ((c.toNat : Int) ≥ 48)) && (decide ((c.toNat : Int) ≤ 57)))))) else (((c.toNat : Int) == 95) || ((decide (i > 0)) && ((decide ((c.toNat : Int) ≥ 48)) && (decide ((c.toNat : Int) ≤ 57))))))) else (if (decide ((c.toNat : Int) ≥ 97)) then ((decide ((c.toNat : Int) ≤ 122)) || (((c.toNat : Int) == 95) || ((decide (i > 0)) && ((decide ((c.toNat : Int) ≥ 48)) && (decide ((c.toNat : Int) ≤ 57)))))) else (((c.toNat : Int) == 95) || ((decide (i > 0)) && ((decide ((c.toNat : Int) ≥ 48)) && (decide ((c.toNat : Int) ≤ 57))))))) (by rw [hc2, hc12, hc17, hc18, hc19] <;> rfl))
    exact (rbl [] 5 false (if (decide ((c.toNat : Int) ≥ 65)) then ((decide ((c.toNat : Int) ≤ 90)) || (if (decide ((c.toNat : Int) ≥ 97)) then ((decide ((c.toNat : Int) ≤ 122)) || (((c.toNat : Int) == 95) || ((decide (i > 0)) && ((decide ((c.toNat : Int) ≥ 48)) && (decide ((c.toNat : Int) ≤ 57)))))) else (((c.toNat : Int) == 95) || ((decide (i > 0)) && ((decide ((c.toNat : Int) ≥ 48)) && (decide ((c.toNat : Int) ≤ 57))))))) else (if (decide ((c.toNat : Int) ≥ 97)) then ((decide ((c.toNat : Int) ≤ 122)) || (((c.toNat : Int) == 95) || ((decide (i > 0)) && ((decide ((c.toNat : Int) ≥ 48)) && (decide ((c.toNat : Int) ≤ 57)))))) else (((c.toNat : Int) == 95) || ((decide (i > 0)) && ((decide ((c.toNat : Int) ≥ 48)) && (decide ((c.toNat : Int) ≤ 57))))))) (by rw [hc2, hc12, hc17, hc18] <;> rfl))
   refine jp ?_
   rcases zg h with ⟨hc20, h⟩ | ⟨hc20, h⟩
   ·
    refine jT hc20 ?_
    refine jp ?_
    obtain rfl := sj h
    exact zaW lzz
   refine jF hc20 ?_
   refine zaf ?_
   refine jp ?_
   obtain rfl := sj h
   exact zJ lzz
  refine jF hc1 ?_
  obtain rfl := sj h
  exact zai rfl lzz
 rcases q with u | u2
 ·
  refine zaJ _ rfl ?_
  refine zN ⟨[(2, kB ((decide ((sv.length : Int) ≥ 1)) && (decide ((sv.length : Int) ≤ 60))))], []⟩ ?_ ?_
  ·
   refine (rsl 4 [] 50 (decide ((sv.length : Int) ≥ 1)) (fun hc21 => ?_) (fun hc21 => ?_))
   · exact (rbl [] 2 (decide ((sv.length : Int) ≤ 60)) ((decide ((sv.length : Int) ≥ 1)) && (decide ((sv.length : Int) ≤ 60))) (by rw [hc21] <;> rfl))
   exact (rbl [] 2 false ((decide ((sv.length : Int) ≥ 1)) && (decide ((sv.length : Int) ≤ 60))) (by rw [hc21] <;> rfl))
  obtain rfl := sj h
  exact zp lzz
 obtain rfl := sj h
 exact zdi lzz
theorem zmT {k : Int} {r : Bool} (h : zfk k = some r) : FnOk Tryz.prog 124 [kI k] [kB r] := by
 refine zo (E := ⟨[(2, kB r)], []⟩) 9 Tryz.func124 rfl rfl rfl ⟨rfl, trivial⟩ (fun Xt => ?_)
 refine zh ?_
 unfold zfk at h
 refine jp ?_
 refine zN ⟨[(2, kB ((decide (k ≥ 1)) && (decide (k ≤ 17))))], []⟩ ?_ ?_
 ·
  refine (rsl 3 [] 5 (decide (k ≥ 1)) (fun hc1 => ?_) (fun hc1 => ?_))
  · exact (rbl [] 2 (decide (k ≤ 17)) ((decide (k ≥ 1)) && (decide (k ≤ 17))) (by rw [hc1] <;> rfl))
  exact (rbl [] 2 false ((decide (k ≥ 1)) && (decide (k ≤ 17))) (by rw [hc1] <;> rfl))
 obtain rfl := sj h
 exact zp lzz
theorem zmb {k : Int} {r : Bool} (h : zdU k = some r) : FnOk Tryz.prog 125 [kI k] [kB r] := by
 refine zo (E := ⟨[(2, kB r)], []⟩) 9 Tryz.func125 rfl rfl rfl ⟨rfl, trivial⟩ (fun Xt => ?_)
 refine zh ?_
 unfold zdU at h
 refine jp ?_
 refine zN ⟨[(2, kB ((decide (k ≥ 1)) && (decide (k ≤ 14))))], []⟩ ?_ ?_
 ·
  refine (rsl 3 [] 5 (decide (k ≥ 1)) (fun hc1 => ?_) (fun hc1 => ?_))
  · exact (rbl [] 2 (decide (k ≤ 14)) ((decide (k ≥ 1)) && (decide (k ≤ 14))) (by rw [hc1] <;> rfl))
  exact (rbl [] 2 false ((decide (k ≥ 1)) && (decide (k ≤ 14))) (by rw [hc1] <;> rfl))
 obtain rfl := sj h
 exact zp lzz
theorem zmX {m : zc} {name : Str} {r : Int} (h : zfo m name = some r) : FnOk Tryz.prog 58 [.rc zd [0] m, kS name] [kI r] := by
 refine zo (E := ⟨[(4, kI r)], []⟩) 22 Tryz.func58 rfl rfl rfl ⟨rfl, trivial⟩ (fun Xt => ?_)
 refine zh ?_
 unfold zfo at h
 refine jr (ra 0 [.rc zd [0] m] rfl (zgW 11 [kS m.Name, .sl za [0] m.Fields] [0] rfl rfl rfl rfl rfl) rfl rf) ?_
 refine jp ?_
 refine zn ?_
 obtain ⟨q, h_q, h⟩ := bnd h
 refine zam (fun s : Int => zba m name s) (fun s => ⟨[(1, kS name), (2, .ptr 11 0), (5, kI s)], [⟨11, 65, [kS m.Name, .sl za [0] m.Fields]⟩]⟩) (fun o e a w => match o with | (.inl v_) => e = .exit 0 ∧ Sx ⟨⟨22, []⟩, Xt, false, #[]⟩ ⟨[], []⟩ a w | (.inr v_) => e = .ret ∧ Sx ⟨⟨22, []⟩, Xt, false, #[]⟩ ⟨[(4, kI v_)], []⟩ a w) ?_ h_q lzz ?_
 ·
  clear h
  intro i o h
  refine zh ?_
  replace h : zba m name i = some o := h
  unfold zba at h
  refine jp ?_
  rcases zg h with ⟨hc1, h⟩ | ⟨hc1, h⟩
  ·
   refine jT hc1 ?_
   refine zn ?_
   obtain ⟨x, h_x, h⟩ := bnd h
   refine jr (ra 3 [.sl za [0] m.Fields, kI i] rfl (zW rfl ziw.el (zv _ _ _) h_x) rfl rf) ?_
   rcases zg h with ⟨hc2, h⟩ | ⟨hc2, h⟩
   ·
    refine jT hc2 ?_
    refine jp ?_
    obtain rfl := sj h
    exact zaW lzz
   refine jF hc2 ?_
   refine zaf ?_
   refine jp ?_
   obtain rfl := sj h
   exact zJ lzz
  refine jF hc1 ?_
  obtain rfl := sj h
  exact zai rfl lzz
 rcases q with u | u2
 ·
  refine zaJ _ rfl ?_
  refine jp ?_
  obtain rfl := sj h
  exact zp lzz
 obtain rfl := sj h
 exact zdi lzz
theorem zns {av : (List Int)} {b : (List Int)} {r : Bool} (h : zfS av b = some r) : FnOk Tryz.prog 37 [.sl (Rp.int .i64) [0] av, .sl (Rp.int .i64) [0] b] [kB r] := by
 refine zo (E := ⟨[(4, kB r)], []⟩) 41 Tryz.func37 rfl rfl rfl ⟨rfl, trivial⟩ (fun Xt => ?_)
 refine zh ?_
 unfold zfS at h
 refine jp ?_
 refine jp ?_
 refine zn ?_
 obtain ⟨q, h_q, h⟩ := bnd h
 refine zam (fun s : Int => zaI av b s) (fun s => ⟨[(0, .sl (Rp.int .i64) [0] av), (1, .sl (Rp.int .i64) [0] b), (5, kI s)], []⟩) (fun o e a w => match o with | (.inl v_) => e = .exit 0 ∧ Sx ⟨⟨41, []⟩, Xt, false, #[]⟩ ⟨[(0, .sl (Rp.int .i64) [0] av), (1, .sl (Rp.int .i64) [0] b)], []⟩ a w | (.inr v_) => e = .ret ∧ Sx ⟨⟨41, []⟩, Xt, false, #[]⟩ ⟨[(4, kB v_)], []⟩ a w) ?_ h_q lzz ?_
 ·
  clear h
  intro i o h
  refine zh ?_
  replace h : zaI av b i = some o := h
  unfold zaI at h
  refine zN ⟨[(0, .sl (Rp.int .i64) [0] av), (1, .sl (Rp.int .i64) [0] b), (5, kI i), (15, kB ((decide (i < (av.length : Int))) && (decide (i < (b.length : Int)))))], []⟩ ?_ ?_
  ·
   refine (rsl 5 [] 10 (decide (i < (av.length : Int))) (fun hc1 => ?_) (fun hc1 => ?_))
   · exact (rbl [] 15 (decide (i < (b.length : Int))) ((decide (i < (av.length : Int))) && (decide (i < (b.length : Int)))) (by rw [hc1] <;> rfl))
   exact (rbl [] 15 false ((decide (i < (av.length : Int))) && (decide (i < (b.length : Int)))) (by rw [hc1] <;> rfl))
  rcases zg h with ⟨hc2, h⟩ | ⟨hc2, h⟩
  ·
   refine jT hc2 ?_
   refine zn ?_
   obtain ⟨x, h_x, h⟩ := bnd h
   obtain ⟨x2, h_x2, h⟩ := bnd h
   refine jd [0, 1, 5, 26] [] zcB (by exact (lw_e (lw_e (ly [.sl (Rp.int .i64) [0] av, kI i] (zW rfl zel.el (zv _ _ _) h_x) rfl (lw_e (lw_e (lw_e (ly [.sl (Rp.int .i64) [0] b, kI i] (zW rfl zel.el (zv _ _ _) h_x2) rfl l0)))))))) ?_
   rcases zg h with ⟨hc3, h⟩ | ⟨hc3, h⟩
   ·
    refine jT hc3 ?_
    obtain ⟨x3, h_x3, h⟩ := bnd h
    obtain ⟨x4, h_x4, h⟩ := bnd h
    refine jd [4] [] zcB (by exact (lw_e (lw_e (ly [.sl (Rp.int .i64) [0] av, kI i] (zW rfl zel.el (zv _ _ _) h_x3) rfl (lw_e (lw_e (lw_e (ly [.sl (Rp.int .i64) [0] b, kI i] (zW rfl zel.el (zv _ _ _) h_x4) rfl l0)))))))) ?_
    obtain rfl := sj h
    exact zaW lzz
   refine jF hc3 ?_
   refine zaf ?_
   refine jp ?_
   obtain rfl := sj h
   exact zJ lzz
  refine jF hc2 ?_
  obtain rfl := sj h
  exact zai rfl lzz
 rcases q with u | u2
 ·
  refine zaJ _ rfl ?_
  refine jp ?_
  obtain rfl := sj h
  exact zp lzz
 obtain rfl := sj h
 exact zdi lzz
theorem znT {f : zb} {v : Int} {r : Bool} (h : zfW f v = some r) : FnOk Tryz.prog 86 [.rc za [0] f, .ep (Rp.int .i64) [0] v 0] [kB r] := by
 refine zo (E := ⟨[(3, kB r)], []⟩) 8 Tryz.func86 rfl rfl rfl ⟨rfl, trivial⟩ (fun Xt => ?_)
 refine zh ?_
 unfold zfW at h
 refine jq [11] ?_
 refine jp ?_
 obtain rfl := sj h
 exact zp lzz
theorem zrE {elems : (List Str)} {sep : Str} {r : Str} (h : strings_Join elems sep = some r) : FnOk Tryz.prog 87 [.sl Rp.str [0] elems, kS sep] [kS r] := zAt lj87 xj87 h
theorem zmW {m : zc} {number : Int} {r : Int} (h : zfn m number = some r) : FnOk Tryz.prog 59 [.rc zd [0] m, kI number] [kI r] := by
 refine zo (E := ⟨[(4, kI r)], []⟩) 22 Tryz.func59 rfl rfl rfl ⟨rfl, trivial⟩ (fun Xt => ?_)
 refine zh ?_
 unfold zfn at h
 refine jr (ra 0 [.rc zd [0] m] rfl (zgW 11 [kS m.Name, .sl za [0] m.Fields] [0] rfl rfl rfl rfl rfl) rfl rf) ?_
 refine jp ?_
 refine zn ?_
 obtain ⟨q, h_q, h⟩ := bnd h
 refine zam (fun s : Int => zaZ m number s) (fun s => ⟨[(1, kI number), (2, .ptr 11 0), (5, kI s)], [⟨11, 65, [kS m.Name, .sl za [0] m.Fields]⟩]⟩) (fun o e a w => match o with | (.inl v_) => e = .exit 0 ∧ Sx ⟨⟨22, []⟩, Xt, false, #[]⟩ ⟨[], []⟩ a w | (.inr v_) => e = .ret ∧ Sx ⟨⟨22, []⟩, Xt, false, #[]⟩ ⟨[(4, kI v_)], []⟩ a w) ?_ h_q lzz ?_
 ·
  clear h
  intro i o h
  refine zh ?_
  replace h : zaZ m number i = some o := h
  unfold zaZ at h
  refine jp ?_
  rcases zg h with ⟨hc1, h⟩ | ⟨hc1, h⟩
  ·
   refine jT hc1 ?_
   refine zn ?_
   obtain ⟨x, h_x, h⟩ := bnd h
   refine jr (ra 3 [.sl za [0] m.Fields, kI i] rfl (zW rfl ziw.el (zv _ _ _) h_x) rfl rf) ?_
   rcases zg h with ⟨hc2, h⟩ | ⟨hc2, h⟩
   ·
    refine jT hc2 ?_
    refine jp ?_
    obtain rfl := sj h
    exact zaW lzz
   refine jF hc2 ?_
   refine zaf ?_
   refine jp ?_
   obtain rfl := sj h
   exact zJ lzz
  refine jF hc1 ?_
  obtain rfl := sj h
  exact zai rfl lzz
 rcases q with u | u2
 ·
  refine zaJ _ rfl ?_
  refine jp ?_
  obtain rfl := sj h
  exact zp lzz
 obtain rfl := sj h
 exact zdi lzz
theorem znn {l : (List Str)} {r : Str} (h : zfO l = some r) : FnOk Tryz.prog 60 [.sl Rp.str [0] l] [kS r] := by
 refine zo (E := ⟨[(2, kS r)], []⟩) 22 Tryz.func60 rfl rfl rfl ⟨rfl, trivial⟩ (fun Xt => ?_)
 refine zh ?_
 unfold zfO at h
 refine jp ?_
 refine jp ?_
 refine jp ?_
 refine zn ?_
 obtain ⟨q, h_q, h⟩ := bnd h
 refine zam (fun s : (Str × Int) => zbz l s.1 s.2) (fun s => ⟨[(0, .sl Rp.str [0] l), (3, kS s.1), (4, kI s.2)], []⟩) (fun o e a w => e = .exit 0 ∧ Sx ⟨⟨22, []⟩, Xt, false, #[]⟩ ⟨[(3, kS o)], []⟩ a w) ?_ h_q lzz ?_
 ·
  clear h
  intro s o h
  obtain ⟨out, i⟩ := s
  refine zh ?_
  replace h : zbz l out i = some o := h
  unfold zbz at h
  refine jp ?_
  rcases zg h with ⟨hc1, h⟩ | ⟨hc1, h⟩
  ·
   refine jT hc1 ?_
   refine zn ?_
   refine jp ?_
   obtain ⟨p, h_p, h⟩ := bnd h
   refine zhU (R := fun e a w => e = .normal ∧ Sx ⟨⟨22, []⟩, Xt, false, #[]⟩ ⟨[(0, .sl Rp.str [0] l), (3, kS p), (4, kI i)], []⟩ a w) ?_ ?_
   ·
    replace h := h_p
    refine zh ?_
    rcases zg h with ⟨hc2, h⟩ | ⟨hc2, h⟩
    ·
     refine jT hc2 ?_
     obtain ⟨v, h_v, h⟩ := bnd h
     refine jr (ra 1 [kS out, kS [46]] rfl (zAM rfl h_v) rfl rf) ?_
     obtain rfl := sj h
     exact zJ lzz
    refine jF hc2 ?_
    obtain rfl := sj h
    exact zJ lzz
   refine zko ?_
   obtain ⟨x, h_x, h⟩ := bnd h
   obtain ⟨v2, h_v2, h⟩ := bnd h
   refine jr (ra 3 [.sl Rp.str [0] l, kI i] rfl (zW rfl zfY.el (zv _ _ _) h_x) rfl (ra 1 [kS p, kS x] rfl (zAM rfl h_v2) rfl rf)) ?_
   refine zaf ?_
   refine jp ?_
   obtain rfl := sj h
   exact zJ lzz
  refine jF hc1 ?_
  obtain rfl := sj h
  exact zai rfl lzz
 refine zaJ _ rfl ?_
 refine jp ?_
 obtain rfl := sj h
 exact zp lzz
theorem zmc {av : (List Str)} {b : (List Str)} {r : Int} (h : zgi av b = some r) : FnOk Tryz.prog 61 [.sl Rp.str [0] av, .sl Rp.str [0] b] [kI r] := by
 refine zo (E := ⟨[(4, kI r)], []⟩) 30 Tryz.func61 rfl rfl rfl ⟨rfl, trivial⟩ (fun Xt => ?_)
 refine zh ?_
 unfold zgi at h
 refine jp ?_
 refine jp ?_
 refine zn ?_
 obtain ⟨q, h_q, h⟩ := bnd h
 refine zam (fun s : Int => zaO av b s) (fun s => ⟨[(0, .sl Rp.str [0] av), (1, .sl Rp.str [0] b), (5, kI s)], []⟩) (fun o e a w => e = .ret ∧ Sx ⟨⟨30, []⟩, Xt, false, #[]⟩ ⟨[(4, kI o)], []⟩ a w) ?_ h_q lzz ?_
 ·
  clear h
  intro n o h
  refine zh ?_
  replace h : zaO av b n = some o := h
  unfold zaO at h
  refine zn ?_
  obtain ⟨g, h_g, h⟩ := bnd h
  refine zhU (R := fun e a w => e = .normal ∧ Sx ⟨⟨30, []⟩, Xt, false, #[]⟩ ⟨[(0, .sl Rp.str [0] av), (1, .sl Rp.str [0] b), (5, kI n), (28, kB g)], []⟩ a w) ?_ (zko ?_)
  ·
   refine zh ?_
   rcases Bool.eq_false_or_eq_true (n == (av.length : Int)) with hc1 | hc1
   ·
    replace h_g := iteT h_g hc1
    obtain rfl := sj h_g
    refine jd [0, 1, 5, 28] [] zcB (by exact (lw_e (lw_e (lw_e (lw_e (lx (zbv ⟨[(11, kB (n == (av.length : Int)))], []⟩ (by kernel_rfl) hc1) l0)))))) ?_
    exact zJ lzz
   replace h_g := iteF h_g hc1
   rcases Bool.eq_false_or_eq_true (n == (b.length : Int)) with hc2 | hc2
   ·
    replace h_g := iteT h_g hc2
    obtain rfl := sj h_g
    refine jd [0, 1, 5, 28] [] zcB (by exact (lw_e (lw_e (lw_e (lw_e (lx (zbv ⟨[(11, kB (n == (av.length : Int)))], []⟩ (by kernel_rfl) hc1) (lw_e (lw_e (lw_e (lw_e (lw_e (lx (zbv ⟨[(17, kB (n == (b.length : Int)))], []⟩ (by kernel_rfl) hc2) l0)))))))))))) ?_
    exact zJ lzz
   replace h_g := iteF h_g hc2
   obtain ⟨x, h_x, h_g⟩ := bnd h_g
   obtain ⟨x2, h_x2, h_g⟩ := bnd h_g
   obtain rfl := sj h_g
   refine jd [0, 1, 5, 28] [] zcB (by exact (lw_e (lw_e (lw_e (lw_e (lx (zbv ⟨[(11, kB (n == (av.length : Int)))], []⟩ (by kernel_rfl) hc1) (lw_e (lw_e (lw_e (lw_e (lw_e (lx (zbv ⟨[(17, kB (n == (b.length : Int)))], []⟩ (by kernel_rfl) hc2) (lw_e (lw_e (ly [.sl Rp.str [0] av, kI n] (zW rfl zfY.el (zv _ _ _) h_x) rfl (lw_e (lw_e (lw_e (ly [.sl Rp.str [0] b, kI n] (zW rfl zfY.el (zv _ _ _) h_x2) rfl l0))))))))))))))))))) ?_
   exact zJ lzz
  rcases zg h with ⟨hc3, h⟩ | ⟨hc3, h⟩
  ·
   refine jT hc3 ?_
   refine jp ?_
   obtain rfl := sj h
   exact zaW lzz
  refine jF hc3 ?_
  refine zaf ?_
  refine jp ?_
  obtain rfl := sj h
  exact zJ lzz
 obtain rfl := sj h
 exact zdi lzz
theorem znD {way : (List Int)} {v : Int} {r : Bool} (h : zfU way v = some r) : FnOk Tryz.prog 46 [.sl (Rp.int .i64) [0] way, .ep (Rp.int .i64) [0] v 0] [kB r] := by
 refine zo (E := ⟨[(3, kB r)], []⟩) 14 Tryz.func46 rfl rfl rfl ⟨rfl, trivial⟩ (fun Xt => ?_)
 refine zh ?_
 unfold zfU at h
 refine jp ?_
 obtain ⟨g, h_g, h⟩ := bnd h
 refine zhU (R := fun e a w => e = .normal ∧ Sx ⟨⟨14, []⟩, Xt, false, #[]⟩ ⟨[(3, kB g)], []⟩ a w) ?_ (zko ?_)
 ·
  refine zh ?_
  rcases Bool.eq_false_or_eq_true ((way.length : Int) == 1) with hc1 | hc1
  ·
   replace h_g := iteT h_g hc1
   obtain ⟨x, h_x, h_g⟩ := bnd h_g
   obtain rfl := sj h_g
   refine jd [3] [] zcB (by exact (lw_e (lw_e (lw_e (lx (zbv ⟨[(6, kB ((way.length : Int) == 1))], []⟩ (by kernel_rfl) hc1) (lw_e (ly [.sl (Rp.int .i64) [0] way, kI 0] (zW rfl zel.el (zv _ _ _) h_x) rfl l0))))))) ?_
   exact zJ lzz
  replace h_g := iteF h_g hc1
  obtain rfl := sj h_g
  refine jd [3] [] zcB (by exact (lw_e (lw_e (lw_e (lx (zbv ⟨[(6, kB ((way.length : Int) == 1))], []⟩ (by kernel_rfl) hc1) l0))))) ?_
  exact zJ lzz
 obtain rfl := sj h
 exact zp lzz
theorem zfA {m : (List (List Int))} {number : Int} {r : Bool} (h : zfs m number = some r) : FnOk Tryz.prog 22 [.sl (Rp.list (Rp.int .i64)) [0] m, kI number] [kB r] := by
 refine zo (E := ⟨[(4, kB r)], []⟩) 28 Tryz.func22 rfl rfl rfl ⟨rfl, trivial⟩ (fun Xt => ?_)
 refine zh ?_
 unfold zfs at h
 refine jp ?_
 refine jp ?_
 refine zn ?_
 obtain ⟨q, h_q, h⟩ := bnd h
 refine zam (fun s : Int => zbc m number s) (fun s => ⟨[(0, .sl (Rp.list (Rp.int .i64)) [0] m), (1, kI number), (5, kI s)], []⟩) (fun o e a w => match o with | (.inl v_) => e = .exit 0 ∧ Sx ⟨⟨28, []⟩, Xt, false, #[]⟩ ⟨[], []⟩ a w | (.inr v_) => e = .ret ∧ Sx ⟨⟨28, []⟩, Xt, false, #[]⟩ ⟨[(4, kB true)], []⟩ a w) ?_ h_q lzz ?_
 ·
  clear h
  intro i o h
  refine zh ?_
  replace h : zbc m number i = some o := h
  unfold zbc at h
  refine jp ?_
  rcases zg h with ⟨hc1, h⟩ | ⟨hc1, h⟩
  ·
   refine jT hc1 ?_
   refine zn ?_
   obtain ⟨g, h_g, h⟩ := bnd h
   refine zN ⟨[(0, .sl (Rp.list (Rp.int .i64)) [0] m), (1, kI number), (5, kI i), (27, kB g)], []⟩ ?_ ?_
   ·
    obtain ⟨x, h_x, h_g⟩ := bnd h_g
    refine (ra 2 [.sl (Rp.list (Rp.int .i64)) [0] m, kI i] rfl (zW rfl zaF.el (zv _ _ _) h_x) rfl (ra 0 [.ep (Rp.list (Rp.int .i64)) [0] x 0] rfl (zaK (Rp.int .i64) x rfl rfl rfl) rfl (rsl 3 [] 18 ((x.length : Int) == 1) (fun hc2 => ?_) (fun hc2 => ?_))))
    ·
     replace h_g := iteT h_g hc2
     obtain ⟨x2, h_x2, h_g⟩ := bnd h_g
     obtain ⟨x3, h_x3, h_g⟩ := bnd h_g
     obtain rfl := sj h_g
     exact (ra 2 [.sl (Rp.list (Rp.int .i64)) [0] m, kI i] rfl (zW rfl zaF.el (zv _ _ _) h_x2) rfl (ra 0 [.ep (Rp.list (Rp.int .i64)) [0] x2 0] rfl (zaK (Rp.int .i64) x2 rfl rfl rfl) rfl (ra 0 [.sl (Rp.int .i64) [0] x2, kI 0] rfl (zW rfl zel.el (zv _ _ _) h_x3) rfl rgg)))
    replace h_g := iteF h_g hc2
    obtain rfl := sj h_g
    exact rgg
   rcases zg h with ⟨hc3, h⟩ | ⟨hc3, h⟩
   ·
    refine jT hc3 ?_
    refine jp ?_
    obtain rfl := sj h
    exact zaW lzz
   refine jF hc3 ?_
   refine zaf ?_
   refine jp ?_
   obtain rfl := sj h
   exact zJ lzz
  refine jF hc1 ?_
  obtain rfl := sj h
  exact zai rfl lzz
 rcases q with u | u2
 ·
  refine zaJ _ rfl ?_
  refine jp ?_
  obtain rfl := sj h
  exact zp lzz
 obtain rfl := sj h
 exact zdi lzz
theorem zeh {m : (List (List Int))} {number : Int} {r : (List (List Int))} (h : zer m number = some r) : FnOk Tryz.prog 23 [.sl (Rp.list (Rp.int .i64)) [0] m, kI number] [.own (Rp.list (Rp.int .i64)) 30 2 [3, 0] r] := by
 refine zo (E := ⟨[(4, .own (Rp.list (Rp.int .i64)) 30 2 [3, 0] r)], []⟩) 38 Tryz.func23 rfl rfl rfl ⟨rfl, trivial⟩ (fun Xt => ?_)
 refine zh ?_
 unfold zer at h
 refine jp ?_
 refine jp ?_
 refine jp ?_
 refine zn ?_
 obtain ⟨q, h_q, h⟩ := bnd h
 refine zam (fun s : ((List (List Int)) × Int) => zbb m number s.1 s.2) (fun s => ⟨[(0, .sl (Rp.list (Rp.int .i64)) [0] m), (1, kI number), (5, .own (Rp.list (Rp.int .i64)) 30 16 [14, 0] s.1), (6, kI s.2)], []⟩) (fun o e a w => e = .exit 0 ∧ Sx ⟨⟨38, []⟩, Xt, false, #[]⟩ ⟨[(5, .own (Rp.list (Rp.int .i64)) 30 16 [14, 0] o)], []⟩ a w) ?_ h_q ?_ ?_
 ·
  clear h
  intro s o h
  obtain ⟨out, i⟩ := s
  refine zh ?_
  replace h : zbb m number out i = some o := h
  unfold zbb at h
  refine jp ?_
  rcases zg h with ⟨hc1, h⟩ | ⟨hc1, h⟩
  ·
   refine jT hc1 ?_
   refine zn ?_
   obtain ⟨g, h_g, h⟩ := bnd h
   refine zN ⟨[(0, .sl (Rp.list (Rp.int .i64)) [0] m), (1, kI number), (5, .own (Rp.list (Rp.int .i64)) 30 16 [14, 0] out), (6, kI i), (28, kB g)], []⟩ ?_ ?_
   ·
    obtain ⟨x, h_x, h_g⟩ := bnd h_g
    refine (ra 2 [.sl (Rp.list (Rp.int .i64)) [0] m, kI i] rfl (zW rfl zaF.el (zv _ _ _) h_x) rfl (ra 0 [.ep (Rp.list (Rp.int .i64)) [0] x 0] rfl (zaK (Rp.int .i64) x rfl rfl rfl) rfl (rsl 3 [] 19 (decide ((x.length : Int) > 1)) (fun hc2 => ?_) (fun hc2 => ?_))))
    ·
     replace h_g := iteT h_g hc2
     obtain ⟨x2, h_x2, h_g⟩ := bnd h_g
     obtain ⟨x3, h_x3, h_g⟩ := bnd h_g
     obtain rfl := sj h_g
     exact (ra 2 [.sl (Rp.list (Rp.int .i64)) [0] m, kI i] rfl (zW rfl zaF.el (zv _ _ _) h_x2) rfl (ra 0 [.ep (Rp.list (Rp.int .i64)) [0] x2 0] rfl (zaK (Rp.int .i64) x2 rfl rfl rfl) rfl (ra 0 [.sl (Rp.int .i64) [0] x2, kI 0] rfl (zW rfl zel.el (zv _ _ _) h_x3) rfl rgg)))
    replace h_g := iteF h_g hc2
    obtain rfl := sj h_g
    exact rgg
   rcases zg h with ⟨hc3, h⟩ | ⟨hc3, h⟩
   ·
    refine jT hc3 ?_
    obtain ⟨x4, h_x4, h⟩ := bnd h
    obtain ⟨v2, h_v2, h⟩ := bnd h
    obtain ⟨v3, h_v3, h⟩ := bnd h
    refine jr (ra 3 [.sl (Rp.list (Rp.int .i64)) [0] m, kI i] rfl (zW rfl zaF.el (zv _ _ _) h_x4) rfl (ra 0 [.ep (Rp.list (Rp.int .i64)) [0] x4 0] rfl (zaK (Rp.int .i64) x4 rfl rfl rfl) rfl (ra 0 [.sl (Rp.int .i64) [0] x4, kI 1] rfl (zoX (some (kI 1)) none rfl zel.el (zv _ _ _) ⟨rfl, rfl⟩ ⟨rfl, rfl⟩ h_v2) rfl (rc 0 rfl (zdO [.sl (Rp.int .i64) [0] v2] 18 [0] ([v2] : (List (List Int))) rfl zaF rfl rfl rfl rfl) (ra 0 [.own (Rp.list (Rp.int .i64)) 30 16 [14, 0] out, .own (Rp.list (Rp.int .i64)) 30 18 [0] ([v2] : (List (List Int)))] rfl (zes 16 [14, 0, 18] rfl zaF.el rfl (zbA _ _ _ _ _) (zbF _ _ _ _ _) h_v3 (.inr rfl) rfl) rfl rf))))) ?_
    refine zaf ?_
    refine jp ?_
    obtain rfl := sj h
    refine zJ ?_
    refine lk [0, 1, 5, 6] [] 18 14 ?_
    refine zaS ⟨[(0, .sl (Rp.list (Rp.int .i64)) [0] m), (1, kI number), (5, .own (Rp.list (Rp.int .i64)) 30 16 [14, 0, 14] v3), (6, kI (IntKind.i64.wrap (i + 1)))], []⟩ (by kernel_rfl) ?_
    refine zbL 5 (.own (Rp.list (Rp.int .i64)) 30 16 [14, 0] v3) rfl (zgb _ _ _ _ _ _ rfl rfl) ?_
    exact lzz
   refine jF hc3 ?_
   refine zaf ?_
   refine jp ?_
   obtain rfl := sj h
   exact zJ lzz
  refine jF hc1 ?_
  obtain rfl := sj h
  exact zai rfl lzz
 ·
  refine zaS ⟨[(0, .sl (Rp.list (Rp.int .i64)) [0] m), (1, kI number), (5, kN), (6, kI 0)], []⟩ (by kernel_rfl) ?_
  refine zbL 5 (.own (Rp.list (Rp.int .i64)) 30 16 [14, 0] []) rfl (zY (Rp.list (Rp.int .i64)) 30 16 [14, 0] rfl) ?_
  exact lzz
 refine zaJ _ rfl ?_
 refine jp ?_
 obtain rfl := sj h
 refine zp ?_
 refine lk [4] [] 16 2 ?_
 refine lk [4] [] 14 3 ?_
 exact lzz
theorem zjC {n : Int} {r : (List (List Int))} (h : zcJ n = some r) : FnOk Tryz.prog 69 [kN, kI n] [.own (Rp.list (Rp.int .i64)) 30 2 [] r] := by
 refine zo (E := ⟨[(4, .own (Rp.list (Rp.int .i64)) 30 2 [] r)], []⟩) 27 Tryz.func69 rfl rfl rfl ⟨rfl, trivial⟩ (fun Xt => ?_)
 refine zh ?_
 unfold zcJ at h
 refine jp ?_
 refine jp ?_
 rcases zg h with ⟨hc1, h⟩ | ⟨hc1, h⟩
 ·
  refine jT hc1 ?_
  exact absurd h nofun
 refine jF hc1 ?_
 refine jr (ra 2 [kN] rfl (zuh rfl Tryz.underlying25) rfl rf) ?_
 refine jp ?_
 rcases zg h with ⟨hc2, h⟩ | ⟨hc2, h⟩
 ·
  refine jT hc2 ?_
  obtain ⟨v, h_v, h⟩ := bnd h
  obtain ⟨v2, h_v2, h⟩ := bnd h
  refine jr (ra 2 [kN] rfl (zuh rfl Tryz.underlying25) rfl (ra 0 [kN, kI 0] rfl (zzk rfl zaF.el) rfl (ra 1 [kN, kI (IntKind.i64.wrap (n - (IntKind.i64.wrap (0 - 0))))] rfl (zBQ 12 rfl Tryz.underlying3 zaF rfl h_v) rfl (ra 2 [.own (Rp.list (Rp.int .i64)) 30 12 [] v, kI 0] rfl (zyG rfl zaF.el h_v2) rfl rf)))) ?_
  refine jp ?_
  obtain rfl := sj h
  refine zp ?_
  refine lk [4] [] 12 2 ?_
  exact lzz
 refine jF hc2 ?_
 refine jp ?_
 obtain rfl := sj h
 refine zp ?_
 refine zaS ⟨[(4, kN)], []⟩ (by kernel_rfl) ?_
 refine zbL 4 (.own (Rp.list (Rp.int .i64)) 30 2 [] ([] : (List (List Int)))) rfl (zY (Rp.list (Rp.int .i64)) 30 2 [] rfl) ?_
 exact lzz
theorem zjb {sv : (List (List Int))} {r : (List (List Int))} (h : zcC sv = some r) : FnOk Tryz.prog 71 [.sl (Rp.list (Rp.int .i64)) [0] sv] [.own (Rp.list (Rp.int .i64)) 30 2 [0] r] := by
 refine zo (E := ⟨[(2, .own (Rp.list (Rp.int .i64)) 30 2 [0] r)], []⟩) 8 Tryz.func71 rfl rfl rfl ⟨rfl, trivial⟩ (fun Xt => ?_)
 refine zh ?_
 unfold zcC at h
 refine jp ?_
 have hn1 := zun h
 refine zwk 1 4 true ⟨[(0, .sl (Rp.list (Rp.int .i64)) [0] sv), (3, .sl (Rp.list (Rp.int .i64)) [0] sv)], []⟩ ⟨[(0, .sl (Rp.list (Rp.int .i64)) [0] sv), (4, kB true)], []⟩ ⟨[(0, .sl (Rp.list (Rp.int .i64)) [0] sv), (4, kB false)], []⟩ (by kernel_rfl) rfl rfl rfl (by kernel_rfl) rfl Tryz.underlying25 rfl (zv _ _ _) (by kernel_rfl) (by kernel_rfl) (fun hx_ => ?_) ?_
 ·
  replace h := hn1.1 hx_
  refine jT rfl ?_
  refine jp ?_
  obtain rfl := sj h
  refine zp ?_
  refine zaS ⟨[(2, kN)], []⟩ (by kernel_rfl) ?_
  refine zbL 2 (.own (Rp.list (Rp.int .i64)) 30 2 [0] ([] : (List (List Int)))) rfl (zY (Rp.list (Rp.int .i64)) 30 2 [0] rfl) ?_
  exact lzz
 replace h := hn1.2
 refine jF rfl ?_
 obtain ⟨v, h_v, h⟩ := bnd h
 refine jr (rc 0 rfl (zdO [] 12 [] ([] : (List (List Int))) rfl zaF rfl rfl rfl rfl) (ra 1 [.own (Rp.list (Rp.int .i64)) 30 12 [] ([] : (List (List Int))), .sl (Rp.list (Rp.int .i64)) [0] sv] rfl (zes 12 [0] rfl zaF.el rfl (zbA _ _ _ _ _) (zv _ _ _) h_v (.inr rfl) rfl) rfl rf)) ?_
 obtain rfl := sj h
 refine zp ?_
 refine lk [2] [] 12 2 ?_
 exact lzz
end Go.Proofs.YtglkepeofhonlaaGreatDoor

/-
  The laws as plain functions. No condition.
-/
import Derived.Test.YtglkepeofhonlaaGreatDoorP1
import Derived.Test.YtglkepeofhonlaaGreatDoorO
import Derived.Test.YtglkepeofhonlaaGreatDoorOU
namespace Go.Proofs.YtglkepeofhonlaaGreatDoor
open Go
set_option linter.unusedVariables false
theorem UW.app {a b : List zm} (ha : UW a) (hb : UW b) (hl : a.length + b.length ≤ 4194304) : UW (a ++ b) := ⟨by rw [List.length_append]; exact hl, fun x hx => by
 rcases List.mem_append.1 hx with h | h
 ·exact ha.2 x h
 ·exact hb.2 x h⟩
def VW (w : List zm) : Prop := w.length ≤ 1048576 ∧ ∀ x ∈ w, x.length ≤ 1048576
theorem VW.uw {w : List zm} (h : VW w) : UW w := ⟨by have := h.1; omega, fun x hx => by have := h.2 x hx; omega⟩
theorem zzC {x u : List zm} {way : zm} (hx : WW x) (hu : WW u) (hw : way.length ≤ 100) (h : ∀ w ∈ x, hasB x w = true ∧ hasB u w = true) : ∀ (d i : Nat), i + d = x.length → zcp ⟨x⟩ ⟨u⟩ way i = some (.inl ()) := by
 intro d
 induction d with
 | zero =>
  intro i hi
  refine zjE ?_
  unfold zaB
  rw [itF (by simp; omega)]
 | succ d ih =>
  intro i hi
  have hlt : i < x.length := by omega
  have hb := hx.2 _ (List.getElem_mem hlt)
  obtain ⟨h1, h2⟩ := h _ (List.getElem_mem hlt)
  have hstep : zaB ⟨x⟩ ⟨u⟩ way i = some (.inl ((i + 1 : Nat) : Int)) := by
   unfold zaB
   have hx1 := hx.1
   rw [itT (by simp; omega), zE rfl hlt, sb, zeG (by simp; omega), sb, List.nil_append, zeG (by omega), sb, zkb hx (by simp; omega), sb, zvX h1, itF (by rfl), sb, zkb hu (by omega), sb, h2, sb, itF (by rfl), zy (by omega)]
   rfl
  rw [zjD hstep]
  exact ih (i + 1) (by omega)
theorem ztv (a0 : List zm) (a1 : List zm) (a2 : zm) (v0 : VW a0) (v1 : VW a1) : zef a0 a1 a2 = some true := by
 have u0 := v0.uw
 have u1 := v1.uw
 have w0 := u0.ww
 have w1 := u1.ww
 have ux := u0.of
 have uy := u1.of
 have b0l := v0.1
 have b1l := v1.1
 unfold zef
 rw [zon, sb, itF (by rfl)]
 obtain ⟨b0, hb0⟩ := zlJ (l := a0) (by have := w0.1; omega)
 obtain ⟨b1, hb1⟩ := zlJ (l := a1) (by have := w1.1; omega)
 rw [hb0, sb]
 cases b0 with
 | true => rfl
 | false =>
  rw [itF (by rfl), hb1, sb]
  cases b1 with
  | true => rfl
  | false =>
   rw [itF (by rfl)]
   by_cases hl : 100 < a2.length
   ·rw [sb, itT (by simp; omega)]
   ·have hx := znh w0
    have hy := znh w1
    have lx := zjj a0
    have ly := zjj a1
    have hU : WW (ofW (ofW a0 ++ ofW a1)) := znh ⟨by simp; omega, fun w hm => by
     rcases List.mem_append.1 hm with h | h
     ·exact hx.2 w h
     ·exact hy.2 w h⟩
    have hML : WW (znH (ofW a0) (ofW a1)) := ⟨by
     unfold znH
     have e1 := List.length_filter_le (hasB (ofW a1)) (ofW a0)
     have e2 := List.length_filter_le (hasB (ofW a0)) (ofW a1)
     simp only [List.length_append]; omega, fun w hm => by
     rcases List.mem_append.1 hm with h | h
     ·exact hx.2 w (List.mem_filter.1 h).1
     ·exact hy.2 w (List.mem_filter.1 h).1⟩
    have hM : WW (zoL (ofW a0) (ofW a1)) := znh hML
    rw [sb, itF (by simp; omega), zlr u0.sw, sb, zlr u1.sw, sb, zkb hx (by omega), sb, zkb hy (by omega), sb, zqN (UW.app ux uy (by omega)).sw, sb, zsH ux uy (by omega), sb, zkb hU (by omega), sb]
    have hloop := zzC (x := ofW a0) (u := ofW (ofW a0 ++ ofW a1)) (way := a2) hx hU (by omega) (fun w hm => by
     have hn := (zgG.1 hm).2.1
     have h1 := zod hm hn
     exact ⟨h1, by rw [zjh, ziq, h1]; rfl⟩) (ofW a0).length 0 (by omega)
    have hloop' : zcp ⟨ofW a0⟩ ⟨ofW (ofW a0 ++ ofW a1)⟩ a2 0 = _ := hloop
    have e1 : hasB (ofW (ofW a0 ++ ofW a1)) a2 = (hasB (ofW a0) a2 || hasB (ofW a1) a2) := by rw [zjh, ziq]
    have e2 : hasB (zoL (ofW a0) (ofW a1)) a2 = (hasB (ofW a0) a2 && hasB (ofW a1) a2) := zxu _ _ _
    have e3 : hasB a0 a2 = hasB (ofW a0) a2 := (zjh).symm
    have hend : (zgE (⟨ofW a0⟩ : zO).Ways >>= fun rv19 => zaw rv19.Ways (⟨ofW a0⟩ : zO).Ways >>= fun rv20 => if rv20 = true then zhf ⟨ofW a0⟩ ⟨ofW a0⟩ >>= fun rv21 => zaw rv21.Ways (⟨ofW a0⟩ : zO).Ways >>= fun rv22 => if rv22 = true then zir ⟨ofW a0⟩ ⟨ofW a0⟩ >>= fun rv23 => zaw rv23.Ways (⟨ofW a0⟩ : zO).Ways >>= fun rv24 => some rv24 else some false else some false) = some true := by
     simp only
     have hx2 : WW (ofW (ofW a0)) := znh hx
     rw [zlr ux.sw, sb, zeD hx2, sb, itT (by simp [zmu]), zqN (UW.app ux ux (by omega)).sw, sb, zeD (by rw [zto, zmu]; exact hx), sb, itT (by simp [zto, zmu]), zsH ux ux (by omega), sb, zeD (by rw [zuj, zmu]; exact hx), sb]
     simp [zuj, zmu]
    rw [e1]
    cases ha : hasB (ofW a0) a2 <;> cases hb : hasB (ofW a1) a2 <;>
     simp only [Bool.or_true, Bool.or_false, Bool.false_eq_true, if_true, if_false, BEq.rfl, Bool.not_true, zkb hM (way := a2) (by omega), zkb w0 (way := a2) (by omega), e2, e3, ha, hb, sb, Bool.and_true, Bool.and_false, hloop', hend] <;> rfl
theorem zyd {x y : List zm} (hx : WW x) (hy : WW y) : ∀ (d i : Nat) (acc : List zm), i + d = x.length → (acc.length + d) * 24 ≤ 140737488351232 → zcq x y acc i = some (acc ++ (x.drop i).filter (hasB y)) := by
 have hx1 := hx.1
 intro d
 induction d with
 | zero =>
  intro i acc hi hb
  refine zjG ?_
  unfold zaC
  rw [itF (by simp; omega), List.drop_of_length_le (by omega)]
  simp
 | succ d ih =>
  intro i acc hi hb
  have hlt : i < x.length := by omega
  have hw := hx.2 _ (List.getElem_mem hlt)
  have hstep : zaC x y acc i = some (.inl (if hasB y x[i] then acc ++ [x[i]] else acc, ((i + 1 : Nat) : Int))) := by
   unfold zaC
   rw [itT (by simp; omega), zE rfl hlt, sb, znQ hy (by omega), sb]
   cases hc : hasB y x[i] with
   | true => rw [itT (by rfl), sb, zeG (by simp; omega), sb, zy (by omega)]; rfl
   | false => rw [itF (by rfl), zy (by omega)]; rfl
  rw [zjF hstep, List.drop_eq_getElem_cons hlt, List.filter_cons]
  cases hc : hasB y x[i] with
  | true => simp only [if_true]; rw [ih (i + 1) _ (by omega) (by simp; omega)]; simp
  | false => simp only [Bool.false_eq_true, if_false]; exact ih (i + 1) _ (by omega) (by omega)
theorem zye {x y : List zm} (hx : WW x) (hy : WW y) : ∀ (d i : Nat) (acc : List zm), i + d = y.length → (acc.length + d) * 24 ≤ 140737488351232 → zcr x y acc i = some (acc ++ (y.drop i).filter (hasB x)) := by
 have hy1 := hy.1
 intro d
 induction d with
 | zero =>
  intro i acc hi hb
  refine zjI ?_
  unfold zaD
  rw [itF (by simp; omega), List.drop_of_length_le (by omega)]
  simp
 | succ d ih =>
  intro i acc hi hb
  have hlt : i < y.length := by omega
  have hw := hy.2 _ (List.getElem_mem hlt)
  have hstep : zaD x y acc i = some (.inl (if hasB x y[i] then acc ++ [y[i]] else acc, ((i + 1 : Nat) : Int))) := by
   unfold zaD
   rw [itT (by simp; omega), zE rfl hlt, sb, znQ hx (by omega), sb]
   cases hc : hasB x y[i] with
   | true => rw [itT (by rfl), sb, zeG (by simp; omega), sb, zy (by omega)]; rfl
   | false => rw [itF (by rfl), zy (by omega)]; rfl
  rw [zjH hstep, List.drop_eq_getElem_cons hlt, List.filter_cons]
  cases hc : hasB x y[i] with
  | true => simp only [if_true]; rw [ih (i + 1) _ (by omega) (by simp; omega)]; simp
  | false => simp only [Bool.false_eq_true, if_false]; exact ih (i + 1) _ (by omega) (by omega)
theorem zwW {w : List zm} (hw : WW w) (n : Int) : WW (zeY w n) := by
 refine ⟨Nat.le_trans (List.length_filterMap_le _ _) hw.1, fun v hv => ?_⟩
 obtain ⟨u, hu, he⟩ := List.mem_filterMap.1 hv
 have := hw.2 u hu
 have hl : v.length ≤ u.length := by
  unfold zgd at he
  split at he
  ·split at he
   ·cases he; simp
   ·cases he
  ·cases he
 omega
theorem ztw (a0 : List zm) (a1 : List zm) (a2 : Int) (a3 : zm) (v0 : VW a0) (v1 : VW a1) : zeg a0 a1 a2 a3 = some true := by
 have u0 := v0.uw
 have u1 := v1.uw
 have w0 := u0.ww
 have w1 := u1.ww
 have b0l := v0.1
 have b1l := v1.1
 unfold zeg
 rw [zon, sb, itF (by rfl)]
 obtain ⟨b0, hb0⟩ := zlJ (l := a0) (by have := w0.1; omega)
 obtain ⟨b1, hb1⟩ := zlJ (l := a1) (by have := w1.1; omega)
 rw [hb0, sb]
 cases b0 with
 | true => rfl
 | false =>
  rw [itF (by rfl), hb1, sb]
  cases b1 with
  | true => rfl
  | false =>
   rw [itF (by rfl)]
   by_cases hl : 100 < a3.length
   ·rw [sb, itT (by simp; omega)]
   ·have hx := znh w0
    have hy := znh w1
    have lx := zjj a0
    have ly := zjj a1
    have hu := zwW hx a2
    have h1 := zyd hx hy (ofW a0).length 0 [] (by omega) (by simp; omega)
    have h1' : zcq (ofW a0) (ofW a1) [] 0 = _ := h1
    have hfl : ((ofW a0).filter (hasB (ofW a1))).length ≤ (ofW a0).length := List.length_filter_le _ _
    have hfl2 : ((ofW a1).filter (hasB (ofW a0))).length ≤ (ofW a1).length := List.length_filter_le _ _
    have h2 := zye hx hy (ofW a1).length 0 ((ofW a0).filter (hasB (ofW a1))) (by omega) (by omega)
    have h2' : zcr (ofW a0) (ofW a1) ((ofW a0).filter (hasB (ofW a1))) 0 = _ := h2
    have hML : WW (znH (ofW a0) (ofW a1)) := ⟨by
     unfold znH
     simp only [List.length_append]; omega, fun w hm => by
     rcases List.mem_append.1 hm with h | h
     ·exact hx.2 w (List.mem_filter.1 h).1
     ·exact hy.2 w (List.mem_filter.1 h).1⟩
    have hA : WW (a0 ++ a1) := ⟨by simp; omega, fun w hm => by
     rcases List.mem_append.1 hm with h | h
     ·exact w0.2 w h
     ·exact w1.2 w h⟩
    rw [sb, itF (by simp; omega), ziZ w0, sb, ziZ w1, sb, zzs a2 u0, sb, zlr u0.sw, sb]
    simp only
    rw [zeD hx, sb, itF (by simp), zum a2 w0, sb, zwI hx, sb, itF (by simp), zwH hx, sb, zeD hu, sb, itF (by simp), sb, itF (by simp), zkb w0 (by omega), sb, znQ w0 (by omega), sb, sb, itF (by simp), h1', sb]
    simp only [List.drop_zero, List.nil_append]
    rw [h2', sb, zqN (UW.app u0 u1 (by omega)).sw, sb, zeG (by simp; have := w0.1; omega), sb, List.nil_append, zeG (by omega), sb, ziZ hA, sb]
    simp only [List.drop_zero]
    rw [zeD (znh hA), sb, itT (by simp), zsH u0 u1 (by omega), sb]
    have hm : (ofW a0).filter (hasB (ofW a1)) ++ (ofW a1).filter (hasB (ofW a0)) = znH (ofW a0) (ofW a1) := rfl
    rw [hm, ziZ hML, sb]
    simp only
    rw [zeD (by rw [← zuZ]; exact znh hML), sb, sb]
    have : zoL a0 a1 = ofW (znH (ofW a0) (ofW a1)) := (zuZ a0 a1).symm
    simp [this]
theorem zvf {s : List Mes} (hr : ziA s) {k : Nat} (hk : k < s.length) {ways : List zm} (hw : WW ways) (hn : ∀ w ∈ ways, w.length ≤ 1048576) : ∀ (d i : Nat) (want : List (List UInt8)), i + d = ways.length → want.length ≤ i →
  ∃ l, zci k s ways want true i = some (l, (ways.drop i).all fun w => (zfa s k w).2) ∧ (((ways.drop i).all fun w => (zfa s k w).2) = true → l = want ++ (ways.drop i).map fun w => (zfa s k w).1) := by
 have hw1 := hw.1
 intro d
 induction d with
 | zero =>
  intro i want hi _
  refine ⟨want, ?_, fun _ => ?_⟩
  ·refine zfj ?_
   unfold zar
   rw [itF (by simp; omega), List.drop_of_length_le (by omega)]
   rfl
  ·rw [List.drop_of_length_le (by omega)]; simp
 | succ d ih =>
  intro i want hi hwl
  have hlt : i < ways.length := by omega
  have hstep : zar k s ways want true i = some (.inl (want ++ [(zfa s k ways[i]).1], (zfa s k ways[i]).2, ((i + 1 : Nat) : Int))) := by
   unfold zar
   rw [itT (by simp; omega), zE rfl hlt, sb, zvk hr hk (hn _ (List.getElem_mem hlt)), sb, zeG (by simp; omega), sb, zy (by omega)]
   rfl
  rw [zkk hstep, List.drop_eq_getElem_cons hlt, List.all_cons, List.map_cons]
  cases hc : (zfa s k ways[i]).2 with
  | false =>
   refine ⟨want ++ [(zfa s k ways[i]).1], ?_, fun h => by simp at h⟩
   refine zfj ?_
   unfold zar
   rw [itF (by simp)]
   rfl
  | true =>
   obtain ⟨l, h1, h2⟩ := ih (i + 1) (want ++ [(zfa s k ways[i]).1]) (by omega) (by simp; omega)
   refine ⟨l, by rw [h1]; simp, fun h => ?_⟩
   rw [h2 (by simpa using h)]
   simp
theorem zrx {s : List Mes} (hs : WS s) (root : Int) {ways : List zm} (hw : WW ways) (hn : ∀ w ∈ ways, w.length ≤ 1048576) : zdT s root ways = some true := by
 unfold zdT
 rw [zul root hs hw hn, sb, zmB hs, sb]
 unfold zsV
 by_cases h0 : zbX s root = 0
 ·obtain ⟨hr, g1, g2⟩ := zif h0
  obtain ⟨k, rfl⟩ : ∃ k : Nat, root = k := ⟨root.toNat, by omega⟩
  have h0' : ¬ zbX s k ≠ 0 := fun h => h h0
  rw [itF (by simpa using h0), ziZ hw, sb, zeD (znh hw), sb, if_neg h0']
  by_cases ho : ofW ways = ways
  ·obtain ⟨l, h1, h2⟩ := zvf hr (k := k) (by omega) hw hn ways.length 0 [] (by omega) (by simp)
   have h1' : zci k s ways [] true 0 = _ := h1
   rw [decide_eq_true ho, h1', sb]
   simp only [List.drop_zero, List.nil_append] at h2 ⊢
   cases ha : ways.all fun w => (zfa s k w).2 with
   | true =>
    rw [itF (by rfl), if_pos (show ofW ways = ways ∧ (true = true) from ⟨ho, rfl⟩)]
    simp only
    rw [itT (show (IntKind.i64.wrap (0 : Int) == 0) = true by decide), h2 ha, zvl (by simp; have := hw.1; omega), sb, sb]
    simp
   | false =>
    rw [itT (by rfl), if_neg (show ¬ (ofW ways = ways ∧ (false = true)) from fun h => by cases h.2)]
    rfl
  ·have hf : zci k s ways [] (decide (ofW ways = ways)) 0 = some ([], false) := by
    rw [decide_eq_false ho]
    refine zfj ?_
    unfold zar
    rw [itF (by simp)]
   rw [hf, sb, itT (by rfl), if_neg (show ¬ (ofW ways = ways ∧ (ways.all fun w => (zfa s k w).2) = true) from fun h => ho h.1)]
   rfl
 ·rw [itT (by simpa using h0), if_pos h0]
  rcases zri s root with h1 | h1 | h1
  ·exact absurd h1 h0
  ·rw [h1]; rfl
  ·rw [h1]; rfl
theorem zuY {fuel : Nat} (hf : 70 ≤ fuel) {s : List Mes} (hs : WS s) (root : Int) {paths : List (List UInt8)} (hp : paths.length ≤ 1048576) (hx : ∀ p ∈ paths, p.length ≤ 1048576) : ∀ (d i : Nat), i + d = paths.length → zcg fuel paths root s i = some (.inl ()) := by
 intro d
 induction d with
 | zero =>
  intro i hi
  refine zgw ?_
  unfold zan
  rw [itF (by simp; omega)]
 | succ d ih =>
  intro i hi
  have hlt : i < paths.length := by omega
  by_cases h8 : i < 8
  ·have hpl := hx _ (List.getElem_mem hlt)
   have hc := zjl s root paths[i]
   have hstep : zan fuel paths root s i = some (.inl ((i + 1 : Nat) : Int)) := by
    unfold zan
    rw [itT (by simp; omega), zE rfl hlt, sb, zrq root hs (by omega), sb, sb, zlt hs root (by omega) (by omega), sb, zkw (by omega), sb, zy (by omega), itF (by simp), zy (by omega)]
    rfl
   rw [zjp hstep]
   exact ih (i + 1) (by omega)
  ·refine zgw ?_
   unfold zan
   rw [itF (by simp; omega)]
theorem zrV {fuel : Nat} (hf : 70 ≤ fuel) (a0 : List Mes) (a1 : Int) (a2 : List (List UInt8)) (a3 : List zm) (w0 : WS a0) (hp : a2.length ≤ 1048576) (hx : ∀ p ∈ a2, p.length ≤ 1048576) (w3 : WW a3) (hn : ∀ w ∈ a3, w.length ≤ 1048576) : zdI fuel a0 a1 a2 a3 = some true := by
 unfold zdI
 rw [zon, sb, itF (by rfl)]
 obtain ⟨b0, hb0⟩ := zAg w0
 obtain ⟨b1, hb1⟩ := zyH (l := a2) (by omega)
 obtain ⟨b2, hb2⟩ := zlJ (l := a3) (by have := w3.1; omega)
 rw [hb0, sb]
 cases b0 with
 | false => rfl
 | true =>
  rw [itF (by rfl), hb1, sb]
  cases b1 with
  | true => rfl
  | false =>
   rw [itF (by rfl), hb2, sb, sb]
   cases b2 with
   | true => rfl
   | false =>
    have hl := zuY hf w0 a1 hp hx a2.length 0 (by omega)
    have hl' : zcg fuel a2 a1 a0 0 = _ := hl
    obtain ⟨c1, c2, c3, c4, c5⟩ := zsB a0 a1 a2
    rw [itF (by rfl), hl', sb]
    simp only
    rw [zqb a1 w0 (fun p hm => by have := hx p hm; omega), sb, zvj w0 a1 (fun p hm => by have := hx p hm; omega) (by omega), sb]
    simp only
    rw [zeD c3, sb, zy (by omega), itF (by simp), zrx w0 a1 c3 (fun w hm => by have := c4 w hm; omega), sb, itT (by rfl), zrx w0 a1 w3 hn, sb, sb]
theorem zvb {s : List Mes} (hs : WS s) (root : Int) {paths : List (List UInt8)} (hp : paths.length ≤ 200) (hx : ∀ p ∈ paths, p.length ≤ 140737488351232) {m : List zm} (hm : WW m) (c : Int)
  (hall : ∀ p ∈ paths, (zbo s root p).2 = 0 ∧ hasB m (zbo s root p).1 = true) : ∀ (d i : Nat), i + d = paths.length → zch paths root (⟨m⟩, c) s i = some (.inl ()) := by
 intro d
 induction d with
 | zero =>
  intro i hi
  refine zgx ?_
  unfold zao
  rw [itF (by simp; omega)]
 | succ d ih =>
  intro i hi
  have hlt : i < paths.length := by omega
  by_cases h20 : i < 20
  ·have hpm := List.getElem_mem hlt
   have hc := zjl s root paths[i]
   obtain ⟨a1, a2⟩ := hall _ hpm
   have hstep : zao paths root (⟨m⟩, c) s i = some (.inl ((i + 1 : Nat) : Int)) := by
    unfold zao
    rw [itT (by simp; omega), zE rfl hlt, sb, zrq root hs (hx _ hpm), sb, a1, itF (show (IntKind.i64.wrap (0 : Int) != 0) = false by decide), zkb hm (by omega), sb, a2, sb, itF (by rfl), zy (by omega)]
    rfl
   rw [zjq hstep]
   exact ih (i + 1) (by omega)
  ·refine zgx ?_
   unfold zao
   rw [itF (by simp; omega)]
theorem zrW (a0 : List Mes) (a1 : Int) (a2 : List (List UInt8)) (w0 : WS a0) (hp : a2.length * 16 ≤ 140737488351232) (hx : ∀ p ∈ a2, p.length ≤ 140737488351232) : zdJ a0 a1 a2 = some true := by
 unfold zdJ
 rw [zon, sb, itF (by rfl)]
 obtain ⟨b0, hb0⟩ := zAg w0
 obtain ⟨b1, hb1⟩ := zyH (l := a2) (by omega)
 rw [hb0, sb]
 cases b0 with
 | false => rfl
 | true =>
  rw [itF (by rfl), hb1, sb, sb]
  cases b1 with
  | true => rfl
  | false =>
   obtain ⟨c1, c2, c3, c4, c5⟩ := zsB a0 a1 a2
   rw [itF (by rfl), zqb a1 w0 hx, sb]
   simp only
   rw [zy (x := (zeO a0 a1 a2).2) (by omega)]
   by_cases h0 : (zeO a0 a1 a2).2 = 0
   ·obtain ⟨e1, e2, e3, e4, e5⟩ := zzo h0
    obtain ⟨_, h200, _⟩ := zsC h0
    have hx2 : ∀ p ∈ (zeO a0 a1 a2).1.map (fun w => (zfa a0 a1 w).1), p.length ≤ 140737488351232 := fun p hm => by
     obtain ⟨w, hw, rfl⟩ := List.mem_map.1 hm
     exact hx _ (e4 w hw)
    have hl := zvb w0 a1 h200 hx c3 (zeO a0 a1 a2).2 e5 a2.length 0 (by omega)
    have hl' : zch a2 a1 (⟨(zeO a0 a1 a2).1⟩, (zeO a0 a1 a2).2) a0 0 = _ := hl
    rw [itF (by simpa using h0), zul a1 w0 c3 (fun w hm => by have := c4 w hm; omega), sb, e1]
    simp only
    rw [zqb a1 w0 hx2, sb, e2]
    simp only
    rw [itF (show (IntKind.i64.wrap ((IntKind.i64.wrap (0 : Int)) + (IntKind.i64.wrap (0 : Int))) != 0) = false by decide), itF (by simp), itF (by simp; omega), zeD c3, sb, sb, itF (by simp), hl', sb]
   ·rw [itT (by simpa using h0), zzn h0]
    rfl
theorem ws13 {s : List Mes} (w : s.length * 40 ≤ 140737488351232 ∧ ∀ m ∈ s, zje m) : WS s :=
 ⟨by omega, fun m hm => ⟨(w.2 m hm).1, by have := (w.2 m hm).2.1; omega, fun f hf => ((w.2 m hm).2.2 f hf).1⟩⟩
theorem zDo {s : List Mes} (w : s.length * 40 ≤ 140737488351232 ∧ s.length ≤ 1048576 ∧ ∀ m ∈ s, ziB m) : WS s :=
 ⟨by omega, fun m hm => ⟨(w.2.2 m hm).1.1, by have := (w.2.2 m hm).2.1; omega, fun f hf => ((w.2.2 m hm).2.2.2 f hf).1.1⟩⟩
theorem vw13 {a : List zm} (w : a.length * 24 ≤ 140737488351232 ∧ a.length ≤ 1048576 ∧ ∀ x ∈ a, (x.length * 8 ≤ 140737488351232 ∧ x.length ≤ 1048576 ∧ ∀ y ∈ x, (Lit.int .i64 y).wf = true)) : VW a := ⟨w.2.1, fun x hx => (w.2.2 x hx).2.1⟩
theorem zoO (a0 : (List zc)) (a1 : Int) (a2 : (List Str)) (a3 : (List (List Int))) (w0 : a0.length * 40 ≤ 140737488351232 ∧ a0.length ≤ 1048576 ∧ ∀ a0' ∈ a0, ziB a0') (w1 : (Lit.int .i64 a1).wf = true) (w2 : a2.length * 16 ≤ 140737488351232 ∧ a2.length ≤ 1048576 ∧ ∀ a2' ∈ a2, a2'.length ≤ 140737488351232 ∧ a2'.length ≤ 1048576)
  (w3 : a3.length * 24 ≤ 140737488351232 ∧ a3.length ≤ 1048576 ∧ ∀ a3' ∈ a3, (a3'.length * 8 ≤ 140737488351232 ∧ a3'.length ≤ 1048576 ∧ ∀ a3_' ∈ a3', (Lit.int .i64 a3_').wf = true)) : ∃ fuel, zdI fuel a0 a1 a2 a3 = some true :=
 ⟨70, zrV (Nat.le_refl _) a0 a1 a2 a3 (zDo w0) w2.2.1 (fun p hp => (w2.2.2 p hp).2) (vw13 w3).uw.ww (vw13 w3).2⟩
theorem zpB (a0 : (List (List Int))) (a1 : (List (List Int))) (a2 : Int) (a3 : (List Int)) (w0 : a0.length * 24 ≤ 140737488351232 ∧ a0.length ≤ 1048576 ∧ ∀ a0' ∈ a0, (a0'.length * 8 ≤ 140737488351232 ∧ a0'.length ≤ 1048576 ∧ ∀ a0_' ∈ a0', (Lit.int .i64 a0_').wf = true)) (w1 : a1.length * 24 ≤ 140737488351232 ∧ a1.length ≤ 1048576 ∧ ∀ a1' ∈ a1, (a1'.length * 8 ≤ 140737488351232 ∧ a1'.length ≤ 1048576 ∧ ∀ a1_' ∈ a1', (Lit.int .i64 a1_').wf = true)) (w2 : (Lit.int .i64 a2).wf = true) (w3 : a3.length * 8 ≤ 140737488351232 ∧ a3.length ≤ 1048576 ∧ ∀ a3' ∈ a3, (Lit.int .i64 a3').wf = true) :
  zeg a0 a1 a2 a3 = some true := ztw a0 a1 a2 a3 (vw13 w0) (vw13 w1)
theorem zpA (a0 : (List (List Int))) (a1 : (List (List Int))) (a2 : (List Int)) (w0 : a0.length * 24 ≤ 140737488351232 ∧ a0.length ≤ 1048576 ∧ ∀ a0' ∈ a0, (a0'.length * 8 ≤ 140737488351232 ∧ a0'.length ≤ 1048576 ∧ ∀ a0_' ∈ a0', (Lit.int .i64 a0_').wf = true)) (w1 : a1.length * 24 ≤ 140737488351232 ∧ a1.length ≤ 1048576 ∧ ∀ a1' ∈ a1, (a1'.length * 8 ≤ 140737488351232 ∧ a1'.length ≤ 1048576 ∧ ∀ a1_' ∈ a1', (Lit.int .i64 a1_').wf = true)) (w2 : a2.length * 8 ≤ 140737488351232 ∧ a2.length ≤ 1048576 ∧ ∀ a2' ∈ a2, (Lit.int .i64 a2').wf = true) :
  zef a0 a1 a2 = some true := ztv a0 a1 a2 (vw13 w0) (vw13 w1)
theorem zrX (a0 : (List zc)) (a1 : Int) (a2 : (List Str)) (w0 : a0.length * 40 ≤ 140737488351232 ∧ ∀ a0' ∈ a0, zje a0') (w1 : (Lit.int .i64 a1).wf = true) (w2 : a2.length * 16 ≤ 140737488351232 ∧ ∀ a2' ∈ a2, a2'.length ≤ 140737488351232) : zdJ a0 a1 a2 = some true :=
 zrW a0 a1 a2 (ws13 w0) w2.1 w2.2
end Go.Proofs.YtglkepeofhonlaaGreatDoor

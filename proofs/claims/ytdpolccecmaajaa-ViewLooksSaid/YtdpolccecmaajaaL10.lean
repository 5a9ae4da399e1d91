/-
  The laws as plain functions. No condition.
-/
import Derived.Test.YtdpolccecmaajaaP1
import Derived.Test.YtdpolccecmaajaaO
namespace Go.Proofs.Ytdpolccecmaajaa
open Go
set_option linter.unusedVariables false
theorem zfs {α : Type} {xs pre post : List α} {v : α} (e : xs = pre ++ v :: post) {n : Int} (hn : n = (pre.length : Nat)) : idx xs n = some v := by
 subst e
 rw [zca hn (by simp)]
 simp
theorem zlA (m : Mes) (b : List UInt8) : 0 ≤ (zE m b).2.2 ∧ (zE m b).2.2 ≤ 6 := by
 rcases zaS m b with h | h <;> omega
theorem zoX (m : Mes) (b : List UInt8) (p : Int) : 0 ≤ (zaD m b p).2 ∧ (zaD m b p).2 ≤ 6 := by
 unfold zaD
 by_cases h : (zbt b p).2 = 0
 ·rw [if_neg (by simpa using h)]
  rcases zcd m (zbt b p).1.Number (zbt b p).1.Wire with hv | ⟨hv, _⟩ | ⟨i, run, hv, _⟩ <;> rw [hv] <;> simp
 ·rw [if_pos h]
  unfold zbt at h ⊢
  split
  ·simp
  ·rcases zcK (b.drop p.toNat) with ⟨c, h', hc⟩ | ⟨n, w, k, a, t, h', _⟩
   ·rw [h']; simp only; omega
   ·rw [h']; simp
theorem zlm (m : Mes) (b : List UInt8) : (zE m b).1.length ≤ b.length := by
 rcases zaS m b with ⟨_, hn, e, _⟩ | ⟨_, e⟩
 ·have h := congrArg List.length (zdP hn).2
  rw [List.length_map] at h
  rw [e, h]
  exact zmy 0 b
 ·rw [e]; simp
theorem zqh {m : Mes} {b : List UInt8} : ∀ v ∈ (zE m b).1, cut b v.R.From v.R.To = some (zY b v.R) := by
 intro v hv
 obtain ⟨n, w, f, a, t, hre, hrec, h1, h2, h3⟩ := zkj b 0 b rfl (Nat.zero_le _) _ (zfA hv).1
 unfold zY
 rw [hre]
 exact zfK (a := f) (b := f + t) rfl rfl (by omega) h3
theorem zpB (m : Mes) (b : List UInt8) : ((zE m b).1.flatMap fun v => zY b v.R).length ≤ b.length := by
 rcases zaS m b with ⟨_, hn, e, _⟩ | ⟨_, e⟩
 ·obtain ⟨e1, e2⟩ := zdP hn
  have := zfW b 0 b rfl (Nat.zero_le _) e1
  rw [e, ← List.flatMap_map (f := fun v : Vw => v.R) (g := zY b), e2, this]
  exact Nat.le_refl _
 ·rw [e]; simp
theorem zgX (v : Vw) : zam (prV v) v = some true := by
 unfold zam prV
 simp
theorem zlZ (v : Vw) {x : PVw} (h : x = prV v) : zam x v = some true := by rw [h]; exact zgX v
theorem zgZ : zap = some true := by
 have h1 : rec5 [(8 : UInt8), (1 : UInt8), (10 : UInt8), (1 : UInt8), (1 : UInt8), (16 : UInt8), (1 : UInt8)] = .inr (1, 0, 1, 2) := by decide
 have h2 : rec5 [(10 : UInt8), (1 : UInt8), (1 : UInt8), (16 : UInt8), (1 : UInt8)] = .inr (1, 2, 2, 3) := by decide
 have h3 : rec5 [(16 : UInt8), (1 : UInt8)] = .inr (2, 0, 1, 2) := by decide
 have hs : spl 0 [(8 : UInt8), (1 : UInt8), (10 : UInt8), (1 : UInt8), (1 : UInt8), (16 : UInt8), (1 : UInt8)] = ([⟨1, 0, 0, 1, 2⟩, ⟨1, 2, 2, 4, 5⟩, ⟨2, 0, 5, 6, 7⟩], none) := by
  rw [zcb (by simp) h1]
  have e : ([(8 : UInt8), (1 : UInt8), (10 : UInt8), (1 : UInt8), (1 : UInt8), (16 : UInt8), (1 : UInt8)] : List UInt8).drop 2 = [(10 : UInt8), (1 : UInt8), (1 : UInt8), (16 : UInt8), (1 : UInt8)] := rfl
  rw [e, zcb (by simp) h2]
  have e2 : ([(10 : UInt8), (1 : UInt8), (1 : UInt8), (16 : UInt8), (1 : UInt8)] : List UInt8).drop 3 = [(16 : UInt8), (1 : UInt8)] := rfl
  rw [e2, zcb (by simp) h3]
  have e3 : ([(16 : UInt8), (1 : UInt8)] : List UInt8).drop 2 = [] := rfl
  rw [e3, zdX]
  rfl
 have ha : zE ⟨[], [⟨[], 1, 1, true, false, 0⟩]⟩ [(8 : UInt8), (1 : UInt8), (10 : UInt8), (1 : UInt8), (1 : UInt8), (16 : UInt8), (1 : UInt8)] = ([⟨⟨1, 0, 0, 1, 2⟩, 0, false⟩, ⟨⟨1, 2, 2, 4, 5⟩, 0, true⟩, ⟨⟨2, 0, 5, 6, 7⟩, -1, false⟩], 0, 0) := by
  unfold zE
  rw [hs]
  decide
 unfold zap
 rw [zeL (by simp) (by simp), sb, ha]
 rfl
theorem zhG (a0 : zi) (a1 : (List UInt8)) (a2 : Int) (w0 : zcN a0) (w1 : a1.length * 1 ≤ 140737488351232 ∧ ∀ a1' ∈ a1, True) (_w2 : (Lit.int .i64 a2).wf = true) : zaO a0 a1 a2 = some true := by
 unfold zaO
 rw [zgZ, sb, itF (by rfl)]
 unfold zal
 rw [sb]
 by_cases hl : 300 < a0.Fields.length ∨ 2000 < a1.length
 ·rw [itT (by simp; omega)]
 ·have hm : a0.Fields.length ≤ 1152921504606846976 := by omega
  have hb : a1.length ≤ 1048576 := by omega
  have c1 := zoX a0 a1 a2
  have c2 := zlA a0 a1
  have c3 := zlm a0 a1
  have hF : (decide ((a0.Fields.length : Int) > 300) || decide ((a1.length : Int) > 2000)) = false := by
   rw [Bool.or_eq_false_iff]; exact ⟨decide_eq_false (by omega), decide_eq_false (by omega)⟩
  rw [itF hF, zoD hm hb, sb, zdJ hm hb, sb, zeL hm hb, sb, zhi hm hb, sb]
  simp only
  rw [zx (x := (zaD a0 a1 a2).2) (by omega), zx (x := (zE a0 a1).2.2) (by omega), itF (by simp), itF (by simp), itF (by simp), itF (by simp), zgX, sb, sb, itF (by rfl)]
  have hloop : ∀ (d i : Nat), i + d = (zE a0 a1).1.length → zZ ((zE a0 a1).1.map prV, (zE a0 a1).2.1, (zE a0 a1).2.2) (zE a0 a1) i = some (.inl ()) := by
   intro d
   induction d with
   | zero =>
    intro i hi
    refine zcT ?_
    unfold zH
    rw [itF (by simp; omega)]
   | succ d ih =>
    intro i hi
    refine (zcS (i' := ((i + 1 : Nat) : Int)) ?_).trans (ih _ (by omega))
    unfold zH
    rw [itT (by simp; omega), zca (n := i) rfl (by simp; omega), sb, zca (n := i) rfl (by omega), sb, zlZ _ (by simp), sb, itF (by rfl), zx (by omega)]
    push_cast; rfl
  have h0 := hloop _ 0 (Nat.zero_add _)
  have h0' : zZ ((zE a0 a1).1.map prV, (zE a0 a1).2.1, (zE a0 a1).2.2) (zE a0 a1) 0 = _ := h0
  rw [h0', sb]
theorem zhQ (b : List UInt8) (p : Vw → Bool) : ∀ l : List Vw, ((l.filter p).flatMap fun v => zY b v.R).length ≤ (l.flatMap fun v => zY b v.R).length
 | [] => Nat.le_refl _
 | x :: l => by
  have ih := zhQ b p l
  cases h : p x <;> simp only [List.filter_cons, h, if_true, Bool.false_eq_true, if_false, List.flatMap_cons, List.length_append] <;> omega
theorem zlT (b : List UInt8) (number : Int) (all : List Vw) (x : Int × Int) (hpos : ∀ v ∈ all, cut b v.R.From v.R.To = some (zY b v.R)) (hsum : (all.flatMap fun v => zY b v.R).length ≤ 1048576) (hlen : all.length ≤ 1048576) : ∀ (post pre : List Vw), all = pre ++ post →
  zaa b number (all, x) ((all.filter fun v => v.R.Number == number).map prV) ((all.filter fun v => decide (v.Field < 0)).map fun v => zY b v.R) ((pre.filter fun v => v.R.Number == number).length : Nat) ((pre.filter fun v => decide (v.Field < 0)).length : Nat)
   ((pre.filter fun v => !decide (v.Field < 0)).flatMap fun v => zY b v.R) (pre.length : Nat) = some (.inl (((all.filter fun v => v.R.Number == number).length : Nat), ((all.filter fun v => decide (v.Field < 0)).length : Nat), (all.filter fun v => !decide (v.Field < 0)).flatMap fun v => zY b v.R)) := by
 intro post
 induction post with
 | nil =>
  intro pre e
  rw [List.append_nil] at e
  subst e
  refine zcV ?_
  unfold zI
  rw [itF (by simp)]
 | cons v post ih =>
  intro pre e
  have hi : idx all (pre.length : Nat) = some v := zfs e rfl
  have hlt : pre.length < all.length := by rw [e]; simp
  have hv : v ∈ all := by rw [e]; simp
  have hfl := zhQ b (fun v => !decide (v.Field < 0)) pre
  have hfl2 := zhQ b (fun v => !decide (v.Field < 0)) [v]
  have hpre : (pre.flatMap fun v => zY b v.R).length + (zY b v.R).length ≤ 1048576 := by
   have h := hsum
   rw [e, List.flatMap_append, List.flatMap_cons] at h
   simp only [List.length_append] at h
   omega
  have k1 : (pre.filter fun v => v.R.Number == number).length ≤ pre.length := List.length_filter_le _ _
  have k2 : (pre.filter fun v => decide (v.Field < 0)).length ≤ pre.length := List.length_filter_le _ _
  refine (zcU (n' := (((pre ++ [v]).filter fun v => v.R.Number == number).length : Nat)) (k' := (((pre ++ [v]).filter fun v => decide (v.Field < 0)).length : Nat)) (want' := ((pre ++ [v]).filter fun v => !decide (v.Field < 0)).flatMap fun v => zY b v.R) (i' := ((pre ++ [v]).length : Nat)) ?_).trans (ih (pre ++ [v]) (by rw [e]; simp))
  unfold zI
  simp only
  rw [itT (by simp; omega), hi, sb]
  simp only [List.filter_append, List.length_append, List.flatMap_append]
  have tail : ∀ u : Int, (match (Sum.inl u : Int ⊕ Unit) with
    | .inl u => some v >>= fun x4 => if (decide (x4.Field ≥ 0)) then (cut b v.R.From v.R.To >>= fun v3 => app 1 ((pre.filter fun v => !decide (v.Field < 0)).flatMap fun v => zY b v.R) v3 >>= fun v4 => (some (.inl (u, (((pre.filter fun v => decide (v.Field < 0)).length : Nat) : Int), v4, (IntKind.i64.wrap ((pre.length : Nat) + 1)))) : Option ((Int × Int × (List UInt8) × Int) ⊕ ((Int × Int × (List UInt8)) ⊕ Unit)))) else (
     ((if (decide ((((pre.filter fun v => decide (v.Field < 0)).length : Nat) : Int) ≥ (((all.filter fun v => decide (v.Field < 0)).map fun v => zY b v.R).length : Int))) then some true else (idx ((all.filter fun v => decide (v.Field < 0)).map fun v => zY b v.R) ((pre.filter fun v => decide (v.Field < 0)).length : Nat) >>= fun x5 => cut b v.R.From v.R.To >>= fun v5 => zaJ x5 v5 >>= fun rv8 => some (!rv8)))) >>= fun g2 => if g2 then (some (.inr (.inr ()))) else (some (.inl (u, (IntKind.i64.wrap ((((pre.filter fun v => decide (v.Field < 0)).length : Nat) : Int) + 1)), (pre.filter fun v => !decide (v.Field < 0)).flatMap (fun v => zY b v.R), (IntKind.i64.wrap ((pre.length : Nat) + 1))))))
    | .inr u2 => some (.inr (.inr ()))) = some (.inl (u, (((pre.filter fun v => decide (v.Field < 0)).length + ([v].filter fun v => decide (v.Field < 0)).length : Nat) : Int), ((pre.filter fun v => !decide (v.Field < 0)).flatMap fun v => zY b v.R) ++ (([v].filter fun v => !decide (v.Field < 0)).flatMap fun v => zY b v.R), ((pre.length + 1 : Nat) : Int))) := by
   intro u
   simp only
   rw [sb]
   by_cases hf : v.Field < 0
   ·have hlk : (all.filter fun v => decide (v.Field < 0)) = (pre.filter fun v => decide (v.Field < 0)) ++ v :: (post.filter fun v => decide (v.Field < 0)) := by rw [e, List.filter_append, List.filter_cons, if_pos (by simpa using hf)]
    have hk : idx ((all.filter fun v => decide (v.Field < 0)).map fun v => zY b v.R) (((pre.filter fun v => decide (v.Field < 0)).length : Nat) : Int) = some (zY b v.R) := zfs (pre := (pre.filter fun v => decide (v.Field < 0)).map fun v => zY b v.R) (post := (post.filter fun v => decide (v.Field < 0)).map fun v => zY b v.R) (by rw [hlk]; simp) (by simp)
    have hge : ¬ (((pre.filter fun v => decide (v.Field < 0)).length : Nat) : Int) ≥ (((all.filter fun v => decide (v.Field < 0)).map fun v => zY b v.R).length : Int) := by rw [hlk]; simp; omega
    rw [itF (decide_eq_false (by omega)), itF (decide_eq_false hge), hk, sb, hpos v hv, sb, zix, sb, sb, itF (by simp), zx (by omega), zx (by omega)]
    simp [hf]
   ·rw [itT (decide_eq_true (by omega)), hpos v hv, sb, zdA (by omega), sb, zx (by omega)]
    simp [hf]
  by_cases hn : v.R.Number = number
  ·have hlk : (all.filter fun v => v.R.Number == number) = (pre.filter fun v => v.R.Number == number) ++ v :: (post.filter fun v => v.R.Number == number) := by rw [e, List.filter_append, List.filter_cons, if_pos (by simpa using hn)]
   have hk : idx ((all.filter fun v => v.R.Number == number).map prV) (((pre.filter fun v => v.R.Number == number).length : Nat) : Int) = some (prV v) := zfs (pre := (pre.filter fun v => v.R.Number == number).map prV) (post := (post.filter fun v => v.R.Number == number).map prV) (by rw [hlk]; simp) (by simp)
   have hge : ¬ (((pre.filter fun v => v.R.Number == number).length : Nat) : Int) ≥ (((all.filter fun v => v.R.Number == number).map prV).length : Int) := by rw [hlk]; simp; omega
   rw [itT (by simpa using hn), itF (decide_eq_false hge), hk, sb, sb, zgX, sb, sb, itF (by rfl), sb, zx (by omega)]
   refine (tail _).trans ?_
   simp [hn]
  ·rw [itF (by simpa using hn), sb]
   refine (tail _).trans ?_
   simp [hn]
theorem zhH (a0 : zi) (a1 : (List UInt8)) (a2 : Int) (w0 : zcN a0) (w1 : a1.length * 1 ≤ 140737488351232 ∧ ∀ a1' ∈ a1, True) (_w2 : (Lit.int .i64 a2).wf = true) : zaP a0 a1 a2 = some true := by
 unfold zaP
 rw [zgZ, sb, itF (by rfl)]
 unfold zal
 rw [sb]
 by_cases hl : 300 < a0.Fields.length ∨ 2000 < a1.length
 ·rw [itT (by simp; omega)]
 ·have hm : a0.Fields.length ≤ 1152921504606846976 := by omega
  have hb : a1.length ≤ 1048576 := by omega
  have c2 := zlA a0 a1
  have c3 := zlm a0 a1
  have c4 := zpB a0 a1
  have hF : (decide ((a0.Fields.length : Int) > 300) || decide ((a1.length : Int) > 2000)) = false := by
   rw [Bool.or_eq_false_iff]; exact ⟨decide_eq_false (by omega), decide_eq_false (by omega)⟩
  have h0 := zlT a1 a2 (zE a0 a1).1 (zE a0 a1).2 zqh (by omega) (by omega) (zE a0 a1).1 [] rfl
  have h0' : zaa a1 a2 (zE a0 a1) ((of10 a0 a1 a2).map prV) (zdo a0 a1) 0 0 [] 0 = some (.inl (((of10 a0 a1 a2).length : Nat), (((zE a0 a1).1.filter fun v => decide (v.Field < 0)).length : Nat), zdC a0 a1)) := h0
  rw [itF hF, zhi hm hb, sb, zkr hm hb, sb, zhz hm hb, sb, zli hm hb, sb, h0', sb]
  simp only
  have hu : (zdo a0 a1).length = ((zE a0 a1).1.filter fun v => decide (v.Field < 0)).length := by unfold zdo; simp
  have ha : ((zE a0 a1).1.any fun v => v.R.Number == a2) = decide ((((of10 a0 a1 a2).length : Nat) : Int) > 0) := by
   unfold of10
   rw [Bool.eq_iff_iff, List.any_eq_true, decide_eq_true_iff]
   constructor
   ·rintro ⟨v, hv, h⟩
    have := List.length_pos_of_mem (List.mem_filter (p := fun v : Vw => v.R.Number == a2) |>.2 ⟨hv, h⟩)
    omega
   ·intro h
    obtain ⟨v, hv⟩ := List.exists_mem_of_length_pos (show 0 < ((zE a0 a1).1.filter fun v : Vw => v.R.Number == a2).length by omega)
    obtain ⟨v1, v2⟩ := List.mem_filter.1 hv
    exact ⟨v, v1, v2⟩
  rw [itT (by simp), itT (by rw [hu]; simp), zpr hm hb, sb, itT (by rw [ha]; simp), zx (by omega), itT (by simp), zix, sb, sb]
  simp
theorem zkk (l : List (List UInt8)) (hl : l.length ≤ 1048576) : ∀ (post pre : List (List UInt8)) (n : Nat), l = pre ++ post → n + (post.map List.length).sum ≤ 1048576 → zab l (n : Int) (pre.length : Nat) = some ((n + (post.map List.length).sum : Nat) : Int) := by
 intro post
 induction post with
 | nil =>
  intro pre n e h
  rw [List.append_nil] at e
  subst e
  refine zcX ?_
  unfold zJ
  rw [itF (by simp)]
  rfl
 | cons v post ih =>
  intro pre n e h
  simp only [List.map_cons, List.sum_cons] at h ⊢
  have hlt : pre.length < l.length := by rw [e]; simp
  refine (zcW (n' := ((n + v.length : Nat) : Int)) (i' := ((pre ++ [v]).length : Nat)) ?_).trans ((ih (pre ++ [v]) (n + v.length) (by rw [e]; simp) (by omega)).trans (by rw [Nat.add_assoc]))
  unfold zJ
  rw [itT (by simp; omega), zfs e rfl, sb, zx (by omega), zx (by omega)]
  simp
theorem zhI (a0 : zi) (a1 : (List UInt8)) (a2 : Int) (w0 : zcN a0) (w1 : a1.length * 1 ≤ 140737488351232 ∧ ∀ a1' ∈ a1, True) (_w2 : (Lit.int .i64 a2).wf = true) : zaQ a0 a1 a2 = some true := by
 unfold zaQ
 rw [zgZ, sb, itF (by rfl)]
 unfold zal
 rw [sb]
 by_cases hl : 300 < a0.Fields.length ∨ 2000 < a1.length
 ·rw [itT (by simp; omega)]
 ·have hm : a0.Fields.length ≤ 1152921504606846976 := by omega
  have hb : a1.length ≤ 1048576 := by omega
  have c2 := zlA a0 a1
  have c3 := zlm a0 a1
  have c4 := zpB a0 a1
  have hF : (decide ((a0.Fields.length : Int) > 300) || decide ((a1.length : Int) > 2000)) = false := by
   rw [Bool.or_eq_false_iff]; exact ⟨decide_eq_false (by omega), decide_eq_false (by omega)⟩
  rw [itF hF, zeL hm hb, sb]
  simp only
  rw [zx (x := (zE a0 a1).2.2) (by omega)]
  by_cases h0 : (zE a0 a1).2.2 = 0
  ·have hsp := zpo h0
   have hul : (zdo a0 a1).length ≤ (zE a0 a1).1.length := by unfold zdo; rw [List.length_map]; exact List.length_filter_le _ _
   have hol : (of10 a0 a1 (0 : Int)).length ≤ (zE a0 a1).1.length := by unfold of10; exact List.length_filter_le _ _
   have hlp := zkk (zdo a0 a1) (by omega) (zdo a0 a1) [] (zdC a0 a1).length rfl (by omega)
   have hlp' : zab (zdo a0 a1) ((zdC a0 a1).length : Int) 0 = _ := hlp
   rw [itF (by simpa using h0), zli hm hb, sb, zhz hm hb, sb, hlp', sb]
   simp only
   rw [h0, itF (by decide), hsp, itF (by simp), zhz hm (by omega), sb, zox, sb, itF (by rfl)]
   by_cases hi : a2 < 0 ∨ a2 ≥ a0.Fields.length
   ·rw [itT (by simpa using hi)]
   ·have hi' : (decide (a2 < 0) || decide (a2 ≥ (a0.Fields.length : Int))) = false := by
     rw [Bool.or_eq_false_iff]; exact ⟨decide_eq_false (by omega), decide_eq_false (by omega)⟩
    rw [itF hi']
    obtain ⟨i, rfl⟩ : ∃ i : Nat, a2 = i := ⟨a2.toNat, by omega⟩
    have hlt : i < a0.Fields.length := by omega
    have hmf : (zba a0 i).Fields.length ≤ 1152921504606846976 := by unfold zba; simp; omega
    have t1 : (a0.Fields.drop 0).take (i - 0) = a0.Fields.take i := by simp
    have t2 : (a0.Fields.drop (i + 1)).take (a0.Fields.length - (i + 1)) = a0.Fields.drop (i + 1) := List.take_of_length_le (by simp)
    rw [zfK (i := 0) (a := 0) (b := i) rfl rfl (by omega) (by omega), sb, t1, zdA (by simp; omega), sb, zx (by omega), zfK (a := i + 1) (b := a0.Fields.length) (by push_cast; rfl) rfl (by omega) (by omega), sb, t2, zdA (by simp; omega), sb, List.nil_append, zca rfl hlt, sb]
    show (zaq (zba a0 i) (a0.Fields[i]).Number >>= _) = _
    rw [zhj hmf, sb]
    by_cases hg : fldI (zba a0 i) (a0.Fields[i]).Number ≥ 0
    ·rw [itT (by simpa using hg)]
    ·obtain ⟨q1, q2, q3, q4⟩ := znR hlt (by omega) h0
     have hol2 : (of10 a0 a1 (a0.Fields[i]).Number).length ≤ (zE a0 a1).1.length := by unfold of10; exact List.length_filter_le _ _
     rw [itF (by simpa using hg)]
     show (zbC (zba a0 i) a1 >>= _) = _
     rw [zeL hmf hb, sb]
     simp only
     rw [q1, itT (by decide), itT (by simp [q2])]
     show ((zcQ (zba a0 i) a1 (a0.Fields[i]).Number >>= _) >>= _) = _
     rw [zkr hmf hb, sb, zkr hm hb, sb, itT (by simp [q3])]
     show ((zaR (zba a0 i) a1 >>= _) >>= _) = _
     rw [zhz hmf hb, sb, q4, sb, List.length_map, zx (by omega), sb]
     simp
  ·rcases zaS a0 a1 with ⟨h, _⟩ | ⟨_, h⟩
   ·exact absurd h h0
   ·rw [itT (by simpa using h0), h]
    rfl
end Go.Proofs.Ytdpolccecmaajaa

/-
  What the Go functions on bytes of package bits and of the document's answers for layer 1 return. The slices are nil, empty or not.
-/
import Derived.Test.YtkfjhbffoadlhaaBitsW
import Derived.Test.YtkfjhbffoadlhaaBytes
import Derived.Lib.MinMax
namespace Go.Proofs.Ytkfjhbffoadlhaa
open Go.RowKit
theorem same_any (A1 A2 : Option Addr) (n1 c1 n2 c2 B : Nat) (l1 l2 : List UInt8) (w : World) (h1 : RS w B A1 n1 c1 l1) (h2 : RS w B A2 n2 c2 l2) :
    Calls Try.prog 19 #[.slice A1 n1 c1, .slice A2 n2 c2] w fun e w' => e = .returned (.bool (l1 == l2)) ∧ w = w' := by
  have k1 := h1.conv (P := Try.prog) 31 9 5 Try.underlying31 Try.underlying5 Try.underlying9
  have k2 := h2.conv (P := Try.prog) 31 9 5 Try.underlying31 Try.underlying5 Try.underlying9
  clear h1 h2
  go_enter Try.func19, Try.ntmps19
  go_wp2
  go_ret
  exact ⟨rfl, rfl⟩
theorem same_beq (A1 A2 : Option Addr) (n1 c1 n2 c2 B B' : Nat) (l : List UInt8) (w : World) (h1 : RS w B A1 n1 c1 l) (h2 : RS w B' A2 n2 c2 l) :
    Calls Try.prog 19 #[.slice A1 n1 c1, .slice A2 n2 c2] w fun e w' => e = .returned (.bool true) ∧ w = w' := by
  have := same_any A1 A2 n1 c1 n2 c2 (max B B') l l w (h1.more (by omega)) (h2.more (by omega))
  rwa [show (l == l) = true from by simp] at this
theorem Try.info5 : (Try.prog.info? 5).map (fun i => (i.zero, i.size, i.bytes)) = some (some (.int .u8 0), 1, 1) := by kernel_rfl
theorem little_any (x k : Int) (w : World) (h : 0 ≤ x ∧ x ≤ 18446744073709551615) (hk : -9223372036854775808 ≤ k ∧ k ≤ 9223372036854775807) :
    Calls Try.prog 20 #[.int .u64 x, .int .i64 k] w fun e w' => ∃ A n c, e = .returned (.slice A n c) ∧ RS w' w'.heap.size A n c (little (min k.toNat 8) x.toNat) ∧ Below w.heap.size w w' := by
  obtain ⟨m, rfl⟩ := Int.eq_ofNat_of_zero_le h.1
  rw [Int.toNat_natCast]
  have hn : m < 18446744073709551616 := by omega
  obtain ⟨i0, i1⟩ := hk
  clear h
  obtain ⟨i5, hi, hz0, hz1, hz2⟩ := info_parts Try.info5
  obtain ⟨n, hn8, hN, hM⟩ : ∃ n : Nat, n ≤ 8 ∧ Hid (min (max k 0) 8 = (n : Int)) ∧ min k.toNat 8 = n := ⟨min k.toNat 8, by omega, Lib.hid (by omega), rfl⟩
  rw [hM]
  clear hM
  go_enter Try.func20, Try.ntmps20
  go_wp2_with (at_make; refine wpList_make_full _ rfl (.tmp 9) (.tmp 9) 31 rfl w.heap.size 5 i5 (.int .u8 0) 1 Try.underlying31 hi hz0 hz1 _ _ _ _ n rfl rfl hN.out hN.out (by rw [hz2]; omega) (by unfold maxLen; omega) (Nat.le_refl _) ?_; intro w1 hown hgrow)
  have hbel : Below w.heap.size w w1 := (Below.refl _ _).grown hgrow (Nat.le_refl _) (fun k h => by cases h)
  have hown1 : w1.ownsRow w.heap.size 5 1 (.slice (some ⟨w.heap.size, 0, none⟩) n n) n ((littleZ n m 0).map bval) := by
    have e : (madeCells (Value.int .u8 0).cells (n * 1)).toList = (littleZ n m 0).map bval := by
      rw [littleZ_zero, Nat.mul_one, List.map_replicate]
      exact toList_madeCells_one _ n
    rw [← e]
    exact hown
  clear hown hgrow hN
  go_wp2
  go_loopw [6, 13] (fun _ i wr => ∃ j : Nat, j ≤ n ∧ i = .int .i64 j ∧ wr.ownsRow w.heap.size 5 1 (.slice (some ⟨w.heap.size, 0, none⟩) n n) n ((littleZ n m j).map bval) ∧ Below w.heap.size w wr) (fun _ i _ => n - (intOf i).toNat)
  case atStart => exact ⟨0, Nat.zero_le _, rfl, hown1, hbel⟩
  case round =>
    clear hown1 hbel
    obtain ⟨j, hj, rfl, hown, hbel⟩ := hrel
    by_cases hjn : j < n
    · have hcell := hown.cellAt j (by omega)
      have hfz := hown.frozenAt j
      obtain ⟨u, hu⟩ : ∃ u, wr.cell? ⟨w.heap.size, j, none⟩ = some u := ⟨_, hcell.trans (List.getElem?_eq_getElem (by simp [littleZ_length hj]; omega))⟩
      clear hcell
      have hst := hown.stored j (bval (UInt8.ofNat (m / 256 ^ j % 256)))
      rw [← List.map_set, littleZ_set hjn] at hst
      have Hst := Lib.hid hst
      have hown' := Lib.hid hown
      clear hst hown
      go_wp2
      go_roundw
      case rel =>
        rw [little_val]
        exact ⟨j + 1, by omega, by go_num, Hst.out.1, hbel.setCell (Nat.le_refl _) _⟩
      case measure => simp [intOf]; omega
    · have : j = n := by omega
      subst this
      go_wp2
      go_ret
      rw [littleZ_all] at hown
      exact ⟨_, _, _, rfl, RS.of_own hown (Nat.le_refl _), hbel⟩
theorem rlittle_any (x k : Int) (w : World) (h : 0 ≤ x ∧ x ≤ 18446744073709551615) (hk : -9223372036854775808 ≤ k ∧ k ≤ 9223372036854775807) :
    Calls Try.prog 21 #[.int .u64 x, .int .i64 k] w fun e w' => ∃ A n c, e = .returned (.slice A n c) ∧ RS w' w'.heap.size A n c (little (min k.toNat 8) x.toNat) ∧ Below w.heap.size w w' := by
  obtain ⟨m, rfl⟩ := Int.eq_ofNat_of_zero_le h.1
  rw [Int.toNat_natCast]
  have hn : m < 18446744073709551616 := by omega
  obtain ⟨i0, i1⟩ := hk
  clear h
  obtain ⟨i5, hi, hz0, hz1, hz2⟩ := info_parts Try.info5
  obtain ⟨n, hn8, hN, hM⟩ : ∃ n : Nat, n ≤ 8 ∧ Hid (min (max k 0) 8 = (n : Int)) ∧ min k.toNat 8 = n := ⟨min k.toNat 8, by omega, Lib.hid (by omega), rfl⟩
  rw [hM]
  clear hM
  go_enter Try.func21, Try.ntmps21
  go_wp2
  go_loopw [0, 5, 6] (fun a v i wr => ∃ j : Nat, j ≤ n ∧ i = .int .i64 j ∧ a = .int .u64 (m / 256 ^ j : Nat) ∧ wr.ownsRow w.heap.size 5 1 v j ((little j m).map bval) ∧ Below w.heap.size w wr) (fun _ _ i _ => 8 - (intOf i).toNat)
  case atStart => exact ⟨0, Nat.zero_le _, rfl, by simp, World.ownsRow_nil _ _ _ _, Below.refl _ _⟩
  case round =>
    obtain ⟨j, hj, rfl, rfl, hown, hbel⟩ := hrel
    have hNo := hN.out
    by_cases hjn : j < n
    · have hlk : (j : Int) < k := by omega
      have hl8 : (j : Int) < 8 := by omega
      have hd : m / 256 ^ j < 18446744073709551616 := Nat.lt_of_le_of_lt (Nat.div_le_self _ _) hn
      obtain ⟨d, hdd⟩ : ∃ d, m / 256 ^ j = d := ⟨_, rfl⟩
      have hv := little_val' m j
      rw [hdd] at hd hv ⊢
      have Hv := Lib.hid hv
      have Hd := Lib.hid hdd
      clear hv hdd hNo
      go_wp2_with (at_builtin; refine wpList_append_own _ rfl (.tmp 16) (.tmp 20) 31 rfl w.heap.size 5 i5 (.int .u8 0) 1 1 Try.underlying31 hi hz0 hz1 hz2 rfl (by decide) _ _ _ rfl (hown.alloc _) ⟨wr.heap.size, 0, none⟩ 1 1 [.int .u8 ((d : Int) % 256)] rfl rfl ?c1 ?c2 ?c3 ?c4 ?c5 ?_)
      case c1 =>
        intro i u hi
        match i, hi with
        | 0, hi => simp at hi; subst hi; simp [Addr.add]
      case c2 => intro u hu; simp at hu; subst hu; rfl
      case c3 => unfold maxLen; omega
      case c4 => omega
      case c5 => have := hbel.size; simp; omega
      intro v' w2 hown' hgrow _
      have hb2 : Below w.heap.size w w2 := (hbel.alloc (hbel.size) _).grown hgrow (by have := hbel.size; simp; omega) (fun k hk => (hown.lt k hk).1)
      have e : (little j m).map bval ++ [.int .u8 ((d : Int) % 256)] = (little (j + 1) m).map bval := by
        rw [little_succ, List.map_append, Hv.out, Hd.out]
        rfl
      rw [e] at hown'
      have Ho := Lib.hid hown'
      clear hown' hgrow hown e
      go_wp2
      go_roundw
      case rel =>
        refine ⟨j + 1, by omega, by go_num, ?_, Ho.out, hb2⟩
        rw [Nat.pow_succ, ← Nat.div_div_eq_div_mul, Hd.out]
        go_num
      case measure => simp [intOf]; omega
    · have : j = n := by omega
      subst this
      by_cases hlk : (j : Int) < k
      · have hl8 : ¬ (j : Int) < 8 := by omega
        clear hNo
        go_wp2
        go_ret
        obtain ⟨A, c, rfl⟩ := own_form hown
        exact ⟨_, _, _, rfl, RS.of_own hown (Nat.le_refl _), hbel⟩
      · clear hNo
        go_wp2
        go_ret
        obtain ⟨A, c, rfl⟩ := own_form hown
        exact ⟨_, _, _, rfl, RS.of_own hown (Nat.le_refl _), hbel⟩
theorem word_any (A : Option Addr) (n c B : Nat) (l : List UInt8) (w : World) (h : RS w B A n c l) :
    Calls Try.prog 22 #[.slice A n c] w fun e w' => e = .returned (.int .u64 (word (l.take 8) : Nat)) ∧ w = w' := by
  have hm := h.2.2.1
  have hnc := h.2.1
  unfold maxLen at hm
  rcases Nat.eq_zero_or_pos n with h0 | h0
  · have hl : l = [] := List.eq_nil_of_length_eq_zero (h.1.trans h0)
    subst hl h0
    clear h
    have hmin : min (0 : Int) 8 = 0 := rfl
    go_enter Try.func22, Try.ntmps22
    go_wp2
    refine wp_loop_rounds 1 ?_
    rw [rounds_succ]
    go_wp2
    go_ret
    exact ⟨ret_int (by simp [word]), rfl⟩
  · obtain ⟨b, off, rfl, hb, hc⟩ := h.2.2.2 h0
    have hl := h.1
    have Hl := Lib.hid hl
    obtain ⟨N, hN, hN8, hNn, HN⟩ : ∃ N : Nat, min (n : Int) 8 = (N : Int) ∧ N ≤ 8 ∧ N ≤ n ∧ Hid (N = min n 8) := ⟨min n 8, by omega, by omega, by omega, Lib.hid rfl⟩
    have H8 : Hid (l.take N = l.take 8) := Lib.hid (by
      have := HN.out
      rcases Nat.lt_or_ge n 8 with h8 | h8
      · rw [List.take_of_length_le (by omega), List.take_of_length_le (by omega)]
      · rw [this, Nat.min_eq_right h8])
    clear h hl
    go_enter Try.func22, Try.ntmps22
    go_wp2
    clear hN
    go_loop [3, 4, 5, 12] (fun a _ _ i => ∃ j : Nat, j ≤ N ∧ i = .int .i64 j ∧ a = .int .u64 (word (l.take j) : Nat)) (fun _ _ _ i => N - (intOf i).toNat)
    case atStart => exact ⟨0, Nat.zero_le _, rfl, rfl⟩
    case round =>
      obtain ⟨j, hj, rfl, rfl⟩ := hrel
      by_cases hjn : j < N
      · have hcell := hc j (by omega)
        have hlj : j < l.length := by have := Hl.out; omega
        have hw : word (l.take j) < 256 ^ j := by
          have := word_lt (l.take j)
          rwa [List.length_take, Nat.min_eq_left (by omega)] at this
        have hs : word (l.take (j + 1)) = word (l.take j) + (l.getD j 0).toNat * 256 ^ j := by
          rw [List.take_succ_eq_append_getElem hlj, word_snoc, List.length_take, Nat.min_eq_left (by omega)]
          simp [List.getD, List.getElem?_eq_getElem hlj]
        obtain ⟨d, hd⟩ : ∃ d : UInt8, l.getD j 0 = d := ⟨_, rfl⟩
        have hd256 := d.toNat_lt
        rw [hd] at hcell hs
        have hor := word_or (word (l.take j)) d.toNat j (by omega) hd256 hw
        have Hs := Lib.hid hs
        have Hor := Lib.hid hor
        clear hs hor hw hd hlj
        go_wp2
        go_round
        case rel => exact ⟨j + 1, by omega, by go_num, by rw [Hs.out, ← Hor.out]⟩
        case measure => simp [intOf]; omega
      · have : j = N := by omega
        subst this
        go_wp2
        go_ret
        exact ⟨ret_int (by rw [H8.out]), rfl⟩
theorem rword_any (A : Option Addr) (n c B : Nat) (l : List UInt8) (w : World) (h : RS w B A n c l) :
    Calls Try.prog 23 #[.slice A n c] w fun e w' => e = .returned (.int .u64 (word (l.take 8) : Nat)) ∧ w = w' := by
  have hm := h.2.2.1
  have hnc := h.2.1
  have hl := h.1
  unfold maxLen at hm
  have Hl := Lib.hid hl
  have hcc : ∀ j, j < n → ∃ b off, A = some ⟨b, off, none⟩ ∧ w.cell? ⟨b, off + j, none⟩ = some (bval (l.getD j 0)) := fun j hj => by
    obtain ⟨b, off, rfl, hb, hc⟩ := h.2.2.2 (by omega)
    exact ⟨b, off, rfl, hc j hj⟩
  have Hc := Lib.hid hcc
  obtain ⟨N, HNN, hN8, hNn, HN⟩ : ∃ N : Nat, Hid (∀ j : Nat, j < n → j < 8 → j < N) ∧ N ≤ 8 ∧ N ≤ n ∧ Hid (N = min n 8) := ⟨min n 8, Lib.hid (by intro j; omega), by omega, by omega, Lib.hid rfl⟩
  have H8 : Hid (l.take N = l.take 8) := Lib.hid (by
    have := HN.out
    rcases Nat.lt_or_ge n 8 with h8 | h8
    · rw [List.take_of_length_le (by omega), List.take_of_length_le (by omega)]
    · rw [this, Nat.min_eq_right h8])
  clear h hcc hl
  go_enter Try.func23, Try.ntmps23
  go_wp2
  go_loop [3, 4, 5] (fun a p i => ∃ j : Nat, j ≤ N ∧ i = .int .i64 j ∧ a = .int .u64 (word (l.take j) : Nat) ∧ p = .int .u64 (256 ^ j % 18446744073709551616 : Nat)) (fun _ _ i => 8 - (intOf i).toNat)
  case atStart => exact ⟨0, Nat.zero_le _, rfl, rfl, rfl⟩
  case round =>
    obtain ⟨j, hj, rfl, rfl, rfl⟩ := hrel
    by_cases hjn : j < N
    · have hjl : j < n := by omega
      have hj8 : j < 8 := by omega
      obtain ⟨b, off, rfl, hcell⟩ := Hc.out j hjl
      have hlj : j < l.length := by have := Hl.out; omega
      have hw : word (l.take j) < 256 ^ j := by
        have := word_lt (l.take j)
        rwa [List.length_take, Nat.min_eq_left (by omega)] at this
      have hs : word (l.take (j + 1)) = word (l.take j) + (l.getD j 0).toNat * 256 ^ j := by
        rw [List.take_succ_eq_append_getElem hlj, word_snoc, List.length_take, Nat.min_eq_left (by omega)]
        simp [List.getD, List.getElem?_eq_getElem hlj]
      obtain ⟨d, hd⟩ : ∃ d : UInt8, l.getD j 0 = d := ⟨_, rfl⟩
      have hd256 := d.toNat_lt
      rw [hd] at hcell hs
      obtain ⟨q, hq⟩ : ∃ q : Nat, 256 ^ j % 18446744073709551616 = q := ⟨_, rfl⟩
      have hor := word_add (word (l.take j)) d.toNat j hj8 hd256 hw
      have hpl := place_step j
      rw [hq] at hor hpl ⊢
      have Hs := Lib.hid hs
      have Hor := Lib.hid hor
      have Hp := Lib.hid hpl
      clear hs hor hw hd hlj hq hpl
      go_wp2
      go_round
      case rel => exact ⟨j + 1, by omega, by go_num, by rw [Hs.out, ← Hor.out], by rw [Hp.out]⟩
      case measure => simp [intOf]; omega
    · have : j = N := by omega
      subst this
      by_cases hlk : j < n
      · have hl8 : ¬ j < 8 := fun h8 => absurd (HNN.out j hlk h8) (by omega)
        go_wp2
        go_ret
        exact ⟨ret_int (by rw [H8.out]), rfl⟩
      · go_wp2
        go_ret
        exact ⟨ret_int (by rw [H8.out]), rfl⟩
theorem word_little8 (A : Option Addr) (n c B : Nat) (x : Int) (w : World) (hx : 0 ≤ x ∧ x ≤ 18446744073709551615) (h : RS w B A n c (little (min (8 : Int).toNat 8) x.toNat)) :
    Calls Try.prog 22 #[.slice A n c] w fun e w' => e = .returned (.int .u64 x) ∧ w = w' := by
  have := word_any A n c B _ w h
  rw [show min (8 : Int).toNat 8 = 8 from rfl, List.take_of_length_le (by rw [little_length]; omega), word_little, show (((x.toNat % 256 ^ 8 : Nat)) : Int) = x from by omega] at this
  exact this
theorem word_little4 (A : Option Addr) (n c B : Nat) (x : Int) (w : World) (hx : 0 ≤ x ∧ x ≤ 18446744073709551615) (h : RS w B A n c (little (min (4 : Int).toNat 8) x.toNat)) :
    Calls Try.prog 22 #[.slice A n c] w fun e w' => e = .returned (.int .u64 (x % 4294967296)) ∧ w = w' := by
  have := word_any A n c B _ w h
  rw [show min (4 : Int).toNat 8 = 4 from rfl, List.take_of_length_le (by rw [little_length]; omega), word_little, show (((x.toNat % 256 ^ 4 : Nat)) : Int) = x % 4294967296 from by omega] at this
  exact this
theorem bit63 (x : Int) (w : World) (hx : 0 ≤ x ∧ x ≤ 18446744073709551615) :
    Calls Try.prog 24 #[.int .u64 x, .int .i64 63] w fun e w' => e = .returned (.bool (decide (wrap64 x < 0))) ∧ w = w' := by
  have := bit_any x 63 w hx (by omega)
  have e : bitS x.toNat 63 = decide (wrap64 x < 0) := by
    unfold bitS wrap64
    rw [if_pos (by omega), show (63 : Int).toNat = 63 from rfl, Bool.eq_iff_iff]
    simp
    omega
  rwa [e] at this
theorem zig_m1 (w : World) : Calls Try.prog 12 #[.int .i64 (-1)] w fun e w' => e = .returned (.int .u64 1) ∧ w = w' := zig_any (-1) w (by omega)
theorem zig_1 (w : World) : Calls Try.prog 12 #[.int .i64 1] w fun e w' => e = .returned (.int .u64 2) ∧ w = w' := zig_any 1 w (by omega)
theorem len_127 (w : World) : Calls Try.prog 17 #[.int .u64 127] w fun e w' => e = .returned (.int .i64 1) ∧ w = w' := by
  have := len_any 127 w (by omega)
  rwa [show lenN (127 : Int).toNat = 1 from lenN_lt (by decide)] at this
theorem len_128 (w : World) : Calls Try.prog 17 #[.int .u64 128] w fun e w' => e = .returned (.int .i64 2) ∧ w = w' := by
  have := len_any 128 w (by omega)
  rwa [show lenN (128 : Int).toNat = 2 from by rw [lenN_ge (by decide), lenN_lt (by decide)]] at this
theorem len_0 (w : World) : Calls Try.prog 17 #[.int .u64 0] w fun e w' => e = .returned (.int .i64 1) ∧ w = w' := by
  have := len_any 0 w (by omega)
  rwa [show lenN (0 : Int).toNat = 1 from lenN_lt (by decide)] at this
/-- The law's own first test: the chapter's examples. -/
theorem alive01 (w : World) : Calls Try.prog 6 #[] w fun e w' => e = .returned (.bool true) ∧ w = w' := by
  go_enter Try.func6, Try.ntmps6
  go_wp2_with fail
  refine (zig_m1 _).mono ?_
  rintro e w' ⟨rfl, rfl⟩
  go_wp2_with fail
  refine (zig_1 _).mono ?_
  rintro e w' ⟨rfl, rfl⟩
  go_wp2_with fail
  refine (len_127 _).mono ?_
  rintro e w' ⟨rfl, rfl⟩
  go_wp2_with fail
  refine (len_128 _).mono ?_
  rintro e w' ⟨rfl, rfl⟩
  go_wp2_with fail
  refine (len_0 _).mono ?_
  rintro e w' ⟨rfl, rfl⟩
  go_wp2_with fail
  go_ret
  exact ⟨rfl, rfl⟩
end Go.Proofs.Ytkfjhbffoadlhaa

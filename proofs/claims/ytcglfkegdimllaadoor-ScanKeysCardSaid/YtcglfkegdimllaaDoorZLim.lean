/- The walk of the law ScanLimits. -/
import Derived.Test.YtcglfkegdimllaaDoorZSigns
import Derived.Deep.CutBlock
set_option linter.unusedSimpArgs false
set_option linter.unusedVariables false
namespace Go.Proofs.YtcglfkegdimllaaDoor
open Go.RowKit M

theorem made_u8 (n : Nat) : madeCells #[Value.int .u8 0] n = (U8s (List.replicate n 0)).toArray := by
  unfold madeCells U8s
  apply Array.ext
  · simp
  · intro i h1 h2
    simp [Nat.mod_one]
theorem Tryd.info5' : (Tryd.prog.info? 5).map (fun i => (i.zero, i.size, i.bytes)) = some (some (.int .u8 0), 1, 1) := by kernel_rfl
theorem make_u8 (n : Nat) (hn : n ≤ 1048576) (w : World) : (Instr.makeSlice 33 (.int .i64 n) (.int .i64 n)).run Tryd.prog w = .ok (.slice (some ⟨w.heap.size, 0, none⟩) n n) (w.alloc (.cells (U8s (List.replicate n 0)).toArray 5)) := by
  obtain ⟨i0, hi, hz0, hz1, hz2⟩ := info_parts Tryd.info5'
  have h := run_make (P := Tryd.prog) w 33 5 i0 (.int .u8 0) Tryd.underlying33 hi hz0 .i64 .i64 (n : Int) (n : Int) (Int.natCast_nonneg _) (Int.le_refl _) (by rw [hz2]; omega) (by omega)
  simp only [Int.toNat_natCast, hz1, Nat.mul_one] at h
  rw [show (Value.int .u8 0).cells = #[Value.int .u8 0] from rfl, made_u8] at h
  exact h
theorem U8s_set' (X : List Nat) (k x : Nat) : ((U8s X).toArray.setIfInBounds k (.int .u8 (x : Int))) = (U8s (X.set k x)).toArray := by
  simp [U8s, List.map_set]
theorem own_u8 {w : World} {b : Nat} {t : TypeId} {X : List Nat} (h : Blk w b (U8s X).toArray t) (hl : X.length ≤ maxLen) : w.ownsRow b t 1 (.slice (some ⟨b, 0, none⟩) X.length X.length) X.length (U8s X) := by
  refine ⟨by rw [Nat.mul_one, U8s_len], Or.inr ⟨b, _, (U8s X).toArray, rfl, Nat.le_refl _, h, Nat.le_refl _, hl, by simp [U8s], List.take_of_length_le (by simp [U8s])⟩⟩
theorem U8s_at {X : List Nat} {k : Nat} (h : k < X.length) : (U8s X).toArray[k]? = some (.int .u8 (X.getD k 0 : Nat)) := by
  simp [U8s, List.getD, h]
theorem strOf_size (X : List Nat) : (strOf X).size = X.length := by
  unfold strOf strOfNums
  simp [ByteArray.size]

set_option maxRecDepth 10000 in
set_option maxHeartbeats 1600000 in
theorem limits_any (y n : Nat) (w : World) (hA : Asc w) :
    Calls Tryd.prog 7 #[.int .u8 y, .int .u8 n] w fun e w' => e = .returned (.bool true) ∧ Only Nil w w' := by
  have cK := known11 w hA
  obtain ⟨m, hm⟩ : ∃ m, n % 5 = m := ⟨_, rfl⟩
  have hm5 : m < 5 := by rw [← hm]; exact Nat.mod_lt _ (by decide)
  have e5 : (n : Int) % 5 = (m : Int) := by omega
  obtain ⟨q, hq⟩ : ∃ q, n % 26 = q := ⟨_, rfl⟩
  have hq26 : q < 26 := by rw [← hq]; exact Nat.mod_lt _ (by decide)
  have e26 : (n : Int) % 26 = (q : Int) := by omega
  have wq : IntKind.u8.wrap (97 + (q : Int)) = ((97 + q : Nat) : Int) := by rw [show (97 + (q : Int)) = ((97 + q : Nat) : Int) by omega, wrap_u8, Nat.mod_eq_of_lt (by omega)]
  clear hm hq
  by_cases h3 : y % 3 = 0
  · have t3 : ((y : Int) % 3 == 0) = true := by rw [show (y : Int) % 3 = 0 by omega]; rfl
    clear h3
    obtain ⟨N, hN⟩ : ∃ N, 30 + m = N := ⟨_, rfl⟩
    have mk : ∀ w, (Instr.makeSlice 33 (.int .i64 (32 + ((m : Int) - 2))) (.int .i64 (32 + ((m : Int) - 2)))).run Tryd.prog w = .ok (.slice (some ⟨w.heap.size, 0, none⟩) N N) (w.alloc (.cells (U8s (List.replicate N 0)).toArray 5)) := fun w => by
      rw [show (32 + ((m : Int) - 2)) = (N : Int) by omega]; exact make_u8 N (by omega) w
    have hNb : N ≤ 34 := by omega
    have hX0 : (List.replicate N (0 : Nat)).length = N := by simp
    obtain ⟨X0, hX⟩ : ∃ X, List.replicate N (0 : Nat) = X := ⟨_, rfl⟩
    rw [hX] at mk hX0
    clear hX hN
    go_enter Tryd.func7, Tryd.ntmps7
    go_wp2_with fail
    refine cK.mono ?_
    rintro e w1 ⟨rfl, ho1⟩
    clear cK
    have hA1 := hA.kept ho1
    go_wp2_with fail
    have hB0 := Blk.new w1 (U8s X0).toArray 5
    have ho2 : Only Nil w (w1.alloc (.cells (U8s X0).toArray 5)) := ho1.alloc _
    have hA2 := hA1.kept ((Only.refl Nil w1).alloc (.cells (U8s X0).toArray 5))
    obtain ⟨w2, hw2⟩ : ∃ w2, w1.alloc (.cells (U8s X0).toArray 5) = w2 := ⟨_, rfl⟩
    rw [hw2] at hB0 ho2 hA2 ⊢
    have hrl : w.heap.size ≤ w1.heap.size := ho1.size
    obtain ⟨rb, hrb⟩ : ∃ rb, w1.heap.size = rb := ⟨_, rfl⟩
    rw [hrb] at hB0 hrl ⊢
    have HRB := Lib.hid hrl
    have HAA := Lib.hid hA
    clear hw2 mk hA hA1 hA2 hrl hrb ho1
    go_loopg [7] N (fun g i wr => Only Nil w wr ∧ ∃ (k : Nat) (X : List Nat), i = .int .i64 (k : Int) ∧ k ≤ N ∧ g = N - k ∧ X.length = N ∧ Blk wr rb (U8s X).toArray 5)
    case atStart => exact ⟨ho2, 0, X0, rfl, Nat.zero_le _, rfl, hX0, hB0⟩
    case round =>
      obtain ⟨ho, k, X, rfl, hk, hg, hXl, hB⟩ := hrel
      have HG := Lib.hid hg
      have HXL := Lib.hid hXl
      clear hg hB0 ho2 hX0 hXl
      have k0 : (0 : Int) ≤ (k : Int) := Int.natCast_nonneg _
      by_cases hkN : k < N
      · have k1 : (k : Int) < (N : Int) := by omega
        have f0 := hB.free k
        have c0 := (hB.cell k).trans (U8s_at (by rw [HXL.out]; exact hkN))
        have hB1 := hB.setCell k (.int .u8 (97 + q : Nat))
        rw [U8s_set'] at hB1
        have ho1 : Only Nil w (wr.setCell ⟨rb, k, none⟩ (.int .u8 (97 + q : Nat))) := ho.setCell (fun h => absurd h (by simp only; have := HRB.out; omega)) _
        have hlt := hB.lt
        have HB1 := Lib.hid hB1
        have HO1 := Lib.hid ho1
        clear hB ho hB1 ho1
        go_wp2_with fail
        go_roundg (N - (k + 1))
        case measure => have := HG.out; omega
        case rel => exact ⟨HO1.out, k + 1, _, by go_num, by omega, rfl, by rw [List.length_set]; exact HXL.out, HB1.out⟩
      · have hkN' : k = N := by omega
        subst hkN'
        have hXk := HXL.out
        have hSrc := Src.of_own (own_u8 hB (by rw [hXk]; unfold maxLen; omega))
        have cv := conv_src wr _ _ X hSrc
        rw [hXk] at cv
        have hss := strOf_size X
        rw [hXk] at hss
        obtain ⟨z, hz⟩ : ∃ z, strOf X = z := ⟨_, rfl⟩
        rw [hz] at cv hss
        have hAr := HAA.out.kept ho
        clear hSrc hXk hz hB
        go_wp2_with fail
        refine (toldB _ (by rw [ByteArray.size_append]; show 2 + z.size ≤ _; omega) _ hAr).mono ?_
        rintro e w4 ⟨rfl, ho4⟩
        have HO4 := Lib.hid (ho.trans ho4 (fun _ _ h => h))
        clear ho ho4
        go_wp2_with fail
        go_ret
        exact ⟨rfl, HO4.out⟩
  by_cases h4 : y % 3 = 1
  · have t3 : ((y : Int) % 3 == 0) = false := not_beq (by omega)
    have t4 : ((y : Int) % 3 == 1) = true := by rw [show (y : Int) % 3 = 1 by omega]; rfl
    clear h3 h4 e26 wq
    obtain ⟨N, hN⟩ : ∃ N, 118 + m = N := ⟨_, rfl⟩
    have mk : ∀ w, (Instr.makeSlice 33 (.int .i64 (120 + ((m : Int) - 2))) (.int .i64 (120 + ((m : Int) - 2)))).run Tryd.prog w = .ok (.slice (some ⟨w.heap.size, 0, none⟩) N N) (w.alloc (.cells (U8s (List.replicate N 0)).toArray 5)) := fun w => by
      rw [show (120 + ((m : Int) - 2)) = (N : Int) by omega]; exact make_u8 N (by omega) w
    have hNb : N ≤ 122 := by omega
    have hX0 : (List.replicate N (0 : Nat)).length = N := by simp
    obtain ⟨X0, hX⟩ : ∃ X, List.replicate N (0 : Nat) = X := ⟨_, rfl⟩
    rw [hX] at mk hX0
    clear hX hN
    go_enter Tryd.func7, Tryd.ntmps7
    go_wp2_with fail
    refine cK.mono ?_
    rintro e w1 ⟨rfl, ho1⟩
    clear cK
    have hA1 := hA.kept ho1
    go_wp2_with fail
    have hB0 := Blk.new w1 (U8s X0).toArray 5
    have ho2 : Only Nil w (w1.alloc (.cells (U8s X0).toArray 5)) := ho1.alloc _
    have hA2 := hA1.kept ((Only.refl Nil w1).alloc (.cells (U8s X0).toArray 5))
    obtain ⟨w2, hw2⟩ : ∃ w2, w1.alloc (.cells (U8s X0).toArray 5) = w2 := ⟨_, rfl⟩
    rw [hw2] at hB0 ho2 hA2 ⊢
    have hrl : w.heap.size ≤ w1.heap.size := ho1.size
    obtain ⟨rb, hrb⟩ : ∃ rb, w1.heap.size = rb := ⟨_, rfl⟩
    rw [hrb] at hB0 hrl ⊢
    have HRB := Lib.hid hrl
    have HAA := Lib.hid hA
    clear hw2 mk hA hA1 hA2 hrl hrb ho1
    go_loopg [9] N (fun g i wr => Only Nil w wr ∧ ∃ (k : Nat) (X : List Nat), i = .int .i64 (k : Int) ∧ k ≤ N ∧ g = N - k ∧ X.length = N ∧ Blk wr rb (U8s X).toArray 5)
    case atStart => exact ⟨ho2, 0, X0, rfl, Nat.zero_le _, rfl, hX0, hB0⟩
    case round =>
      obtain ⟨ho, k, X, rfl, hk, hg, hXl, hB⟩ := hrel
      have HG := Lib.hid hg
      have HXL := Lib.hid hXl
      clear hg hB0 ho2 hX0 hXl
      have k0 : (0 : Int) ≤ (k : Int) := Int.natCast_nonneg _
      by_cases hkN : k < N
      · have k1 : (k : Int) < (N : Int) := by omega
        have f0 := hB.free k
        have c0 := (hB.cell k).trans (U8s_at (by rw [HXL.out]; exact hkN))
        have hB1 := hB.setCell k (.int .u8 (97 : Nat))
        rw [U8s_set'] at hB1
        have ho1 : Only Nil w (wr.setCell ⟨rb, k, none⟩ (.int .u8 (97 : Nat))) := ho.setCell (fun h => absurd h (by simp only; have := HRB.out; omega)) _
        have hlt := hB.lt
        have HB1 := Lib.hid hB1
        have HO1 := Lib.hid ho1
        clear hB ho hB1 ho1
        go_wp2_with fail
        go_roundg (N - (k + 1))
        case measure => have := HG.out; omega
        case rel => exact ⟨HO1.out, k + 1, _, by go_num, by omega, rfl, by rw [List.length_set]; exact HXL.out, HB1.out⟩
      · have hkN' : k = N := by omega
        subst hkN'
        have hXk := HXL.out
        have hSrc := Src.of_own (own_u8 hB (by rw [hXk]; unfold maxLen; omega))
        have cv := conv_src wr _ _ X hSrc
        rw [hXk] at cv
        have hss := strOf_size X
        rw [hXk] at hss
        obtain ⟨z, hz⟩ : ∃ z, strOf X = z := ⟨_, rfl⟩
        rw [hz] at cv hss
        have hAr := HAA.out.kept ho
        clear hSrc hXk hz hB
        go_wp2_with fail
        refine (toldB _ (by rw [ByteArray.size_append, ByteArray.size_append]; show 3 + z.size + 3 ≤ _; omega) _ hAr).mono ?_
        rintro e w4 ⟨rfl, ho4⟩
        have HO4 := Lib.hid (ho.trans ho4 (fun _ _ h => h))
        clear ho ho4
        go_wp2_with fail
        go_ret
        exact ⟨rfl, HO4.out⟩
  · have t3 : ((y : Int) % 3 == 0) = false := not_beq (by omega)
    have t4 : ((y : Int) % 3 == 1) = false := not_beq (by omega)
    clear h3 h4 e26 wq
    obtain ⟨N, hN⟩ : ∃ N, 19998 + m = N := ⟨_, rfl⟩
    have mk : ∀ w, (Instr.makeSlice 33 (.int .i64 (20000 + ((m : Int) - 2))) (.int .i64 (20000 + ((m : Int) - 2)))).run Tryd.prog w = .ok (.slice (some ⟨w.heap.size, 0, none⟩) N N) (w.alloc (.cells (U8s (List.replicate N 0)).toArray 5)) := fun w => by
      rw [show (20000 + ((m : Int) - 2)) = (N : Int) by omega]; exact make_u8 N (by omega) w
    have hNb : N ≤ 20002 := by omega
    have hX0 : (List.replicate N (0 : Nat)).length = N := by simp
    obtain ⟨X0, hX⟩ : ∃ X, List.replicate N (0 : Nat) = X := ⟨_, rfl⟩
    rw [hX] at mk hX0
    clear hX hN
    go_enter Tryd.func7, Tryd.ntmps7
    go_wp2_with fail
    refine cK.mono ?_
    rintro e w1 ⟨rfl, ho1⟩
    clear cK
    have hA1 := hA.kept ho1
    go_wp2_with fail
    have hB0 := Blk.new w1 (U8s X0).toArray 5
    have ho2 : Only Nil w (w1.alloc (.cells (U8s X0).toArray 5)) := ho1.alloc _
    have hA2 := hA1.kept ((Only.refl Nil w1).alloc (.cells (U8s X0).toArray 5))
    obtain ⟨w2, hw2⟩ : ∃ w2, w1.alloc (.cells (U8s X0).toArray 5) = w2 := ⟨_, rfl⟩
    rw [hw2] at hB0 ho2 hA2 ⊢
    have hrl : w.heap.size ≤ w1.heap.size := ho1.size
    obtain ⟨rb, hrb⟩ : ∃ rb, w1.heap.size = rb := ⟨_, rfl⟩
    rw [hrb] at hB0 hrl ⊢
    have HRB := Lib.hid hrl
    have HAA := Lib.hid hA
    clear hw2 mk hA hA1 hA2 hrl hrb ho1
    go_loopg [11] N (fun g i wr => Only Nil w wr ∧ ∃ (k : Nat) (X : List Nat), i = .int .i64 (k : Int) ∧ k ≤ N ∧ g = N - k ∧ X.length = N ∧ Blk wr rb (U8s X).toArray 5)
    case atStart => exact ⟨ho2, 0, X0, rfl, Nat.zero_le _, rfl, hX0, hB0⟩
    case round =>
      obtain ⟨ho, k, X, rfl, hk, hg, hXl, hB⟩ := hrel
      have HG := Lib.hid hg
      have HXL := Lib.hid hXl
      clear hg hB0 ho2 hX0 hXl
      have k0 : (0 : Int) ≤ (k : Int) := Int.natCast_nonneg _
      by_cases hkN : k < N
      · have k1 : (k : Int) < (N : Int) := by omega
        have f0 := hB.free k
        have c0 := (hB.cell k).trans (U8s_at (by rw [HXL.out]; exact hkN))
        have hB1 := hB.setCell k (.int .u8 (32 : Nat))
        rw [U8s_set'] at hB1
        have ho1 : Only Nil w (wr.setCell ⟨rb, k, none⟩ (.int .u8 (32 : Nat))) := ho.setCell (fun h => absurd h (by simp only; have := HRB.out; omega)) _
        have hlt := hB.lt
        have HB1 := Lib.hid hB1
        have HO1 := Lib.hid ho1
        clear hB ho hB1 ho1
        go_wp2_with fail
        go_roundg (N - (k + 1))
        case measure => have := HG.out; omega
        case rel => exact ⟨HO1.out, k + 1, _, by go_num, by omega, rfl, by rw [List.length_set]; exact HXL.out, HB1.out⟩
      · have hkN' : k = N := by omega
        subst hkN'
        have hXk := HXL.out
        have hSrc := Src.of_own (own_u8 hB (by rw [hXk]; unfold maxLen; omega))
        have cv := conv_src wr _ _ X hSrc
        rw [hXk] at cv
        have hss := strOf_size X
        rw [hXk] at hss
        obtain ⟨z, hz⟩ : ∃ z, strOf X = z := ⟨_, rfl⟩
        rw [hz] at cv hss
        have hAr := HAA.out.kept ho
        clear hSrc hXk hz hB
        go_wp2_with fail
        refine (toldB _ (by omega) _ hAr).mono ?_
        rintro e w4 ⟨rfl, ho4⟩
        have HO4 := Lib.hid (ho.trans ho4 (fun _ _ h => h))
        clear ho ho4
        go_wp2_with fail
        go_ret
        exact ⟨rfl, HO4.out⟩
end Go.Proofs.YtcglfkegdimllaaDoor

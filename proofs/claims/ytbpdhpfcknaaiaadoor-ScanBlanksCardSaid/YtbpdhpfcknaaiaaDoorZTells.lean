/- A source with a byte changed, taken out, put in, or with a symbol in another one's place: some text. -/
import Derived.Test.YtbpdhpfcknaaiaaDoorZTold2
import Derived.Test.YtbpdhpfcknaaiaaDoorGOrd
import Derived.BigQuiet
import Derived.Test.YtbpdhpfcknaaiaaDoorZSigns
import Derived.Test.YtbpdhpfcknaaiaaDoorEMain
import Derived.Test.YtbpdhpfcknaaiaaDoorGArgs
set_option linter.unusedSimpArgs false
set_option linter.unusedVariables false
namespace Go.Proofs.YtbpdhpfcknaaiaaDoor
open Go.RowKit M

def TurnPost (w : World) (e : Ending) (w' : World) : Prop := (∃ t : ByteArray, e = .returned (.string t) ∧ t.size ≤ 900000) ∧ Only Nil w w'
theorem cut_size (s : ByteArray) (a b : Nat) (hb : b ≤ s.size) : (s.extract a b).size = b - a := by
  rw [ByteArray.size_extract]; omega
set_option maxRecDepth 10000 in
set_option maxHeartbeats 3200000 in
theorem turned_0 (s : ByteArray) (n : Nat) (hn : s.size = n) (h1 : 1 ≤ n) (hb : n ≤ 850000) (a c h : Nat) (ha : a < 65536) (hc : c < 256) (hh : h % 4 = 0) (h9 : h < 256) (w : World) :
    Calls Tryd.prog 8 #[.string s, .int .u16 (a : Int), .int .u8 (c : Int), .int .u8 (h : Int)] w (TurnPost w) := by
  have ne : (s.toList == []) = false := by
    refine Bool.eq_false_iff.2 fun h2 => ?_
    have h3 := eq_of_beq h2
    rw [ByteArray.toList_eq] at h3
    have h4 : s.data.size = 0 := by rw [← Array.length_toList, h3]; rfl
    have h5 : s.size = s.data.size := rfl
    omega
  have tH : ((h : Int).tmod 4) = 0 := by rw [show ((h : Int).tmod 4) = ((h % 4 : Nat) : Int) from rfl, hh]; rfl
  have tH2 : ((h : Int) % 4) = 0 := by omega
  have wa : IntKind.i64.wrap (a : Int) = (a : Int) := by rw [IntKind.wrap]; simp [IntKind.bits, IntKind.signed]; omega
  have u1 : ((n : Int) == 0) = false := by simp; omega
  have u2 : ¬ (n : Int) = 0 := by omega
  have u3 : ¬ n = 0 := by omega
  obtain ⟨i, hi⟩ : ∃ i, a % n = i := ⟨_, rfl⟩
  have u4 : ((a : Int).tmod (n : Int)) = (i : Int) := by rw [← hi]; rfl
  have u5 : ((a : Int) % (n : Int)) = (i : Int) := by rw [← hi]; rfl
  have hin : i < n := by rw [← hi]; exact Nat.mod_lt _ (by omega)
  obtain ⟨m, hm⟩ : ∃ m, i + 1 = m := ⟨_, rfl⟩
  have wi : IntKind.i64.wrap ((i : Int) + 1) = (m : Int) := by rw [← hm, IntKind.wrap]; simp [IntKind.bits, IntKind.signed]; omega
  have i0 : (0 : Int) ≤ (i : Int) := Int.natCast_nonneg _
  have m0 : (0 : Int) ≤ (m : Int) := Int.natCast_nonneg _
  have i1 : (i : Int) ≤ (n : Int) := by omega
  have m1 : (m : Int) ≤ (n : Int) := by omega
  have i2 : i ≤ n := by omega
  have m2 : m ≤ n := by omega
  obtain ⟨r, hr⟩ : ∃ r, n - m = r := ⟨_, rfl⟩
  obtain ⟨SA, hSA⟩ : ∃ z, s.extract 0 i = z := ⟨_, rfl⟩
  obtain ⟨SB, hSB⟩ : ∃ z, s.extract m n = z := ⟨_, rfl⟩
  obtain ⟨SC, hSC⟩ : ∃ z, ch c = z := ⟨_, rfl⟩
  have HSC := Lib.hid hSC
  have zA : SA.size = i := by rw [← hSA, cut_size _ _ _ (by omega)]; omega
  have zB : SB.size = r := by rw [← hSB, cut_size _ _ _ (by omega)]; omega
  have zC : SC.size = 1 := by rw [← hSC]; exact ch_size c
  clear hSC
  have hn2 := hn
  · skip
    have hZ : ((SA ++ SC) ++ SB).size ≤ 900000 := by rw [ByteArray.size_append, ByteArray.size_append, zA, zC, zB]; omega
    have z1 : (SA ++ SC).size = i + 1 := by rw [ByteArray.size_append, zA, zC]
    have k1 : ¬ 9223372036854775807 < i + 1 := by omega
    have k2 : ¬ 9223372036854775807 < i + 1 + r := by omega
    have HZ := Lib.hid hZ
    clear hZ hb ha hc h9 hn2 hi hr h1 hm
    go_enter Tryd.func8, Tryd.ntmps8
    go_upto_region 6 with fail
    have hq : Only Nil w w.drew := (Only.refl Nil w).drew
    refine wp_region_T (fun w' => Only Nil w w') [] (by kernel_rfl) ?_
    refine wpAnyT_sub (S' := fun w' => Only Nil w.drew w') (fun _ h => Nil.trans hq h) ?_
    obtain ⟨wd, hwd⟩ : ∃ z, w.drew = z := ⟨_, rfl⟩
    rw [hwd] at hq  ⊢
    clear hwd
    refine wpAnyT_take 0 (v := ?_) rfl (by kernel_rfl) (by kernel_rfl) (by kernel_rfl) (fun _ _ _ h => h) (by kernel_rfl) (by kernel_rfl) (Or.inl ⟨by kernel_rfl, ?_⟩) (Only.refl Nil _) ?_
    rotate_left
    · (intro w' hw'; go_simp; (try with_reducible rfl))
    refine wpAnyT_take 1 (v := ?_) rfl (by kernel_rfl) (by kernel_rfl) (by kernel_rfl) (fun _ _ _ h => h) (by kernel_rfl) (by kernel_rfl) (Or.inl ⟨by kernel_rfl, ?_⟩) (Only.refl Nil _) ?_
    rotate_left
    · (intro w' hw'; go_simp; (try with_reducible rfl))
    refine wpAnyT_take 2 (v := ?_) rfl (by kernel_rfl) (by kernel_rfl) (by kernel_rfl) (fun _ _ _ h => h) (by kernel_rfl) (by kernel_rfl) (Or.inl ⟨by kernel_rfl, ?_⟩) (Only.refl Nil _) ?_
    rotate_left
    · (intro w' hw'; go_simp; (try with_reducible rfl))
    refine wpAnyT_take 3 (v := ?_) rfl (by kernel_rfl) (by kernel_rfl) (by kernel_rfl) (fun _ _ _ h => h) (by kernel_rfl) (by kernel_rfl) (Or.inl ⟨by kernel_rfl, ?_⟩) (Only.refl Nil _) ?_
    rotate_left
    · (intro w' hw'; go_simp; (try with_reducible rfl))
    refine wpAnyT_take 7 (v := ?_) rfl (by kernel_rfl) (by kernel_rfl) (by kernel_rfl) (fun _ _ _ h => h) (by kernel_rfl) (by kernel_rfl) (Or.inl ⟨by kernel_rfl, ?_⟩) (Only.refl Nil _) ?_
    rotate_left
    · (intro w' hw'; go_simp; (try with_reducible rfl))
    refine wpAnyT_take 8 (v := ?_) rfl (by kernel_rfl) (by kernel_rfl) (by kernel_rfl) (fun _ _ _ h => h) (by kernel_rfl) (by kernel_rfl) (Or.inl ⟨by kernel_rfl, ?_⟩) (Only.refl Nil _) ?_
    rotate_left
    · (intro w' hw'; go_simp; (try with_reducible rfl))
    refine wpAnyT_take 9 (v := ?_) rfl (by kernel_rfl) (by kernel_rfl) (by kernel_rfl) (fun _ _ _ h => h) (by kernel_rfl) (by kernel_rfl) (Or.inl ⟨by kernel_rfl, ?_⟩) (Only.refl Nil _) ?_
    rotate_left
    · (intro w' hw'; go_simp; (try with_reducible rfl))
    refine wpAnyT_take 10 (v := ?_) rfl (by kernel_rfl) (by kernel_rfl) (by kernel_rfl) (fun _ _ _ h => h) (by kernel_rfl) (by kernel_rfl) (Or.inl ⟨by kernel_rfl, ?_⟩) (Only.refl Nil _) ?_
    rotate_left
    · (intro w' hw'; go_simp; (try with_reducible rfl))
    refine wpAnyT_one (i := 4) rfl (by kernel_rfl) (fun K hK => ?_)
    go_simp
    refine hK.out _ _ (fun _ => (Only.refl Nil wd).alloc _) ?_
    clear hK K
    have q_a := Blk.new wd #[.int .u8 (c : Int)] 5
    have ho1x := alloc0 wd (.cells #[.int .u8 (c : Int)] 5)
    obtain ⟨b_a, hb_a⟩ : ∃ z, wd.heap.size = z := ⟨_, rfl⟩
    have g_a : w.heap.size ≤ b_a := by rw [← hb_a]; exact hq.size
    have l_a : b_a < (wd.alloc (.cells #[.int .u8 (c : Int)] 5)).heap.size := by rw [← hb_a]; simp
    obtain ⟨w1x, hw1x⟩ : ∃ z, wd.alloc (.cells #[.int .u8 (c : Int)] 5) = z := ⟨_, rfl⟩
    rw [hb_a] at q_a ⊢
    rw [hw1x] at q_a ho1x l_a   ⊢
    clear hb_a hw1x
    refine wpAnyT_sub (S' := fun w' => Only Nil w1x w') (fun _ h => Nil.trans ho1x h) ?_
    replace hq := Nil.trans hq ho1x
    clear ho1x
    refine wpAnyT_take 5 (v := ?_) rfl (by kernel_rfl) (by kernel_rfl) (by kernel_rfl) (fun _ _ _ h => h) (by kernel_rfl) (by kernel_rfl) (Or.inl ⟨by kernel_rfl, ?_⟩) (Only.refl Nil _) ?_
    rotate_left
    · (intro w' hw'; have cv := conv_blk (c := c) (q_a.kept hw' (fun h => h)); rw [HSC.out] at cv; go_simp; (try with_reducible rfl))
    refine wpAnyT_take 6 (v := ?_) rfl (by kernel_rfl) (by kernel_rfl) (by kernel_rfl) (fun _ _ _ h => h) (by kernel_rfl) (by kernel_rfl) (Or.inl ⟨by kernel_rfl, ?_⟩) (Only.refl Nil _) ?_
    rotate_left
    · (intro w' hw'; go_simp; (try with_reducible rfl))
    refine wpAnyT_take 11 (v := ?_) rfl (by kernel_rfl) (by kernel_rfl) (by kernel_rfl) (fun _ _ _ h => h) (by kernel_rfl) (by kernel_rfl) (Or.inl ⟨by kernel_rfl, ?_⟩) (Only.refl Nil _) ?_
    rotate_left
    · (intro w' hw'; go_simp; (try with_reducible rfl))
    refine wpAnyT_take 12 (v := ?_) rfl (by kernel_rfl) (by kernel_rfl) (by kernel_rfl) (fun _ _ _ h => h) (by kernel_rfl) (by kernel_rfl) (Or.inl ⟨by kernel_rfl, ?_⟩) (Only.refl Nil _) ?_
    rotate_left
    · (intro w' hw'; go_simp; (try with_reducible rfl))
    refine wpAnyT_done (by kernel_rfl) ?_
    have HQ := Lib.hid hq
    clear q_a g_a l_a hq
    go_wp2_with fail
    go_ret
    exact ⟨⟨_, rfl, HZ.out⟩, HQ.out⟩
set_option maxRecDepth 10000 in
set_option maxHeartbeats 3200000 in
theorem turned_1 (s : ByteArray) (n : Nat) (hn : s.size = n) (h1 : 1 ≤ n) (hb : n ≤ 850000) (a c h : Nat) (ha : a < 65536) (hc : c < 256) (hh : h % 4 = 1) (h9 : h < 256) (w : World) :
    Calls Tryd.prog 8 #[.string s, .int .u16 (a : Int), .int .u8 (c : Int), .int .u8 (h : Int)] w (TurnPost w) := by
  have ne : (s.toList == []) = false := by
    refine Bool.eq_false_iff.2 fun h2 => ?_
    have h3 := eq_of_beq h2
    rw [ByteArray.toList_eq] at h3
    have h4 : s.data.size = 0 := by rw [← Array.length_toList, h3]; rfl
    have h5 : s.size = s.data.size := rfl
    omega
  have tH : ((h : Int).tmod 4) = 1 := by rw [show ((h : Int).tmod 4) = ((h % 4 : Nat) : Int) from rfl, hh]; rfl
  have tH2 : ((h : Int) % 4) = 1 := by omega
  have wa : IntKind.i64.wrap (a : Int) = (a : Int) := by rw [IntKind.wrap]; simp [IntKind.bits, IntKind.signed]; omega
  have u1 : ((n : Int) == 0) = false := by simp; omega
  have u2 : ¬ (n : Int) = 0 := by omega
  have u3 : ¬ n = 0 := by omega
  obtain ⟨i, hi⟩ : ∃ i, a % n = i := ⟨_, rfl⟩
  have u4 : ((a : Int).tmod (n : Int)) = (i : Int) := by rw [← hi]; rfl
  have u5 : ((a : Int) % (n : Int)) = (i : Int) := by rw [← hi]; rfl
  have hin : i < n := by rw [← hi]; exact Nat.mod_lt _ (by omega)
  obtain ⟨m, hm⟩ : ∃ m, i + 1 = m := ⟨_, rfl⟩
  have wi : IntKind.i64.wrap ((i : Int) + 1) = (m : Int) := by rw [← hm, IntKind.wrap]; simp [IntKind.bits, IntKind.signed]; omega
  have i0 : (0 : Int) ≤ (i : Int) := Int.natCast_nonneg _
  have m0 : (0 : Int) ≤ (m : Int) := Int.natCast_nonneg _
  have i1 : (i : Int) ≤ (n : Int) := by omega
  have m1 : (m : Int) ≤ (n : Int) := by omega
  have i2 : i ≤ n := by omega
  have m2 : m ≤ n := by omega
  obtain ⟨r, hr⟩ : ∃ r, n - m = r := ⟨_, rfl⟩
  obtain ⟨SA, hSA⟩ : ∃ z, s.extract 0 i = z := ⟨_, rfl⟩
  obtain ⟨SB, hSB⟩ : ∃ z, s.extract m n = z := ⟨_, rfl⟩
  obtain ⟨SC, hSC⟩ : ∃ z, ch c = z := ⟨_, rfl⟩
  have HSC := Lib.hid hSC
  have zA : SA.size = i := by rw [← hSA, cut_size _ _ _ (by omega)]; omega
  have zB : SB.size = r := by rw [← hSB, cut_size _ _ _ (by omega)]; omega
  have zC : SC.size = 1 := by rw [← hSC]; exact ch_size c
  clear hSC
  have hn2 := hn
  · skip
    have hZ : (SA ++ SB).size ≤ 900000 := by rw [ByteArray.size_append, zA, zB]; omega
    have z1 : (SA ++ SB).size = i + r := by rw [ByteArray.size_append, zA, zB]
    have k1 : ¬ 9223372036854775807 < i + r := by omega
    have HZ := Lib.hid hZ
    clear hZ hb ha hc h9 hn2 hi hr h1 hm
    go_enter Tryd.func8, Tryd.ntmps8
    go_wp2_with fail
    go_quiet (fail)
    go_wp2_with fail
    go_ret
    exact ⟨⟨_, rfl, HZ.out⟩, (Only.refl Nil w).drewN _⟩
set_option maxRecDepth 10000 in
set_option maxHeartbeats 3200000 in
theorem turned_2 (s : ByteArray) (n : Nat) (hn : s.size = n) (h1 : 1 ≤ n) (hb : n ≤ 850000) (a c h : Nat) (ha : a < 65536) (hc : c < 256) (hh : h % 4 = 2) (h9 : h < 256) (w : World) :
    Calls Tryd.prog 8 #[.string s, .int .u16 (a : Int), .int .u8 (c : Int), .int .u8 (h : Int)] w (TurnPost w) := by
  have ne : (s.toList == []) = false := by
    refine Bool.eq_false_iff.2 fun h2 => ?_
    have h3 := eq_of_beq h2
    rw [ByteArray.toList_eq] at h3
    have h4 : s.data.size = 0 := by rw [← Array.length_toList, h3]; rfl
    have h5 : s.size = s.data.size := rfl
    omega
  have tH : ((h : Int).tmod 4) = 2 := by rw [show ((h : Int).tmod 4) = ((h % 4 : Nat) : Int) from rfl, hh]; rfl
  have tH2 : ((h : Int) % 4) = 2 := by omega
  have wa : IntKind.i64.wrap (a : Int) = (a : Int) := by rw [IntKind.wrap]; simp [IntKind.bits, IntKind.signed]; omega
  have u1 : ((n : Int) == 0) = false := by simp; omega
  have u2 : ¬ (n : Int) = 0 := by omega
  have u3 : ¬ n = 0 := by omega
  obtain ⟨i, hi⟩ : ∃ i, a % n = i := ⟨_, rfl⟩
  have u4 : ((a : Int).tmod (n : Int)) = (i : Int) := by rw [← hi]; rfl
  have u5 : ((a : Int) % (n : Int)) = (i : Int) := by rw [← hi]; rfl
  have hin : i < n := by rw [← hi]; exact Nat.mod_lt _ (by omega)
  obtain ⟨m, hm⟩ : ∃ m, i + 1 = m := ⟨_, rfl⟩
  have wi : IntKind.i64.wrap ((i : Int) + 1) = (m : Int) := by rw [← hm, IntKind.wrap]; simp [IntKind.bits, IntKind.signed]; omega
  have i0 : (0 : Int) ≤ (i : Int) := Int.natCast_nonneg _
  have m0 : (0 : Int) ≤ (m : Int) := Int.natCast_nonneg _
  have i1 : (i : Int) ≤ (n : Int) := by omega
  have m1 : (m : Int) ≤ (n : Int) := by omega
  have i2 : i ≤ n := by omega
  have m2 : m ≤ n := by omega
  obtain ⟨r, hr⟩ : ∃ r, n - i = r := ⟨_, rfl⟩
  obtain ⟨SA, hSA⟩ : ∃ z, s.extract 0 i = z := ⟨_, rfl⟩
  obtain ⟨SB, hSB⟩ : ∃ z, s.extract i n = z := ⟨_, rfl⟩
  obtain ⟨SC, hSC⟩ : ∃ z, ch c = z := ⟨_, rfl⟩
  have HSC := Lib.hid hSC
  have zA : SA.size = i := by rw [← hSA, cut_size _ _ _ (by omega)]; omega
  have zB : SB.size = r := by rw [← hSB, cut_size _ _ _ (by omega)]; omega
  have zC : SC.size = 1 := by rw [← hSC]; exact ch_size c
  clear hSC
  have hn2 := hn
  · skip
    have hZ : ((SA ++ SC) ++ SB).size ≤ 900000 := by rw [ByteArray.size_append, ByteArray.size_append, zA, zC, zB]; omega
    have z1 : (SA ++ SC).size = i + 1 := by rw [ByteArray.size_append, zA, zC]
    have k1 : ¬ 9223372036854775807 < i + 1 := by omega
    have k2 : ¬ 9223372036854775807 < i + 1 + r := by omega
    have HZ := Lib.hid hZ
    clear hZ hb ha hc h9 hn2 hi hr h1 hm
    go_enter Tryd.func8, Tryd.ntmps8
    go_upto_region 10 with fail
    have hq : Only Nil w w.drew := (Only.refl Nil w).drew
    refine wp_region_T (fun w' => Only Nil w w') [] (by kernel_rfl) ?_
    refine wpAnyT_sub (S' := fun w' => Only Nil w.drew w') (fun _ h => Nil.trans hq h) ?_
    obtain ⟨wd, hwd⟩ : ∃ z, w.drew = z := ⟨_, rfl⟩
    rw [hwd] at hq  ⊢
    clear hwd
    refine wpAnyT_take 0 (v := ?_) rfl (by kernel_rfl) (by kernel_rfl) (by kernel_rfl) (fun _ _ _ h => h) (by kernel_rfl) (by kernel_rfl) (Or.inl ⟨by kernel_rfl, ?_⟩) (Only.refl Nil _) ?_
    rotate_left
    · (intro w' hw'; go_simp; (try with_reducible rfl))
    refine wpAnyT_take 1 (v := ?_) rfl (by kernel_rfl) (by kernel_rfl) (by kernel_rfl) (fun _ _ _ h => h) (by kernel_rfl) (by kernel_rfl) (Or.inl ⟨by kernel_rfl, ?_⟩) (Only.refl Nil _) ?_
    rotate_left
    · (intro w' hw'; go_simp; (try with_reducible rfl))
    refine wpAnyT_take 2 (v := ?_) rfl (by kernel_rfl) (by kernel_rfl) (by kernel_rfl) (fun _ _ _ h => h) (by kernel_rfl) (by kernel_rfl) (Or.inl ⟨by kernel_rfl, ?_⟩) (Only.refl Nil _) ?_
    rotate_left
    · (intro w' hw'; go_simp; (try with_reducible rfl))
    refine wpAnyT_take 3 (v := ?_) rfl (by kernel_rfl) (by kernel_rfl) (by kernel_rfl) (fun _ _ _ h => h) (by kernel_rfl) (by kernel_rfl) (Or.inl ⟨by kernel_rfl, ?_⟩) (Only.refl Nil _) ?_
    rotate_left
    · (intro w' hw'; go_simp; (try with_reducible rfl))
    refine wpAnyT_take 7 (v := ?_) rfl (by kernel_rfl) (by kernel_rfl) (by kernel_rfl) (fun _ _ _ h => h) (by kernel_rfl) (by kernel_rfl) (Or.inl ⟨by kernel_rfl, ?_⟩) (Only.refl Nil _) ?_
    rotate_left
    · (intro w' hw'; go_simp; (try with_reducible rfl))
    refine wpAnyT_take 8 (v := ?_) rfl (by kernel_rfl) (by kernel_rfl) (by kernel_rfl) (fun _ _ _ h => h) (by kernel_rfl) (by kernel_rfl) (Or.inl ⟨by kernel_rfl, ?_⟩) (Only.refl Nil _) ?_
    rotate_left
    · (intro w' hw'; go_simp; (try with_reducible rfl))
    refine wpAnyT_take 9 (v := ?_) rfl (by kernel_rfl) (by kernel_rfl) (by kernel_rfl) (fun _ _ _ h => h) (by kernel_rfl) (by kernel_rfl) (Or.inl ⟨by kernel_rfl, ?_⟩) (Only.refl Nil _) ?_
    rotate_left
    · (intro w' hw'; go_simp; (try with_reducible rfl))
    refine wpAnyT_one (i := 4) rfl (by kernel_rfl) (fun K hK => ?_)
    go_simp
    refine hK.out _ _ (fun _ => (Only.refl Nil wd).alloc _) ?_
    clear hK K
    have q_a := Blk.new wd #[.int .u8 (c : Int)] 5
    have ho1x := alloc0 wd (.cells #[.int .u8 (c : Int)] 5)
    obtain ⟨b_a, hb_a⟩ : ∃ z, wd.heap.size = z := ⟨_, rfl⟩
    have g_a : w.heap.size ≤ b_a := by rw [← hb_a]; exact hq.size
    have l_a : b_a < (wd.alloc (.cells #[.int .u8 (c : Int)] 5)).heap.size := by rw [← hb_a]; simp
    obtain ⟨w1x, hw1x⟩ : ∃ z, wd.alloc (.cells #[.int .u8 (c : Int)] 5) = z := ⟨_, rfl⟩
    rw [hb_a] at q_a ⊢
    rw [hw1x] at q_a ho1x l_a   ⊢
    clear hb_a hw1x
    refine wpAnyT_sub (S' := fun w' => Only Nil w1x w') (fun _ h => Nil.trans ho1x h) ?_
    replace hq := Nil.trans hq ho1x
    clear ho1x
    refine wpAnyT_take 5 (v := ?_) rfl (by kernel_rfl) (by kernel_rfl) (by kernel_rfl) (fun _ _ _ h => h) (by kernel_rfl) (by kernel_rfl) (Or.inl ⟨by kernel_rfl, ?_⟩) (Only.refl Nil _) ?_
    rotate_left
    · (intro w' hw'; have cv := conv_blk (c := c) (q_a.kept hw' (fun h => h)); rw [HSC.out] at cv; go_simp; (try with_reducible rfl))
    refine wpAnyT_take 6 (v := ?_) rfl (by kernel_rfl) (by kernel_rfl) (by kernel_rfl) (fun _ _ _ h => h) (by kernel_rfl) (by kernel_rfl) (Or.inl ⟨by kernel_rfl, ?_⟩) (Only.refl Nil _) ?_
    rotate_left
    · (intro w' hw'; go_simp; (try with_reducible rfl))
    refine wpAnyT_take 10 (v := ?_) rfl (by kernel_rfl) (by kernel_rfl) (by kernel_rfl) (fun _ _ _ h => h) (by kernel_rfl) (by kernel_rfl) (Or.inl ⟨by kernel_rfl, ?_⟩) (Only.refl Nil _) ?_
    rotate_left
    · (intro w' hw'; go_simp; (try with_reducible rfl))
    refine wpAnyT_take 11 (v := ?_) rfl (by kernel_rfl) (by kernel_rfl) (by kernel_rfl) (fun _ _ _ h => h) (by kernel_rfl) (by kernel_rfl) (Or.inl ⟨by kernel_rfl, ?_⟩) (Only.refl Nil _) ?_
    rotate_left
    · (intro w' hw'; go_simp; (try with_reducible rfl))
    refine wpAnyT_done (by kernel_rfl) ?_
    have HQ := Lib.hid hq
    clear q_a g_a l_a hq
    go_wp2_with fail
    go_ret
    exact ⟨⟨_, rfl, HZ.out⟩, HQ.out⟩
theorem toks_in (t : Txt) (kw : Nat → Nat → Bool) : ∀ (k i : Nat) (L : List Tk), i ≤ t.n → scanS t kw k i = .ok L → ∀ x ∈ L, x.pos ≤ x.fin ∧ x.fin ≤ t.n
  | 0, i, L, hi, h => by simp [scanS] at h
  | k + 1, i, L, hi, h => by
    rw [scanS] at h
    have h8 := skipE_ge t i
    have h9 := skipE_le t i hi
    split at h
    · cases h
    split at h
    · injection h with h; subst h
      intro x hx
      simp only [List.mem_singleton] at hx
      subst hx
      exact ⟨Nat.le_refl _, Nat.le_refl _⟩
    · rename_i h3 h4
      cases hs : symS t (skipE t i).1 with
      | error e => rw [hs] at h; cases h
      | ok x =>
        have h5 := symS_ok t _ (by omega) x hs
        rw [hs] at h
        simp only at h
        cases hk : scanS t kw k x.fin with
        | error e => rw [hk] at h; cases h
        | ok M =>
          rw [hk] at h
          injection h with h; subst h
          intro y hy
          rcases List.mem_cons.1 hy with rfl | hy
          · rw [Tk.key_pos, Tk.key_fin]; omega
          · exact toks_in t kw k x.fin M (by omega) hk y hy
theorem allS_in (s : ByteArray) (n : Nat) (hn : s.size = n) (L : List Tk) (h : allS s = .ok L) : n ≤ 20000 ∧ ∀ x ∈ L, x.pos ≤ x.fin ∧ x.fin ≤ n := by
  unfold allS at h
  split at h
  · cases h
  · have h2 := toks_in (tx s) _ _ _ L (Nat.zero_le _) h
    rw [show (tx s).n = n from hn] at h2
    exact ⟨by omega, h2⟩
theorem put_one {w : World} {a : Nat} {t : TypeId} {c0 c1 c2 c3 c4 : Value} (hA : Blk w a #[c0, c1, c2, c3, c4] t) (v0 v1 v2 v3 v4 : Value) :
    ∃ w2, ((((w.setCell ⟨a, 0, none⟩ v0).setCell ⟨a, 1, none⟩ v1).setCell ⟨a, 2, none⟩ v2).setCell ⟨a, 3, none⟩ v3).setCell ⟨a, 4, none⟩ v4 = w2 ∧ Blk w2 a #[v0, v1, v2, v3, v4] t ∧ Only (M.One a) w w2 := by
  have hq : a < w.heap.size → M.One a a := fun _ => rfl
  have ho : Only (M.One a) w (set5 w a v0 v1 v2 v3 v4) := (((((Only.refl (M.One a) w).setCell (p := ⟨a, 0, none⟩) hq v0).setCell (p := ⟨a, 1, none⟩) hq v1).setCell (p := ⟨a, 2, none⟩) hq v2).setCell (p := ⟨a, 3, none⟩) hq v3).setCell (p := ⟨a, 4, none⟩) hq v4
  exact ⟨_, rfl, hA.put5 v0 v1 v2 v3 v4, ho⟩
set_option maxRecDepth 10000 in
set_option maxHeartbeats 6400000 in
theorem turned_3 (s : ByteArray) (n : Nat) (hn : s.size = n) (h1 : 1 ≤ n) (hb : n ≤ 850000) (a c h : Nat) (ha : a < 65536) (hc : c < 256) (hh : h % 4 = 3) (h9 : h < 256) (w : World) :
    Calls Tryd.prog 8 #[.string s, .int .u16 (a : Int), .int .u8 (c : Int), .int .u8 (h : Int)] w (TurnPost w) := by
  have ne : (s.toList == []) = false := by
    refine Bool.eq_false_iff.2 fun h2 => ?_
    have h3 := eq_of_beq h2
    rw [ByteArray.toList_eq] at h3
    have h4 : s.data.size = 0 := by rw [← Array.length_toList, h3]; rfl
    have h5 : s.size = s.data.size := rfl
    omega
  have tH : ((h : Int).tmod 4) = 3 := by rw [show ((h : Int).tmod 4) = ((h % 4 : Nat) : Int) from rfl, hh]; rfl
  have tH2 : ((h : Int) % 4) = 3 := by omega
  have wa : IntKind.i64.wrap (a : Int) = (a : Int) := by rw [IntKind.wrap]; simp [IntKind.bits, IntKind.signed]; omega
  have wcc : IntKind.i64.wrap (c : Int) = (c : Int) := by rw [IntKind.wrap]; simp [IntKind.bits, IntKind.signed]; omega
  have u1 : ((n : Int) == 0) = false := by simp; omega
  have u2 : ¬ (n : Int) = 0 := by omega
  have u3 : ¬ n = 0 := by omega
  have c2 := scanR_any s n hn (by omega) w
  have HSB := Lib.hid (show s.size ≤ 900000 by omega)
  cases hr : allS s with
  | error pk =>
    obtain ⟨p, k⟩ := pk
    have hk := allS_err s _ hr
    rw [hr] at c2
    have hk0 : ((k : Int) == 0) = false := not_beq (by simp only at hk; omega)
    clear hr hk hb h1
    go_enter Tryd.func8, Tryd.ntmps8
    go_wp2_with fail
    refine c2.mono ?_
    rintro e w2 ⟨rfl, ho2⟩
    clear c2
    go_wp2_with fail
    all_goals go_ret
    all_goals exact ⟨⟨s, rfl, HSB.out⟩, ho2⟩
  | ok L =>
    obtain ⟨hsm, hin⟩ := allS_in s n hn L hr
    have HIN := Lib.hid hin
    have hL := allS_ok s n hn L hr
    rw [hr] at c2
    obtain ⟨m, hm⟩ : ∃ m, L.length = m := ⟨_, rfl⟩
    have HM := Lib.hid hm
    have HL9 := Lib.hid (show m ≤ n + 1 by omega)
    clear hr hin hL hb
    by_cases hl : m < 3
    · have l1 : (m : Int) < 3 := by omega
      clear h1 hsm
      go_enter Tryd.func8, Tryd.ntmps8
      go_wp2_with fail
      refine c2.mono ?_
      rintro e w2 ⟨⟨v2, rfl, hown2⟩, ho2⟩
      obtain ⟨ao, cap, off, e2, _, _, _, _⟩ := TSrc.of_own hown2
      rw [hm] at e2
      subst e2
      clear c2 hm hown2
      go_wp2_with fail
      go_ret
      exact ⟨⟨s, rfl, HSB.out⟩, ho2⟩
    · have l1 : ¬ (m : Int) < 3 := by omega
      obtain ⟨q, hq⟩ : ∃ q, m - 1 = q := ⟨_, rfl⟩
      have wq : IntKind.i64.wrap ((m : Int) - 1) = (q : Int) := by have := HL9.out; rw [← hq, IntKind.wrap]; simp [IntKind.bits, IntKind.signed]; omega
      have v1 : ((q : Int) == 0) = false := by simp; omega
      have v2 : ¬ (q : Int) = 0 := by omega
      have v3 : ¬ q = 0 := by omega
      obtain ⟨i, hi⟩ : ∃ i, a % q = i := ⟨_, rfl⟩
      obtain ⟨j, hj⟩ : ∃ j, c % q = j := ⟨_, rfl⟩
      have u4 : ((a : Int).tmod (q : Int)) = (i : Int) := by rw [← hi]; rfl
      have u5 : ((a : Int) % (q : Int)) = (i : Int) := by rw [← hi]; rfl
      have u6 : ((c : Int).tmod (q : Int)) = (j : Int) := by rw [← hj]; rfl
      have u7 : ((c : Int) % (q : Int)) = (j : Int) := by rw [← hj]; rfl
      have hiq : i < q := by rw [← hi]; exact Nat.mod_lt _ (by omega)
      have hjq : j < q := by rw [← hj]; exact Nat.mod_lt _ (by omega)
      have i0 : (0 : Int) ≤ (i : Int) := Int.natCast_nonneg _
      have j0 : (0 : Int) ≤ (j : Int) := Int.natCast_nonneg _
      have i1 : (i : Int) < (m : Int) := by omega
      have j1 : (j : Int) < (m : Int) := by omega
      have i2 : i < m := by omega
      have j2 : j < m := by omega
      obtain ⟨x, hx⟩ : ∃ x, L[i]? = some x := ⟨_, List.getElem?_eq_getElem (by omega)⟩
      obtain ⟨y, hy⟩ : ∃ y, L[j]? = some y := ⟨_, List.getElem?_eq_getElem (by omega)⟩
      have bx := HIN.out x (List.mem_of_getElem? hx)
      have bY := HIN.out y (List.mem_of_getElem? hy)
      have HBX := Lib.hid bx
      have HBY := Lib.hid bY
      have HX := Lib.hid hx
      have HY := Lib.hid hy
      have HSM := Lib.hid hsm
      clear hi hj hiq hjq hx hy bx bY hq h1 hl hsm
      go_enter Tryd.func8, Tryd.ntmps8
      go_wp2_with fail
      refine c2.mono ?_
      rintro e w2 ⟨⟨tv, rfl, hown2⟩, ho2⟩
      obtain ⟨bk, hbk⟩ : ∃ z, tv.ownBlock.getD 0 = z := ⟨_, rfl⟩
      have hTS := TSrc.of_own hown2
      rw [hbk] at hTS
      obtain ⟨ao, cap, off, e2, _, _, ha2, hT⟩ := hTS
      rw [hm] at e2 ha2
      have ea := ha2 (by omega)
      subst ea
      clear hbk hown2
      subst e2
      have HT := Lib.hid hT
      have HO2 := Lib.hid ho2
      clear c2 hm ho2 ha2 hT
      go_upto_region 14 with fail
      obtain ⟨xk, hxk⟩ : ∃ z, x.kind = z := ⟨_, rfl⟩
      obtain ⟨xp, hxp⟩ : ∃ z, x.pos = z := ⟨_, rfl⟩
      obtain ⟨xf, hxf⟩ : ∃ z, x.fin = z := ⟨_, rfl⟩
      obtain ⟨xs, hxs⟩ : ∃ z, s.extract x.a x.b = z := ⟨_, rfl⟩
      obtain ⟨xn, hxn⟩ : ∃ z, x.num = z := ⟨_, rfl⟩
      obtain ⟨yk, hyk⟩ : ∃ z, y.kind = z := ⟨_, rfl⟩
      obtain ⟨yp, hyp⟩ : ∃ z, y.pos = z := ⟨_, rfl⟩
      obtain ⟨yf, hyf⟩ : ∃ z, y.fin = z := ⟨_, rfl⟩
      obtain ⟨ys, hys⟩ : ∃ z, s.extract y.a y.b = z := ⟨_, rfl⟩
      obtain ⟨yn, hyn⟩ : ∃ z, y.num = z := ⟨_, rfl⟩
      obtain ⟨X0, X1, X2, X3, X4⟩ := HT.out i x HX.out
      obtain ⟨Y0, Y1, Y2, Y3, Y4⟩ := HT.out j y HY.out
      have bx := HBX.out
      have bY := HBY.out
      rw [hxk] at X0
      rw [hxp] at X1
      rw [hxf] at X2
      rw [hxs] at X3
      rw [hxn] at X4
      rw [hyk] at Y0
      rw [hyp] at Y1
      rw [hyf] at Y2
      rw [hys] at Y3
      rw [hyn] at Y4
      rw [hxp, hxf] at bx
      rw [hyp, hyf] at bY
      have HBX2 := Lib.hid bx
      have HBY2 := Lib.hid bY
      clear hxk hxp hxf hxs hxn hyk hyp hyf hys hyn bx bY
      go_cut [13, 14] (fun s13 s14 wx => ∃ (ba bb : Nat), s13 = .pointer (some ⟨ba, 0, none⟩) ∧ s14 = .pointer (some ⟨bb, 0, none⟩) ∧ Blk wx ba #[.int .i64 (xk : Nat), .int .i64 (xp : Nat), .int .i64 (xf : Nat), .string xs, .int .i32 xn] 35 ∧ Blk wx bb #[.int .i64 (yk : Nat), .int .i64 (yp : Nat), .int .i64 (yf : Nat), .string ys, .int .i32 yn] 35 ∧ Only Nil w2 wx)
      case first =>
        have hq : Only Nil w2 w2.drew := (Only.refl Nil w2).drew
        refine wp_region_T (fun w' => Only Nil w2 w') [] (by kernel_rfl) ?_
        obtain ⟨wd, hwd⟩ : ∃ z, w2.drew = z := ⟨_, rfl⟩
        rw [hwd] at hq ⊢
        clear hwd
        refine wpAnyT_take 0 (v := ?_) rfl (by kernel_rfl) (by kernel_rfl) (by kernel_rfl) (fun _ _ _ h => h) (by kernel_rfl) (by kernel_rfl) (Or.inl ⟨by kernel_rfl, ?_⟩) hq ?_
        rotate_left
        · (intro w' hw'; go_simp; (try with_reducible rfl))
        refine wpAnyT_take 1 (v := ?_) rfl (by kernel_rfl) (by kernel_rfl) (by kernel_rfl) (fun _ _ _ h => h) (by kernel_rfl) (by kernel_rfl) (Or.inl ⟨by kernel_rfl, ?_⟩) hq ?_
        rotate_left
        · (intro w' hw'; go_simp; (try with_reducible rfl))
        refine wpAnyT_take 2 (v := ?_) rfl (by kernel_rfl) (by kernel_rfl) (by kernel_rfl) (fun _ _ _ h => h) (by kernel_rfl) (by kernel_rfl) (Or.inl ⟨by kernel_rfl, ?_⟩) hq ?_
        rotate_left
        · (intro w' hw'; go_simp; (try with_reducible rfl))
        refine wpAnyT_take 3 (v := ?_) rfl (by kernel_rfl) (by kernel_rfl) (by kernel_rfl) (fun _ _ _ h => h) (by kernel_rfl) (by kernel_rfl) (Or.inl ⟨by kernel_rfl, ?_⟩) hq ?_
        rotate_left
        · (intro w' hw'; go_simp; (try with_reducible rfl))
        refine wpAnyT_take 4 (v := ?_) rfl (by kernel_rfl) (by kernel_rfl) (by kernel_rfl) (fun _ _ _ h => h) (by kernel_rfl) (by kernel_rfl) (Or.inl ⟨by kernel_rfl, ?_⟩) hq ?_
        rotate_left
        · (intro w' hw'; go_simp; (try with_reducible rfl))
        refine wpAnyT_take 5 (v := ?_) rfl (by kernel_rfl) (by kernel_rfl) (by kernel_rfl) (fun _ _ _ h => h) (by kernel_rfl) (by kernel_rfl) (Or.inl ⟨by kernel_rfl, ?_⟩) hq ?_
        rotate_left
        · (intro w' hw'; go_simp; (try with_reducible rfl))
        refine wpAnyT_take 6 (v := ?_) rfl (by kernel_rfl) (by kernel_rfl) (by kernel_rfl) (fun _ _ _ h => h) (by kernel_rfl) (by kernel_rfl) (Or.inl ⟨by kernel_rfl, ?_⟩) hq ?_
        rotate_left
        · (intro w' hw'; go_simp; (try with_reducible rfl))
        refine wpAnyT_take 7 (v := ?_) rfl (by kernel_rfl) (by kernel_rfl) (by kernel_rfl) (fun _ _ _ h => h) (by kernel_rfl) (by kernel_rfl) (Or.inl ⟨by kernel_rfl, ?_⟩) hq ?_
        rotate_left
        · (intro w' hw'; go_simp; (try with_reducible rfl))
        refine wpAnyT_take 8 (v := ?_) rfl (by kernel_rfl) (by kernel_rfl) (by kernel_rfl) (fun _ _ _ h => h) (by kernel_rfl) (by kernel_rfl) (Or.inl ⟨by kernel_rfl, ?_⟩) hq ?_
        rotate_left
        · (intro w' hw'; have e0 := M.Only.cell hw' X0 (fun h => h); have e1 := M.Only.cell hw' X1 (fun h => h); have e2 := M.Only.cell hw' X2 (fun h => h); have e3 := M.Only.cell hw' X3 (fun h => h); have e4 := M.Only.cell hw' X4 (fun h => h); go_simp; (try with_reducible rfl))
        refine wpAnyT_take 9 (v := ?_) rfl (by kernel_rfl) (by kernel_rfl) (by kernel_rfl) (fun _ _ _ h => h) (by kernel_rfl) (by kernel_rfl) (Or.inl ⟨by kernel_rfl, ?_⟩) hq ?_
        rotate_left
        · (intro w' hw'; go_simp; (try with_reducible rfl))
        refine wpAnyT_take 10 (v := ?_) rfl (by kernel_rfl) (by kernel_rfl) (by kernel_rfl) (fun _ _ _ h => h) (by kernel_rfl) (by kernel_rfl) (Or.inl ⟨by kernel_rfl, ?_⟩) hq ?_
        rotate_left
        · (intro w' hw'; go_simp; (try with_reducible rfl))
        refine wpAnyT_take 11 (v := ?_) rfl (by kernel_rfl) (by kernel_rfl) (by kernel_rfl) (fun _ _ _ h => h) (by kernel_rfl) (by kernel_rfl) (Or.inl ⟨by kernel_rfl, ?_⟩) hq ?_
        rotate_left
        · (intro w' hw'; go_simp; (try with_reducible rfl))
        refine wpAnyT_take 12 (v := ?_) rfl (by kernel_rfl) (by kernel_rfl) (by kernel_rfl) (fun _ _ _ h => h) (by kernel_rfl) (by kernel_rfl) (Or.inl ⟨by kernel_rfl, ?_⟩) hq ?_
        rotate_left
        · (intro w' hw'; go_simp; (try with_reducible rfl))
        refine wpAnyT_take 13 (v := ?_) rfl (by kernel_rfl) (by kernel_rfl) (by kernel_rfl) (fun _ _ _ h => h) (by kernel_rfl) (by kernel_rfl) (Or.inl ⟨by kernel_rfl, ?_⟩) hq ?_
        rotate_left
        · (intro w' hw'; go_simp; (try with_reducible rfl))
        refine wpAnyT_take 14 (v := ?_) rfl (by kernel_rfl) (by kernel_rfl) (by kernel_rfl) (fun _ _ _ h => h) (by kernel_rfl) (by kernel_rfl) (Or.inl ⟨by kernel_rfl, ?_⟩) hq ?_
        rotate_left
        · (intro w' hw'; go_simp; (try with_reducible rfl))
        refine wpAnyT_take 15 (v := ?_) rfl (by kernel_rfl) (by kernel_rfl) (by kernel_rfl) (fun _ _ _ h => h) (by kernel_rfl) (by kernel_rfl) (Or.inl ⟨by kernel_rfl, ?_⟩) hq ?_
        rotate_left
        · (intro w' hw'; go_simp; (try with_reducible rfl))
        refine wpAnyT_take 16 (v := ?_) rfl (by kernel_rfl) (by kernel_rfl) (by kernel_rfl) (fun _ _ _ h => h) (by kernel_rfl) (by kernel_rfl) (Or.inl ⟨by kernel_rfl, ?_⟩) hq ?_
        rotate_left
        · (intro w' hw'; go_simp; (try with_reducible rfl))
        refine wpAnyT_take 17 (v := ?_) rfl (by kernel_rfl) (by kernel_rfl) (by kernel_rfl) (fun _ _ _ h => h) (by kernel_rfl) (by kernel_rfl) (Or.inl ⟨by kernel_rfl, ?_⟩) hq ?_
        rotate_left
        · (intro w' hw'; have e0 := M.Only.cell hw' Y0 (fun h => h); have e1 := M.Only.cell hw' Y1 (fun h => h); have e2 := M.Only.cell hw' Y2 (fun h => h); have e3 := M.Only.cell hw' Y3 (fun h => h); have e4 := M.Only.cell hw' Y4 (fun h => h); go_simp; (try with_reducible rfl))
        refine wpAnyT_two (i := 18) (j := 19) rfl rfl (by kernel_rfl) (fun K hK => ?_) (fun K hK => ?_)
        · go_simp
          refine hK.out _ _ (fun _ => Nil.trans hq (alloc0 wd _)) ?_
          clear hK K
          have q_a := Blk.new wd #[.int .i64 0, .int .i64 0, .int .i64 0, .string ⟨#[]⟩, .int .i32 0] 35
          have hoX := alloc0 wd (.cells #[.int .i64 0, .int .i64 0, .int .i64 0, .string ⟨#[]⟩, .int .i32 0] 35)
          obtain ⟨b_a, hb_a⟩ : ∃ z, wd.heap.size = z := ⟨_, rfl⟩
          have g_a : w2.heap.size ≤ b_a := by rw [← hb_a]; exact hq.size
          replace hq := Nil.trans hq hoX
          obtain ⟨w1x, hwX⟩ : ∃ z, wd.alloc (.cells #[.int .i64 0, .int .i64 0, .int .i64 0, .string ⟨#[]⟩, .int .i32 0] 35) = z := ⟨_, rfl⟩
          rw [hb_a] at q_a ⊢
          rw [hwX] at hq q_a  ⊢
          clear hwX hoX hb_a 
          refine wpAnyT_one (i := 19) rfl (by kernel_rfl) (fun K hK => ?_)
          go_simp
          refine hK.out _ _ (fun _ => Nil.trans hq (alloc0 w1x _)) ?_
          clear hK K
          have n_a0 := q_a.lt
          have q_b := Blk.new w1x #[.int .i64 0, .int .i64 0, .int .i64 0, .string ⟨#[]⟩, .int .i32 0] 35
          have hoX := alloc0 w1x (.cells #[.int .i64 0, .int .i64 0, .int .i64 0, .string ⟨#[]⟩, .int .i32 0] 35)
          replace q_a := q_a.kept hoX (fun h => h)
          obtain ⟨b_b, hb_b⟩ : ∃ z, w1x.heap.size = z := ⟨_, rfl⟩
          have g_b : w2.heap.size ≤ b_b := by rw [← hb_b]; exact hq.size
          have n_a_b : b_a ≠ b_b := by rw [← hb_b]; exact Nat.ne_of_lt n_a0
          replace hq := Nil.trans hq hoX
          obtain ⟨w2x, hwX⟩ : ∃ z, w1x.alloc (.cells #[.int .i64 0, .int .i64 0, .int .i64 0, .string ⟨#[]⟩, .int .i32 0] 35) = z := ⟨_, rfl⟩
          rw [hb_b] at q_b ⊢
          rw [hwX] at hq q_b q_a ⊢
          clear hwX hoX hb_b n_a0
          refine wpAnyT_one (i := 20) rfl (by kernel_rfl) (fun K hK => ?_)
          obtain ⟨w3x, hwX, mX, moX⟩ := put_one q_a (.int .i64 (xk : Nat)) (.int .i64 (xp : Nat)) (.int .i64 (xf : Nat)) (.string xs) (.int .i32 xn)
          obtain ⟨⟨z0, z1, z2, z3, z4⟩, zf0, zf1, zf2, zf3, zf4⟩ := q_a.five
          have fS : Only Nil w2 w3x := hq.trans moX (fun q hq2 h => by have h2 : q = b_a := h; omega)
          have k_b := q_b.kept moX (fun h => by have h2 : b_b = b_a := h; omega)
          have HS1 := Lib.hid fS
          have HM1 := Lib.hid mX
          have HKb := Lib.hid k_b
          clear q_a mX moX fS q_b k_b hq
          go_simp
          (try rw [hwX])
          refine hK.out _ _ (fun _ => HS1.out) ?_
          clear hK K z0 z1 z2 z3 z4 zf0 zf1 zf2 zf3 zf4 hwX
          have hq := HS1.out
          have q_a := HM1.out
          have q_b := HKb.out
          clear HS1 HM1 HKb
          refine wpAnyT_one (i := 21) rfl (by kernel_rfl) (fun K hK => ?_)
          obtain ⟨w4x, hwX, mX, moX⟩ := put_one q_b (.int .i64 (yk : Nat)) (.int .i64 (yp : Nat)) (.int .i64 (yf : Nat)) (.string ys) (.int .i32 yn)
          obtain ⟨⟨z0, z1, z2, z3, z4⟩, zf0, zf1, zf2, zf3, zf4⟩ := q_b.five
          have fS : Only Nil w2 w4x := hq.trans moX (fun q hq2 h => by have h2 : q = b_b := h; omega)
          have k_a := q_a.kept moX (fun h => by have h2 : b_a = b_b := h; omega)
          have HS1 := Lib.hid fS
          have HM1 := Lib.hid mX
          have HKa := Lib.hid k_a
          clear q_b mX moX fS q_a k_a hq
          go_simp
          (try rw [hwX])
          refine hK.out _ _ (fun _ => HS1.out) ?_
          clear hK K z0 z1 z2 z3 z4 zf0 zf1 zf2 zf3 zf4 hwX
          have hq := HS1.out
          have q_b := HM1.out
          have q_a := HKa.out
          clear HS1 HM1 HKa
          refine wpAnyT_done (by kernel_rfl) ?_
          have HF := Lib.hid hq
          have HNA := Lib.hid q_a
          have HNB := Lib.hid q_b
          clear q_a q_b g_a g_b hq
          go_wp2_with fail
          go_meet
          exact ⟨_, _, rfl, rfl, HNA.out, HNB.out, HF.out⟩
        · go_simp
          refine hK.out _ _ (fun _ => Nil.trans hq (alloc0 wd _)) ?_
          clear hK K
          have q_b := Blk.new wd #[.int .i64 0, .int .i64 0, .int .i64 0, .string ⟨#[]⟩, .int .i32 0] 35
          have hoX := alloc0 wd (.cells #[.int .i64 0, .int .i64 0, .int .i64 0, .string ⟨#[]⟩, .int .i32 0] 35)
          obtain ⟨b_b, hb_b⟩ : ∃ z, wd.heap.size = z := ⟨_, rfl⟩
          have g_b : w2.heap.size ≤ b_b := by rw [← hb_b]; exact hq.size
          replace hq := Nil.trans hq hoX
          obtain ⟨w1x, hwX⟩ : ∃ z, wd.alloc (.cells #[.int .i64 0, .int .i64 0, .int .i64 0, .string ⟨#[]⟩, .int .i32 0] 35) = z := ⟨_, rfl⟩
          rw [hb_b] at q_b ⊢
          rw [hwX] at hq q_b  ⊢
          clear hwX hoX hb_b 
          refine wpAnyT_one (i := 18) rfl (by kernel_rfl) (fun K hK => ?_)
          go_simp
          refine hK.out _ _ (fun _ => Nil.trans hq (alloc0 w1x _)) ?_
          clear hK K
          have n_b0 := q_b.lt
          have q_a := Blk.new w1x #[.int .i64 0, .int .i64 0, .int .i64 0, .string ⟨#[]⟩, .int .i32 0] 35
          have hoX := alloc0 w1x (.cells #[.int .i64 0, .int .i64 0, .int .i64 0, .string ⟨#[]⟩, .int .i32 0] 35)
          replace q_b := q_b.kept hoX (fun h => h)
          obtain ⟨b_a, hb_a⟩ : ∃ z, w1x.heap.size = z := ⟨_, rfl⟩
          have g_a : w2.heap.size ≤ b_a := by rw [← hb_a]; exact hq.size
          have n_b_a : b_b ≠ b_a := by rw [← hb_a]; exact Nat.ne_of_lt n_b0
          replace hq := Nil.trans hq hoX
          obtain ⟨w2x, hwX⟩ : ∃ z, w1x.alloc (.cells #[.int .i64 0, .int .i64 0, .int .i64 0, .string ⟨#[]⟩, .int .i32 0] 35) = z := ⟨_, rfl⟩
          rw [hb_a] at q_a ⊢
          rw [hwX] at hq q_a q_b ⊢
          clear hwX hoX hb_a n_b0
          refine wpAnyT_one (i := 20) rfl (by kernel_rfl) (fun K hK => ?_)
          obtain ⟨w3x, hwX, mX, moX⟩ := put_one q_a (.int .i64 (xk : Nat)) (.int .i64 (xp : Nat)) (.int .i64 (xf : Nat)) (.string xs) (.int .i32 xn)
          obtain ⟨⟨z0, z1, z2, z3, z4⟩, zf0, zf1, zf2, zf3, zf4⟩ := q_a.five
          have fS : Only Nil w2 w3x := hq.trans moX (fun q hq2 h => by have h2 : q = b_a := h; omega)
          have k_b := q_b.kept moX (fun h => by have h2 : b_b = b_a := h; omega)
          have HS1 := Lib.hid fS
          have HM1 := Lib.hid mX
          have HKb := Lib.hid k_b
          clear q_a mX moX fS q_b k_b hq
          go_simp
          (try rw [hwX])
          refine hK.out _ _ (fun _ => HS1.out) ?_
          clear hK K z0 z1 z2 z3 z4 zf0 zf1 zf2 zf3 zf4 hwX
          have hq := HS1.out
          have q_a := HM1.out
          have q_b := HKb.out
          clear HS1 HM1 HKb
          refine wpAnyT_one (i := 21) rfl (by kernel_rfl) (fun K hK => ?_)
          obtain ⟨w4x, hwX, mX, moX⟩ := put_one q_b (.int .i64 (yk : Nat)) (.int .i64 (yp : Nat)) (.int .i64 (yf : Nat)) (.string ys) (.int .i32 yn)
          obtain ⟨⟨z0, z1, z2, z3, z4⟩, zf0, zf1, zf2, zf3, zf4⟩ := q_b.five
          have fS : Only Nil w2 w4x := hq.trans moX (fun q hq2 h => by have h2 : q = b_b := h; omega)
          have k_a := q_a.kept moX (fun h => by have h2 : b_a = b_b := h; omega)
          have HS1 := Lib.hid fS
          have HM1 := Lib.hid mX
          have HKa := Lib.hid k_a
          clear q_b mX moX fS q_a k_a hq
          go_simp
          (try rw [hwX])
          refine hK.out _ _ (fun _ => HS1.out) ?_
          clear hK K z0 z1 z2 z3 z4 zf0 zf1 zf2 zf3 zf4 hwX
          have hq := HS1.out
          have q_b := HM1.out
          have q_a := HKa.out
          clear HS1 HM1 HKa
          refine wpAnyT_done (by kernel_rfl) ?_
          have HF := Lib.hid hq
          have HNA := Lib.hid q_a
          have HNB := Lib.hid q_b
          clear q_a q_b g_a g_b hq
          go_wp2_with fail
          go_meet
          exact ⟨_, _, rfl, rfl, HNA.out, HNB.out, HF.out⟩
      case rest =>
        obtain ⟨ba, bb, rfl, rfl, hA, hB, hoc⟩ := hcut
        obtain ⟨w5, hw5⟩ : ∃ z, wc = z := ⟨_, rfl⟩
        rw [hw5] at hA hB hoc ⊢
        have c1 : w5.cell? ⟨ba, 1, none⟩ = some (.int .i64 (xp : Int)) := hA.cell 1
        have c2 : w5.cell? ⟨ba, 2, none⟩ = some (.int .i64 (xf : Int)) := hA.cell 2
        have d1 : w5.cell? ⟨bb, 1, none⟩ = some (.int .i64 (yp : Int)) := hB.cell 1
        have d2 : w5.cell? ⟨bb, 2, none⟩ = some (.int .i64 (yf : Int)) := hB.cell 2
        have HOC := Lib.hid (Nil.trans HO2.out hoc)
        have bx := HBX2.out
        have bY := HBY2.out
        have hsm := HSM.out
        have x0 : (0 : Int) ≤ (xp : Int) := Int.natCast_nonneg _
        have x1 : (xp : Int) ≤ (n : Int) := by omega
        have x2 : (0 : Int) ≤ (xf : Int) := Int.natCast_nonneg _
        have x3 : (xf : Int) ≤ (n : Int) := by omega
        have y0 : (0 : Int) ≤ (yp : Int) := Int.natCast_nonneg _
        have y1 : (yp : Int) ≤ (yf : Int) := by omega
        have y2 : (yf : Int) ≤ (n : Int) := by omega
        have x4 : xp ≤ n := by omega
        have x5 : xf ≤ n := by omega
        have y3 : yp ≤ yf := bY.1
        have y4 : yf ≤ n := bY.2
        obtain ⟨SA, hSA⟩ : ∃ z, s.extract 0 xp = z := ⟨_, rfl⟩
        obtain ⟨SB, hSB⟩ : ∃ z, s.extract yp yf = z := ⟨_, rfl⟩
        obtain ⟨SC, hSC⟩ : ∃ z, s.extract xf n = z := ⟨_, rfl⟩
        obtain ⟨r1, hr1⟩ : ∃ z, yf - yp = z := ⟨_, rfl⟩
        obtain ⟨r2, hr2⟩ : ∃ z, n - xf = z := ⟨_, rfl⟩
        have zA : SA.size = xp := by rw [← hSA, cut_size _ _ _ (by omega)]; omega
        have zB : SB.size = r1 := by rw [← hSB, cut_size _ _ _ (by omega)]; omega
        have zC : SC.size = r2 := by rw [← hSC, cut_size _ _ _ (by omega)]; omega
        have z1 : (SA ++ SB).size = xp + r1 := by rw [ByteArray.size_append, zA, zB]
        have k1 : ¬ 9223372036854775807 < xp + r1 := by omega
        have k2 : ¬ 9223372036854775807 < xp + r1 + r2 := by omega
        have HZ := Lib.hid (show ((SA ++ SB) ++ SC).size ≤ 900000 by rw [ByteArray.size_append, z1, zC]; omega)
        clear hA hB hoc hw5 bx bY hsm hr1 hr2 l1 wq v1 v2 v3 u1 u2 u3 u4 u5 u6 u7 i0 i1 i2 j0 j1 j2 wa wcc X0 X1 X2 X3 X4 Y0 Y1 Y2 Y3 Y4
        go_wp2_with fail
        go_quiet (fail)
        go_wp2_with fail
        go_ret
        exact ⟨⟨_, rfl, HZ.out⟩, HOC.out.drewN _⟩
theorem turned_any (s : ByteArray) (n : Nat) (hn : s.size = n) (h1 : 1 ≤ n) (hb : n ≤ 850000) (a c h : Nat) (ha : a < 65536) (hc : c < 256) (h9 : h < 256) (w : World) :
    Calls Tryd.prog 8 #[.string s, .int .u16 (a : Int), .int .u8 (c : Int), .int .u8 (h : Int)] w (TurnPost w) := by
  rcases (by omega : h % 4 = 0 ∨ h % 4 = 1 ∨ h % 4 = 2 ∨ h % 4 = 3) with h0 | h0 | h0 | h0
  · exact turned_0 s n hn h1 hb a c h ha hc h0 h9 w
  · exact turned_1 s n hn h1 hb a c h ha hc h0 h9 w
  · exact turned_2 s n hn h1 hb a c h ha hc h0 h9 w
  · exact turned_3 s n hn h1 hb a c h ha hc h0 h9 w
end Go.Proofs.YtbpdhpfcknaaiaaDoor

/- ScanTells: any text is told as the document says: the walk. -/
set_option linter.unusedSimpArgs false
set_option linter.unusedVariables false
namespace Go.Proofs.YtbpdhpfcknaaiaaDoor
open Go.RowKit M

/-- Main of an argument. -/
theorem main_of (w0 : World) (a : Option Addr) (n cap b : Nat) (zs : List Int) (hr : InRow w0 a n cap b (zs.map (Value.int .u16))) (hf : ∀ z ∈ zs, (Lit.int .u16 z).wf = true) (hn : n ≤ 1000000) :
    ∃ s : ByteArray, s.size ≤ 545000 ∧ ∀ w, Only Nil w0 w → Calls Tryd.prog 6 #[.slice a n cap, .bool false] w fun e w' => e = .returned (.string ((mainK ++ s) ++ mainE)) ∧ Only Nil w w' := by
  have hl : zs.length = n := by have := hr.len; simpa using this
  have hb : ∀ z ∈ zs, 0 ≤ z ∧ z ≤ 65535 := fun z hz => bounds_u16 (hf z hz)
  obtain ⟨s, hs, hC⟩ := main_false (zs.map Int.toNat) (by
    intro v hv
    obtain ⟨z, hz, rfl⟩ := List.mem_map.1 hv
    have := hb z hz
    omega) (by rw [List.length_map, hl]; exact hn)
  refine ⟨s, hs, fun w ho => ?_⟩
  obtain ⟨ao, cap2, off, e1, h0, h1, hc⟩ := hr.src
  rw [List.length_map, hl] at e1 h0
  simp only [Value.slice.injEq, true_and] at e1
  obtain ⟨rfl, rfl⟩ := e1
  have h := hC w a cap b off (by rw [List.length_map, hl]; exact h0) (by
    intro j v hj
    rw [List.getElem?_map] at hj
    obtain ⟨z, hz, rfl⟩ := Option.map_eq_some_iff.1 hj
    have h2 := hc j (.int .u16 z) (by rw [List.getElem?_map, hz]; rfl)
    have h3 := hb z (List.mem_of_getElem? hz)
    rw [ho.cell h2 (fun h => h)]
    congr 2
    omega)
  rw [List.length_map, hl] at h
  exact h
theorem main_size (s : ByteArray) (h : s.size ≤ 545000) : ((mainK ++ s) ++ mainE).size ≤ 545799 ∧ 1 ≤ ((mainK ++ s) ++ mainE).size := by
  have y1 : mainK.size = 791 := by decide +kernel
  have y2 : mainE.size = 8 := by decide +kernel
  rw [ByteArray.size_append, ByteArray.size_append, y1, y2]
  omega
set_option maxRecDepth 10000 in
set_option maxHeartbeats 1600000 in
theorem tells_any (s : ByteArray) (a : Option Addr) (n cap b : Nat) (zs : List Int) (p c h : Nat) (hp : p < 65536) (hc : c < 256) (hh : h < 256) (w : World) (hA : Asc w) (hr : InRow w a n cap b (zs.map (Value.int .u16))) (hf : ∀ z ∈ zs, (Lit.int .u16 z).wf = true) :
    Calls Tryd.prog 3 #[.string s, .slice a n cap, .int .u16 (p : Int), .int .u8 (c : Int), .int .u8 (h : Int)] w fun e w' => e = .returned (.bool true) ∧ Only Nil w w' := by
  have cK := known11 w hA
  by_cases hbig : 200 < s.size ∨ 40 < n
  · obtain ⟨q, hq⟩ : ∃ q, s.size = q := ⟨_, rfl⟩
    rw [hq] at hbig
    clear hr
    by_cases h2 : 200 < q
    · have t1 : (200 : Int) < (q : Int) := by omega
      clear hbig
      go_enter Tryd.func3, Tryd.ntmps3
      go_wp2_with fail
      refine cK.mono ?_
      rintro e w1 ⟨rfl, ho1⟩
      clear cK
      go_wp2_with fail
      go_ret
      exact ⟨rfl, ho1⟩
    · have t1 : ¬ (200 : Int) < (q : Int) := by omega
      have t2 : (40 : Int) < (n : Int) := by omega
      clear hbig
      go_enter Tryd.func3, Tryd.ntmps3
      go_wp2_with fail
      refine cK.mono ?_
      rintro e w1 ⟨rfl, ho1⟩
      clear cK
      go_wp2_with fail
      go_ret
      exact ⟨rfl, ho1⟩
  · obtain ⟨q, hq⟩ : ∃ q, s.size = q := ⟨_, rfl⟩
    rw [hq] at hbig
    have t1 : ¬ (200 : Int) < (q : Int) := by omega
    have t2 : ¬ (40 : Int) < (n : Int) := by omega
    obtain ⟨S, hS, hM⟩ := main_of w a n cap b zs hr hf (by omega)
    obtain ⟨hz, hz1⟩ := main_size S hS
    obtain ⟨X, hX⟩ : ∃ X, (mainK ++ S) ++ mainE = X := ⟨_, rfl⟩
    rw [hX] at hM hz hz1
    obtain ⟨m, hm⟩ : ∃ m, X.size = m := ⟨_, rfl⟩
    rw [hm] at hz hz1
    have HS := Lib.hid (show s.size ≤ 900000 by omega)
    have HX := Lib.hid (show X.size ≤ 900000 by omega)
    have HT := Lib.hid (fun w => turned_any X m hm hz1 (by omega) p c h hp hc hh w)
    obtain ⟨i, hi⟩ : ∃ i, p % m = i := ⟨_, rfl⟩
    have him : i < m := by rw [← hi]; exact Nat.mod_lt _ (by omega)
    have u1 : ((m : Int) == 0) = false := by simp; omega
    have u2 : ¬ (m : Int) = 0 := by omega
    have u3 : ¬ m = 0 := by omega
    have u4 : ((p : Int).tmod (m : Int)) = (i : Int) := by rw [← hi]; rfl
    have u5 : ((p : Int) % (m : Int)) = (i : Int) := by rw [← hi]; rfl
    have wp1 : IntKind.i64.wrap (p : Int) = (p : Int) := by rw [IntKind.wrap]; simp [IntKind.bits, IntKind.signed]; omega
    have i0 : (0 : Int) ≤ (i : Int) := Int.natCast_nonneg _
    have i1 : (i : Int) ≤ (m : Int) := by omega
    have i2 : i ≤ m := by omega
    obtain ⟨Z, hZ⟩ : ∃ Z, X.extract 0 i = Z := ⟨_, rfl⟩
    have HZ := Lib.hid (show Z.size ≤ 900000 by rw [← hZ, cut_size _ _ _ (by omega)]; omega)
    have HA := Lib.hid hA
    have HM := Lib.hid hM
    clear hr hf hbig hS hM hz hz1 hX hi him hA hp hc hh
    go_enter Tryd.func3, Tryd.ntmps3
    go_wp2_with fail
    refine cK.mono ?_
    rintro e w1 ⟨rfl, ho1⟩
    have H1 := Lib.hid ho1
    clear cK ho1
    go_wp2_with fail
    refine (HM.out _ H1.out).mono ?_
    rintro e w2 ⟨rfl, ho2⟩
    have H2 := Lib.hid (H1.out.trans ho2 (fun _ _ h => h))
    clear ho2
    go_wp2_with fail
    refine (toldB s HS.out _ (HA.out.kept H2.out)).mono ?_
    rintro e w3 ⟨rfl, ho3⟩
    have H3 := Lib.hid (H2.out.trans ho3 (fun _ _ h => h))
    clear ho3
    go_wp2_with fail
    refine (toldB X HX.out _ (HA.out.kept H3.out)).mono ?_
    rintro e w4 ⟨rfl, ho4⟩
    have H4 := Lib.hid (H3.out.trans ho4 (fun _ _ h => h))
    clear ho4
    go_wp2_with fail
    refine (HT.out _).mono ?_
    rintro e w5 ⟨⟨T, rfl, hTs⟩, ho5⟩
    have H5 := Lib.hid (H4.out.trans ho5 (fun _ _ h => h))
    have HTS := Lib.hid hTs
    clear ho5 hTs
    go_wp2_with fail
    refine (toldB T HTS.out _ (HA.out.kept H5.out)).mono ?_
    rintro e w6 ⟨rfl, ho6⟩
    have H6 := Lib.hid (H5.out.trans ho6 (fun _ _ h => h))
    clear ho6
    go_wp2_with fail
    refine (toldB Z HZ.out _ (HA.out.kept H6.out)).mono ?_
    rintro e w7 ⟨rfl, ho7⟩
    have H7 := Lib.hid (H6.out.trans ho7 (fun _ _ h => h))
    clear ho7
    go_wp2_with fail
    go_ret
    exact ⟨rfl, H7.out⟩
end Go.Proofs.YtbpdhpfcknaaiaaDoor


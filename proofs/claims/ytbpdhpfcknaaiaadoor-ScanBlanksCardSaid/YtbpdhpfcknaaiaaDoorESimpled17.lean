/- What simple tells in its case 17. -/
import Derived.Test.YtbpdhpfcknaaiaaDoorEGen
import Derived.Test.YtbpdhpfcknaaiaaDoorGOrd
set_option linter.unusedSimpArgs false
set_option linter.unusedVariables false
namespace Go.Proofs.YtbpdhpfcknaaiaaDoor
open Go.RowKit M

set_option maxRecDepth 10000 in
set_option maxHeartbeats 16000000 in
theorem simple_17 {L : List Nat} {d i i1 R  : Nat} (hd : d ≤ 100) (hp : pickM L i 28 = (17, i1))  (hR : 4 + 4 + 8 + 1 ≤ R) : Sn 41 L d R i := by
  have y0 : (⟨#[73, 78, 67, 76]⟩ : ByteArray).size = 4 := rfl
  have y1 : (⟨#[69, 88, 67, 76]⟩ : ByteArray).size = 4 := rfl
  have y2 : (⟨#[40, 115, 44, 32]⟩ : ByteArray).size = 4 := rfl
  have y3 : (⟨#[51]⟩ : ByteArray).size = 1 := rfl
  have y4 : (⟨#[105, 32, 77, 79, 68, 32, 51, 50]⟩ : ByteArray).size = 8 := rfl
  have y5 : (⟨#[106]⟩ : ByteArray).size = 1 := rfl
  have y6 : (⟨#[41]⟩ : ByteArray).size = 1 := rfl
  obtain ⟨p1, q1, hp1⟩ : ∃ p q, pickM L i1 2 = (p, q) := ⟨_, _, rfl⟩
  have p1lt : p1 < 2 := by have h := pickM_lt L i1 (n := 2) (by decide); rw [hp1] at h; exact h
  have p1a : (0 : Int) ≤ (p1 : Int) := Int.natCast_nonneg _
  have p1b : (p1 : Int) < 2 := by omega
  obtain ⟨X1, hX1⟩ : ∃ x, ([(⟨#[73, 78, 67, 76]⟩ : ByteArray), (⟨#[69, 88, 67, 76]⟩ : ByteArray)] : List ByteArray).getD p1 ⟨#[]⟩ = x := ⟨_, rfl⟩
  have X1b : X1.size ≤ 4 := by rw [← hX1]; exact choice_le _ _ (by intro x hx; simp only [List.mem_cons, List.not_mem_nil, or_false] at hx; rcases hx with rfl | rfl <;> first | decide | (omega)) _
  have X1c : ((#[.string (⟨#[73, 78, 67, 76]⟩ : ByteArray), .string (⟨#[69, 88, 67, 76]⟩ : ByteArray)] : Array Value))[p1]? = some (.string X1) := by rw [← hX1]; exact choice_cell [(⟨#[73, 78, 67, 76]⟩ : ByteArray), (⟨#[69, 88, 67, 76]⟩ : ByteArray)] p1 p1lt
  have X1h := Lib.hid X1c
  obtain ⟨p2, q2, hp2⟩ : ∃ p q, pickM L q1 3 = (p, q) := ⟨_, _, rfl⟩
  have p2lt : p2 < 3 := by have h := pickM_lt L q1 (n := 3) (by decide); rw [hp2] at h; exact h
  have p2a : (0 : Int) ≤ (p2 : Int) := Int.natCast_nonneg _
  have p2b : (p2 : Int) < 3 := by omega
  obtain ⟨X2, hX2⟩ : ∃ x, ([(⟨#[51]⟩ : ByteArray), (⟨#[105, 32, 77, 79, 68, 32, 51, 50]⟩ : ByteArray), (⟨#[106]⟩ : ByteArray)] : List ByteArray).getD p2 ⟨#[]⟩ = x := ⟨_, rfl⟩
  have X2b : X2.size ≤ 8 := by rw [← hX2]; exact choice_le _ _ (by intro x hx; simp only [List.mem_cons, List.not_mem_nil, or_false] at hx; rcases hx with rfl | rfl | rfl <;> first | decide | (omega)) _
  have X2c : ((#[.string (⟨#[51]⟩ : ByteArray), .string (⟨#[105, 32, 77, 79, 68, 32, 51, 50]⟩ : ByteArray), .string (⟨#[106]⟩ : ByteArray)] : Array Value))[p2]? = some (.string X2) := by rw [← hX2]; exact choice_cell [(⟨#[51]⟩ : ByteArray), (⟨#[105, 32, 77, 79, 68, 32, 51, 50]⟩ : ByteArray), (⟨#[106]⟩ : ByteArray)] p2 p2lt
  have X2h := Lib.hid X2c
  have z0 : (X1 ++ (⟨#[40, 115, 44, 32]⟩ : ByteArray)).size = X1.size + 4 := by rw [ByteArray.size_append, y2]
  have kz0 : ¬ 9223372036854775807 < X1.size + 4 := by omega
  have z1 : ((X1 ++ (⟨#[40, 115, 44, 32]⟩ : ByteArray)) ++ X2).size = X1.size + 4 + X2.size := by rw [ByteArray.size_append, z0]
  have kz1 : ¬ 9223372036854775807 < X1.size + 4 + X2.size := by omega
  have z2 : (((X1 ++ (⟨#[40, 115, 44, 32]⟩ : ByteArray)) ++ X2) ++ (⟨#[41]⟩ : ByteArray)).size = X1.size + 4 + X2.size + 1 := by rw [ByteArray.size_append, z1, y6]
  have kz2 : ¬ 9223372036854775807 < X1.size + 4 + X2.size + 1 := by omega
  refine ⟨(((X1 ++ (⟨#[40, 115, 44, 32]⟩ : ByteArray)) ++ X2) ++ (⟨#[41]⟩ : ByteArray)), q2, ?pos, by rw [z2]; omega, fun w g lv hG => ?_⟩
  case pos => rw [z2]; omega
  have HG := Lib.hid hG
  clear hG hR hX1 X1b X1c hX2 X2b X2c hd
  go_enter Tryd.func41, Tryd.ntmps41
  go_wp2_with fail
  refine (pick_at HG.out hp 17 rfl (by decide) (by decide)).mono ?_
  rintro e w1 ⟨rfl, hG1, ho1⟩
  have G1 := Lib.hid hG1
  have H1 := Lib.hid ho1
  clear hG1 ho1 hp
  go_upto_region 35 with fail
  go_cut [2] (fun s wx => s = .string (((X1 ++ (⟨#[40, 115, 44, 32]⟩ : ByteArray)) ++ X2) ++ (⟨#[41]⟩ : ByteArray)) ∧ GAt wx g lv L q2 d ∧ Only (M.One g) w1 wx)
  case first =>
    have hgw := G1.out.blk.lt
    have hG := G1.out
    have hq : Only (M.One g) w1 w1.drew := (Only.refl (M.One g) w1).drew
    refine wp_region_T (fun w' => Only (M.One g) w1 w') [] (by kernel_rfl) ?_
    refine wpAnyT_sub (S' := fun w' => Only (M.One g) w1.drew w') (fun _ h => og_trans hq h) ?_
    replace hG := hG.go ((Only.refl Nil w1).drew)
    obtain ⟨wd, hwd⟩ : ∃ z, w1.drew = z := ⟨_, rfl⟩
    rw [hwd] at hq hG ⊢
    clear hwd
    refine wpAnyT_take 1 (v := ?_) rfl (by kernel_rfl) (by kernel_rfl) (by kernel_rfl) (fun _ _ _ h => h) (by kernel_rfl) (by kernel_rfl) (Or.inl ⟨by kernel_rfl, ?_⟩) (Only.refl (M.One g) _) ?_
    rotate_left
    · (intro w' hw'; go_simp; (try with_reducible rfl))
    refine wpAnyT_take 7 (v := ?_) rfl (by kernel_rfl) (by kernel_rfl) (by kernel_rfl) (fun _ _ _ h => h) (by kernel_rfl) (by kernel_rfl) (Or.inl ⟨by kernel_rfl, ?_⟩) (Only.refl (M.One g) _) ?_
    rotate_left
    · (intro w' hw'; go_simp; (try with_reducible rfl))
    refine wpAnyT_three (i := 0) (j := 2) (k := 6) rfl rfl rfl (by kernel_rfl) (fun K hK => ?_) (fun K hK => ?_) (fun K hK => ?_)
    · go_simp
      refine hK.out _ _ (fun _ => (Only.refl (M.One g) wd).alloc _) ?_
      clear hK K
      have q_0 := Blk.new wd #[.string (⟨#[73, 78, 67, 76]⟩ : ByteArray), .string (⟨#[69, 88, 67, 76]⟩ : ByteArray)] 9
      have ho1x := alloc0 wd (.cells #[.string (⟨#[73, 78, 67, 76]⟩ : ByteArray), .string (⟨#[69, 88, 67, 76]⟩ : ByteArray)] 9)
      replace hG := hG.go ho1x
      obtain ⟨b_0, hb_0⟩ : ∃ z, wd.heap.size = z := ⟨_, rfl⟩
      have ng_0 : ¬ M.One g b_0 := by
        intro h
        have h : b_0 = g := h
        have := hq.size
        omega
      obtain ⟨w1x, hw1x⟩ : ∃ z, wd.alloc (.cells #[.string (⟨#[73, 78, 67, 76]⟩ : ByteArray), .string (⟨#[69, 88, 67, 76]⟩ : ByteArray)] 9) = z := ⟨_, rfl⟩
      rw [hb_0] at q_0 ⊢
      rw [hw1x] at q_0 ho1x hG  ⊢
      clear hb_0 hw1x
      refine wpAnyT_sub (S' := fun w' => Only (M.One g) w1x w') (fun _ h => og_trans (og_nil ho1x) h) ?_
      replace hq := og_trans hq (og_nil ho1x)
      clear ho1x
      refine wpAnyT_two (i := 2) (j := 6) rfl rfl (by kernel_rfl) (fun K hK => ?_) (fun K hK => ?_)
      · go_simp
        go_wp2_with (go_at_call 20; refine (pick_at hG hp1 (p1 : Int) rfl (by decide) (by decide)).mono ?_; rintro e w2x ⟨rfl, hG2, ho2x⟩)
        refine hK.out _ _ (fun _ => ho2x) ?_
        clear hK K hG
        have hG := hG2
        clear hG2
        replace q_0 := q_0.kept ho2x ng_0
        refine wpAnyT_sub (S' := fun w' => Only (M.One g) w2x w') (fun _ h => og_trans ho2x h) ?_
        replace hq := og_trans hq ho2x
        clear ho2x
        refine wpAnyT_take 3 (v := ?_) rfl (by kernel_rfl) (by kernel_rfl) (by kernel_rfl) (fun _ _ _ h => h) (by kernel_rfl) (by kernel_rfl) (Or.inl ⟨by kernel_rfl, ?_⟩) (Only.refl (M.One g) _) ?_
        rotate_left
        · (intro w' hw'; go_simp; (try with_reducible rfl))
        refine wpAnyT_take 4 (v := ?_) rfl (by kernel_rfl) (by kernel_rfl) (by kernel_rfl) (fun _ _ _ h => h) (by kernel_rfl) (by kernel_rfl) (Or.inl ⟨by kernel_rfl, ?_⟩) (Only.refl (M.One g) _) ?_
        rotate_left
        · (intro w' hw'; have e0 := ((q_0.kept hw' ng_0).cell p1).trans X1h.out; go_simp; (try with_reducible rfl))
        refine wpAnyT_take 5 (v := ?_) rfl (by kernel_rfl) (by kernel_rfl) (by kernel_rfl) (fun _ _ _ h => h) (by kernel_rfl) (by kernel_rfl) (Or.inl ⟨by kernel_rfl, ?_⟩) (Only.refl (M.One g) _) ?_
        rotate_left
        · (intro w' hw'; go_simp; (try with_reducible rfl))
        refine wpAnyT_two (i := 6) (j := 8) rfl rfl (by kernel_rfl) (fun K hK => ?_) (fun K hK => ?_)
        · go_simp
          refine hK.out _ _ (fun _ => (Only.refl (M.One g) w2x).alloc _) ?_
          clear hK K
          have q_6 := Blk.new w2x #[.string (⟨#[51]⟩ : ByteArray), .string (⟨#[105, 32, 77, 79, 68, 32, 51, 50]⟩ : ByteArray), .string (⟨#[106]⟩ : ByteArray)] 9
          have ho3x := alloc0 w2x (.cells #[.string (⟨#[51]⟩ : ByteArray), .string (⟨#[105, 32, 77, 79, 68, 32, 51, 50]⟩ : ByteArray), .string (⟨#[106]⟩ : ByteArray)] 9)
          replace q_0 := q_0.kept ho3x (fun h => h)
          replace hG := hG.go ho3x
          obtain ⟨b_6, hb_6⟩ : ∃ z, w2x.heap.size = z := ⟨_, rfl⟩
          have ng_6 : ¬ M.One g b_6 := by
            intro h
            have h : b_6 = g := h
            have := hq.size
            omega
          obtain ⟨w3x, hw3x⟩ : ∃ z, w2x.alloc (.cells #[.string (⟨#[51]⟩ : ByteArray), .string (⟨#[105, 32, 77, 79, 68, 32, 51, 50]⟩ : ByteArray), .string (⟨#[106]⟩ : ByteArray)] 9) = z := ⟨_, rfl⟩
          rw [hb_6] at q_6 ⊢
          rw [hw3x] at q_6 ho3x hG q_0 ⊢
          clear hb_6 hw3x
          refine wpAnyT_sub (S' := fun w' => Only (M.One g) w3x w') (fun _ h => og_trans (og_nil ho3x) h) ?_
          replace hq := og_trans hq (og_nil ho3x)
          clear ho3x
          refine wpAnyT_one (i := 8) rfl (by kernel_rfl) (fun K hK => ?_)
          go_simp
          go_wp2_with (go_at_call 20; refine (pick_at hG hp2 (p2 : Int) rfl (by decide) (by decide)).mono ?_; rintro e w4x ⟨rfl, hG2, ho4x⟩)
          refine hK.out _ _ (fun _ => ho4x) ?_
          clear hK K hG
          have hG := hG2
          clear hG2
          replace q_0 := q_0.kept ho4x ng_0
          replace q_6 := q_6.kept ho4x ng_6
          refine wpAnyT_sub (S' := fun w' => Only (M.One g) w4x w') (fun _ h => og_trans ho4x h) ?_
          replace hq := og_trans hq ho4x
          clear ho4x
          refine wpAnyT_take 9 (v := ?_) rfl (by kernel_rfl) (by kernel_rfl) (by kernel_rfl) (fun _ _ _ h => h) (by kernel_rfl) (by kernel_rfl) (Or.inl ⟨by kernel_rfl, ?_⟩) (Only.refl (M.One g) _) ?_
          rotate_left
          · (intro w' hw'; go_simp; (try with_reducible rfl))
          refine wpAnyT_take 10 (v := ?_) rfl (by kernel_rfl) (by kernel_rfl) (by kernel_rfl) (fun _ _ _ h => h) (by kernel_rfl) (by kernel_rfl) (Or.inl ⟨by kernel_rfl, ?_⟩) (Only.refl (M.One g) _) ?_
          rotate_left
          · (intro w' hw'; have e0 := ((q_6.kept hw' ng_6).cell p2).trans X2h.out; go_simp; (try with_reducible rfl))
          refine wpAnyT_take 11 (v := ?_) rfl (by kernel_rfl) (by kernel_rfl) (by kernel_rfl) (fun _ _ _ h => h) (by kernel_rfl) (by kernel_rfl) (Or.inl ⟨by kernel_rfl, ?_⟩) (Only.refl (M.One g) _) ?_
          rotate_left
          · (intro w' hw'; go_simp; (try with_reducible rfl))
          refine wpAnyT_take 12 (v := ?_) rfl (by kernel_rfl) (by kernel_rfl) (by kernel_rfl) (fun _ _ _ h => h) (by kernel_rfl) (by kernel_rfl) (Or.inl ⟨by kernel_rfl, ?_⟩) (Only.refl (M.One g) _) ?_
          rotate_left
          · (intro w' hw'; go_simp; (try with_reducible rfl))
          refine wpAnyT_take 13 (v := ?_) rfl (by kernel_rfl) (by kernel_rfl) (by kernel_rfl) (fun _ _ _ h => h) (by kernel_rfl) (by kernel_rfl) (Or.inl ⟨by kernel_rfl, ?_⟩) (Only.refl (M.One g) _) ?_
          rotate_left
          · (intro w' hw'; go_simp; (try with_reducible rfl))
          refine wpAnyT_done (by kernel_rfl) ?_
          have HQ := Lib.hid hq
          have HGE := Lib.hid hG
          clear q_0 ng_0
          clear q_6 ng_6
          clear hq hG hgw
          go_wp2_with fail
          go_meet
          exact ⟨rfl, HGE.out, HQ.out⟩
        · go_simp
          go_wp2_with (go_at_call 20; refine (pick_at hG hp2 (p2 : Int) rfl (by decide) (by decide)).mono ?_; rintro e w3x ⟨rfl, hG2, ho3x⟩)
          refine hK.out _ _ (fun _ => ho3x) ?_
          clear hK K hG
          have hG := hG2
          clear hG2
          replace q_0 := q_0.kept ho3x ng_0
          refine wpAnyT_sub (S' := fun w' => Only (M.One g) w3x w') (fun _ h => og_trans ho3x h) ?_
          replace hq := og_trans hq ho3x
          clear ho3x
          refine wpAnyT_one (i := 6) rfl (by kernel_rfl) (fun K hK => ?_)
          go_simp
          refine hK.out _ _ (fun _ => (Only.refl (M.One g) w3x).alloc _) ?_
          clear hK K
          have q_6 := Blk.new w3x #[.string (⟨#[51]⟩ : ByteArray), .string (⟨#[105, 32, 77, 79, 68, 32, 51, 50]⟩ : ByteArray), .string (⟨#[106]⟩ : ByteArray)] 9
          have ho4x := alloc0 w3x (.cells #[.string (⟨#[51]⟩ : ByteArray), .string (⟨#[105, 32, 77, 79, 68, 32, 51, 50]⟩ : ByteArray), .string (⟨#[106]⟩ : ByteArray)] 9)
          replace q_0 := q_0.kept ho4x (fun h => h)
          replace hG := hG.go ho4x
          obtain ⟨b_6, hb_6⟩ : ∃ z, w3x.heap.size = z := ⟨_, rfl⟩
          have ng_6 : ¬ M.One g b_6 := by
            intro h
            have h : b_6 = g := h
            have := hq.size
            omega
          obtain ⟨w4x, hw4x⟩ : ∃ z, w3x.alloc (.cells #[.string (⟨#[51]⟩ : ByteArray), .string (⟨#[105, 32, 77, 79, 68, 32, 51, 50]⟩ : ByteArray), .string (⟨#[106]⟩ : ByteArray)] 9) = z := ⟨_, rfl⟩
          rw [hb_6] at q_6 ⊢
          rw [hw4x] at q_6 ho4x hG q_0 ⊢
          clear hb_6 hw4x
          refine wpAnyT_sub (S' := fun w' => Only (M.One g) w4x w') (fun _ h => og_trans (og_nil ho4x) h) ?_
          replace hq := og_trans hq (og_nil ho4x)
          clear ho4x
          refine wpAnyT_take 9 (v := ?_) rfl (by kernel_rfl) (by kernel_rfl) (by kernel_rfl) (fun _ _ _ h => h) (by kernel_rfl) (by kernel_rfl) (Or.inl ⟨by kernel_rfl, ?_⟩) (Only.refl (M.One g) _) ?_
          rotate_left
          · (intro w' hw'; go_simp; (try with_reducible rfl))
          refine wpAnyT_take 10 (v := ?_) rfl (by kernel_rfl) (by kernel_rfl) (by kernel_rfl) (fun _ _ _ h => h) (by kernel_rfl) (by kernel_rfl) (Or.inl ⟨by kernel_rfl, ?_⟩) (Only.refl (M.One g) _) ?_
          rotate_left
          · (intro w' hw'; have e0 := ((q_6.kept hw' ng_6).cell p2).trans X2h.out; go_simp; (try with_reducible rfl))
          refine wpAnyT_take 11 (v := ?_) rfl (by kernel_rfl) (by kernel_rfl) (by kernel_rfl) (fun _ _ _ h => h) (by kernel_rfl) (by kernel_rfl) (Or.inl ⟨by kernel_rfl, ?_⟩) (Only.refl (M.One g) _) ?_
          rotate_left
          · (intro w' hw'; go_simp; (try with_reducible rfl))
          refine wpAnyT_take 12 (v := ?_) rfl (by kernel_rfl) (by kernel_rfl) (by kernel_rfl) (fun _ _ _ h => h) (by kernel_rfl) (by kernel_rfl) (Or.inl ⟨by kernel_rfl, ?_⟩) (Only.refl (M.One g) _) ?_
          rotate_left
          · (intro w' hw'; go_simp; (try with_reducible rfl))
          refine wpAnyT_take 13 (v := ?_) rfl (by kernel_rfl) (by kernel_rfl) (by kernel_rfl) (fun _ _ _ h => h) (by kernel_rfl) (by kernel_rfl) (Or.inl ⟨by kernel_rfl, ?_⟩) (Only.refl (M.One g) _) ?_
          rotate_left
          · (intro w' hw'; go_simp; (try with_reducible rfl))
          refine wpAnyT_done (by kernel_rfl) ?_
          have HQ := Lib.hid hq
          have HGE := Lib.hid hG
          clear q_0 ng_0
          clear q_6 ng_6
          clear hq hG hgw
          go_wp2_with fail
          go_meet
          exact ⟨rfl, HGE.out, HQ.out⟩
      · go_simp
        refine hK.out _ _ (fun _ => (Only.refl (M.One g) w1x).alloc _) ?_
        clear hK K
        have q_6 := Blk.new w1x #[.string (⟨#[51]⟩ : ByteArray), .string (⟨#[105, 32, 77, 79, 68, 32, 51, 50]⟩ : ByteArray), .string (⟨#[106]⟩ : ByteArray)] 9
        have ho2x := alloc0 w1x (.cells #[.string (⟨#[51]⟩ : ByteArray), .string (⟨#[105, 32, 77, 79, 68, 32, 51, 50]⟩ : ByteArray), .string (⟨#[106]⟩ : ByteArray)] 9)
        replace q_0 := q_0.kept ho2x (fun h => h)
        replace hG := hG.go ho2x
        obtain ⟨b_6, hb_6⟩ : ∃ z, w1x.heap.size = z := ⟨_, rfl⟩
        have ng_6 : ¬ M.One g b_6 := by
          intro h
          have h : b_6 = g := h
          have := hq.size
          omega
        obtain ⟨w2x, hw2x⟩ : ∃ z, w1x.alloc (.cells #[.string (⟨#[51]⟩ : ByteArray), .string (⟨#[105, 32, 77, 79, 68, 32, 51, 50]⟩ : ByteArray), .string (⟨#[106]⟩ : ByteArray)] 9) = z := ⟨_, rfl⟩
        rw [hb_6] at q_6 ⊢
        rw [hw2x] at q_6 ho2x hG q_0 ⊢
        clear hb_6 hw2x
        refine wpAnyT_sub (S' := fun w' => Only (M.One g) w2x w') (fun _ h => og_trans (og_nil ho2x) h) ?_
        replace hq := og_trans hq (og_nil ho2x)
        clear ho2x
        refine wpAnyT_one (i := 2) rfl (by kernel_rfl) (fun K hK => ?_)
        go_simp
        go_wp2_with (go_at_call 20; refine (pick_at hG hp1 (p1 : Int) rfl (by decide) (by decide)).mono ?_; rintro e w3x ⟨rfl, hG2, ho3x⟩)
        refine hK.out _ _ (fun _ => ho3x) ?_
        clear hK K hG
        have hG := hG2
        clear hG2
        replace q_0 := q_0.kept ho3x ng_0
        replace q_6 := q_6.kept ho3x ng_6
        refine wpAnyT_sub (S' := fun w' => Only (M.One g) w3x w') (fun _ h => og_trans ho3x h) ?_
        replace hq := og_trans hq ho3x
        clear ho3x
        refine wpAnyT_take 3 (v := ?_) rfl (by kernel_rfl) (by kernel_rfl) (by kernel_rfl) (fun _ _ _ h => h) (by kernel_rfl) (by kernel_rfl) (Or.inl ⟨by kernel_rfl, ?_⟩) (Only.refl (M.One g) _) ?_
        rotate_left
        · (intro w' hw'; go_simp; (try with_reducible rfl))
        refine wpAnyT_take 4 (v := ?_) rfl (by kernel_rfl) (by kernel_rfl) (by kernel_rfl) (fun _ _ _ h => h) (by kernel_rfl) (by kernel_rfl) (Or.inl ⟨by kernel_rfl, ?_⟩) (Only.refl (M.One g) _) ?_
        rotate_left
        · (intro w' hw'; have e0 := ((q_0.kept hw' ng_0).cell p1).trans X1h.out; go_simp; (try with_reducible rfl))
        refine wpAnyT_take 5 (v := ?_) rfl (by kernel_rfl) (by kernel_rfl) (by kernel_rfl) (fun _ _ _ h => h) (by kernel_rfl) (by kernel_rfl) (Or.inl ⟨by kernel_rfl, ?_⟩) (Only.refl (M.One g) _) ?_
        rotate_left
        · (intro w' hw'; go_simp; (try with_reducible rfl))
        refine wpAnyT_one (i := 8) rfl (by kernel_rfl) (fun K hK => ?_)
        go_simp
        go_wp2_with (go_at_call 20; refine (pick_at hG hp2 (p2 : Int) rfl (by decide) (by decide)).mono ?_; rintro e w4x ⟨rfl, hG2, ho4x⟩)
        refine hK.out _ _ (fun _ => ho4x) ?_
        clear hK K hG
        have hG := hG2
        clear hG2
        replace q_0 := q_0.kept ho4x ng_0
        replace q_6 := q_6.kept ho4x ng_6
        refine wpAnyT_sub (S' := fun w' => Only (M.One g) w4x w') (fun _ h => og_trans ho4x h) ?_
        replace hq := og_trans hq ho4x
        clear ho4x
        refine wpAnyT_take 9 (v := ?_) rfl (by kernel_rfl) (by kernel_rfl) (by kernel_rfl) (fun _ _ _ h => h) (by kernel_rfl) (by kernel_rfl) (Or.inl ⟨by kernel_rfl, ?_⟩) (Only.refl (M.One g) _) ?_
        rotate_left
        · (intro w' hw'; go_simp; (try with_reducible rfl))
        refine wpAnyT_take 10 (v := ?_) rfl (by kernel_rfl) (by kernel_rfl) (by kernel_rfl) (fun _ _ _ h => h) (by kernel_rfl) (by kernel_rfl) (Or.inl ⟨by kernel_rfl, ?_⟩) (Only.refl (M.One g) _) ?_
        rotate_left
        · (intro w' hw'; have e0 := ((q_6.kept hw' ng_6).cell p2).trans X2h.out; go_simp; (try with_reducible rfl))
        refine wpAnyT_take 11 (v := ?_) rfl (by kernel_rfl) (by kernel_rfl) (by kernel_rfl) (fun _ _ _ h => h) (by kernel_rfl) (by kernel_rfl) (Or.inl ⟨by kernel_rfl, ?_⟩) (Only.refl (M.One g) _) ?_
        rotate_left
        · (intro w' hw'; go_simp; (try with_reducible rfl))
        refine wpAnyT_take 12 (v := ?_) rfl (by kernel_rfl) (by kernel_rfl) (by kernel_rfl) (fun _ _ _ h => h) (by kernel_rfl) (by kernel_rfl) (Or.inl ⟨by kernel_rfl, ?_⟩) (Only.refl (M.One g) _) ?_
        rotate_left
        · (intro w' hw'; go_simp; (try with_reducible rfl))
        refine wpAnyT_take 13 (v := ?_) rfl (by kernel_rfl) (by kernel_rfl) (by kernel_rfl) (fun _ _ _ h => h) (by kernel_rfl) (by kernel_rfl) (Or.inl ⟨by kernel_rfl, ?_⟩) (Only.refl (M.One g) _) ?_
        rotate_left
        · (intro w' hw'; go_simp; (try with_reducible rfl))
        refine wpAnyT_done (by kernel_rfl) ?_
        have HQ := Lib.hid hq
        have HGE := Lib.hid hG
        clear q_0 ng_0
        clear q_6 ng_6
        clear hq hG hgw
        go_wp2_with fail
        go_meet
        exact ⟨rfl, HGE.out, HQ.out⟩
    · go_simp
      go_wp2_with (go_at_call 20; refine (pick_at hG hp1 (p1 : Int) rfl (by decide) (by decide)).mono ?_; rintro e w1x ⟨rfl, hG2, ho1x⟩)
      refine hK.out _ _ (fun _ => ho1x) ?_
      clear hK K hG
      have hG := hG2
      clear hG2
      refine wpAnyT_sub (S' := fun w' => Only (M.One g) w1x w') (fun _ h => og_trans ho1x h) ?_
      replace hq := og_trans hq ho1x
      clear ho1x
      refine wpAnyT_three (i := 0) (j := 6) (k := 8) rfl rfl rfl (by kernel_rfl) (fun K hK => ?_) (fun K hK => ?_) (fun K hK => ?_)
      · go_simp
        refine hK.out _ _ (fun _ => (Only.refl (M.One g) w1x).alloc _) ?_
        clear hK K
        have q_0 := Blk.new w1x #[.string (⟨#[73, 78, 67, 76]⟩ : ByteArray), .string (⟨#[69, 88, 67, 76]⟩ : ByteArray)] 9
        have ho2x := alloc0 w1x (.cells #[.string (⟨#[73, 78, 67, 76]⟩ : ByteArray), .string (⟨#[69, 88, 67, 76]⟩ : ByteArray)] 9)
        replace hG := hG.go ho2x
        obtain ⟨b_0, hb_0⟩ : ∃ z, w1x.heap.size = z := ⟨_, rfl⟩
        have ng_0 : ¬ M.One g b_0 := by
          intro h
          have h : b_0 = g := h
          have := hq.size
          omega
        obtain ⟨w2x, hw2x⟩ : ∃ z, w1x.alloc (.cells #[.string (⟨#[73, 78, 67, 76]⟩ : ByteArray), .string (⟨#[69, 88, 67, 76]⟩ : ByteArray)] 9) = z := ⟨_, rfl⟩
        rw [hb_0] at q_0 ⊢
        rw [hw2x] at q_0 ho2x hG  ⊢
        clear hb_0 hw2x
        refine wpAnyT_sub (S' := fun w' => Only (M.One g) w2x w') (fun _ h => og_trans (og_nil ho2x) h) ?_
        replace hq := og_trans hq (og_nil ho2x)
        clear ho2x
        refine wpAnyT_take 3 (v := ?_) rfl (by kernel_rfl) (by kernel_rfl) (by kernel_rfl) (fun _ _ _ h => h) (by kernel_rfl) (by kernel_rfl) (Or.inl ⟨by kernel_rfl, ?_⟩) (Only.refl (M.One g) _) ?_
        rotate_left
        · (intro w' hw'; go_simp; (try with_reducible rfl))
        refine wpAnyT_take 4 (v := ?_) rfl (by kernel_rfl) (by kernel_rfl) (by kernel_rfl) (fun _ _ _ h => h) (by kernel_rfl) (by kernel_rfl) (Or.inl ⟨by kernel_rfl, ?_⟩) (Only.refl (M.One g) _) ?_
        rotate_left
        · (intro w' hw'; have e0 := ((q_0.kept hw' ng_0).cell p1).trans X1h.out; go_simp; (try with_reducible rfl))
        refine wpAnyT_take 5 (v := ?_) rfl (by kernel_rfl) (by kernel_rfl) (by kernel_rfl) (fun _ _ _ h => h) (by kernel_rfl) (by kernel_rfl) (Or.inl ⟨by kernel_rfl, ?_⟩) (Only.refl (M.One g) _) ?_
        rotate_left
        · (intro w' hw'; go_simp; (try with_reducible rfl))
        refine wpAnyT_two (i := 6) (j := 8) rfl rfl (by kernel_rfl) (fun K hK => ?_) (fun K hK => ?_)
        · go_simp
          refine hK.out _ _ (fun _ => (Only.refl (M.One g) w2x).alloc _) ?_
          clear hK K
          have q_6 := Blk.new w2x #[.string (⟨#[51]⟩ : ByteArray), .string (⟨#[105, 32, 77, 79, 68, 32, 51, 50]⟩ : ByteArray), .string (⟨#[106]⟩ : ByteArray)] 9
          have ho3x := alloc0 w2x (.cells #[.string (⟨#[51]⟩ : ByteArray), .string (⟨#[105, 32, 77, 79, 68, 32, 51, 50]⟩ : ByteArray), .string (⟨#[106]⟩ : ByteArray)] 9)
          replace q_0 := q_0.kept ho3x (fun h => h)
          replace hG := hG.go ho3x
          obtain ⟨b_6, hb_6⟩ : ∃ z, w2x.heap.size = z := ⟨_, rfl⟩
          have ng_6 : ¬ M.One g b_6 := by
            intro h
            have h : b_6 = g := h
            have := hq.size
            omega
          obtain ⟨w3x, hw3x⟩ : ∃ z, w2x.alloc (.cells #[.string (⟨#[51]⟩ : ByteArray), .string (⟨#[105, 32, 77, 79, 68, 32, 51, 50]⟩ : ByteArray), .string (⟨#[106]⟩ : ByteArray)] 9) = z := ⟨_, rfl⟩
          rw [hb_6] at q_6 ⊢
          rw [hw3x] at q_6 ho3x hG q_0 ⊢
          clear hb_6 hw3x
          refine wpAnyT_sub (S' := fun w' => Only (M.One g) w3x w') (fun _ h => og_trans (og_nil ho3x) h) ?_
          replace hq := og_trans hq (og_nil ho3x)
          clear ho3x
          refine wpAnyT_one (i := 8) rfl (by kernel_rfl) (fun K hK => ?_)
          go_simp
          go_wp2_with (go_at_call 20; refine (pick_at hG hp2 (p2 : Int) rfl (by decide) (by decide)).mono ?_; rintro e w4x ⟨rfl, hG2, ho4x⟩)
          refine hK.out _ _ (fun _ => ho4x) ?_
          clear hK K hG
          have hG := hG2
          clear hG2
          replace q_0 := q_0.kept ho4x ng_0
          replace q_6 := q_6.kept ho4x ng_6
          refine wpAnyT_sub (S' := fun w' => Only (M.One g) w4x w') (fun _ h => og_trans ho4x h) ?_
          replace hq := og_trans hq ho4x
          clear ho4x
          refine wpAnyT_take 9 (v := ?_) rfl (by kernel_rfl) (by kernel_rfl) (by kernel_rfl) (fun _ _ _ h => h) (by kernel_rfl) (by kernel_rfl) (Or.inl ⟨by kernel_rfl, ?_⟩) (Only.refl (M.One g) _) ?_
          rotate_left
          · (intro w' hw'; go_simp; (try with_reducible rfl))
          refine wpAnyT_take 10 (v := ?_) rfl (by kernel_rfl) (by kernel_rfl) (by kernel_rfl) (fun _ _ _ h => h) (by kernel_rfl) (by kernel_rfl) (Or.inl ⟨by kernel_rfl, ?_⟩) (Only.refl (M.One g) _) ?_
          rotate_left
          · (intro w' hw'; have e0 := ((q_6.kept hw' ng_6).cell p2).trans X2h.out; go_simp; (try with_reducible rfl))
          refine wpAnyT_take 11 (v := ?_) rfl (by kernel_rfl) (by kernel_rfl) (by kernel_rfl) (fun _ _ _ h => h) (by kernel_rfl) (by kernel_rfl) (Or.inl ⟨by kernel_rfl, ?_⟩) (Only.refl (M.One g) _) ?_
          rotate_left
          · (intro w' hw'; go_simp; (try with_reducible rfl))
          refine wpAnyT_take 12 (v := ?_) rfl (by kernel_rfl) (by kernel_rfl) (by kernel_rfl) (fun _ _ _ h => h) (by kernel_rfl) (by kernel_rfl) (Or.inl ⟨by kernel_rfl, ?_⟩) (Only.refl (M.One g) _) ?_
          rotate_left
          · (intro w' hw'; go_simp; (try with_reducible rfl))
          refine wpAnyT_take 13 (v := ?_) rfl (by kernel_rfl) (by kernel_rfl) (by kernel_rfl) (fun _ _ _ h => h) (by kernel_rfl) (by kernel_rfl) (Or.inl ⟨by kernel_rfl, ?_⟩) (Only.refl (M.One g) _) ?_
          rotate_left
          · (intro w' hw'; go_simp; (try with_reducible rfl))
          refine wpAnyT_done (by kernel_rfl) ?_
          have HQ := Lib.hid hq
          have HGE := Lib.hid hG
          clear q_0 ng_0
          clear q_6 ng_6
          clear hq hG hgw
          go_wp2_with fail
          go_meet
          exact ⟨rfl, HGE.out, HQ.out⟩
        · go_simp
          go_wp2_with (go_at_call 20; refine (pick_at hG hp2 (p2 : Int) rfl (by decide) (by decide)).mono ?_; rintro e w3x ⟨rfl, hG2, ho3x⟩)
          refine hK.out _ _ (fun _ => ho3x) ?_
          clear hK K hG
          have hG := hG2
          clear hG2
          replace q_0 := q_0.kept ho3x ng_0
          refine wpAnyT_sub (S' := fun w' => Only (M.One g) w3x w') (fun _ h => og_trans ho3x h) ?_
          replace hq := og_trans hq ho3x
          clear ho3x
          refine wpAnyT_one (i := 6) rfl (by kernel_rfl) (fun K hK => ?_)
          go_simp
          refine hK.out _ _ (fun _ => (Only.refl (M.One g) w3x).alloc _) ?_
          clear hK K
          have q_6 := Blk.new w3x #[.string (⟨#[51]⟩ : ByteArray), .string (⟨#[105, 32, 77, 79, 68, 32, 51, 50]⟩ : ByteArray), .string (⟨#[106]⟩ : ByteArray)] 9
          have ho4x := alloc0 w3x (.cells #[.string (⟨#[51]⟩ : ByteArray), .string (⟨#[105, 32, 77, 79, 68, 32, 51, 50]⟩ : ByteArray), .string (⟨#[106]⟩ : ByteArray)] 9)
          replace q_0 := q_0.kept ho4x (fun h => h)
          replace hG := hG.go ho4x
          obtain ⟨b_6, hb_6⟩ : ∃ z, w3x.heap.size = z := ⟨_, rfl⟩
          have ng_6 : ¬ M.One g b_6 := by
            intro h
            have h : b_6 = g := h
            have := hq.size
            omega
          obtain ⟨w4x, hw4x⟩ : ∃ z, w3x.alloc (.cells #[.string (⟨#[51]⟩ : ByteArray), .string (⟨#[105, 32, 77, 79, 68, 32, 51, 50]⟩ : ByteArray), .string (⟨#[106]⟩ : ByteArray)] 9) = z := ⟨_, rfl⟩
          rw [hb_6] at q_6 ⊢
          rw [hw4x] at q_6 ho4x hG q_0 ⊢
          clear hb_6 hw4x
          refine wpAnyT_sub (S' := fun w' => Only (M.One g) w4x w') (fun _ h => og_trans (og_nil ho4x) h) ?_
          replace hq := og_trans hq (og_nil ho4x)
          clear ho4x
          refine wpAnyT_take 9 (v := ?_) rfl (by kernel_rfl) (by kernel_rfl) (by kernel_rfl) (fun _ _ _ h => h) (by kernel_rfl) (by kernel_rfl) (Or.inl ⟨by kernel_rfl, ?_⟩) (Only.refl (M.One g) _) ?_
          rotate_left
          · (intro w' hw'; go_simp; (try with_reducible rfl))
          refine wpAnyT_take 10 (v := ?_) rfl (by kernel_rfl) (by kernel_rfl) (by kernel_rfl) (fun _ _ _ h => h) (by kernel_rfl) (by kernel_rfl) (Or.inl ⟨by kernel_rfl, ?_⟩) (Only.refl (M.One g) _) ?_
          rotate_left
          · (intro w' hw'; have e0 := ((q_6.kept hw' ng_6).cell p2).trans X2h.out; go_simp; (try with_reducible rfl))
          refine wpAnyT_take 11 (v := ?_) rfl (by kernel_rfl) (by kernel_rfl) (by kernel_rfl) (fun _ _ _ h => h) (by kernel_rfl) (by kernel_rfl) (Or.inl ⟨by kernel_rfl, ?_⟩) (Only.refl (M.One g) _) ?_
          rotate_left
          · (intro w' hw'; go_simp; (try with_reducible rfl))
          refine wpAnyT_take 12 (v := ?_) rfl (by kernel_rfl) (by kernel_rfl) (by kernel_rfl) (fun _ _ _ h => h) (by kernel_rfl) (by kernel_rfl) (Or.inl ⟨by kernel_rfl, ?_⟩) (Only.refl (M.One g) _) ?_
          rotate_left
          · (intro w' hw'; go_simp; (try with_reducible rfl))
          refine wpAnyT_take 13 (v := ?_) rfl (by kernel_rfl) (by kernel_rfl) (by kernel_rfl) (fun _ _ _ h => h) (by kernel_rfl) (by kernel_rfl) (Or.inl ⟨by kernel_rfl, ?_⟩) (Only.refl (M.One g) _) ?_
          rotate_left
          · (intro w' hw'; go_simp; (try with_reducible rfl))
          refine wpAnyT_done (by kernel_rfl) ?_
          have HQ := Lib.hid hq
          have HGE := Lib.hid hG
          clear q_0 ng_0
          clear q_6 ng_6
          clear hq hG hgw
          go_wp2_with fail
          go_meet
          exact ⟨rfl, HGE.out, HQ.out⟩
      · go_simp
        refine hK.out _ _ (fun _ => (Only.refl (M.One g) w1x).alloc _) ?_
        clear hK K
        have q_6 := Blk.new w1x #[.string (⟨#[51]⟩ : ByteArray), .string (⟨#[105, 32, 77, 79, 68, 32, 51, 50]⟩ : ByteArray), .string (⟨#[106]⟩ : ByteArray)] 9
        have ho2x := alloc0 w1x (.cells #[.string (⟨#[51]⟩ : ByteArray), .string (⟨#[105, 32, 77, 79, 68, 32, 51, 50]⟩ : ByteArray), .string (⟨#[106]⟩ : ByteArray)] 9)
        replace hG := hG.go ho2x
        obtain ⟨b_6, hb_6⟩ : ∃ z, w1x.heap.size = z := ⟨_, rfl⟩
        have ng_6 : ¬ M.One g b_6 := by
          intro h
          have h : b_6 = g := h
          have := hq.size
          omega
        obtain ⟨w2x, hw2x⟩ : ∃ z, w1x.alloc (.cells #[.string (⟨#[51]⟩ : ByteArray), .string (⟨#[105, 32, 77, 79, 68, 32, 51, 50]⟩ : ByteArray), .string (⟨#[106]⟩ : ByteArray)] 9) = z := ⟨_, rfl⟩
        rw [hb_6] at q_6 ⊢
        rw [hw2x] at q_6 ho2x hG  ⊢
        clear hb_6 hw2x
        refine wpAnyT_sub (S' := fun w' => Only (M.One g) w2x w') (fun _ h => og_trans (og_nil ho2x) h) ?_
        replace hq := og_trans hq (og_nil ho2x)
        clear ho2x
        refine wpAnyT_two (i := 0) (j := 8) rfl rfl (by kernel_rfl) (fun K hK => ?_) (fun K hK => ?_)
        · go_simp
          refine hK.out _ _ (fun _ => (Only.refl (M.One g) w2x).alloc _) ?_
          clear hK K
          have q_0 := Blk.new w2x #[.string (⟨#[73, 78, 67, 76]⟩ : ByteArray), .string (⟨#[69, 88, 67, 76]⟩ : ByteArray)] 9
          have ho3x := alloc0 w2x (.cells #[.string (⟨#[73, 78, 67, 76]⟩ : ByteArray), .string (⟨#[69, 88, 67, 76]⟩ : ByteArray)] 9)
          replace q_6 := q_6.kept ho3x (fun h => h)
          replace hG := hG.go ho3x
          obtain ⟨b_0, hb_0⟩ : ∃ z, w2x.heap.size = z := ⟨_, rfl⟩
          have ng_0 : ¬ M.One g b_0 := by
            intro h
            have h : b_0 = g := h
            have := hq.size
            omega
          obtain ⟨w3x, hw3x⟩ : ∃ z, w2x.alloc (.cells #[.string (⟨#[73, 78, 67, 76]⟩ : ByteArray), .string (⟨#[69, 88, 67, 76]⟩ : ByteArray)] 9) = z := ⟨_, rfl⟩
          rw [hb_0] at q_0 ⊢
          rw [hw3x] at q_0 ho3x hG q_6 ⊢
          clear hb_0 hw3x
          refine wpAnyT_sub (S' := fun w' => Only (M.One g) w3x w') (fun _ h => og_trans (og_nil ho3x) h) ?_
          replace hq := og_trans hq (og_nil ho3x)
          clear ho3x
          refine wpAnyT_take 3 (v := ?_) rfl (by kernel_rfl) (by kernel_rfl) (by kernel_rfl) (fun _ _ _ h => h) (by kernel_rfl) (by kernel_rfl) (Or.inl ⟨by kernel_rfl, ?_⟩) (Only.refl (M.One g) _) ?_
          rotate_left
          · (intro w' hw'; go_simp; (try with_reducible rfl))
          refine wpAnyT_take 4 (v := ?_) rfl (by kernel_rfl) (by kernel_rfl) (by kernel_rfl) (fun _ _ _ h => h) (by kernel_rfl) (by kernel_rfl) (Or.inl ⟨by kernel_rfl, ?_⟩) (Only.refl (M.One g) _) ?_
          rotate_left
          · (intro w' hw'; have e0 := ((q_0.kept hw' ng_0).cell p1).trans X1h.out; go_simp; (try with_reducible rfl))
          refine wpAnyT_take 5 (v := ?_) rfl (by kernel_rfl) (by kernel_rfl) (by kernel_rfl) (fun _ _ _ h => h) (by kernel_rfl) (by kernel_rfl) (Or.inl ⟨by kernel_rfl, ?_⟩) (Only.refl (M.One g) _) ?_
          rotate_left
          · (intro w' hw'; go_simp; (try with_reducible rfl))
          refine wpAnyT_one (i := 8) rfl (by kernel_rfl) (fun K hK => ?_)
          go_simp
          go_wp2_with (go_at_call 20; refine (pick_at hG hp2 (p2 : Int) rfl (by decide) (by decide)).mono ?_; rintro e w4x ⟨rfl, hG2, ho4x⟩)
          refine hK.out _ _ (fun _ => ho4x) ?_
          clear hK K hG
          have hG := hG2
          clear hG2
          replace q_6 := q_6.kept ho4x ng_6
          replace q_0 := q_0.kept ho4x ng_0
          refine wpAnyT_sub (S' := fun w' => Only (M.One g) w4x w') (fun _ h => og_trans ho4x h) ?_
          replace hq := og_trans hq ho4x
          clear ho4x
          refine wpAnyT_take 9 (v := ?_) rfl (by kernel_rfl) (by kernel_rfl) (by kernel_rfl) (fun _ _ _ h => h) (by kernel_rfl) (by kernel_rfl) (Or.inl ⟨by kernel_rfl, ?_⟩) (Only.refl (M.One g) _) ?_
          rotate_left
          · (intro w' hw'; go_simp; (try with_reducible rfl))
          refine wpAnyT_take 10 (v := ?_) rfl (by kernel_rfl) (by kernel_rfl) (by kernel_rfl) (fun _ _ _ h => h) (by kernel_rfl) (by kernel_rfl) (Or.inl ⟨by kernel_rfl, ?_⟩) (Only.refl (M.One g) _) ?_
          rotate_left
          · (intro w' hw'; have e0 := ((q_6.kept hw' ng_6).cell p2).trans X2h.out; go_simp; (try with_reducible rfl))
          refine wpAnyT_take 11 (v := ?_) rfl (by kernel_rfl) (by kernel_rfl) (by kernel_rfl) (fun _ _ _ h => h) (by kernel_rfl) (by kernel_rfl) (Or.inl ⟨by kernel_rfl, ?_⟩) (Only.refl (M.One g) _) ?_
          rotate_left
          · (intro w' hw'; go_simp; (try with_reducible rfl))
          refine wpAnyT_take 12 (v := ?_) rfl (by kernel_rfl) (by kernel_rfl) (by kernel_rfl) (fun _ _ _ h => h) (by kernel_rfl) (by kernel_rfl) (Or.inl ⟨by kernel_rfl, ?_⟩) (Only.refl (M.One g) _) ?_
          rotate_left
          · (intro w' hw'; go_simp; (try with_reducible rfl))
          refine wpAnyT_take 13 (v := ?_) rfl (by kernel_rfl) (by kernel_rfl) (by kernel_rfl) (fun _ _ _ h => h) (by kernel_rfl) (by kernel_rfl) (Or.inl ⟨by kernel_rfl, ?_⟩) (Only.refl (M.One g) _) ?_
          rotate_left
          · (intro w' hw'; go_simp; (try with_reducible rfl))
          refine wpAnyT_done (by kernel_rfl) ?_
          have HQ := Lib.hid hq
          have HGE := Lib.hid hG
          clear q_6 ng_6
          clear q_0 ng_0
          clear hq hG hgw
          go_wp2_with fail
          go_meet
          exact ⟨rfl, HGE.out, HQ.out⟩
        · go_simp
          go_wp2_with (go_at_call 20; refine (pick_at hG hp2 (p2 : Int) rfl (by decide) (by decide)).mono ?_; rintro e w3x ⟨rfl, hG2, ho3x⟩)
          refine hK.out _ _ (fun _ => ho3x) ?_
          clear hK K hG
          have hG := hG2
          clear hG2
          replace q_6 := q_6.kept ho3x ng_6
          refine wpAnyT_sub (S' := fun w' => Only (M.One g) w3x w') (fun _ h => og_trans ho3x h) ?_
          replace hq := og_trans hq ho3x
          clear ho3x
          refine wpAnyT_take 9 (v := ?_) rfl (by kernel_rfl) (by kernel_rfl) (by kernel_rfl) (fun _ _ _ h => h) (by kernel_rfl) (by kernel_rfl) (Or.inl ⟨by kernel_rfl, ?_⟩) (Only.refl (M.One g) _) ?_
          rotate_left
          · (intro w' hw'; go_simp; (try with_reducible rfl))
          refine wpAnyT_take 10 (v := ?_) rfl (by kernel_rfl) (by kernel_rfl) (by kernel_rfl) (fun _ _ _ h => h) (by kernel_rfl) (by kernel_rfl) (Or.inl ⟨by kernel_rfl, ?_⟩) (Only.refl (M.One g) _) ?_
          rotate_left
          · (intro w' hw'; have e0 := ((q_6.kept hw' ng_6).cell p2).trans X2h.out; go_simp; (try with_reducible rfl))
          refine wpAnyT_one (i := 0) rfl (by kernel_rfl) (fun K hK => ?_)
          go_simp
          refine hK.out _ _ (fun _ => (Only.refl (M.One g) w3x).alloc _) ?_
          clear hK K
          have q_0 := Blk.new w3x #[.string (⟨#[73, 78, 67, 76]⟩ : ByteArray), .string (⟨#[69, 88, 67, 76]⟩ : ByteArray)] 9
          have ho4x := alloc0 w3x (.cells #[.string (⟨#[73, 78, 67, 76]⟩ : ByteArray), .string (⟨#[69, 88, 67, 76]⟩ : ByteArray)] 9)
          replace q_6 := q_6.kept ho4x (fun h => h)
          replace hG := hG.go ho4x
          obtain ⟨b_0, hb_0⟩ : ∃ z, w3x.heap.size = z := ⟨_, rfl⟩
          have ng_0 : ¬ M.One g b_0 := by
            intro h
            have h : b_0 = g := h
            have := hq.size
            omega
          obtain ⟨w4x, hw4x⟩ : ∃ z, w3x.alloc (.cells #[.string (⟨#[73, 78, 67, 76]⟩ : ByteArray), .string (⟨#[69, 88, 67, 76]⟩ : ByteArray)] 9) = z := ⟨_, rfl⟩
          rw [hb_0] at q_0 ⊢
          rw [hw4x] at q_0 ho4x hG q_6 ⊢
          clear hb_0 hw4x
          refine wpAnyT_sub (S' := fun w' => Only (M.One g) w4x w') (fun _ h => og_trans (og_nil ho4x) h) ?_
          replace hq := og_trans hq (og_nil ho4x)
          clear ho4x
          refine wpAnyT_take 3 (v := ?_) rfl (by kernel_rfl) (by kernel_rfl) (by kernel_rfl) (fun _ _ _ h => h) (by kernel_rfl) (by kernel_rfl) (Or.inl ⟨by kernel_rfl, ?_⟩) (Only.refl (M.One g) _) ?_
          rotate_left
          · (intro w' hw'; go_simp; (try with_reducible rfl))
          refine wpAnyT_take 4 (v := ?_) rfl (by kernel_rfl) (by kernel_rfl) (by kernel_rfl) (fun _ _ _ h => h) (by kernel_rfl) (by kernel_rfl) (Or.inl ⟨by kernel_rfl, ?_⟩) (Only.refl (M.One g) _) ?_
          rotate_left
          · (intro w' hw'; have e0 := ((q_0.kept hw' ng_0).cell p1).trans X1h.out; go_simp; (try with_reducible rfl))
          refine wpAnyT_take 5 (v := ?_) rfl (by kernel_rfl) (by kernel_rfl) (by kernel_rfl) (fun _ _ _ h => h) (by kernel_rfl) (by kernel_rfl) (Or.inl ⟨by kernel_rfl, ?_⟩) (Only.refl (M.One g) _) ?_
          rotate_left
          · (intro w' hw'; go_simp; (try with_reducible rfl))
          refine wpAnyT_take 11 (v := ?_) rfl (by kernel_rfl) (by kernel_rfl) (by kernel_rfl) (fun _ _ _ h => h) (by kernel_rfl) (by kernel_rfl) (Or.inl ⟨by kernel_rfl, ?_⟩) (Only.refl (M.One g) _) ?_
          rotate_left
          · (intro w' hw'; go_simp; (try with_reducible rfl))
          refine wpAnyT_take 12 (v := ?_) rfl (by kernel_rfl) (by kernel_rfl) (by kernel_rfl) (fun _ _ _ h => h) (by kernel_rfl) (by kernel_rfl) (Or.inl ⟨by kernel_rfl, ?_⟩) (Only.refl (M.One g) _) ?_
          rotate_left
          · (intro w' hw'; go_simp; (try with_reducible rfl))
          refine wpAnyT_take 13 (v := ?_) rfl (by kernel_rfl) (by kernel_rfl) (by kernel_rfl) (fun _ _ _ h => h) (by kernel_rfl) (by kernel_rfl) (Or.inl ⟨by kernel_rfl, ?_⟩) (Only.refl (M.One g) _) ?_
          rotate_left
          · (intro w' hw'; go_simp; (try with_reducible rfl))
          refine wpAnyT_done (by kernel_rfl) ?_
          have HQ := Lib.hid hq
          have HGE := Lib.hid hG
          clear q_6 ng_6
          clear q_0 ng_0
          clear hq hG hgw
          go_wp2_with fail
          go_meet
          exact ⟨rfl, HGE.out, HQ.out⟩
      · go_simp
        go_wp2_with (go_at_call 20; refine (pick_at hG hp2 (p2 : Int) rfl (by decide) (by decide)).mono ?_; rintro e w2x ⟨rfl, hG2, ho2x⟩)
        refine hK.out _ _ (fun _ => ho2x) ?_
        clear hK K hG
        have hG := hG2
        clear hG2
        refine wpAnyT_sub (S' := fun w' => Only (M.One g) w2x w') (fun _ h => og_trans ho2x h) ?_
        replace hq := og_trans hq ho2x
        clear ho2x
        refine wpAnyT_two (i := 0) (j := 6) rfl rfl (by kernel_rfl) (fun K hK => ?_) (fun K hK => ?_)
        · go_simp
          refine hK.out _ _ (fun _ => (Only.refl (M.One g) w2x).alloc _) ?_
          clear hK K
          have q_0 := Blk.new w2x #[.string (⟨#[73, 78, 67, 76]⟩ : ByteArray), .string (⟨#[69, 88, 67, 76]⟩ : ByteArray)] 9
          have ho3x := alloc0 w2x (.cells #[.string (⟨#[73, 78, 67, 76]⟩ : ByteArray), .string (⟨#[69, 88, 67, 76]⟩ : ByteArray)] 9)
          replace hG := hG.go ho3x
          obtain ⟨b_0, hb_0⟩ : ∃ z, w2x.heap.size = z := ⟨_, rfl⟩
          have ng_0 : ¬ M.One g b_0 := by
            intro h
            have h : b_0 = g := h
            have := hq.size
            omega
          obtain ⟨w3x, hw3x⟩ : ∃ z, w2x.alloc (.cells #[.string (⟨#[73, 78, 67, 76]⟩ : ByteArray), .string (⟨#[69, 88, 67, 76]⟩ : ByteArray)] 9) = z := ⟨_, rfl⟩
          rw [hb_0] at q_0 ⊢
          rw [hw3x] at q_0 ho3x hG  ⊢
          clear hb_0 hw3x
          refine wpAnyT_sub (S' := fun w' => Only (M.One g) w3x w') (fun _ h => og_trans (og_nil ho3x) h) ?_
          replace hq := og_trans hq (og_nil ho3x)
          clear ho3x
          refine wpAnyT_take 3 (v := ?_) rfl (by kernel_rfl) (by kernel_rfl) (by kernel_rfl) (fun _ _ _ h => h) (by kernel_rfl) (by kernel_rfl) (Or.inl ⟨by kernel_rfl, ?_⟩) (Only.refl (M.One g) _) ?_
          rotate_left
          · (intro w' hw'; go_simp; (try with_reducible rfl))
          refine wpAnyT_take 4 (v := ?_) rfl (by kernel_rfl) (by kernel_rfl) (by kernel_rfl) (fun _ _ _ h => h) (by kernel_rfl) (by kernel_rfl) (Or.inl ⟨by kernel_rfl, ?_⟩) (Only.refl (M.One g) _) ?_
          rotate_left
          · (intro w' hw'; have e0 := ((q_0.kept hw' ng_0).cell p1).trans X1h.out; go_simp; (try with_reducible rfl))
          refine wpAnyT_take 5 (v := ?_) rfl (by kernel_rfl) (by kernel_rfl) (by kernel_rfl) (fun _ _ _ h => h) (by kernel_rfl) (by kernel_rfl) (Or.inl ⟨by kernel_rfl, ?_⟩) (Only.refl (M.One g) _) ?_
          rotate_left
          · (intro w' hw'; go_simp; (try with_reducible rfl))
          refine wpAnyT_one (i := 6) rfl (by kernel_rfl) (fun K hK => ?_)
          go_simp
          refine hK.out _ _ (fun _ => (Only.refl (M.One g) w3x).alloc _) ?_
          clear hK K
          have q_6 := Blk.new w3x #[.string (⟨#[51]⟩ : ByteArray), .string (⟨#[105, 32, 77, 79, 68, 32, 51, 50]⟩ : ByteArray), .string (⟨#[106]⟩ : ByteArray)] 9
          have ho4x := alloc0 w3x (.cells #[.string (⟨#[51]⟩ : ByteArray), .string (⟨#[105, 32, 77, 79, 68, 32, 51, 50]⟩ : ByteArray), .string (⟨#[106]⟩ : ByteArray)] 9)
          replace q_0 := q_0.kept ho4x (fun h => h)
          replace hG := hG.go ho4x
          obtain ⟨b_6, hb_6⟩ : ∃ z, w3x.heap.size = z := ⟨_, rfl⟩
          have ng_6 : ¬ M.One g b_6 := by
            intro h
            have h : b_6 = g := h
            have := hq.size
            omega
          obtain ⟨w4x, hw4x⟩ : ∃ z, w3x.alloc (.cells #[.string (⟨#[51]⟩ : ByteArray), .string (⟨#[105, 32, 77, 79, 68, 32, 51, 50]⟩ : ByteArray), .string (⟨#[106]⟩ : ByteArray)] 9) = z := ⟨_, rfl⟩
          rw [hb_6] at q_6 ⊢
          rw [hw4x] at q_6 ho4x hG q_0 ⊢
          clear hb_6 hw4x
          refine wpAnyT_sub (S' := fun w' => Only (M.One g) w4x w') (fun _ h => og_trans (og_nil ho4x) h) ?_
          replace hq := og_trans hq (og_nil ho4x)
          clear ho4x
          refine wpAnyT_take 9 (v := ?_) rfl (by kernel_rfl) (by kernel_rfl) (by kernel_rfl) (fun _ _ _ h => h) (by kernel_rfl) (by kernel_rfl) (Or.inl ⟨by kernel_rfl, ?_⟩) (Only.refl (M.One g) _) ?_
          rotate_left
          · (intro w' hw'; go_simp; (try with_reducible rfl))
          refine wpAnyT_take 10 (v := ?_) rfl (by kernel_rfl) (by kernel_rfl) (by kernel_rfl) (fun _ _ _ h => h) (by kernel_rfl) (by kernel_rfl) (Or.inl ⟨by kernel_rfl, ?_⟩) (Only.refl (M.One g) _) ?_
          rotate_left
          · (intro w' hw'; have e0 := ((q_6.kept hw' ng_6).cell p2).trans X2h.out; go_simp; (try with_reducible rfl))
          refine wpAnyT_take 11 (v := ?_) rfl (by kernel_rfl) (by kernel_rfl) (by kernel_rfl) (fun _ _ _ h => h) (by kernel_rfl) (by kernel_rfl) (Or.inl ⟨by kernel_rfl, ?_⟩) (Only.refl (M.One g) _) ?_
          rotate_left
          · (intro w' hw'; go_simp; (try with_reducible rfl))
          refine wpAnyT_take 12 (v := ?_) rfl (by kernel_rfl) (by kernel_rfl) (by kernel_rfl) (fun _ _ _ h => h) (by kernel_rfl) (by kernel_rfl) (Or.inl ⟨by kernel_rfl, ?_⟩) (Only.refl (M.One g) _) ?_
          rotate_left
          · (intro w' hw'; go_simp; (try with_reducible rfl))
          refine wpAnyT_take 13 (v := ?_) rfl (by kernel_rfl) (by kernel_rfl) (by kernel_rfl) (fun _ _ _ h => h) (by kernel_rfl) (by kernel_rfl) (Or.inl ⟨by kernel_rfl, ?_⟩) (Only.refl (M.One g) _) ?_
          rotate_left
          · (intro w' hw'; go_simp; (try with_reducible rfl))
          refine wpAnyT_done (by kernel_rfl) ?_
          have HQ := Lib.hid hq
          have HGE := Lib.hid hG
          clear q_0 ng_0
          clear q_6 ng_6
          clear hq hG hgw
          go_wp2_with fail
          go_meet
          exact ⟨rfl, HGE.out, HQ.out⟩
        · go_simp
          refine hK.out _ _ (fun _ => (Only.refl (M.One g) w2x).alloc _) ?_
          clear hK K
          have q_6 := Blk.new w2x #[.string (⟨#[51]⟩ : ByteArray), .string (⟨#[105, 32, 77, 79, 68, 32, 51, 50]⟩ : ByteArray), .string (⟨#[106]⟩ : ByteArray)] 9
          have ho3x := alloc0 w2x (.cells #[.string (⟨#[51]⟩ : ByteArray), .string (⟨#[105, 32, 77, 79, 68, 32, 51, 50]⟩ : ByteArray), .string (⟨#[106]⟩ : ByteArray)] 9)
          replace hG := hG.go ho3x
          obtain ⟨b_6, hb_6⟩ : ∃ z, w2x.heap.size = z := ⟨_, rfl⟩
          have ng_6 : ¬ M.One g b_6 := by
            intro h
            have h : b_6 = g := h
            have := hq.size
            omega
          obtain ⟨w3x, hw3x⟩ : ∃ z, w2x.alloc (.cells #[.string (⟨#[51]⟩ : ByteArray), .string (⟨#[105, 32, 77, 79, 68, 32, 51, 50]⟩ : ByteArray), .string (⟨#[106]⟩ : ByteArray)] 9) = z := ⟨_, rfl⟩
          rw [hb_6] at q_6 ⊢
          rw [hw3x] at q_6 ho3x hG  ⊢
          clear hb_6 hw3x
          refine wpAnyT_sub (S' := fun w' => Only (M.One g) w3x w') (fun _ h => og_trans (og_nil ho3x) h) ?_
          replace hq := og_trans hq (og_nil ho3x)
          clear ho3x
          refine wpAnyT_take 9 (v := ?_) rfl (by kernel_rfl) (by kernel_rfl) (by kernel_rfl) (fun _ _ _ h => h) (by kernel_rfl) (by kernel_rfl) (Or.inl ⟨by kernel_rfl, ?_⟩) (Only.refl (M.One g) _) ?_
          rotate_left
          · (intro w' hw'; go_simp; (try with_reducible rfl))
          refine wpAnyT_take 10 (v := ?_) rfl (by kernel_rfl) (by kernel_rfl) (by kernel_rfl) (fun _ _ _ h => h) (by kernel_rfl) (by kernel_rfl) (Or.inl ⟨by kernel_rfl, ?_⟩) (Only.refl (M.One g) _) ?_
          rotate_left
          · (intro w' hw'; have e0 := ((q_6.kept hw' ng_6).cell p2).trans X2h.out; go_simp; (try with_reducible rfl))
          refine wpAnyT_one (i := 0) rfl (by kernel_rfl) (fun K hK => ?_)
          go_simp
          refine hK.out _ _ (fun _ => (Only.refl (M.One g) w3x).alloc _) ?_
          clear hK K
          have q_0 := Blk.new w3x #[.string (⟨#[73, 78, 67, 76]⟩ : ByteArray), .string (⟨#[69, 88, 67, 76]⟩ : ByteArray)] 9
          have ho4x := alloc0 w3x (.cells #[.string (⟨#[73, 78, 67, 76]⟩ : ByteArray), .string (⟨#[69, 88, 67, 76]⟩ : ByteArray)] 9)
          replace q_6 := q_6.kept ho4x (fun h => h)
          replace hG := hG.go ho4x
          obtain ⟨b_0, hb_0⟩ : ∃ z, w3x.heap.size = z := ⟨_, rfl⟩
          have ng_0 : ¬ M.One g b_0 := by
            intro h
            have h : b_0 = g := h
            have := hq.size
            omega
          obtain ⟨w4x, hw4x⟩ : ∃ z, w3x.alloc (.cells #[.string (⟨#[73, 78, 67, 76]⟩ : ByteArray), .string (⟨#[69, 88, 67, 76]⟩ : ByteArray)] 9) = z := ⟨_, rfl⟩
          rw [hb_0] at q_0 ⊢
          rw [hw4x] at q_0 ho4x hG q_6 ⊢
          clear hb_0 hw4x
          refine wpAnyT_sub (S' := fun w' => Only (M.One g) w4x w') (fun _ h => og_trans (og_nil ho4x) h) ?_
          replace hq := og_trans hq (og_nil ho4x)
          clear ho4x
          refine wpAnyT_take 3 (v := ?_) rfl (by kernel_rfl) (by kernel_rfl) (by kernel_rfl) (fun _ _ _ h => h) (by kernel_rfl) (by kernel_rfl) (Or.inl ⟨by kernel_rfl, ?_⟩) (Only.refl (M.One g) _) ?_
          rotate_left
          · (intro w' hw'; go_simp; (try with_reducible rfl))
          refine wpAnyT_take 4 (v := ?_) rfl (by kernel_rfl) (by kernel_rfl) (by kernel_rfl) (fun _ _ _ h => h) (by kernel_rfl) (by kernel_rfl) (Or.inl ⟨by kernel_rfl, ?_⟩) (Only.refl (M.One g) _) ?_
          rotate_left
          · (intro w' hw'; have e0 := ((q_0.kept hw' ng_0).cell p1).trans X1h.out; go_simp; (try with_reducible rfl))
          refine wpAnyT_take 5 (v := ?_) rfl (by kernel_rfl) (by kernel_rfl) (by kernel_rfl) (fun _ _ _ h => h) (by kernel_rfl) (by kernel_rfl) (Or.inl ⟨by kernel_rfl, ?_⟩) (Only.refl (M.One g) _) ?_
          rotate_left
          · (intro w' hw'; go_simp; (try with_reducible rfl))
          refine wpAnyT_take 11 (v := ?_) rfl (by kernel_rfl) (by kernel_rfl) (by kernel_rfl) (fun _ _ _ h => h) (by kernel_rfl) (by kernel_rfl) (Or.inl ⟨by kernel_rfl, ?_⟩) (Only.refl (M.One g) _) ?_
          rotate_left
          · (intro w' hw'; go_simp; (try with_reducible rfl))
          refine wpAnyT_take 12 (v := ?_) rfl (by kernel_rfl) (by kernel_rfl) (by kernel_rfl) (fun _ _ _ h => h) (by kernel_rfl) (by kernel_rfl) (Or.inl ⟨by kernel_rfl, ?_⟩) (Only.refl (M.One g) _) ?_
          rotate_left
          · (intro w' hw'; go_simp; (try with_reducible rfl))
          refine wpAnyT_take 13 (v := ?_) rfl (by kernel_rfl) (by kernel_rfl) (by kernel_rfl) (fun _ _ _ h => h) (by kernel_rfl) (by kernel_rfl) (Or.inl ⟨by kernel_rfl, ?_⟩) (Only.refl (M.One g) _) ?_
          rotate_left
          · (intro w' hw'; go_simp; (try with_reducible rfl))
          refine wpAnyT_done (by kernel_rfl) ?_
          have HQ := Lib.hid hq
          have HGE := Lib.hid hG
          clear q_6 ng_6
          clear q_0 ng_0
          clear hq hG hgw
          go_wp2_with fail
          go_meet
          exact ⟨rfl, HGE.out, HQ.out⟩
    · go_simp
      refine hK.out _ _ (fun _ => (Only.refl (M.One g) wd).alloc _) ?_
      clear hK K
      have q_6 := Blk.new wd #[.string (⟨#[51]⟩ : ByteArray), .string (⟨#[105, 32, 77, 79, 68, 32, 51, 50]⟩ : ByteArray), .string (⟨#[106]⟩ : ByteArray)] 9
      have ho1x := alloc0 wd (.cells #[.string (⟨#[51]⟩ : ByteArray), .string (⟨#[105, 32, 77, 79, 68, 32, 51, 50]⟩ : ByteArray), .string (⟨#[106]⟩ : ByteArray)] 9)
      replace hG := hG.go ho1x
      obtain ⟨b_6, hb_6⟩ : ∃ z, wd.heap.size = z := ⟨_, rfl⟩
      have ng_6 : ¬ M.One g b_6 := by
        intro h
        have h : b_6 = g := h
        have := hq.size
        omega
      obtain ⟨w1x, hw1x⟩ : ∃ z, wd.alloc (.cells #[.string (⟨#[51]⟩ : ByteArray), .string (⟨#[105, 32, 77, 79, 68, 32, 51, 50]⟩ : ByteArray), .string (⟨#[106]⟩ : ByteArray)] 9) = z := ⟨_, rfl⟩
      rw [hb_6] at q_6 ⊢
      rw [hw1x] at q_6 ho1x hG  ⊢
      clear hb_6 hw1x
      refine wpAnyT_sub (S' := fun w' => Only (M.One g) w1x w') (fun _ h => og_trans (og_nil ho1x) h) ?_
      replace hq := og_trans hq (og_nil ho1x)
      clear ho1x
      refine wpAnyT_two (i := 0) (j := 2) rfl rfl (by kernel_rfl) (fun K hK => ?_) (fun K hK => ?_)
      · go_simp
        refine hK.out _ _ (fun _ => (Only.refl (M.One g) w1x).alloc _) ?_
        clear hK K
        have q_0 := Blk.new w1x #[.string (⟨#[73, 78, 67, 76]⟩ : ByteArray), .string (⟨#[69, 88, 67, 76]⟩ : ByteArray)] 9
        have ho2x := alloc0 w1x (.cells #[.string (⟨#[73, 78, 67, 76]⟩ : ByteArray), .string (⟨#[69, 88, 67, 76]⟩ : ByteArray)] 9)
        replace q_6 := q_6.kept ho2x (fun h => h)
        replace hG := hG.go ho2x
        obtain ⟨b_0, hb_0⟩ : ∃ z, w1x.heap.size = z := ⟨_, rfl⟩
        have ng_0 : ¬ M.One g b_0 := by
          intro h
          have h : b_0 = g := h
          have := hq.size
          omega
        obtain ⟨w2x, hw2x⟩ : ∃ z, w1x.alloc (.cells #[.string (⟨#[73, 78, 67, 76]⟩ : ByteArray), .string (⟨#[69, 88, 67, 76]⟩ : ByteArray)] 9) = z := ⟨_, rfl⟩
        rw [hb_0] at q_0 ⊢
        rw [hw2x] at q_0 ho2x hG q_6 ⊢
        clear hb_0 hw2x
        refine wpAnyT_sub (S' := fun w' => Only (M.One g) w2x w') (fun _ h => og_trans (og_nil ho2x) h) ?_
        replace hq := og_trans hq (og_nil ho2x)
        clear ho2x
        refine wpAnyT_one (i := 2) rfl (by kernel_rfl) (fun K hK => ?_)
        go_simp
        go_wp2_with (go_at_call 20; refine (pick_at hG hp1 (p1 : Int) rfl (by decide) (by decide)).mono ?_; rintro e w3x ⟨rfl, hG2, ho3x⟩)
        refine hK.out _ _ (fun _ => ho3x) ?_
        clear hK K hG
        have hG := hG2
        clear hG2
        replace q_6 := q_6.kept ho3x ng_6
        replace q_0 := q_0.kept ho3x ng_0
        refine wpAnyT_sub (S' := fun w' => Only (M.One g) w3x w') (fun _ h => og_trans ho3x h) ?_
        replace hq := og_trans hq ho3x
        clear ho3x
        refine wpAnyT_take 3 (v := ?_) rfl (by kernel_rfl) (by kernel_rfl) (by kernel_rfl) (fun _ _ _ h => h) (by kernel_rfl) (by kernel_rfl) (Or.inl ⟨by kernel_rfl, ?_⟩) (Only.refl (M.One g) _) ?_
        rotate_left
        · (intro w' hw'; go_simp; (try with_reducible rfl))
        refine wpAnyT_take 4 (v := ?_) rfl (by kernel_rfl) (by kernel_rfl) (by kernel_rfl) (fun _ _ _ h => h) (by kernel_rfl) (by kernel_rfl) (Or.inl ⟨by kernel_rfl, ?_⟩) (Only.refl (M.One g) _) ?_
        rotate_left
        · (intro w' hw'; have e0 := ((q_0.kept hw' ng_0).cell p1).trans X1h.out; go_simp; (try with_reducible rfl))
        refine wpAnyT_take 5 (v := ?_) rfl (by kernel_rfl) (by kernel_rfl) (by kernel_rfl) (fun _ _ _ h => h) (by kernel_rfl) (by kernel_rfl) (Or.inl ⟨by kernel_rfl, ?_⟩) (Only.refl (M.One g) _) ?_
        rotate_left
        · (intro w' hw'; go_simp; (try with_reducible rfl))
        refine wpAnyT_one (i := 8) rfl (by kernel_rfl) (fun K hK => ?_)
        go_simp
        go_wp2_with (go_at_call 20; refine (pick_at hG hp2 (p2 : Int) rfl (by decide) (by decide)).mono ?_; rintro e w4x ⟨rfl, hG2, ho4x⟩)
        refine hK.out _ _ (fun _ => ho4x) ?_
        clear hK K hG
        have hG := hG2
        clear hG2
        replace q_6 := q_6.kept ho4x ng_6
        replace q_0 := q_0.kept ho4x ng_0
        refine wpAnyT_sub (S' := fun w' => Only (M.One g) w4x w') (fun _ h => og_trans ho4x h) ?_
        replace hq := og_trans hq ho4x
        clear ho4x
        refine wpAnyT_take 9 (v := ?_) rfl (by kernel_rfl) (by kernel_rfl) (by kernel_rfl) (fun _ _ _ h => h) (by kernel_rfl) (by kernel_rfl) (Or.inl ⟨by kernel_rfl, ?_⟩) (Only.refl (M.One g) _) ?_
        rotate_left
        · (intro w' hw'; go_simp; (try with_reducible rfl))
        refine wpAnyT_take 10 (v := ?_) rfl (by kernel_rfl) (by kernel_rfl) (by kernel_rfl) (fun _ _ _ h => h) (by kernel_rfl) (by kernel_rfl) (Or.inl ⟨by kernel_rfl, ?_⟩) (Only.refl (M.One g) _) ?_
        rotate_left
        · (intro w' hw'; have e0 := ((q_6.kept hw' ng_6).cell p2).trans X2h.out; go_simp; (try with_reducible rfl))
        refine wpAnyT_take 11 (v := ?_) rfl (by kernel_rfl) (by kernel_rfl) (by kernel_rfl) (fun _ _ _ h => h) (by kernel_rfl) (by kernel_rfl) (Or.inl ⟨by kernel_rfl, ?_⟩) (Only.refl (M.One g) _) ?_
        rotate_left
        · (intro w' hw'; go_simp; (try with_reducible rfl))
        refine wpAnyT_take 12 (v := ?_) rfl (by kernel_rfl) (by kernel_rfl) (by kernel_rfl) (fun _ _ _ h => h) (by kernel_rfl) (by kernel_rfl) (Or.inl ⟨by kernel_rfl, ?_⟩) (Only.refl (M.One g) _) ?_
        rotate_left
        · (intro w' hw'; go_simp; (try with_reducible rfl))
        refine wpAnyT_take 13 (v := ?_) rfl (by kernel_rfl) (by kernel_rfl) (by kernel_rfl) (fun _ _ _ h => h) (by kernel_rfl) (by kernel_rfl) (Or.inl ⟨by kernel_rfl, ?_⟩) (Only.refl (M.One g) _) ?_
        rotate_left
        · (intro w' hw'; go_simp; (try with_reducible rfl))
        refine wpAnyT_done (by kernel_rfl) ?_
        have HQ := Lib.hid hq
        have HGE := Lib.hid hG
        clear q_6 ng_6
        clear q_0 ng_0
        clear hq hG hgw
        go_wp2_with fail
        go_meet
        exact ⟨rfl, HGE.out, HQ.out⟩
      · go_simp
        go_wp2_with (go_at_call 20; refine (pick_at hG hp1 (p1 : Int) rfl (by decide) (by decide)).mono ?_; rintro e w2x ⟨rfl, hG2, ho2x⟩)
        refine hK.out _ _ (fun _ => ho2x) ?_
        clear hK K hG
        have hG := hG2
        clear hG2
        replace q_6 := q_6.kept ho2x ng_6
        refine wpAnyT_sub (S' := fun w' => Only (M.One g) w2x w') (fun _ h => og_trans ho2x h) ?_
        replace hq := og_trans hq ho2x
        clear ho2x
        refine wpAnyT_two (i := 0) (j := 8) rfl rfl (by kernel_rfl) (fun K hK => ?_) (fun K hK => ?_)
        · go_simp
          refine hK.out _ _ (fun _ => (Only.refl (M.One g) w2x).alloc _) ?_
          clear hK K
          have q_0 := Blk.new w2x #[.string (⟨#[73, 78, 67, 76]⟩ : ByteArray), .string (⟨#[69, 88, 67, 76]⟩ : ByteArray)] 9
          have ho3x := alloc0 w2x (.cells #[.string (⟨#[73, 78, 67, 76]⟩ : ByteArray), .string (⟨#[69, 88, 67, 76]⟩ : ByteArray)] 9)
          replace q_6 := q_6.kept ho3x (fun h => h)
          replace hG := hG.go ho3x
          obtain ⟨b_0, hb_0⟩ : ∃ z, w2x.heap.size = z := ⟨_, rfl⟩
          have ng_0 : ¬ M.One g b_0 := by
            intro h
            have h : b_0 = g := h
            have := hq.size
            omega
          obtain ⟨w3x, hw3x⟩ : ∃ z, w2x.alloc (.cells #[.string (⟨#[73, 78, 67, 76]⟩ : ByteArray), .string (⟨#[69, 88, 67, 76]⟩ : ByteArray)] 9) = z := ⟨_, rfl⟩
          rw [hb_0] at q_0 ⊢
          rw [hw3x] at q_0 ho3x hG q_6 ⊢
          clear hb_0 hw3x
          refine wpAnyT_sub (S' := fun w' => Only (M.One g) w3x w') (fun _ h => og_trans (og_nil ho3x) h) ?_
          replace hq := og_trans hq (og_nil ho3x)
          clear ho3x
          refine wpAnyT_take 3 (v := ?_) rfl (by kernel_rfl) (by kernel_rfl) (by kernel_rfl) (fun _ _ _ h => h) (by kernel_rfl) (by kernel_rfl) (Or.inl ⟨by kernel_rfl, ?_⟩) (Only.refl (M.One g) _) ?_
          rotate_left
          · (intro w' hw'; go_simp; (try with_reducible rfl))
          refine wpAnyT_take 4 (v := ?_) rfl (by kernel_rfl) (by kernel_rfl) (by kernel_rfl) (fun _ _ _ h => h) (by kernel_rfl) (by kernel_rfl) (Or.inl ⟨by kernel_rfl, ?_⟩) (Only.refl (M.One g) _) ?_
          rotate_left
          · (intro w' hw'; have e0 := ((q_0.kept hw' ng_0).cell p1).trans X1h.out; go_simp; (try with_reducible rfl))
          refine wpAnyT_take 5 (v := ?_) rfl (by kernel_rfl) (by kernel_rfl) (by kernel_rfl) (fun _ _ _ h => h) (by kernel_rfl) (by kernel_rfl) (Or.inl ⟨by kernel_rfl, ?_⟩) (Only.refl (M.One g) _) ?_
          rotate_left
          · (intro w' hw'; go_simp; (try with_reducible rfl))
          refine wpAnyT_one (i := 8) rfl (by kernel_rfl) (fun K hK => ?_)
          go_simp
          go_wp2_with (go_at_call 20; refine (pick_at hG hp2 (p2 : Int) rfl (by decide) (by decide)).mono ?_; rintro e w4x ⟨rfl, hG2, ho4x⟩)
          refine hK.out _ _ (fun _ => ho4x) ?_
          clear hK K hG
          have hG := hG2
          clear hG2
          replace q_6 := q_6.kept ho4x ng_6
          replace q_0 := q_0.kept ho4x ng_0
          refine wpAnyT_sub (S' := fun w' => Only (M.One g) w4x w') (fun _ h => og_trans ho4x h) ?_
          replace hq := og_trans hq ho4x
          clear ho4x
          refine wpAnyT_take 9 (v := ?_) rfl (by kernel_rfl) (by kernel_rfl) (by kernel_rfl) (fun _ _ _ h => h) (by kernel_rfl) (by kernel_rfl) (Or.inl ⟨by kernel_rfl, ?_⟩) (Only.refl (M.One g) _) ?_
          rotate_left
          · (intro w' hw'; go_simp; (try with_reducible rfl))
          refine wpAnyT_take 10 (v := ?_) rfl (by kernel_rfl) (by kernel_rfl) (by kernel_rfl) (fun _ _ _ h => h) (by kernel_rfl) (by kernel_rfl) (Or.inl ⟨by kernel_rfl, ?_⟩) (Only.refl (M.One g) _) ?_
          rotate_left
          · (intro w' hw'; have e0 := ((q_6.kept hw' ng_6).cell p2).trans X2h.out; go_simp; (try with_reducible rfl))
          refine wpAnyT_take 11 (v := ?_) rfl (by kernel_rfl) (by kernel_rfl) (by kernel_rfl) (fun _ _ _ h => h) (by kernel_rfl) (by kernel_rfl) (Or.inl ⟨by kernel_rfl, ?_⟩) (Only.refl (M.One g) _) ?_
          rotate_left
          · (intro w' hw'; go_simp; (try with_reducible rfl))
          refine wpAnyT_take 12 (v := ?_) rfl (by kernel_rfl) (by kernel_rfl) (by kernel_rfl) (fun _ _ _ h => h) (by kernel_rfl) (by kernel_rfl) (Or.inl ⟨by kernel_rfl, ?_⟩) (Only.refl (M.One g) _) ?_
          rotate_left
          · (intro w' hw'; go_simp; (try with_reducible rfl))
          refine wpAnyT_take 13 (v := ?_) rfl (by kernel_rfl) (by kernel_rfl) (by kernel_rfl) (fun _ _ _ h => h) (by kernel_rfl) (by kernel_rfl) (Or.inl ⟨by kernel_rfl, ?_⟩) (Only.refl (M.One g) _) ?_
          rotate_left
          · (intro w' hw'; go_simp; (try with_reducible rfl))
          refine wpAnyT_done (by kernel_rfl) ?_
          have HQ := Lib.hid hq
          have HGE := Lib.hid hG
          clear q_6 ng_6
          clear q_0 ng_0
          clear hq hG hgw
          go_wp2_with fail
          go_meet
          exact ⟨rfl, HGE.out, HQ.out⟩
        · go_simp
          go_wp2_with (go_at_call 20; refine (pick_at hG hp2 (p2 : Int) rfl (by decide) (by decide)).mono ?_; rintro e w3x ⟨rfl, hG2, ho3x⟩)
          refine hK.out _ _ (fun _ => ho3x) ?_
          clear hK K hG
          have hG := hG2
          clear hG2
          replace q_6 := q_6.kept ho3x ng_6
          refine wpAnyT_sub (S' := fun w' => Only (M.One g) w3x w') (fun _ h => og_trans ho3x h) ?_
          replace hq := og_trans hq ho3x
          clear ho3x
          refine wpAnyT_take 9 (v := ?_) rfl (by kernel_rfl) (by kernel_rfl) (by kernel_rfl) (fun _ _ _ h => h) (by kernel_rfl) (by kernel_rfl) (Or.inl ⟨by kernel_rfl, ?_⟩) (Only.refl (M.One g) _) ?_
          rotate_left
          · (intro w' hw'; go_simp; (try with_reducible rfl))
          refine wpAnyT_take 10 (v := ?_) rfl (by kernel_rfl) (by kernel_rfl) (by kernel_rfl) (fun _ _ _ h => h) (by kernel_rfl) (by kernel_rfl) (Or.inl ⟨by kernel_rfl, ?_⟩) (Only.refl (M.One g) _) ?_
          rotate_left
          · (intro w' hw'; have e0 := ((q_6.kept hw' ng_6).cell p2).trans X2h.out; go_simp; (try with_reducible rfl))
          refine wpAnyT_one (i := 0) rfl (by kernel_rfl) (fun K hK => ?_)
          go_simp
          refine hK.out _ _ (fun _ => (Only.refl (M.One g) w3x).alloc _) ?_
          clear hK K
          have q_0 := Blk.new w3x #[.string (⟨#[73, 78, 67, 76]⟩ : ByteArray), .string (⟨#[69, 88, 67, 76]⟩ : ByteArray)] 9
          have ho4x := alloc0 w3x (.cells #[.string (⟨#[73, 78, 67, 76]⟩ : ByteArray), .string (⟨#[69, 88, 67, 76]⟩ : ByteArray)] 9)
          replace q_6 := q_6.kept ho4x (fun h => h)
          replace hG := hG.go ho4x
          obtain ⟨b_0, hb_0⟩ : ∃ z, w3x.heap.size = z := ⟨_, rfl⟩
          have ng_0 : ¬ M.One g b_0 := by
            intro h
            have h : b_0 = g := h
            have := hq.size
            omega
          obtain ⟨w4x, hw4x⟩ : ∃ z, w3x.alloc (.cells #[.string (⟨#[73, 78, 67, 76]⟩ : ByteArray), .string (⟨#[69, 88, 67, 76]⟩ : ByteArray)] 9) = z := ⟨_, rfl⟩
          rw [hb_0] at q_0 ⊢
          rw [hw4x] at q_0 ho4x hG q_6 ⊢
          clear hb_0 hw4x
          refine wpAnyT_sub (S' := fun w' => Only (M.One g) w4x w') (fun _ h => og_trans (og_nil ho4x) h) ?_
          replace hq := og_trans hq (og_nil ho4x)
          clear ho4x
          refine wpAnyT_take 3 (v := ?_) rfl (by kernel_rfl) (by kernel_rfl) (by kernel_rfl) (fun _ _ _ h => h) (by kernel_rfl) (by kernel_rfl) (Or.inl ⟨by kernel_rfl, ?_⟩) (Only.refl (M.One g) _) ?_
          rotate_left
          · (intro w' hw'; go_simp; (try with_reducible rfl))
          refine wpAnyT_take 4 (v := ?_) rfl (by kernel_rfl) (by kernel_rfl) (by kernel_rfl) (fun _ _ _ h => h) (by kernel_rfl) (by kernel_rfl) (Or.inl ⟨by kernel_rfl, ?_⟩) (Only.refl (M.One g) _) ?_
          rotate_left
          · (intro w' hw'; have e0 := ((q_0.kept hw' ng_0).cell p1).trans X1h.out; go_simp; (try with_reducible rfl))
          refine wpAnyT_take 5 (v := ?_) rfl (by kernel_rfl) (by kernel_rfl) (by kernel_rfl) (fun _ _ _ h => h) (by kernel_rfl) (by kernel_rfl) (Or.inl ⟨by kernel_rfl, ?_⟩) (Only.refl (M.One g) _) ?_
          rotate_left
          · (intro w' hw'; go_simp; (try with_reducible rfl))
          refine wpAnyT_take 11 (v := ?_) rfl (by kernel_rfl) (by kernel_rfl) (by kernel_rfl) (fun _ _ _ h => h) (by kernel_rfl) (by kernel_rfl) (Or.inl ⟨by kernel_rfl, ?_⟩) (Only.refl (M.One g) _) ?_
          rotate_left
          · (intro w' hw'; go_simp; (try with_reducible rfl))
          refine wpAnyT_take 12 (v := ?_) rfl (by kernel_rfl) (by kernel_rfl) (by kernel_rfl) (fun _ _ _ h => h) (by kernel_rfl) (by kernel_rfl) (Or.inl ⟨by kernel_rfl, ?_⟩) (Only.refl (M.One g) _) ?_
          rotate_left
          · (intro w' hw'; go_simp; (try with_reducible rfl))
          refine wpAnyT_take 13 (v := ?_) rfl (by kernel_rfl) (by kernel_rfl) (by kernel_rfl) (fun _ _ _ h => h) (by kernel_rfl) (by kernel_rfl) (Or.inl ⟨by kernel_rfl, ?_⟩) (Only.refl (M.One g) _) ?_
          rotate_left
          · (intro w' hw'; go_simp; (try with_reducible rfl))
          refine wpAnyT_done (by kernel_rfl) ?_
          have HQ := Lib.hid hq
          have HGE := Lib.hid hG
          clear q_6 ng_6
          clear q_0 ng_0
          clear hq hG hgw
          go_wp2_with fail
          go_meet
          exact ⟨rfl, HGE.out, HQ.out⟩
  case rest =>
    obtain ⟨rfl, hG2, ho2⟩ := hcut
    obtain ⟨w2, hw9⟩ : ∃ z, wc = z := ⟨_, rfl⟩
    rw [hw9] at hG2 ho2 ⊢
    have G2 := Lib.hid hG2
    have H2 := Lib.hid (og_trans H1.out ho2)
    clear hw9 hG2 ho2
    go_wp2_with fail
    go_ret
    exact ⟨rfl, G2.out, H2.out⟩
end Go.Proofs.YtbpdhpfcknaaiaaDoor

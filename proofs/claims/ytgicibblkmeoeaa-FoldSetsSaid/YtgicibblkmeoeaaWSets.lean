/- FoldSets: which sets elements and spans are. -/
import Derived.Test.YtgicibblkmeoeaaProg
import Derived.Test.YtgicibblkmeoeaaWRows
import Derived.Test.YtgicibblkmeoeaaGWait2
import Derived.Test.YtgicibblkmeoeaaGArgs
import Derived.Deep.Cut
import Derived.Deep.CutBlock
set_option linter.unusedSimpArgs false
set_option linter.unusedVariables false
namespace Go.Proofs.Ytgicibblkmeoeaa
open Go.RowKit M


theorem sets_n {i j : Nat} (h : i + 1 = j) : (i : Int) + 1 = (j : Int) := by omega
theorem sets_w {i j : Nat} (h : i + 1 = j) (hi : i ≤ 21) : wrap64 (j : Int) = (j : Int) := by unfold wrap64; omega
theorem sets_2 {i : Nat} (hi : i ≤ 21) : Value.int .i64 (wrap64 ((i : Int) + 2)) = .int .i64 ((i + 2 : Nat) : Int) := by
  have e : wrap64 ((i : Int) + 2) = ((i + 2 : Nat) : Int) := by unfold wrap64; omega
  rw [e]
theorem sets_k {i j : Nat} (h : i + 1 = j) (hi : i ≤ 21) : IntKind.i64.wrap (j : Int) = (j : Int) := by rw [IntKind.wrap_i64]; omega

set_option maxRecDepth 10000 in
set_option maxHeartbeats 16000000 in
theorem sets_any (a0 : Option Addr) (n0 cap0 mb0 : Nat) (zs0 : List Int) (a1 : Option Addr) (n1 cap1 mb1 : Nat) (zs1 : List Bool) (w : World) (h1 : InRow w a0 n0 cap0 mb0 (zs0.map (Value.int .i32))) (hz : ∀ z ∈ zs0, (Lit.int .i32 z).wf = true) (h2 : InRow w a1 n1 cap1 mb1 (zs1.map Value.bool)) :
    Calls Try.prog 5 #[.slice a0 n0 cap0, .slice a1 n1 cap1] w fun e w' => e = .returned (.bool true) ∧ Only Nil w w' := by
  obtain ⟨i0, z0, hi, hz0, hz1, hz2, hz3⟩ := infoEx_parts
  have CK := fun w => known13_any w
  have CB := fun w => basicR_any 4 w
  obtain ⟨l1, ⟨x1, k1, off0, s1, p1, _, H0⟩, _, _, _, _⟩ := h1
  obtain ⟨l2, ⟨x2, k2, off1, s2, p2, _, H1⟩, _, _, _, _⟩ := h2
  have P1 := Lib.hid p1
  have P2 := Lib.hid p2
  have HH0 := Lib.hid H0
  have HH1 := Lib.hid H1
  have L1 := Lib.hid l1
  have L2 := Lib.hid l2
  have HZ := Lib.hid hz
  simp only [Value.slice.injEq] at s1 s2
  have E1 := Lib.hid s1.1
  have E2 := Lib.hid s2.1
  clear p1 p2 H0 H1 l1 l2 hz s1 s2
  by_cases g20 : (20 : Int) < (n0 : Int)
  · go_enter Try.func5, Try.ntmps5
    go_wp2_with fail
    refine (CK _).mono ?_
    rintro e w3 ⟨rfl, ho3⟩
    have HO3 := Lib.hid ho3
    clear CK CB ho3
    go_wp2_with fail
    go_ret
    exact ⟨rfl, HO3.out⟩
  · have g21 : decide ((20 : Int) < (n0 : Int)) = false := by simp; omega
    have g22 : (n0 : Int) ≤ 20 := by omega
    by_cases gl : (n1 : Int) < (n0 : Int)
    · clear g20
      go_enter Try.func5, Try.ntmps5
      go_wp2_with fail
      refine (CK _).mono ?_
      rintro e w3 ⟨rfl, ho3⟩
      have HO3 := Lib.hid ho3
      clear CK CB ho3
      go_wp2_with fail
      go_ret
      exact ⟨rfl, HO3.out⟩
    · have gl2 : decide ((n1 : Int) < (n0 : Int)) = false := by simp; omega
      have gl3 : (n0 : Int) ≤ (n1 : Int) := by omega
      have HN20 : Hid (n0 ≤ 20) := Lib.hid (by omega)
      have HNN : Hid (n0 ≤ n1) := Lib.hid (by omega)
      clear g20 gl
      go_enter Try.func5, Try.ntmps5
      go_wp2_with fail
      refine (CK _).mono ?_
      rintro e w3 ⟨rfl, ho3⟩
      go_wp2_with fail
      refine (CB _).mono ?_
      rintro e w4 ⟨rfl, ho4⟩
      have HO4 := Lib.hid (Nil.trans ho3 ho4)
      clear CK CB ho3 ho4 g21 g22 gl2 gl3
      go_wp2_with fail
      have hE0 := (Blk.new w4 #[.int .i64 24, .int .i64 4, .int .i64 0, .string ⟨#[]⟩, .slice none 0 0, .int .i32 0, .string ⟨#[]⟩, .slice none 0 0] 27).alloc (.cells #[.int .i64 24, .int .i64 4, .int .i64 0, .string ⟨#[]⟩, .slice none 0 0, .int .i32 0, .string ⟨#[]⟩, .slice none 0 0] 27)
      have hR0 := Blk.new (w4.alloc (.cells #[.int .i64 24, .int .i64 4, .int .i64 0, .string ⟨#[]⟩, .slice none 0 0, .int .i32 0, .string ⟨#[]⟩, .slice none 0 0] 27)) #[.int .i64 24, .int .i64 4, .int .i64 0, .string ⟨#[]⟩, .slice none 0 0, .int .i32 0, .string ⟨#[]⟩, .slice none 0 0] 27
      rw [show (w4.alloc (.cells #[.int .i64 24, .int .i64 4, .int .i64 0, .string ⟨#[]⟩, .slice none 0 0, .int .i32 0, .string ⟨#[]⟩, .slice none 0 0] 27)).heap.size = w4.heap.size + 1 by simp] at hR0
      obtain ⟨eb, heb⟩ : ∃ y, w4.heap.size = y := ⟨_, rfl⟩
      have HEB : Hid (w.heap.size ≤ eb) := Lib.hid (by rw [← heb]; exact HO4.out.size)
      have HSZ5 : Hid (eb + 2 ≤ ((w4.alloc (.cells #[.int .i64 24, .int .i64 4, .int .i64 0, .string ⟨#[]⟩, .slice none 0 0, .int .i32 0, .string ⟨#[]⟩, .slice none 0 0] 27)).alloc (.cells #[.int .i64 24, .int .i64 4, .int .i64 0, .string ⟨#[]⟩, .slice none 0 0, .int .i32 0, .string ⟨#[]⟩, .slice none 0 0] 27)).heap.size) := Lib.hid (by simp [heb])
      have HO5 : Hid (Only Nil w ((w4.alloc (.cells #[.int .i64 24, .int .i64 4, .int .i64 0, .string ⟨#[]⟩, .slice none 0 0, .int .i32 0, .string ⟨#[]⟩, .slice none 0 0] 27)).alloc (.cells #[.int .i64 24, .int .i64 4, .int .i64 0, .string ⟨#[]⟩, .slice none 0 0, .int .i32 0, .string ⟨#[]⟩, .slice none 0 0] 27))) := Lib.hid ((HO4.out.alloc _).alloc _)
      rw [heb] at hE0 hR0 ⊢
      clear heb
      have HE0 := Lib.hid hE0
      have HR0 := Lib.hid hR0
      clear hE0 hR0 HO4
      go_loopg [7] 22 (fun g v wr => ∃ (i : Nat) (vE vR : Value) (P Q : List (Ex × Value)), v = .int .i64 (i : Int) ∧ i ≤ 21 ∧ g = 22 - i ∧ Only Nil w wr ∧ eb + 2 ≤ wr.heap.size ∧ Blk wr eb #[.int .i64 24, .int .i64 4, .int .i64 0, .string ⟨#[]⟩, .slice none 0 0, .int .i32 0, .string ⟨#[]⟩, vE] 27 ∧ Blk wr (eb + 1) #[.int .i64 24, .int .i64 4, .int .i64 0, .string ⟨#[]⟩, .slice none 0 0, .int .i32 0, .string ⟨#[]⟩, vR] 27 ∧ P.length ≤ i ∧ Q.length ≤ i ∧ PRow (eb + 2) wr vE vR P ∧ PRow (eb + 2) wr vR vE Q)
      case atStart => exact ⟨0, _, _, [], [], rfl, by omega, rfl, HO5.out, HSZ5.out, HE0.out, HR0.out, Nat.le_refl _, Nat.le_refl _, PRow.nil _ _ _, PRow.nil _ _ _⟩
      case round =>
        obtain ⟨i, vE, vR, P, Q, rfl, hi21, hg, ho, hsz, hE, hR, hP, hQ, hPE, hPR⟩ := hrel
        have HG := Lib.hid hg
        have HO := Lib.hid ho
        have HSZ := Lib.hid hsz
        have HE := Lib.hid hE
        have HR := Lib.hid hR
        have HP := Lib.hid hP
        have HQ := Lib.hid hQ
        have HPE := Lib.hid hPE
        have HPR := Lib.hid hPR
        have HI := Lib.hid hi21
        have f0 : (0 : Int) ≤ (i : Int) := Int.natCast_nonneg _
        obtain ⟨j, hj⟩ : ∃ j : Nat, i + 1 = j := ⟨_, rfl⟩
        have HJ := Lib.hid hj
        clear hg ho hsz hE hR hP hQ hPE hPR hi21 hj
        by_cases hkn : (j : Int) < (n0 : Int)
        · obtain ⟨x, hx⟩ : ∃ x, zs0[i]? = some x := ⟨_, List.getElem?_eq_getElem (by have h1 := L1.out; rw [List.length_map] at h1; have h2 := HJ.out; omega)⟩
          obtain ⟨y, hy⟩ : ∃ y, zs0[j]? = some y := ⟨_, List.getElem?_eq_getElem (by have h1 := L1.out; rw [List.length_map] at h1; omega)⟩
          obtain ⟨bbv, hbb⟩ : ∃ b, zs1[i]? = some b := ⟨_, List.getElem?_eq_getElem (by have h1 := L2.out; rw [List.length_map] at h1; have h2 := HJ.out; have h3 := HNN.out; omega)⟩
          have ea0 : a0 = some ⟨mb0, off0, none⟩ := E1.out.trans (P1.out (by rw [L1.out]; omega))
          have ea1 : a1 = some ⟨mb1, off1, none⟩ := E2.out.trans (P2.out (by rw [L2.out]; have := HNN.out; omega))
          subst ea0
          subst ea1
          have kj1 : (i : Int) < (n0 : Int) := by have := HJ.out; omega
          have kj2 : (i : Int) < (n1 : Int) := by have := HNN.out; have := HJ.out; omega
          have j0 : (0 : Int) ≤ (j : Int) := Int.natCast_nonneg _
          have cl0 := HO.out.cell (HH0.out i _ (by rw [List.getElem?_map, hx]; rfl)) (fun h => h)
          have cl1 := HO.out.cell (HH0.out j _ (by rw [List.getElem?_map, hy]; rfl)) (fun h => h)
          have cl2 := HO.out.cell (HH1.out i _ (by rw [List.getElem?_map, hbb]; rfl)) (fun h => h)
          have bx := bounds_i32 (HZ.out x (List.mem_of_getElem? hx))
          have by' := bounds_i32 (HZ.out y (List.mem_of_getElem? hy))
          have m1 := and_mask x 5 bx (by decide)
          have m2 := and_mask y 5 by' (by decide)
          have hu1 : I32 ((U x % 2 ^ 5 : Nat) : Int) := by unfold I32; omega
          have hu2 : I32 ((U y % 2 ^ 5 : Nat) : Int) := by unfold I32; omega
          obtain ⟨u, hu⟩ : ∃ u : Int, ((U x % 2 ^ 5 : Nat) : Int) = u := ⟨_, rfl⟩
          obtain ⟨v, hv⟩ : ∃ v : Int, ((U y % 2 ^ 5 : Nat) : Int) = v := ⟨_, rfl⟩
          rw [hu] at m1 hu1
          rw [hv] at m2 hu2
          have m1' : bits BinOp.and IntKind.i32 x 31 = u := m1
          have m2' : bits BinOp.and IntKind.i32 y 31 = v := m2
          have HX := Lib.hid bx
          have HY := Lib.hid by'
          have HU := Lib.hid hu1
          have HV := Lib.hid hu2
          clear hx hy hbb bx by' m1 m2 hu1 hu2 hu hv
          have e1 : (i : Int) + 1 = (j : Int) := sets_n HJ.out
          have e2 : wrap64 (j : Int) = (j : Int) := sets_w HJ.out HI.out
          have e3 : IntKind.i64.wrap (j : Int) = (j : Int) := sets_k HJ.out HI.out
          go_wp2_with fail
          obtain ⟨wq, hwq⟩ : ∃ z, wr = z := ⟨_, rfl⟩
          rw [hwq] at cl0 cl1 cl2 HO HSZ HE HR HPE HPR ⊢
          go_cut [8, 9] (fun s8 s9 wx => ∃ (ab bb : Nat), s8 = .pointer (some ⟨ab, 0, none⟩) ∧ s9 = .pointer (some ⟨bb, 0, none⟩) ∧ Only Nil wq wx ∧ wq.heap.size ≤ ab ∧ wq.heap.size ≤ bb ∧ Blk wx ab #[.int .i64 0, .int .i64 1, .int .i64 0, .string ⟨#[]⟩, .slice none 0 0, .int .i32 u, .string ⟨#[]⟩, .slice none 0 0] 27 ∧ Blk wx bb #[.int .i64 0, .int .i64 1, .int .i64 0, .string ⟨#[]⟩, .slice none 0 0, .int .i32 v, .string ⟨#[]⟩, .slice none 0 0] 27)
          case first =>
            have hS : Only Nil wq wq.drew := (Only.refl Nil wq).drew
            have hge : wq.heap.size ≤ wq.drew.heap.size := Nat.le_refl _
            refine wp_region_T (fun w' => Only Nil wq w') [] (by kernel_rfl) ?_
            obtain ⟨w0, hw0⟩ : ∃ z, wq.drew = z := ⟨_, rfl⟩
            rw [hw0] at hS hge ⊢
            clear hw0
            refine wpAnyT_take 0 (v := ?_) rfl (by kernel_rfl) (by kernel_rfl) (by kernel_rfl) (fun _ _ _ h => h) (by kernel_rfl) (by kernel_rfl) (Or.inl ⟨by kernel_rfl, ?_⟩) hS ?_
            rotate_left
            · (intro w' hw'; have c0' := M.Only.cell hw' cl0 (fun h => h); have c1' := M.Only.cell hw' cl1 (fun h => h); go_simp; (try with_reducible rfl))
            refine wpAnyT_take 1 (v := ?_) rfl (by kernel_rfl) (by kernel_rfl) (by kernel_rfl) (fun _ _ _ h => h) (by kernel_rfl) (by kernel_rfl) (Or.inl ⟨by kernel_rfl, ?_⟩) hS ?_
            rotate_left
            · (intro w' hw'; have c0' := M.Only.cell hw' cl0 (fun h => h); have c1' := M.Only.cell hw' cl1 (fun h => h); go_simp; (try with_reducible rfl))
            refine wpAnyT_take 2 (v := ?_) rfl (by kernel_rfl) (by kernel_rfl) (by kernel_rfl) (fun _ _ _ h => h) (by kernel_rfl) (by kernel_rfl) (Or.inl ⟨by kernel_rfl, ?_⟩) hS ?_
            rotate_left
            · (intro w' hw'; have c0' := M.Only.cell hw' cl0 (fun h => h); have c1' := M.Only.cell hw' cl1 (fun h => h); go_simp; (try with_reducible rfl))
            refine wpAnyT_take 3 (v := ?_) rfl (by kernel_rfl) (by kernel_rfl) (by kernel_rfl) (fun _ _ _ h => h) (by kernel_rfl) (by kernel_rfl) (Or.inl ⟨by kernel_rfl, ?_⟩) hS ?_
            rotate_left
            · (intro w' hw'; have c0' := M.Only.cell hw' cl0 (fun h => h); have c1' := M.Only.cell hw' cl1 (fun h => h); go_simp; (try with_reducible rfl))
            refine wpAnyT_take 4 (v := ?_) rfl (by kernel_rfl) (by kernel_rfl) (by kernel_rfl) (fun _ _ _ h => h) (by kernel_rfl) (by kernel_rfl) (Or.inl ⟨by kernel_rfl, ?_⟩) hS ?_
            rotate_left
            · (intro w' hw'; have c0' := M.Only.cell hw' cl0 (fun h => h); have c1' := M.Only.cell hw' cl1 (fun h => h); go_simp; (try with_reducible rfl))
            refine wpAnyT_take 6 (v := ?_) rfl (by kernel_rfl) (by kernel_rfl) (by kernel_rfl) (fun _ _ _ h => h) (by kernel_rfl) (by kernel_rfl) (Or.inl ⟨by kernel_rfl, ?_⟩) hS ?_
            rotate_left
            · (intro w' hw'; have c0' := M.Only.cell hw' cl0 (fun h => h); have c1' := M.Only.cell hw' cl1 (fun h => h); go_simp; (try with_reducible rfl))
            refine wpAnyT_take 7 (v := ?_) rfl (by kernel_rfl) (by kernel_rfl) (by kernel_rfl) (fun _ _ _ h => h) (by kernel_rfl) (by kernel_rfl) (Or.inl ⟨by kernel_rfl, ?_⟩) hS ?_
            rotate_left
            · (intro w' hw'; have c0' := M.Only.cell hw' cl0 (fun h => h); have c1' := M.Only.cell hw' cl1 (fun h => h); go_simp; (try with_reducible rfl))
            refine wpAnyT_take 8 (v := ?_) rfl (by kernel_rfl) (by kernel_rfl) (by kernel_rfl) (fun _ _ _ h => h) (by kernel_rfl) (by kernel_rfl) (Or.inl ⟨by kernel_rfl, ?_⟩) hS ?_
            rotate_left
            · (intro w' hw'; have c0' := M.Only.cell hw' cl0 (fun h => h); have c1' := M.Only.cell hw' cl1 (fun h => h); go_simp; (try with_reducible rfl))
            refine wpAnyT_take 9 (v := ?_) rfl (by kernel_rfl) (by kernel_rfl) (by kernel_rfl) (fun _ _ _ h => h) (by kernel_rfl) (by kernel_rfl) (Or.inl ⟨by kernel_rfl, ?_⟩) hS ?_
            rotate_left
            · (intro w' hw'; have c0' := M.Only.cell hw' cl0 (fun h => h); have c1' := M.Only.cell hw' cl1 (fun h => h); go_simp; (try with_reducible rfl))
            refine wpAnyT_take 10 (v := ?_) rfl (by kernel_rfl) (by kernel_rfl) (by kernel_rfl) (fun _ _ _ h => h) (by kernel_rfl) (by kernel_rfl) (Or.inl ⟨by kernel_rfl, ?_⟩) hS ?_
            rotate_left
            · (intro w' hw'; have c0' := M.Only.cell hw' cl0 (fun h => h); have c1' := M.Only.cell hw' cl1 (fun h => h); go_simp; (try with_reducible rfl))
            refine wpAnyT_take 11 (v := ?_) rfl (by kernel_rfl) (by kernel_rfl) (by kernel_rfl) (fun _ _ _ h => h) (by kernel_rfl) (by kernel_rfl) (Or.inl ⟨by kernel_rfl, ?_⟩) hS ?_
            rotate_left
            · (intro w' hw'; have c0' := M.Only.cell hw' cl0 (fun h => h); have c1' := M.Only.cell hw' cl1 (fun h => h); go_simp; (try with_reducible rfl))
            refine wpAnyT_three (i := 5) (j := 13) (k := 14) rfl rfl rfl (by kernel_rfl) (fun K hK => ?_) (fun K hK => ?_) (fun K hK => ?_)
            · go_simp
              go_wp2_with (go_at_call 11; refine (numP_any 1 u _).mono ?_; rintro e w1 ⟨rfl, ho1⟩; have hS1 := Nil.trans hS ho1)
              refine hK.out _ _ (fun _ => hS1) ?_
              clear hK K
              replace hge := Nat.le_trans hge ho1.size
              replace hS := hS1
              clear ho1 hS1
              refine wpAnyT_three (i := 12) (j := 13) (k := 14) rfl rfl rfl (by kernel_rfl) (fun K hK => ?_) (fun K hK => ?_) (fun K hK => ?_)
              · go_simp
                go_wp2_with (go_at_call 11; refine (numP_any 1 v _).mono ?_; rintro e w2 ⟨rfl, ho2⟩; have hS2 := Nil.trans hS ho2)
                refine hK.out _ _ (fun _ => hS2) ?_
                clear hK K
                replace hge := Nat.le_trans hge ho2.size
                replace hS := hS2
                clear ho2 hS2
                refine wpAnyT_two (i := 13) (j := 14) rfl rfl (by kernel_rfl) (fun K hK => ?_) (fun K hK => ?_)
                · go_simp
                  refine hK.out _ _ (fun _ => hS.alloc _) ?_
                  clear hK K
                  have qa := Blk.new w2 #[.int .i64 0, .int .i64 0, .int .i64 0, .string ⟨#[]⟩, .slice none 0 0, .int .i32 0, .string ⟨#[]⟩, .slice none 0 0] 27
                  have hS3 := hS.alloc (.cells #[.int .i64 0, .int .i64 0, .int .i64 0, .string ⟨#[]⟩, .slice none 0 0, .int .i32 0, .string ⟨#[]⟩, .slice none 0 0] 27)
                  have hz3 : w2.heap.size ≤ (w2.alloc (.cells #[.int .i64 0, .int .i64 0, .int .i64 0, .string ⟨#[]⟩, .slice none 0 0, .int .i32 0, .string ⟨#[]⟩, .slice none 0 0] 27)).heap.size := (alloc_nil _ _).size
                  obtain ⟨ab, hab⟩ : ∃ z, w2.heap.size = z := ⟨_, rfl⟩
                  have ga : wq.heap.size ≤ ab := by rw [← hab]; exact hge
                  obtain ⟨w3, hw3⟩ : ∃ z, w2.alloc (.cells #[.int .i64 0, .int .i64 0, .int .i64 0, .string ⟨#[]⟩, .slice none 0 0, .int .i32 0, .string ⟨#[]⟩, .slice none 0 0] 27) = z := ⟨_, rfl⟩
                  rw [hab] at qa ⊢
                  rw [hw3] at qa hS3 hz3 ⊢
                  clear hab hw3
                  replace hge := Nat.le_trans hge hz3
                  replace hS := hS3
                  clear hS3 hz3
                  refine wpAnyT_one (i := 14) rfl (by kernel_rfl) (fun K hK => ?_)
                  go_simp
                  refine hK.out _ _ (fun _ => hS.alloc _) ?_
                  clear hK K
                  have qb := Blk.new w3 #[.int .i64 0, .int .i64 0, .int .i64 0, .string ⟨#[]⟩, .slice none 0 0, .int .i32 0, .string ⟨#[]⟩, .slice none 0 0] 27
                  have hS4 := hS.alloc (.cells #[.int .i64 0, .int .i64 0, .int .i64 0, .string ⟨#[]⟩, .slice none 0 0, .int .i32 0, .string ⟨#[]⟩, .slice none 0 0] 27)
                  have hz4 : w3.heap.size ≤ (w3.alloc (.cells #[.int .i64 0, .int .i64 0, .int .i64 0, .string ⟨#[]⟩, .slice none 0 0, .int .i32 0, .string ⟨#[]⟩, .slice none 0 0] 27)).heap.size := (alloc_nil _ _).size
                  have hne0 := qa.lt
                  replace qa := qa.alloc (.cells #[.int .i64 0, .int .i64 0, .int .i64 0, .string ⟨#[]⟩, .slice none 0 0, .int .i32 0, .string ⟨#[]⟩, .slice none 0 0] 27)
                  obtain ⟨bb, hbb⟩ : ∃ z, w3.heap.size = z := ⟨_, rfl⟩
                  have gb : wq.heap.size ≤ bb := by rw [← hbb]; exact hge
                  have hne : ab ≠ bb := by rw [← hbb]; exact Nat.ne_of_lt hne0
                  clear hne0
                  obtain ⟨w4, hw4⟩ : ∃ z, w3.alloc (.cells #[.int .i64 0, .int .i64 0, .int .i64 0, .string ⟨#[]⟩, .slice none 0 0, .int .i32 0, .string ⟨#[]⟩, .slice none 0 0] 27) = z := ⟨_, rfl⟩
                  rw [hbb] at qb ⊢
                  rw [hw4] at qb hS4 hz4 qa ⊢
                  clear hbb hw4
                  replace hge := Nat.le_trans hge hz4
                  replace hS := hS4
                  clear hS4 hz4
                  obtain ⟨⟨z0, z1, z2, z3, z4, z5, z6, z7⟩, zf0, zf1, zf2, zf3, zf4, zf5, zf6, zf7⟩ := qa.Eights
                  refine wpAnyT_one (i := 15) rfl (by kernel_rfl) (fun K hK => ?_)
                  go_simp
                  refine hK.out _ _ (fun _ => hS.putEight (fun h => absurd h (Nat.not_lt_of_le ga)) _ _ _ _ _ _ _ _) ?_
                  clear hK K z0 z1 z2 z3 z4 z5 z6 z7 zf0 zf1 zf2 zf3 zf4 zf5 zf6 zf7
                  have hS' := hS.putEight (b := ab) (fun h => absurd h (Nat.not_lt_of_le ga)) (.int .i64 0) (.int .i64 1) (.int .i64 0) (.string ⟨#[]⟩) (.slice none 0 0) (.int .i32 u) (.string ⟨#[]⟩) (.slice none 0 0)
                  have qa' := qa.putEight (.int .i64 0) (.int .i64 1) (.int .i64 0) (.string ⟨#[]⟩) (.slice none 0 0) (.int .i32 u) (.string ⟨#[]⟩) (.slice none 0 0)
                  have qb' := qb.otherEight hne.symm (.int .i64 0) (.int .i64 1) (.int .i64 0) (.string ⟨#[]⟩) (.slice none 0 0) (.int .i32 u) (.string ⟨#[]⟩) (.slice none 0 0)
                  obtain ⟨wn, hwn⟩ : ∃ z, ((((((((w4.setCell ⟨ab, 0, none⟩ (.int .i64 0)).setCell ⟨ab, 1, none⟩ (.int .i64 1)).setCell ⟨ab, 2, none⟩ (.int .i64 0)).setCell ⟨ab, 3, none⟩ (.string ⟨#[]⟩)).setCell ⟨ab, 4, none⟩ (.slice none 0 0)).setCell ⟨ab, 5, none⟩ (.int .i32 u)).setCell ⟨ab, 6, none⟩ (.string ⟨#[]⟩)).setCell ⟨ab, 7, none⟩ (.slice none 0 0)) = z := ⟨_, rfl⟩
                  rw [hwn] at hS' qa' qb' ⊢
                  clear hwn hS qa qb
                  have hS := hS'
                  have qa := qa'
                  have qb := qb'
                  clear hS' qa' qb'
                  obtain ⟨⟨z0, z1, z2, z3, z4, z5, z6, z7⟩, zf0, zf1, zf2, zf3, zf4, zf5, zf6, zf7⟩ := qb.Eights
                  refine wpAnyT_one (i := 16) rfl (by kernel_rfl) (fun K hK => ?_)
                  go_simp
                  refine hK.out _ _ (fun _ => hS.putEight (fun h => absurd h (Nat.not_lt_of_le gb)) _ _ _ _ _ _ _ _) ?_
                  clear hK K z0 z1 z2 z3 z4 z5 z6 z7 zf0 zf1 zf2 zf3 zf4 zf5 zf6 zf7
                  have hS' := hS.putEight (b := bb) (fun h => absurd h (Nat.not_lt_of_le gb)) (.int .i64 0) (.int .i64 1) (.int .i64 0) (.string ⟨#[]⟩) (.slice none 0 0) (.int .i32 v) (.string ⟨#[]⟩) (.slice none 0 0)
                  have qb' := qb.putEight (.int .i64 0) (.int .i64 1) (.int .i64 0) (.string ⟨#[]⟩) (.slice none 0 0) (.int .i32 v) (.string ⟨#[]⟩) (.slice none 0 0)
                  have qa' := qa.otherEight hne (.int .i64 0) (.int .i64 1) (.int .i64 0) (.string ⟨#[]⟩) (.slice none 0 0) (.int .i32 v) (.string ⟨#[]⟩) (.slice none 0 0)
                  obtain ⟨wn, hwn⟩ : ∃ z, ((((((((wn.setCell ⟨bb, 0, none⟩ (.int .i64 0)).setCell ⟨bb, 1, none⟩ (.int .i64 1)).setCell ⟨bb, 2, none⟩ (.int .i64 0)).setCell ⟨bb, 3, none⟩ (.string ⟨#[]⟩)).setCell ⟨bb, 4, none⟩ (.slice none 0 0)).setCell ⟨bb, 5, none⟩ (.int .i32 v)).setCell ⟨bb, 6, none⟩ (.string ⟨#[]⟩)).setCell ⟨bb, 7, none⟩ (.slice none 0 0)) = z := ⟨_, rfl⟩
                  rw [hwn] at hS' qb' qa' ⊢
                  clear hwn hS qb qa
                  have hS := hS'
                  have qb := qb'
                  have qa := qa'
                  clear hS' qb' qa'
                  refine wpAnyT_done (by kernel_rfl) ?_
                  go_wp2_with fail
                  go_meet
                  exact ⟨ab, bb, rfl, rfl, hS, ga, gb, qa, qb⟩
                · go_simp
                  refine hK.out _ _ (fun _ => hS.alloc _) ?_
                  clear hK K
                  have qb := Blk.new w2 #[.int .i64 0, .int .i64 0, .int .i64 0, .string ⟨#[]⟩, .slice none 0 0, .int .i32 0, .string ⟨#[]⟩, .slice none 0 0] 27
                  have hS3 := hS.alloc (.cells #[.int .i64 0, .int .i64 0, .int .i64 0, .string ⟨#[]⟩, .slice none 0 0, .int .i32 0, .string ⟨#[]⟩, .slice none 0 0] 27)
                  have hz3 : w2.heap.size ≤ (w2.alloc (.cells #[.int .i64 0, .int .i64 0, .int .i64 0, .string ⟨#[]⟩, .slice none 0 0, .int .i32 0, .string ⟨#[]⟩, .slice none 0 0] 27)).heap.size := (alloc_nil _ _).size
                  obtain ⟨bb, hbb⟩ : ∃ z, w2.heap.size = z := ⟨_, rfl⟩
                  have gb : wq.heap.size ≤ bb := by rw [← hbb]; exact hge
                  obtain ⟨w3, hw3⟩ : ∃ z, w2.alloc (.cells #[.int .i64 0, .int .i64 0, .int .i64 0, .string ⟨#[]⟩, .slice none 0 0, .int .i32 0, .string ⟨#[]⟩, .slice none 0 0] 27) = z := ⟨_, rfl⟩
                  rw [hbb] at qb ⊢
                  rw [hw3] at qb hS3 hz3 ⊢
                  clear hbb hw3
                  replace hge := Nat.le_trans hge hz3
                  replace hS := hS3
                  clear hS3 hz3
                  refine wpAnyT_one (i := 13) rfl (by kernel_rfl) (fun K hK => ?_)
                  go_simp
                  refine hK.out _ _ (fun _ => hS.alloc _) ?_
                  clear hK K
                  have qa := Blk.new w3 #[.int .i64 0, .int .i64 0, .int .i64 0, .string ⟨#[]⟩, .slice none 0 0, .int .i32 0, .string ⟨#[]⟩, .slice none 0 0] 27
                  have hS4 := hS.alloc (.cells #[.int .i64 0, .int .i64 0, .int .i64 0, .string ⟨#[]⟩, .slice none 0 0, .int .i32 0, .string ⟨#[]⟩, .slice none 0 0] 27)
                  have hz4 : w3.heap.size ≤ (w3.alloc (.cells #[.int .i64 0, .int .i64 0, .int .i64 0, .string ⟨#[]⟩, .slice none 0 0, .int .i32 0, .string ⟨#[]⟩, .slice none 0 0] 27)).heap.size := (alloc_nil _ _).size
                  have hne0 := qb.lt
                  replace qb := qb.alloc (.cells #[.int .i64 0, .int .i64 0, .int .i64 0, .string ⟨#[]⟩, .slice none 0 0, .int .i32 0, .string ⟨#[]⟩, .slice none 0 0] 27)
                  obtain ⟨ab, hab⟩ : ∃ z, w3.heap.size = z := ⟨_, rfl⟩
                  have ga : wq.heap.size ≤ ab := by rw [← hab]; exact hge
                  have hne : ab ≠ bb := by rw [← hab]; exact Nat.ne_of_gt hne0
                  clear hne0
                  obtain ⟨w4, hw4⟩ : ∃ z, w3.alloc (.cells #[.int .i64 0, .int .i64 0, .int .i64 0, .string ⟨#[]⟩, .slice none 0 0, .int .i32 0, .string ⟨#[]⟩, .slice none 0 0] 27) = z := ⟨_, rfl⟩
                  rw [hab] at qa ⊢
                  rw [hw4] at qa hS4 hz4 qb ⊢
                  clear hab hw4
                  replace hge := Nat.le_trans hge hz4
                  replace hS := hS4
                  clear hS4 hz4
                  obtain ⟨⟨z0, z1, z2, z3, z4, z5, z6, z7⟩, zf0, zf1, zf2, zf3, zf4, zf5, zf6, zf7⟩ := qa.Eights
                  refine wpAnyT_one (i := 15) rfl (by kernel_rfl) (fun K hK => ?_)
                  go_simp
                  refine hK.out _ _ (fun _ => hS.putEight (fun h => absurd h (Nat.not_lt_of_le ga)) _ _ _ _ _ _ _ _) ?_
                  clear hK K z0 z1 z2 z3 z4 z5 z6 z7 zf0 zf1 zf2 zf3 zf4 zf5 zf6 zf7
                  have hS' := hS.putEight (b := ab) (fun h => absurd h (Nat.not_lt_of_le ga)) (.int .i64 0) (.int .i64 1) (.int .i64 0) (.string ⟨#[]⟩) (.slice none 0 0) (.int .i32 u) (.string ⟨#[]⟩) (.slice none 0 0)
                  have qa' := qa.putEight (.int .i64 0) (.int .i64 1) (.int .i64 0) (.string ⟨#[]⟩) (.slice none 0 0) (.int .i32 u) (.string ⟨#[]⟩) (.slice none 0 0)
                  have qb' := qb.otherEight hne.symm (.int .i64 0) (.int .i64 1) (.int .i64 0) (.string ⟨#[]⟩) (.slice none 0 0) (.int .i32 u) (.string ⟨#[]⟩) (.slice none 0 0)
                  obtain ⟨wn, hwn⟩ : ∃ z, ((((((((w4.setCell ⟨ab, 0, none⟩ (.int .i64 0)).setCell ⟨ab, 1, none⟩ (.int .i64 1)).setCell ⟨ab, 2, none⟩ (.int .i64 0)).setCell ⟨ab, 3, none⟩ (.string ⟨#[]⟩)).setCell ⟨ab, 4, none⟩ (.slice none 0 0)).setCell ⟨ab, 5, none⟩ (.int .i32 u)).setCell ⟨ab, 6, none⟩ (.string ⟨#[]⟩)).setCell ⟨ab, 7, none⟩ (.slice none 0 0)) = z := ⟨_, rfl⟩
                  rw [hwn] at hS' qa' qb' ⊢
                  clear hwn hS qa qb
                  have hS := hS'
                  have qa := qa'
                  have qb := qb'
                  clear hS' qa' qb'
                  obtain ⟨⟨z0, z1, z2, z3, z4, z5, z6, z7⟩, zf0, zf1, zf2, zf3, zf4, zf5, zf6, zf7⟩ := qb.Eights
                  refine wpAnyT_one (i := 16) rfl (by kernel_rfl) (fun K hK => ?_)
                  go_simp
                  refine hK.out _ _ (fun _ => hS.putEight (fun h => absurd h (Nat.not_lt_of_le gb)) _ _ _ _ _ _ _ _) ?_
                  clear hK K z0 z1 z2 z3 z4 z5 z6 z7 zf0 zf1 zf2 zf3 zf4 zf5 zf6 zf7
                  have hS' := hS.putEight (b := bb) (fun h => absurd h (Nat.not_lt_of_le gb)) (.int .i64 0) (.int .i64 1) (.int .i64 0) (.string ⟨#[]⟩) (.slice none 0 0) (.int .i32 v) (.string ⟨#[]⟩) (.slice none 0 0)
                  have qb' := qb.putEight (.int .i64 0) (.int .i64 1) (.int .i64 0) (.string ⟨#[]⟩) (.slice none 0 0) (.int .i32 v) (.string ⟨#[]⟩) (.slice none 0 0)
                  have qa' := qa.otherEight hne (.int .i64 0) (.int .i64 1) (.int .i64 0) (.string ⟨#[]⟩) (.slice none 0 0) (.int .i32 v) (.string ⟨#[]⟩) (.slice none 0 0)
                  obtain ⟨wn, hwn⟩ : ∃ z, ((((((((wn.setCell ⟨bb, 0, none⟩ (.int .i64 0)).setCell ⟨bb, 1, none⟩ (.int .i64 1)).setCell ⟨bb, 2, none⟩ (.int .i64 0)).setCell ⟨bb, 3, none⟩ (.string ⟨#[]⟩)).setCell ⟨bb, 4, none⟩ (.slice none 0 0)).setCell ⟨bb, 5, none⟩ (.int .i32 v)).setCell ⟨bb, 6, none⟩ (.string ⟨#[]⟩)).setCell ⟨bb, 7, none⟩ (.slice none 0 0)) = z := ⟨_, rfl⟩
                  rw [hwn] at hS' qb' qa' ⊢
                  clear hwn hS qb qa
                  have hS := hS'
                  have qb := qb'
                  have qa := qa'
                  clear hS' qb' qa'
                  refine wpAnyT_done (by kernel_rfl) ?_
                  go_wp2_with fail
                  go_meet
                  exact ⟨ab, bb, rfl, rfl, hS, ga, gb, qa, qb⟩
              · go_simp
                refine hK.out _ _ (fun _ => hS.alloc _) ?_
                clear hK K
                have qa := Blk.new w1 #[.int .i64 0, .int .i64 0, .int .i64 0, .string ⟨#[]⟩, .slice none 0 0, .int .i32 0, .string ⟨#[]⟩, .slice none 0 0] 27
                have hS2 := hS.alloc (.cells #[.int .i64 0, .int .i64 0, .int .i64 0, .string ⟨#[]⟩, .slice none 0 0, .int .i32 0, .string ⟨#[]⟩, .slice none 0 0] 27)
                have hz2 : w1.heap.size ≤ (w1.alloc (.cells #[.int .i64 0, .int .i64 0, .int .i64 0, .string ⟨#[]⟩, .slice none 0 0, .int .i32 0, .string ⟨#[]⟩, .slice none 0 0] 27)).heap.size := (alloc_nil _ _).size
                obtain ⟨ab, hab⟩ : ∃ z, w1.heap.size = z := ⟨_, rfl⟩
                have ga : wq.heap.size ≤ ab := by rw [← hab]; exact hge
                obtain ⟨w2, hw2⟩ : ∃ z, w1.alloc (.cells #[.int .i64 0, .int .i64 0, .int .i64 0, .string ⟨#[]⟩, .slice none 0 0, .int .i32 0, .string ⟨#[]⟩, .slice none 0 0] 27) = z := ⟨_, rfl⟩
                rw [hab] at qa ⊢
                rw [hw2] at qa hS2 hz2 ⊢
                clear hab hw2
                replace hge := Nat.le_trans hge hz2
                replace hS := hS2
                clear hS2 hz2
                refine wpAnyT_two (i := 12) (j := 14) rfl rfl (by kernel_rfl) (fun K hK => ?_) (fun K hK => ?_)
                · go_simp
                  go_wp2_with (go_at_call 11; refine (numP_any 1 v _).mono ?_; rintro e w3 ⟨rfl, ho3⟩; have hS3 := Nil.trans hS ho3)
                  refine hK.out _ _ (fun _ => hS3) ?_
                  clear hK K
                  replace qa := qa.kept ho3 (fun h => h)
                  replace hge := Nat.le_trans hge ho3.size
                  replace hS := hS3
                  clear ho3 hS3
                  refine wpAnyT_one (i := 14) rfl (by kernel_rfl) (fun K hK => ?_)
                  go_simp
                  refine hK.out _ _ (fun _ => hS.alloc _) ?_
                  clear hK K
                  have qb := Blk.new w3 #[.int .i64 0, .int .i64 0, .int .i64 0, .string ⟨#[]⟩, .slice none 0 0, .int .i32 0, .string ⟨#[]⟩, .slice none 0 0] 27
                  have hS4 := hS.alloc (.cells #[.int .i64 0, .int .i64 0, .int .i64 0, .string ⟨#[]⟩, .slice none 0 0, .int .i32 0, .string ⟨#[]⟩, .slice none 0 0] 27)
                  have hz4 : w3.heap.size ≤ (w3.alloc (.cells #[.int .i64 0, .int .i64 0, .int .i64 0, .string ⟨#[]⟩, .slice none 0 0, .int .i32 0, .string ⟨#[]⟩, .slice none 0 0] 27)).heap.size := (alloc_nil _ _).size
                  have hne0 := qa.lt
                  replace qa := qa.alloc (.cells #[.int .i64 0, .int .i64 0, .int .i64 0, .string ⟨#[]⟩, .slice none 0 0, .int .i32 0, .string ⟨#[]⟩, .slice none 0 0] 27)
                  obtain ⟨bb, hbb⟩ : ∃ z, w3.heap.size = z := ⟨_, rfl⟩
                  have gb : wq.heap.size ≤ bb := by rw [← hbb]; exact hge
                  have hne : ab ≠ bb := by rw [← hbb]; exact Nat.ne_of_lt hne0
                  clear hne0
                  obtain ⟨w4, hw4⟩ : ∃ z, w3.alloc (.cells #[.int .i64 0, .int .i64 0, .int .i64 0, .string ⟨#[]⟩, .slice none 0 0, .int .i32 0, .string ⟨#[]⟩, .slice none 0 0] 27) = z := ⟨_, rfl⟩
                  rw [hbb] at qb ⊢
                  rw [hw4] at qb hS4 hz4 qa ⊢
                  clear hbb hw4
                  replace hge := Nat.le_trans hge hz4
                  replace hS := hS4
                  clear hS4 hz4
                  obtain ⟨⟨z0, z1, z2, z3, z4, z5, z6, z7⟩, zf0, zf1, zf2, zf3, zf4, zf5, zf6, zf7⟩ := qa.Eights
                  refine wpAnyT_one (i := 15) rfl (by kernel_rfl) (fun K hK => ?_)
                  go_simp
                  refine hK.out _ _ (fun _ => hS.putEight (fun h => absurd h (Nat.not_lt_of_le ga)) _ _ _ _ _ _ _ _) ?_
                  clear hK K z0 z1 z2 z3 z4 z5 z6 z7 zf0 zf1 zf2 zf3 zf4 zf5 zf6 zf7
                  have hS' := hS.putEight (b := ab) (fun h => absurd h (Nat.not_lt_of_le ga)) (.int .i64 0) (.int .i64 1) (.int .i64 0) (.string ⟨#[]⟩) (.slice none 0 0) (.int .i32 u) (.string ⟨#[]⟩) (.slice none 0 0)
                  have qa' := qa.putEight (.int .i64 0) (.int .i64 1) (.int .i64 0) (.string ⟨#[]⟩) (.slice none 0 0) (.int .i32 u) (.string ⟨#[]⟩) (.slice none 0 0)
                  have qb' := qb.otherEight hne.symm (.int .i64 0) (.int .i64 1) (.int .i64 0) (.string ⟨#[]⟩) (.slice none 0 0) (.int .i32 u) (.string ⟨#[]⟩) (.slice none 0 0)
                  obtain ⟨wn, hwn⟩ : ∃ z, ((((((((w4.setCell ⟨ab, 0, none⟩ (.int .i64 0)).setCell ⟨ab, 1, none⟩ (.int .i64 1)).setCell ⟨ab, 2, none⟩ (.int .i64 0)).setCell ⟨ab, 3, none⟩ (.string ⟨#[]⟩)).setCell ⟨ab, 4, none⟩ (.slice none 0 0)).setCell ⟨ab, 5, none⟩ (.int .i32 u)).setCell ⟨ab, 6, none⟩ (.string ⟨#[]⟩)).setCell ⟨ab, 7, none⟩ (.slice none 0 0)) = z := ⟨_, rfl⟩
                  rw [hwn] at hS' qa' qb' ⊢
                  clear hwn hS qa qb
                  have hS := hS'
                  have qa := qa'
                  have qb := qb'
                  clear hS' qa' qb'
                  obtain ⟨⟨z0, z1, z2, z3, z4, z5, z6, z7⟩, zf0, zf1, zf2, zf3, zf4, zf5, zf6, zf7⟩ := qb.Eights
                  refine wpAnyT_one (i := 16) rfl (by kernel_rfl) (fun K hK => ?_)
                  go_simp
                  refine hK.out _ _ (fun _ => hS.putEight (fun h => absurd h (Nat.not_lt_of_le gb)) _ _ _ _ _ _ _ _) ?_
                  clear hK K z0 z1 z2 z3 z4 z5 z6 z7 zf0 zf1 zf2 zf3 zf4 zf5 zf6 zf7
                  have hS' := hS.putEight (b := bb) (fun h => absurd h (Nat.not_lt_of_le gb)) (.int .i64 0) (.int .i64 1) (.int .i64 0) (.string ⟨#[]⟩) (.slice none 0 0) (.int .i32 v) (.string ⟨#[]⟩) (.slice none 0 0)
                  have qb' := qb.putEight (.int .i64 0) (.int .i64 1) (.int .i64 0) (.string ⟨#[]⟩) (.slice none 0 0) (.int .i32 v) (.string ⟨#[]⟩) (.slice none 0 0)
                  have qa' := qa.otherEight hne (.int .i64 0) (.int .i64 1) (.int .i64 0) (.string ⟨#[]⟩) (.slice none 0 0) (.int .i32 v) (.string ⟨#[]⟩) (.slice none 0 0)
                  obtain ⟨wn, hwn⟩ : ∃ z, ((((((((wn.setCell ⟨bb, 0, none⟩ (.int .i64 0)).setCell ⟨bb, 1, none⟩ (.int .i64 1)).setCell ⟨bb, 2, none⟩ (.int .i64 0)).setCell ⟨bb, 3, none⟩ (.string ⟨#[]⟩)).setCell ⟨bb, 4, none⟩ (.slice none 0 0)).setCell ⟨bb, 5, none⟩ (.int .i32 v)).setCell ⟨bb, 6, none⟩ (.string ⟨#[]⟩)).setCell ⟨bb, 7, none⟩ (.slice none 0 0)) = z := ⟨_, rfl⟩
                  rw [hwn] at hS' qb' qa' ⊢
                  clear hwn hS qb qa
                  have hS := hS'
                  have qb := qb'
                  have qa := qa'
                  clear hS' qb' qa'
                  refine wpAnyT_done (by kernel_rfl) ?_
                  go_wp2_with fail
                  go_meet
                  exact ⟨ab, bb, rfl, rfl, hS, ga, gb, qa, qb⟩
                · go_simp
                  refine hK.out _ _ (fun _ => hS.alloc _) ?_
                  clear hK K
                  have qb := Blk.new w2 #[.int .i64 0, .int .i64 0, .int .i64 0, .string ⟨#[]⟩, .slice none 0 0, .int .i32 0, .string ⟨#[]⟩, .slice none 0 0] 27
                  have hS3 := hS.alloc (.cells #[.int .i64 0, .int .i64 0, .int .i64 0, .string ⟨#[]⟩, .slice none 0 0, .int .i32 0, .string ⟨#[]⟩, .slice none 0 0] 27)
                  have hz3 : w2.heap.size ≤ (w2.alloc (.cells #[.int .i64 0, .int .i64 0, .int .i64 0, .string ⟨#[]⟩, .slice none 0 0, .int .i32 0, .string ⟨#[]⟩, .slice none 0 0] 27)).heap.size := (alloc_nil _ _).size
                  have hne0 := qa.lt
                  replace qa := qa.alloc (.cells #[.int .i64 0, .int .i64 0, .int .i64 0, .string ⟨#[]⟩, .slice none 0 0, .int .i32 0, .string ⟨#[]⟩, .slice none 0 0] 27)
                  obtain ⟨bb, hbb⟩ : ∃ z, w2.heap.size = z := ⟨_, rfl⟩
                  have gb : wq.heap.size ≤ bb := by rw [← hbb]; exact hge
                  have hne : ab ≠ bb := by rw [← hbb]; exact Nat.ne_of_lt hne0
                  clear hne0
                  obtain ⟨w3, hw3⟩ : ∃ z, w2.alloc (.cells #[.int .i64 0, .int .i64 0, .int .i64 0, .string ⟨#[]⟩, .slice none 0 0, .int .i32 0, .string ⟨#[]⟩, .slice none 0 0] 27) = z := ⟨_, rfl⟩
                  rw [hbb] at qb ⊢
                  rw [hw3] at qb hS3 hz3 qa ⊢
                  clear hbb hw3
                  replace hge := Nat.le_trans hge hz3
                  replace hS := hS3
                  clear hS3 hz3
                  refine wpAnyT_one (i := 12) rfl (by kernel_rfl) (fun K hK => ?_)
                  go_simp
                  go_wp2_with (go_at_call 11; refine (numP_any 1 v _).mono ?_; rintro e w4 ⟨rfl, ho4⟩; have hS4 := Nil.trans hS ho4)
                  refine hK.out _ _ (fun _ => hS4) ?_
                  clear hK K
                  replace qa := qa.kept ho4 (fun h => h)
                  replace qb := qb.kept ho4 (fun h => h)
                  replace hge := Nat.le_trans hge ho4.size
                  replace hS := hS4
                  clear ho4 hS4
                  obtain ⟨⟨z0, z1, z2, z3, z4, z5, z6, z7⟩, zf0, zf1, zf2, zf3, zf4, zf5, zf6, zf7⟩ := qa.Eights
                  refine wpAnyT_one (i := 15) rfl (by kernel_rfl) (fun K hK => ?_)
                  go_simp
                  refine hK.out _ _ (fun _ => hS.putEight (fun h => absurd h (Nat.not_lt_of_le ga)) _ _ _ _ _ _ _ _) ?_
                  clear hK K z0 z1 z2 z3 z4 z5 z6 z7 zf0 zf1 zf2 zf3 zf4 zf5 zf6 zf7
                  have hS' := hS.putEight (b := ab) (fun h => absurd h (Nat.not_lt_of_le ga)) (.int .i64 0) (.int .i64 1) (.int .i64 0) (.string ⟨#[]⟩) (.slice none 0 0) (.int .i32 u) (.string ⟨#[]⟩) (.slice none 0 0)
                  have qa' := qa.putEight (.int .i64 0) (.int .i64 1) (.int .i64 0) (.string ⟨#[]⟩) (.slice none 0 0) (.int .i32 u) (.string ⟨#[]⟩) (.slice none 0 0)
                  have qb' := qb.otherEight hne.symm (.int .i64 0) (.int .i64 1) (.int .i64 0) (.string ⟨#[]⟩) (.slice none 0 0) (.int .i32 u) (.string ⟨#[]⟩) (.slice none 0 0)
                  obtain ⟨wn, hwn⟩ : ∃ z, ((((((((w4.setCell ⟨ab, 0, none⟩ (.int .i64 0)).setCell ⟨ab, 1, none⟩ (.int .i64 1)).setCell ⟨ab, 2, none⟩ (.int .i64 0)).setCell ⟨ab, 3, none⟩ (.string ⟨#[]⟩)).setCell ⟨ab, 4, none⟩ (.slice none 0 0)).setCell ⟨ab, 5, none⟩ (.int .i32 u)).setCell ⟨ab, 6, none⟩ (.string ⟨#[]⟩)).setCell ⟨ab, 7, none⟩ (.slice none 0 0)) = z := ⟨_, rfl⟩
                  rw [hwn] at hS' qa' qb' ⊢
                  clear hwn hS qa qb
                  have hS := hS'
                  have qa := qa'
                  have qb := qb'
                  clear hS' qa' qb'
                  obtain ⟨⟨z0, z1, z2, z3, z4, z5, z6, z7⟩, zf0, zf1, zf2, zf3, zf4, zf5, zf6, zf7⟩ := qb.Eights
                  refine wpAnyT_one (i := 16) rfl (by kernel_rfl) (fun K hK => ?_)
                  go_simp
                  refine hK.out _ _ (fun _ => hS.putEight (fun h => absurd h (Nat.not_lt_of_le gb)) _ _ _ _ _ _ _ _) ?_
                  clear hK K z0 z1 z2 z3 z4 z5 z6 z7 zf0 zf1 zf2 zf3 zf4 zf5 zf6 zf7
                  have hS' := hS.putEight (b := bb) (fun h => absurd h (Nat.not_lt_of_le gb)) (.int .i64 0) (.int .i64 1) (.int .i64 0) (.string ⟨#[]⟩) (.slice none 0 0) (.int .i32 v) (.string ⟨#[]⟩) (.slice none 0 0)
                  have qb' := qb.putEight (.int .i64 0) (.int .i64 1) (.int .i64 0) (.string ⟨#[]⟩) (.slice none 0 0) (.int .i32 v) (.string ⟨#[]⟩) (.slice none 0 0)
                  have qa' := qa.otherEight hne (.int .i64 0) (.int .i64 1) (.int .i64 0) (.string ⟨#[]⟩) (.slice none 0 0) (.int .i32 v) (.string ⟨#[]⟩) (.slice none 0 0)
                  obtain ⟨wn, hwn⟩ : ∃ z, ((((((((wn.setCell ⟨bb, 0, none⟩ (.int .i64 0)).setCell ⟨bb, 1, none⟩ (.int .i64 1)).setCell ⟨bb, 2, none⟩ (.int .i64 0)).setCell ⟨bb, 3, none⟩ (.string ⟨#[]⟩)).setCell ⟨bb, 4, none⟩ (.slice none 0 0)).setCell ⟨bb, 5, none⟩ (.int .i32 v)).setCell ⟨bb, 6, none⟩ (.string ⟨#[]⟩)).setCell ⟨bb, 7, none⟩ (.slice none 0 0)) = z := ⟨_, rfl⟩
                  rw [hwn] at hS' qb' qa' ⊢
                  clear hwn hS qb qa
                  have hS := hS'
                  have qb := qb'
                  have qa := qa'
                  clear hS' qb' qa'
                  refine wpAnyT_done (by kernel_rfl) ?_
                  go_wp2_with fail
                  go_meet
                  exact ⟨ab, bb, rfl, rfl, hS, ga, gb, qa, qb⟩
              · go_simp
                refine hK.out _ _ (fun _ => hS.alloc _) ?_
                clear hK K
                have qb := Blk.new w1 #[.int .i64 0, .int .i64 0, .int .i64 0, .string ⟨#[]⟩, .slice none 0 0, .int .i32 0, .string ⟨#[]⟩, .slice none 0 0] 27
                have hS2 := hS.alloc (.cells #[.int .i64 0, .int .i64 0, .int .i64 0, .string ⟨#[]⟩, .slice none 0 0, .int .i32 0, .string ⟨#[]⟩, .slice none 0 0] 27)
                have hz2 : w1.heap.size ≤ (w1.alloc (.cells #[.int .i64 0, .int .i64 0, .int .i64 0, .string ⟨#[]⟩, .slice none 0 0, .int .i32 0, .string ⟨#[]⟩, .slice none 0 0] 27)).heap.size := (alloc_nil _ _).size
                obtain ⟨bb, hbb⟩ : ∃ z, w1.heap.size = z := ⟨_, rfl⟩
                have gb : wq.heap.size ≤ bb := by rw [← hbb]; exact hge
                obtain ⟨w2, hw2⟩ : ∃ z, w1.alloc (.cells #[.int .i64 0, .int .i64 0, .int .i64 0, .string ⟨#[]⟩, .slice none 0 0, .int .i32 0, .string ⟨#[]⟩, .slice none 0 0] 27) = z := ⟨_, rfl⟩
                rw [hbb] at qb ⊢
                rw [hw2] at qb hS2 hz2 ⊢
                clear hbb hw2
                replace hge := Nat.le_trans hge hz2
                replace hS := hS2
                clear hS2 hz2
                refine wpAnyT_two (i := 12) (j := 13) rfl rfl (by kernel_rfl) (fun K hK => ?_) (fun K hK => ?_)
                · go_simp
                  go_wp2_with (go_at_call 11; refine (numP_any 1 v _).mono ?_; rintro e w3 ⟨rfl, ho3⟩; have hS3 := Nil.trans hS ho3)
                  refine hK.out _ _ (fun _ => hS3) ?_
                  clear hK K
                  replace qb := qb.kept ho3 (fun h => h)
                  replace hge := Nat.le_trans hge ho3.size
                  replace hS := hS3
                  clear ho3 hS3
                  refine wpAnyT_one (i := 13) rfl (by kernel_rfl) (fun K hK => ?_)
                  go_simp
                  refine hK.out _ _ (fun _ => hS.alloc _) ?_
                  clear hK K
                  have qa := Blk.new w3 #[.int .i64 0, .int .i64 0, .int .i64 0, .string ⟨#[]⟩, .slice none 0 0, .int .i32 0, .string ⟨#[]⟩, .slice none 0 0] 27
                  have hS4 := hS.alloc (.cells #[.int .i64 0, .int .i64 0, .int .i64 0, .string ⟨#[]⟩, .slice none 0 0, .int .i32 0, .string ⟨#[]⟩, .slice none 0 0] 27)
                  have hz4 : w3.heap.size ≤ (w3.alloc (.cells #[.int .i64 0, .int .i64 0, .int .i64 0, .string ⟨#[]⟩, .slice none 0 0, .int .i32 0, .string ⟨#[]⟩, .slice none 0 0] 27)).heap.size := (alloc_nil _ _).size
                  have hne0 := qb.lt
                  replace qb := qb.alloc (.cells #[.int .i64 0, .int .i64 0, .int .i64 0, .string ⟨#[]⟩, .slice none 0 0, .int .i32 0, .string ⟨#[]⟩, .slice none 0 0] 27)
                  obtain ⟨ab, hab⟩ : ∃ z, w3.heap.size = z := ⟨_, rfl⟩
                  have ga : wq.heap.size ≤ ab := by rw [← hab]; exact hge
                  have hne : ab ≠ bb := by rw [← hab]; exact Nat.ne_of_gt hne0
                  clear hne0
                  obtain ⟨w4, hw4⟩ : ∃ z, w3.alloc (.cells #[.int .i64 0, .int .i64 0, .int .i64 0, .string ⟨#[]⟩, .slice none 0 0, .int .i32 0, .string ⟨#[]⟩, .slice none 0 0] 27) = z := ⟨_, rfl⟩
                  rw [hab] at qa ⊢
                  rw [hw4] at qa hS4 hz4 qb ⊢
                  clear hab hw4
                  replace hge := Nat.le_trans hge hz4
                  replace hS := hS4
                  clear hS4 hz4
                  obtain ⟨⟨z0, z1, z2, z3, z4, z5, z6, z7⟩, zf0, zf1, zf2, zf3, zf4, zf5, zf6, zf7⟩ := qa.Eights
                  refine wpAnyT_one (i := 15) rfl (by kernel_rfl) (fun K hK => ?_)
                  go_simp
                  refine hK.out _ _ (fun _ => hS.putEight (fun h => absurd h (Nat.not_lt_of_le ga)) _ _ _ _ _ _ _ _) ?_
                  clear hK K z0 z1 z2 z3 z4 z5 z6 z7 zf0 zf1 zf2 zf3 zf4 zf5 zf6 zf7
                  have hS' := hS.putEight (b := ab) (fun h => absurd h (Nat.not_lt_of_le ga)) (.int .i64 0) (.int .i64 1) (.int .i64 0) (.string ⟨#[]⟩) (.slice none 0 0) (.int .i32 u) (.string ⟨#[]⟩) (.slice none 0 0)
                  have qa' := qa.putEight (.int .i64 0) (.int .i64 1) (.int .i64 0) (.string ⟨#[]⟩) (.slice none 0 0) (.int .i32 u) (.string ⟨#[]⟩) (.slice none 0 0)
                  have qb' := qb.otherEight hne.symm (.int .i64 0) (.int .i64 1) (.int .i64 0) (.string ⟨#[]⟩) (.slice none 0 0) (.int .i32 u) (.string ⟨#[]⟩) (.slice none 0 0)
                  obtain ⟨wn, hwn⟩ : ∃ z, ((((((((w4.setCell ⟨ab, 0, none⟩ (.int .i64 0)).setCell ⟨ab, 1, none⟩ (.int .i64 1)).setCell ⟨ab, 2, none⟩ (.int .i64 0)).setCell ⟨ab, 3, none⟩ (.string ⟨#[]⟩)).setCell ⟨ab, 4, none⟩ (.slice none 0 0)).setCell ⟨ab, 5, none⟩ (.int .i32 u)).setCell ⟨ab, 6, none⟩ (.string ⟨#[]⟩)).setCell ⟨ab, 7, none⟩ (.slice none 0 0)) = z := ⟨_, rfl⟩
                  rw [hwn] at hS' qa' qb' ⊢
                  clear hwn hS qa qb
                  have hS := hS'
                  have qa := qa'
                  have qb := qb'
                  clear hS' qa' qb'
                  obtain ⟨⟨z0, z1, z2, z3, z4, z5, z6, z7⟩, zf0, zf1, zf2, zf3, zf4, zf5, zf6, zf7⟩ := qb.Eights
                  refine wpAnyT_one (i := 16) rfl (by kernel_rfl) (fun K hK => ?_)
                  go_simp
                  refine hK.out _ _ (fun _ => hS.putEight (fun h => absurd h (Nat.not_lt_of_le gb)) _ _ _ _ _ _ _ _) ?_
                  clear hK K z0 z1 z2 z3 z4 z5 z6 z7 zf0 zf1 zf2 zf3 zf4 zf5 zf6 zf7
                  have hS' := hS.putEight (b := bb) (fun h => absurd h (Nat.not_lt_of_le gb)) (.int .i64 0) (.int .i64 1) (.int .i64 0) (.string ⟨#[]⟩) (.slice none 0 0) (.int .i32 v) (.string ⟨#[]⟩) (.slice none 0 0)
                  have qb' := qb.putEight (.int .i64 0) (.int .i64 1) (.int .i64 0) (.string ⟨#[]⟩) (.slice none 0 0) (.int .i32 v) (.string ⟨#[]⟩) (.slice none 0 0)
                  have qa' := qa.otherEight hne (.int .i64 0) (.int .i64 1) (.int .i64 0) (.string ⟨#[]⟩) (.slice none 0 0) (.int .i32 v) (.string ⟨#[]⟩) (.slice none 0 0)
                  obtain ⟨wn, hwn⟩ : ∃ z, ((((((((wn.setCell ⟨bb, 0, none⟩ (.int .i64 0)).setCell ⟨bb, 1, none⟩ (.int .i64 1)).setCell ⟨bb, 2, none⟩ (.int .i64 0)).setCell ⟨bb, 3, none⟩ (.string ⟨#[]⟩)).setCell ⟨bb, 4, none⟩ (.slice none 0 0)).setCell ⟨bb, 5, none⟩ (.int .i32 v)).setCell ⟨bb, 6, none⟩ (.string ⟨#[]⟩)).setCell ⟨bb, 7, none⟩ (.slice none 0 0)) = z := ⟨_, rfl⟩
                  rw [hwn] at hS' qb' qa' ⊢
                  clear hwn hS qb qa
                  have hS := hS'
                  have qb := qb'
                  have qa := qa'
                  clear hS' qb' qa'
                  refine wpAnyT_done (by kernel_rfl) ?_
                  go_wp2_with fail
                  go_meet
                  exact ⟨ab, bb, rfl, rfl, hS, ga, gb, qa, qb⟩
                · go_simp
                  refine hK.out _ _ (fun _ => hS.alloc _) ?_
                  clear hK K
                  have qa := Blk.new w2 #[.int .i64 0, .int .i64 0, .int .i64 0, .string ⟨#[]⟩, .slice none 0 0, .int .i32 0, .string ⟨#[]⟩, .slice none 0 0] 27
                  have hS3 := hS.alloc (.cells #[.int .i64 0, .int .i64 0, .int .i64 0, .string ⟨#[]⟩, .slice none 0 0, .int .i32 0, .string ⟨#[]⟩, .slice none 0 0] 27)
                  have hz3 : w2.heap.size ≤ (w2.alloc (.cells #[.int .i64 0, .int .i64 0, .int .i64 0, .string ⟨#[]⟩, .slice none 0 0, .int .i32 0, .string ⟨#[]⟩, .slice none 0 0] 27)).heap.size := (alloc_nil _ _).size
                  have hne0 := qb.lt
                  replace qb := qb.alloc (.cells #[.int .i64 0, .int .i64 0, .int .i64 0, .string ⟨#[]⟩, .slice none 0 0, .int .i32 0, .string ⟨#[]⟩, .slice none 0 0] 27)
                  obtain ⟨ab, hab⟩ : ∃ z, w2.heap.size = z := ⟨_, rfl⟩
                  have ga : wq.heap.size ≤ ab := by rw [← hab]; exact hge
                  have hne : ab ≠ bb := by rw [← hab]; exact Nat.ne_of_gt hne0
                  clear hne0
                  obtain ⟨w3, hw3⟩ : ∃ z, w2.alloc (.cells #[.int .i64 0, .int .i64 0, .int .i64 0, .string ⟨#[]⟩, .slice none 0 0, .int .i32 0, .string ⟨#[]⟩, .slice none 0 0] 27) = z := ⟨_, rfl⟩
                  rw [hab] at qa ⊢
                  rw [hw3] at qa hS3 hz3 qb ⊢
                  clear hab hw3
                  replace hge := Nat.le_trans hge hz3
                  replace hS := hS3
                  clear hS3 hz3
                  refine wpAnyT_one (i := 12) rfl (by kernel_rfl) (fun K hK => ?_)
                  go_simp
                  go_wp2_with (go_at_call 11; refine (numP_any 1 v _).mono ?_; rintro e w4 ⟨rfl, ho4⟩; have hS4 := Nil.trans hS ho4)
                  refine hK.out _ _ (fun _ => hS4) ?_
                  clear hK K
                  replace qa := qa.kept ho4 (fun h => h)
                  replace qb := qb.kept ho4 (fun h => h)
                  replace hge := Nat.le_trans hge ho4.size
                  replace hS := hS4
                  clear ho4 hS4
                  obtain ⟨⟨z0, z1, z2, z3, z4, z5, z6, z7⟩, zf0, zf1, zf2, zf3, zf4, zf5, zf6, zf7⟩ := qa.Eights
                  refine wpAnyT_one (i := 15) rfl (by kernel_rfl) (fun K hK => ?_)
                  go_simp
                  refine hK.out _ _ (fun _ => hS.putEight (fun h => absurd h (Nat.not_lt_of_le ga)) _ _ _ _ _ _ _ _) ?_
                  clear hK K z0 z1 z2 z3 z4 z5 z6 z7 zf0 zf1 zf2 zf3 zf4 zf5 zf6 zf7
                  have hS' := hS.putEight (b := ab) (fun h => absurd h (Nat.not_lt_of_le ga)) (.int .i64 0) (.int .i64 1) (.int .i64 0) (.string ⟨#[]⟩) (.slice none 0 0) (.int .i32 u) (.string ⟨#[]⟩) (.slice none 0 0)
                  have qa' := qa.putEight (.int .i64 0) (.int .i64 1) (.int .i64 0) (.string ⟨#[]⟩) (.slice none 0 0) (.int .i32 u) (.string ⟨#[]⟩) (.slice none 0 0)
                  have qb' := qb.otherEight hne.symm (.int .i64 0) (.int .i64 1) (.int .i64 0) (.string ⟨#[]⟩) (.slice none 0 0) (.int .i32 u) (.string ⟨#[]⟩) (.slice none 0 0)
                  obtain ⟨wn, hwn⟩ : ∃ z, ((((((((w4.setCell ⟨ab, 0, none⟩ (.int .i64 0)).setCell ⟨ab, 1, none⟩ (.int .i64 1)).setCell ⟨ab, 2, none⟩ (.int .i64 0)).setCell ⟨ab, 3, none⟩ (.string ⟨#[]⟩)).setCell ⟨ab, 4, none⟩ (.slice none 0 0)).setCell ⟨ab, 5, none⟩ (.int .i32 u)).setCell ⟨ab, 6, none⟩ (.string ⟨#[]⟩)).setCell ⟨ab, 7, none⟩ (.slice none 0 0)) = z := ⟨_, rfl⟩
                  rw [hwn] at hS' qa' qb' ⊢
                  clear hwn hS qa qb
                  have hS := hS'
                  have qa := qa'
                  have qb := qb'
                  clear hS' qa' qb'
                  obtain ⟨⟨z0, z1, z2, z3, z4, z5, z6, z7⟩, zf0, zf1, zf2, zf3, zf4, zf5, zf6, zf7⟩ := qb.Eights
                  refine wpAnyT_one (i := 16) rfl (by kernel_rfl) (fun K hK => ?_)
                  go_simp
                  refine hK.out _ _ (fun _ => hS.putEight (fun h => absurd h (Nat.not_lt_of_le gb)) _ _ _ _ _ _ _ _) ?_
                  clear hK K z0 z1 z2 z3 z4 z5 z6 z7 zf0 zf1 zf2 zf3 zf4 zf5 zf6 zf7
                  have hS' := hS.putEight (b := bb) (fun h => absurd h (Nat.not_lt_of_le gb)) (.int .i64 0) (.int .i64 1) (.int .i64 0) (.string ⟨#[]⟩) (.slice none 0 0) (.int .i32 v) (.string ⟨#[]⟩) (.slice none 0 0)
                  have qb' := qb.putEight (.int .i64 0) (.int .i64 1) (.int .i64 0) (.string ⟨#[]⟩) (.slice none 0 0) (.int .i32 v) (.string ⟨#[]⟩) (.slice none 0 0)
                  have qa' := qa.otherEight hne (.int .i64 0) (.int .i64 1) (.int .i64 0) (.string ⟨#[]⟩) (.slice none 0 0) (.int .i32 v) (.string ⟨#[]⟩) (.slice none 0 0)
                  obtain ⟨wn, hwn⟩ : ∃ z, ((((((((wn.setCell ⟨bb, 0, none⟩ (.int .i64 0)).setCell ⟨bb, 1, none⟩ (.int .i64 1)).setCell ⟨bb, 2, none⟩ (.int .i64 0)).setCell ⟨bb, 3, none⟩ (.string ⟨#[]⟩)).setCell ⟨bb, 4, none⟩ (.slice none 0 0)).setCell ⟨bb, 5, none⟩ (.int .i32 v)).setCell ⟨bb, 6, none⟩ (.string ⟨#[]⟩)).setCell ⟨bb, 7, none⟩ (.slice none 0 0)) = z := ⟨_, rfl⟩
                  rw [hwn] at hS' qb' qa' ⊢
                  clear hwn hS qb qa
                  have hS := hS'
                  have qb := qb'
                  have qa := qa'
                  clear hS' qb' qa'
                  refine wpAnyT_done (by kernel_rfl) ?_
                  go_wp2_with fail
                  go_meet
                  exact ⟨ab, bb, rfl, rfl, hS, ga, gb, qa, qb⟩
            · go_simp
              refine hK.out _ _ (fun _ => hS.alloc _) ?_
              clear hK K
              have qa := Blk.new w0 #[.int .i64 0, .int .i64 0, .int .i64 0, .string ⟨#[]⟩, .slice none 0 0, .int .i32 0, .string ⟨#[]⟩, .slice none 0 0] 27
              have hS1 := hS.alloc (.cells #[.int .i64 0, .int .i64 0, .int .i64 0, .string ⟨#[]⟩, .slice none 0 0, .int .i32 0, .string ⟨#[]⟩, .slice none 0 0] 27)
              have hz1 : w0.heap.size ≤ (w0.alloc (.cells #[.int .i64 0, .int .i64 0, .int .i64 0, .string ⟨#[]⟩, .slice none 0 0, .int .i32 0, .string ⟨#[]⟩, .slice none 0 0] 27)).heap.size := (alloc_nil _ _).size
              obtain ⟨ab, hab⟩ : ∃ z, w0.heap.size = z := ⟨_, rfl⟩
              have ga : wq.heap.size ≤ ab := by rw [← hab]; exact hge
              obtain ⟨w1, hw1⟩ : ∃ z, w0.alloc (.cells #[.int .i64 0, .int .i64 0, .int .i64 0, .string ⟨#[]⟩, .slice none 0 0, .int .i32 0, .string ⟨#[]⟩, .slice none 0 0] 27) = z := ⟨_, rfl⟩
              rw [hab] at qa ⊢
              rw [hw1] at qa hS1 hz1 ⊢
              clear hab hw1
              replace hge := Nat.le_trans hge hz1
              replace hS := hS1
              clear hS1 hz1
              refine wpAnyT_two (i := 5) (j := 14) rfl rfl (by kernel_rfl) (fun K hK => ?_) (fun K hK => ?_)
              · go_simp
                go_wp2_with (go_at_call 11; refine (numP_any 1 u _).mono ?_; rintro e w2 ⟨rfl, ho2⟩; have hS2 := Nil.trans hS ho2)
                refine hK.out _ _ (fun _ => hS2) ?_
                clear hK K
                replace qa := qa.kept ho2 (fun h => h)
                replace hge := Nat.le_trans hge ho2.size
                replace hS := hS2
                clear ho2 hS2
                refine wpAnyT_two (i := 12) (j := 14) rfl rfl (by kernel_rfl) (fun K hK => ?_) (fun K hK => ?_)
                · go_simp
                  go_wp2_with (go_at_call 11; refine (numP_any 1 v _).mono ?_; rintro e w3 ⟨rfl, ho3⟩; have hS3 := Nil.trans hS ho3)
                  refine hK.out _ _ (fun _ => hS3) ?_
                  clear hK K
                  replace qa := qa.kept ho3 (fun h => h)
                  replace hge := Nat.le_trans hge ho3.size
                  replace hS := hS3
                  clear ho3 hS3
                  refine wpAnyT_one (i := 14) rfl (by kernel_rfl) (fun K hK => ?_)
                  go_simp
                  refine hK.out _ _ (fun _ => hS.alloc _) ?_
                  clear hK K
                  have qb := Blk.new w3 #[.int .i64 0, .int .i64 0, .int .i64 0, .string ⟨#[]⟩, .slice none 0 0, .int .i32 0, .string ⟨#[]⟩, .slice none 0 0] 27
                  have hS4 := hS.alloc (.cells #[.int .i64 0, .int .i64 0, .int .i64 0, .string ⟨#[]⟩, .slice none 0 0, .int .i32 0, .string ⟨#[]⟩, .slice none 0 0] 27)
                  have hz4 : w3.heap.size ≤ (w3.alloc (.cells #[.int .i64 0, .int .i64 0, .int .i64 0, .string ⟨#[]⟩, .slice none 0 0, .int .i32 0, .string ⟨#[]⟩, .slice none 0 0] 27)).heap.size := (alloc_nil _ _).size
                  have hne0 := qa.lt
                  replace qa := qa.alloc (.cells #[.int .i64 0, .int .i64 0, .int .i64 0, .string ⟨#[]⟩, .slice none 0 0, .int .i32 0, .string ⟨#[]⟩, .slice none 0 0] 27)
                  obtain ⟨bb, hbb⟩ : ∃ z, w3.heap.size = z := ⟨_, rfl⟩
                  have gb : wq.heap.size ≤ bb := by rw [← hbb]; exact hge
                  have hne : ab ≠ bb := by rw [← hbb]; exact Nat.ne_of_lt hne0
                  clear hne0
                  obtain ⟨w4, hw4⟩ : ∃ z, w3.alloc (.cells #[.int .i64 0, .int .i64 0, .int .i64 0, .string ⟨#[]⟩, .slice none 0 0, .int .i32 0, .string ⟨#[]⟩, .slice none 0 0] 27) = z := ⟨_, rfl⟩
                  rw [hbb] at qb ⊢
                  rw [hw4] at qb hS4 hz4 qa ⊢
                  clear hbb hw4
                  replace hge := Nat.le_trans hge hz4
                  replace hS := hS4
                  clear hS4 hz4
                  obtain ⟨⟨z0, z1, z2, z3, z4, z5, z6, z7⟩, zf0, zf1, zf2, zf3, zf4, zf5, zf6, zf7⟩ := qa.Eights
                  refine wpAnyT_one (i := 15) rfl (by kernel_rfl) (fun K hK => ?_)
                  go_simp
                  refine hK.out _ _ (fun _ => hS.putEight (fun h => absurd h (Nat.not_lt_of_le ga)) _ _ _ _ _ _ _ _) ?_
                  clear hK K z0 z1 z2 z3 z4 z5 z6 z7 zf0 zf1 zf2 zf3 zf4 zf5 zf6 zf7
                  have hS' := hS.putEight (b := ab) (fun h => absurd h (Nat.not_lt_of_le ga)) (.int .i64 0) (.int .i64 1) (.int .i64 0) (.string ⟨#[]⟩) (.slice none 0 0) (.int .i32 u) (.string ⟨#[]⟩) (.slice none 0 0)
                  have qa' := qa.putEight (.int .i64 0) (.int .i64 1) (.int .i64 0) (.string ⟨#[]⟩) (.slice none 0 0) (.int .i32 u) (.string ⟨#[]⟩) (.slice none 0 0)
                  have qb' := qb.otherEight hne.symm (.int .i64 0) (.int .i64 1) (.int .i64 0) (.string ⟨#[]⟩) (.slice none 0 0) (.int .i32 u) (.string ⟨#[]⟩) (.slice none 0 0)
                  obtain ⟨wn, hwn⟩ : ∃ z, ((((((((w4.setCell ⟨ab, 0, none⟩ (.int .i64 0)).setCell ⟨ab, 1, none⟩ (.int .i64 1)).setCell ⟨ab, 2, none⟩ (.int .i64 0)).setCell ⟨ab, 3, none⟩ (.string ⟨#[]⟩)).setCell ⟨ab, 4, none⟩ (.slice none 0 0)).setCell ⟨ab, 5, none⟩ (.int .i32 u)).setCell ⟨ab, 6, none⟩ (.string ⟨#[]⟩)).setCell ⟨ab, 7, none⟩ (.slice none 0 0)) = z := ⟨_, rfl⟩
                  rw [hwn] at hS' qa' qb' ⊢
                  clear hwn hS qa qb
                  have hS := hS'
                  have qa := qa'
                  have qb := qb'
                  clear hS' qa' qb'
                  obtain ⟨⟨z0, z1, z2, z3, z4, z5, z6, z7⟩, zf0, zf1, zf2, zf3, zf4, zf5, zf6, zf7⟩ := qb.Eights
                  refine wpAnyT_one (i := 16) rfl (by kernel_rfl) (fun K hK => ?_)
                  go_simp
                  refine hK.out _ _ (fun _ => hS.putEight (fun h => absurd h (Nat.not_lt_of_le gb)) _ _ _ _ _ _ _ _) ?_
                  clear hK K z0 z1 z2 z3 z4 z5 z6 z7 zf0 zf1 zf2 zf3 zf4 zf5 zf6 zf7
                  have hS' := hS.putEight (b := bb) (fun h => absurd h (Nat.not_lt_of_le gb)) (.int .i64 0) (.int .i64 1) (.int .i64 0) (.string ⟨#[]⟩) (.slice none 0 0) (.int .i32 v) (.string ⟨#[]⟩) (.slice none 0 0)
                  have qb' := qb.putEight (.int .i64 0) (.int .i64 1) (.int .i64 0) (.string ⟨#[]⟩) (.slice none 0 0) (.int .i32 v) (.string ⟨#[]⟩) (.slice none 0 0)
                  have qa' := qa.otherEight hne (.int .i64 0) (.int .i64 1) (.int .i64 0) (.string ⟨#[]⟩) (.slice none 0 0) (.int .i32 v) (.string ⟨#[]⟩) (.slice none 0 0)
                  obtain ⟨wn, hwn⟩ : ∃ z, ((((((((wn.setCell ⟨bb, 0, none⟩ (.int .i64 0)).setCell ⟨bb, 1, none⟩ (.int .i64 1)).setCell ⟨bb, 2, none⟩ (.int .i64 0)).setCell ⟨bb, 3, none⟩ (.string ⟨#[]⟩)).setCell ⟨bb, 4, none⟩ (.slice none 0 0)).setCell ⟨bb, 5, none⟩ (.int .i32 v)).setCell ⟨bb, 6, none⟩ (.string ⟨#[]⟩)).setCell ⟨bb, 7, none⟩ (.slice none 0 0)) = z := ⟨_, rfl⟩
                  rw [hwn] at hS' qb' qa' ⊢
                  clear hwn hS qb qa
                  have hS := hS'
                  have qb := qb'
                  have qa := qa'
                  clear hS' qb' qa'
                  refine wpAnyT_done (by kernel_rfl) ?_
                  go_wp2_with fail
                  go_meet
                  exact ⟨ab, bb, rfl, rfl, hS, ga, gb, qa, qb⟩
                · go_simp
                  refine hK.out _ _ (fun _ => hS.alloc _) ?_
                  clear hK K
                  have qb := Blk.new w2 #[.int .i64 0, .int .i64 0, .int .i64 0, .string ⟨#[]⟩, .slice none 0 0, .int .i32 0, .string ⟨#[]⟩, .slice none 0 0] 27
                  have hS3 := hS.alloc (.cells #[.int .i64 0, .int .i64 0, .int .i64 0, .string ⟨#[]⟩, .slice none 0 0, .int .i32 0, .string ⟨#[]⟩, .slice none 0 0] 27)
                  have hz3 : w2.heap.size ≤ (w2.alloc (.cells #[.int .i64 0, .int .i64 0, .int .i64 0, .string ⟨#[]⟩, .slice none 0 0, .int .i32 0, .string ⟨#[]⟩, .slice none 0 0] 27)).heap.size := (alloc_nil _ _).size
                  have hne0 := qa.lt
                  replace qa := qa.alloc (.cells #[.int .i64 0, .int .i64 0, .int .i64 0, .string ⟨#[]⟩, .slice none 0 0, .int .i32 0, .string ⟨#[]⟩, .slice none 0 0] 27)
                  obtain ⟨bb, hbb⟩ : ∃ z, w2.heap.size = z := ⟨_, rfl⟩
                  have gb : wq.heap.size ≤ bb := by rw [← hbb]; exact hge
                  have hne : ab ≠ bb := by rw [← hbb]; exact Nat.ne_of_lt hne0
                  clear hne0
                  obtain ⟨w3, hw3⟩ : ∃ z, w2.alloc (.cells #[.int .i64 0, .int .i64 0, .int .i64 0, .string ⟨#[]⟩, .slice none 0 0, .int .i32 0, .string ⟨#[]⟩, .slice none 0 0] 27) = z := ⟨_, rfl⟩
                  rw [hbb] at qb ⊢
                  rw [hw3] at qb hS3 hz3 qa ⊢
                  clear hbb hw3
                  replace hge := Nat.le_trans hge hz3
                  replace hS := hS3
                  clear hS3 hz3
                  refine wpAnyT_one (i := 12) rfl (by kernel_rfl) (fun K hK => ?_)
                  go_simp
                  go_wp2_with (go_at_call 11; refine (numP_any 1 v _).mono ?_; rintro e w4 ⟨rfl, ho4⟩; have hS4 := Nil.trans hS ho4)
                  refine hK.out _ _ (fun _ => hS4) ?_
                  clear hK K
                  replace qa := qa.kept ho4 (fun h => h)
                  replace qb := qb.kept ho4 (fun h => h)
                  replace hge := Nat.le_trans hge ho4.size
                  replace hS := hS4
                  clear ho4 hS4
                  obtain ⟨⟨z0, z1, z2, z3, z4, z5, z6, z7⟩, zf0, zf1, zf2, zf3, zf4, zf5, zf6, zf7⟩ := qa.Eights
                  refine wpAnyT_one (i := 15) rfl (by kernel_rfl) (fun K hK => ?_)
                  go_simp
                  refine hK.out _ _ (fun _ => hS.putEight (fun h => absurd h (Nat.not_lt_of_le ga)) _ _ _ _ _ _ _ _) ?_
                  clear hK K z0 z1 z2 z3 z4 z5 z6 z7 zf0 zf1 zf2 zf3 zf4 zf5 zf6 zf7
                  have hS' := hS.putEight (b := ab) (fun h => absurd h (Nat.not_lt_of_le ga)) (.int .i64 0) (.int .i64 1) (.int .i64 0) (.string ⟨#[]⟩) (.slice none 0 0) (.int .i32 u) (.string ⟨#[]⟩) (.slice none 0 0)
                  have qa' := qa.putEight (.int .i64 0) (.int .i64 1) (.int .i64 0) (.string ⟨#[]⟩) (.slice none 0 0) (.int .i32 u) (.string ⟨#[]⟩) (.slice none 0 0)
                  have qb' := qb.otherEight hne.symm (.int .i64 0) (.int .i64 1) (.int .i64 0) (.string ⟨#[]⟩) (.slice none 0 0) (.int .i32 u) (.string ⟨#[]⟩) (.slice none 0 0)
                  obtain ⟨wn, hwn⟩ : ∃ z, ((((((((w4.setCell ⟨ab, 0, none⟩ (.int .i64 0)).setCell ⟨ab, 1, none⟩ (.int .i64 1)).setCell ⟨ab, 2, none⟩ (.int .i64 0)).setCell ⟨ab, 3, none⟩ (.string ⟨#[]⟩)).setCell ⟨ab, 4, none⟩ (.slice none 0 0)).setCell ⟨ab, 5, none⟩ (.int .i32 u)).setCell ⟨ab, 6, none⟩ (.string ⟨#[]⟩)).setCell ⟨ab, 7, none⟩ (.slice none 0 0)) = z := ⟨_, rfl⟩
                  rw [hwn] at hS' qa' qb' ⊢
                  clear hwn hS qa qb
                  have hS := hS'
                  have qa := qa'
                  have qb := qb'
                  clear hS' qa' qb'
                  obtain ⟨⟨z0, z1, z2, z3, z4, z5, z6, z7⟩, zf0, zf1, zf2, zf3, zf4, zf5, zf6, zf7⟩ := qb.Eights
                  refine wpAnyT_one (i := 16) rfl (by kernel_rfl) (fun K hK => ?_)
                  go_simp
                  refine hK.out _ _ (fun _ => hS.putEight (fun h => absurd h (Nat.not_lt_of_le gb)) _ _ _ _ _ _ _ _) ?_
                  clear hK K z0 z1 z2 z3 z4 z5 z6 z7 zf0 zf1 zf2 zf3 zf4 zf5 zf6 zf7
                  have hS' := hS.putEight (b := bb) (fun h => absurd h (Nat.not_lt_of_le gb)) (.int .i64 0) (.int .i64 1) (.int .i64 0) (.string ⟨#[]⟩) (.slice none 0 0) (.int .i32 v) (.string ⟨#[]⟩) (.slice none 0 0)
                  have qb' := qb.putEight (.int .i64 0) (.int .i64 1) (.int .i64 0) (.string ⟨#[]⟩) (.slice none 0 0) (.int .i32 v) (.string ⟨#[]⟩) (.slice none 0 0)
                  have qa' := qa.otherEight hne (.int .i64 0) (.int .i64 1) (.int .i64 0) (.string ⟨#[]⟩) (.slice none 0 0) (.int .i32 v) (.string ⟨#[]⟩) (.slice none 0 0)
                  obtain ⟨wn, hwn⟩ : ∃ z, ((((((((wn.setCell ⟨bb, 0, none⟩ (.int .i64 0)).setCell ⟨bb, 1, none⟩ (.int .i64 1)).setCell ⟨bb, 2, none⟩ (.int .i64 0)).setCell ⟨bb, 3, none⟩ (.string ⟨#[]⟩)).setCell ⟨bb, 4, none⟩ (.slice none 0 0)).setCell ⟨bb, 5, none⟩ (.int .i32 v)).setCell ⟨bb, 6, none⟩ (.string ⟨#[]⟩)).setCell ⟨bb, 7, none⟩ (.slice none 0 0)) = z := ⟨_, rfl⟩
                  rw [hwn] at hS' qb' qa' ⊢
                  clear hwn hS qb qa
                  have hS := hS'
                  have qb := qb'
                  have qa := qa'
                  clear hS' qb' qa'
                  refine wpAnyT_done (by kernel_rfl) ?_
                  go_wp2_with fail
                  go_meet
                  exact ⟨ab, bb, rfl, rfl, hS, ga, gb, qa, qb⟩
              · go_simp
                refine hK.out _ _ (fun _ => hS.alloc _) ?_
                clear hK K
                have qb := Blk.new w1 #[.int .i64 0, .int .i64 0, .int .i64 0, .string ⟨#[]⟩, .slice none 0 0, .int .i32 0, .string ⟨#[]⟩, .slice none 0 0] 27
                have hS2 := hS.alloc (.cells #[.int .i64 0, .int .i64 0, .int .i64 0, .string ⟨#[]⟩, .slice none 0 0, .int .i32 0, .string ⟨#[]⟩, .slice none 0 0] 27)
                have hz2 : w1.heap.size ≤ (w1.alloc (.cells #[.int .i64 0, .int .i64 0, .int .i64 0, .string ⟨#[]⟩, .slice none 0 0, .int .i32 0, .string ⟨#[]⟩, .slice none 0 0] 27)).heap.size := (alloc_nil _ _).size
                have hne0 := qa.lt
                replace qa := qa.alloc (.cells #[.int .i64 0, .int .i64 0, .int .i64 0, .string ⟨#[]⟩, .slice none 0 0, .int .i32 0, .string ⟨#[]⟩, .slice none 0 0] 27)
                obtain ⟨bb, hbb⟩ : ∃ z, w1.heap.size = z := ⟨_, rfl⟩
                have gb : wq.heap.size ≤ bb := by rw [← hbb]; exact hge
                have hne : ab ≠ bb := by rw [← hbb]; exact Nat.ne_of_lt hne0
                clear hne0
                obtain ⟨w2, hw2⟩ : ∃ z, w1.alloc (.cells #[.int .i64 0, .int .i64 0, .int .i64 0, .string ⟨#[]⟩, .slice none 0 0, .int .i32 0, .string ⟨#[]⟩, .slice none 0 0] 27) = z := ⟨_, rfl⟩
                rw [hbb] at qb ⊢
                rw [hw2] at qb hS2 hz2 qa ⊢
                clear hbb hw2
                replace hge := Nat.le_trans hge hz2
                replace hS := hS2
                clear hS2 hz2
                refine wpAnyT_one (i := 5) rfl (by kernel_rfl) (fun K hK => ?_)
                go_simp
                go_wp2_with (go_at_call 11; refine (numP_any 1 u _).mono ?_; rintro e w3 ⟨rfl, ho3⟩; have hS3 := Nil.trans hS ho3)
                refine hK.out _ _ (fun _ => hS3) ?_
                clear hK K
                replace qa := qa.kept ho3 (fun h => h)
                replace qb := qb.kept ho3 (fun h => h)
                replace hge := Nat.le_trans hge ho3.size
                replace hS := hS3
                clear ho3 hS3
                refine wpAnyT_one (i := 12) rfl (by kernel_rfl) (fun K hK => ?_)
                go_simp
                go_wp2_with (go_at_call 11; refine (numP_any 1 v _).mono ?_; rintro e w4 ⟨rfl, ho4⟩; have hS4 := Nil.trans hS ho4)
                refine hK.out _ _ (fun _ => hS4) ?_
                clear hK K
                replace qa := qa.kept ho4 (fun h => h)
                replace qb := qb.kept ho4 (fun h => h)
                replace hge := Nat.le_trans hge ho4.size
                replace hS := hS4
                clear ho4 hS4
                obtain ⟨⟨z0, z1, z2, z3, z4, z5, z6, z7⟩, zf0, zf1, zf2, zf3, zf4, zf5, zf6, zf7⟩ := qa.Eights
                refine wpAnyT_one (i := 15) rfl (by kernel_rfl) (fun K hK => ?_)
                go_simp
                refine hK.out _ _ (fun _ => hS.putEight (fun h => absurd h (Nat.not_lt_of_le ga)) _ _ _ _ _ _ _ _) ?_
                clear hK K z0 z1 z2 z3 z4 z5 z6 z7 zf0 zf1 zf2 zf3 zf4 zf5 zf6 zf7
                have hS' := hS.putEight (b := ab) (fun h => absurd h (Nat.not_lt_of_le ga)) (.int .i64 0) (.int .i64 1) (.int .i64 0) (.string ⟨#[]⟩) (.slice none 0 0) (.int .i32 u) (.string ⟨#[]⟩) (.slice none 0 0)
                have qa' := qa.putEight (.int .i64 0) (.int .i64 1) (.int .i64 0) (.string ⟨#[]⟩) (.slice none 0 0) (.int .i32 u) (.string ⟨#[]⟩) (.slice none 0 0)
                have qb' := qb.otherEight hne.symm (.int .i64 0) (.int .i64 1) (.int .i64 0) (.string ⟨#[]⟩) (.slice none 0 0) (.int .i32 u) (.string ⟨#[]⟩) (.slice none 0 0)
                obtain ⟨wn, hwn⟩ : ∃ z, ((((((((w4.setCell ⟨ab, 0, none⟩ (.int .i64 0)).setCell ⟨ab, 1, none⟩ (.int .i64 1)).setCell ⟨ab, 2, none⟩ (.int .i64 0)).setCell ⟨ab, 3, none⟩ (.string ⟨#[]⟩)).setCell ⟨ab, 4, none⟩ (.slice none 0 0)).setCell ⟨ab, 5, none⟩ (.int .i32 u)).setCell ⟨ab, 6, none⟩ (.string ⟨#[]⟩)).setCell ⟨ab, 7, none⟩ (.slice none 0 0)) = z := ⟨_, rfl⟩
                rw [hwn] at hS' qa' qb' ⊢
                clear hwn hS qa qb
                have hS := hS'
                have qa := qa'
                have qb := qb'
                clear hS' qa' qb'
                obtain ⟨⟨z0, z1, z2, z3, z4, z5, z6, z7⟩, zf0, zf1, zf2, zf3, zf4, zf5, zf6, zf7⟩ := qb.Eights
                refine wpAnyT_one (i := 16) rfl (by kernel_rfl) (fun K hK => ?_)
                go_simp
                refine hK.out _ _ (fun _ => hS.putEight (fun h => absurd h (Nat.not_lt_of_le gb)) _ _ _ _ _ _ _ _) ?_
                clear hK K z0 z1 z2 z3 z4 z5 z6 z7 zf0 zf1 zf2 zf3 zf4 zf5 zf6 zf7
                have hS' := hS.putEight (b := bb) (fun h => absurd h (Nat.not_lt_of_le gb)) (.int .i64 0) (.int .i64 1) (.int .i64 0) (.string ⟨#[]⟩) (.slice none 0 0) (.int .i32 v) (.string ⟨#[]⟩) (.slice none 0 0)
                have qb' := qb.putEight (.int .i64 0) (.int .i64 1) (.int .i64 0) (.string ⟨#[]⟩) (.slice none 0 0) (.int .i32 v) (.string ⟨#[]⟩) (.slice none 0 0)
                have qa' := qa.otherEight hne (.int .i64 0) (.int .i64 1) (.int .i64 0) (.string ⟨#[]⟩) (.slice none 0 0) (.int .i32 v) (.string ⟨#[]⟩) (.slice none 0 0)
                obtain ⟨wn, hwn⟩ : ∃ z, ((((((((wn.setCell ⟨bb, 0, none⟩ (.int .i64 0)).setCell ⟨bb, 1, none⟩ (.int .i64 1)).setCell ⟨bb, 2, none⟩ (.int .i64 0)).setCell ⟨bb, 3, none⟩ (.string ⟨#[]⟩)).setCell ⟨bb, 4, none⟩ (.slice none 0 0)).setCell ⟨bb, 5, none⟩ (.int .i32 v)).setCell ⟨bb, 6, none⟩ (.string ⟨#[]⟩)).setCell ⟨bb, 7, none⟩ (.slice none 0 0)) = z := ⟨_, rfl⟩
                rw [hwn] at hS' qb' qa' ⊢
                clear hwn hS qb qa
                have hS := hS'
                have qb := qb'
                have qa := qa'
                clear hS' qb' qa'
                refine wpAnyT_done (by kernel_rfl) ?_
                go_wp2_with fail
                go_meet
                exact ⟨ab, bb, rfl, rfl, hS, ga, gb, qa, qb⟩
            · go_simp
              refine hK.out _ _ (fun _ => hS.alloc _) ?_
              clear hK K
              have qb := Blk.new w0 #[.int .i64 0, .int .i64 0, .int .i64 0, .string ⟨#[]⟩, .slice none 0 0, .int .i32 0, .string ⟨#[]⟩, .slice none 0 0] 27
              have hS1 := hS.alloc (.cells #[.int .i64 0, .int .i64 0, .int .i64 0, .string ⟨#[]⟩, .slice none 0 0, .int .i32 0, .string ⟨#[]⟩, .slice none 0 0] 27)
              have hz1 : w0.heap.size ≤ (w0.alloc (.cells #[.int .i64 0, .int .i64 0, .int .i64 0, .string ⟨#[]⟩, .slice none 0 0, .int .i32 0, .string ⟨#[]⟩, .slice none 0 0] 27)).heap.size := (alloc_nil _ _).size
              obtain ⟨bb, hbb⟩ : ∃ z, w0.heap.size = z := ⟨_, rfl⟩
              have gb : wq.heap.size ≤ bb := by rw [← hbb]; exact hge
              obtain ⟨w1, hw1⟩ : ∃ z, w0.alloc (.cells #[.int .i64 0, .int .i64 0, .int .i64 0, .string ⟨#[]⟩, .slice none 0 0, .int .i32 0, .string ⟨#[]⟩, .slice none 0 0] 27) = z := ⟨_, rfl⟩
              rw [hbb] at qb ⊢
              rw [hw1] at qb hS1 hz1 ⊢
              clear hbb hw1
              replace hge := Nat.le_trans hge hz1
              replace hS := hS1
              clear hS1 hz1
              refine wpAnyT_two (i := 5) (j := 13) rfl rfl (by kernel_rfl) (fun K hK => ?_) (fun K hK => ?_)
              · go_simp
                go_wp2_with (go_at_call 11; refine (numP_any 1 u _).mono ?_; rintro e w2 ⟨rfl, ho2⟩; have hS2 := Nil.trans hS ho2)
                refine hK.out _ _ (fun _ => hS2) ?_
                clear hK K
                replace qb := qb.kept ho2 (fun h => h)
                replace hge := Nat.le_trans hge ho2.size
                replace hS := hS2
                clear ho2 hS2
                refine wpAnyT_two (i := 12) (j := 13) rfl rfl (by kernel_rfl) (fun K hK => ?_) (fun K hK => ?_)
                · go_simp
                  go_wp2_with (go_at_call 11; refine (numP_any 1 v _).mono ?_; rintro e w3 ⟨rfl, ho3⟩; have hS3 := Nil.trans hS ho3)
                  refine hK.out _ _ (fun _ => hS3) ?_
                  clear hK K
                  replace qb := qb.kept ho3 (fun h => h)
                  replace hge := Nat.le_trans hge ho3.size
                  replace hS := hS3
                  clear ho3 hS3
                  refine wpAnyT_one (i := 13) rfl (by kernel_rfl) (fun K hK => ?_)
                  go_simp
                  refine hK.out _ _ (fun _ => hS.alloc _) ?_
                  clear hK K
                  have qa := Blk.new w3 #[.int .i64 0, .int .i64 0, .int .i64 0, .string ⟨#[]⟩, .slice none 0 0, .int .i32 0, .string ⟨#[]⟩, .slice none 0 0] 27
                  have hS4 := hS.alloc (.cells #[.int .i64 0, .int .i64 0, .int .i64 0, .string ⟨#[]⟩, .slice none 0 0, .int .i32 0, .string ⟨#[]⟩, .slice none 0 0] 27)
                  have hz4 : w3.heap.size ≤ (w3.alloc (.cells #[.int .i64 0, .int .i64 0, .int .i64 0, .string ⟨#[]⟩, .slice none 0 0, .int .i32 0, .string ⟨#[]⟩, .slice none 0 0] 27)).heap.size := (alloc_nil _ _).size
                  have hne0 := qb.lt
                  replace qb := qb.alloc (.cells #[.int .i64 0, .int .i64 0, .int .i64 0, .string ⟨#[]⟩, .slice none 0 0, .int .i32 0, .string ⟨#[]⟩, .slice none 0 0] 27)
                  obtain ⟨ab, hab⟩ : ∃ z, w3.heap.size = z := ⟨_, rfl⟩
                  have ga : wq.heap.size ≤ ab := by rw [← hab]; exact hge
                  have hne : ab ≠ bb := by rw [← hab]; exact Nat.ne_of_gt hne0
                  clear hne0
                  obtain ⟨w4, hw4⟩ : ∃ z, w3.alloc (.cells #[.int .i64 0, .int .i64 0, .int .i64 0, .string ⟨#[]⟩, .slice none 0 0, .int .i32 0, .string ⟨#[]⟩, .slice none 0 0] 27) = z := ⟨_, rfl⟩
                  rw [hab] at qa ⊢
                  rw [hw4] at qa hS4 hz4 qb ⊢
                  clear hab hw4
                  replace hge := Nat.le_trans hge hz4
                  replace hS := hS4
                  clear hS4 hz4
                  obtain ⟨⟨z0, z1, z2, z3, z4, z5, z6, z7⟩, zf0, zf1, zf2, zf3, zf4, zf5, zf6, zf7⟩ := qa.Eights
                  refine wpAnyT_one (i := 15) rfl (by kernel_rfl) (fun K hK => ?_)
                  go_simp
                  refine hK.out _ _ (fun _ => hS.putEight (fun h => absurd h (Nat.not_lt_of_le ga)) _ _ _ _ _ _ _ _) ?_
                  clear hK K z0 z1 z2 z3 z4 z5 z6 z7 zf0 zf1 zf2 zf3 zf4 zf5 zf6 zf7
                  have hS' := hS.putEight (b := ab) (fun h => absurd h (Nat.not_lt_of_le ga)) (.int .i64 0) (.int .i64 1) (.int .i64 0) (.string ⟨#[]⟩) (.slice none 0 0) (.int .i32 u) (.string ⟨#[]⟩) (.slice none 0 0)
                  have qa' := qa.putEight (.int .i64 0) (.int .i64 1) (.int .i64 0) (.string ⟨#[]⟩) (.slice none 0 0) (.int .i32 u) (.string ⟨#[]⟩) (.slice none 0 0)
                  have qb' := qb.otherEight hne.symm (.int .i64 0) (.int .i64 1) (.int .i64 0) (.string ⟨#[]⟩) (.slice none 0 0) (.int .i32 u) (.string ⟨#[]⟩) (.slice none 0 0)
                  obtain ⟨wn, hwn⟩ : ∃ z, ((((((((w4.setCell ⟨ab, 0, none⟩ (.int .i64 0)).setCell ⟨ab, 1, none⟩ (.int .i64 1)).setCell ⟨ab, 2, none⟩ (.int .i64 0)).setCell ⟨ab, 3, none⟩ (.string ⟨#[]⟩)).setCell ⟨ab, 4, none⟩ (.slice none 0 0)).setCell ⟨ab, 5, none⟩ (.int .i32 u)).setCell ⟨ab, 6, none⟩ (.string ⟨#[]⟩)).setCell ⟨ab, 7, none⟩ (.slice none 0 0)) = z := ⟨_, rfl⟩
                  rw [hwn] at hS' qa' qb' ⊢
                  clear hwn hS qa qb
                  have hS := hS'
                  have qa := qa'
                  have qb := qb'
                  clear hS' qa' qb'
                  obtain ⟨⟨z0, z1, z2, z3, z4, z5, z6, z7⟩, zf0, zf1, zf2, zf3, zf4, zf5, zf6, zf7⟩ := qb.Eights
                  refine wpAnyT_one (i := 16) rfl (by kernel_rfl) (fun K hK => ?_)
                  go_simp
                  refine hK.out _ _ (fun _ => hS.putEight (fun h => absurd h (Nat.not_lt_of_le gb)) _ _ _ _ _ _ _ _) ?_
                  clear hK K z0 z1 z2 z3 z4 z5 z6 z7 zf0 zf1 zf2 zf3 zf4 zf5 zf6 zf7
                  have hS' := hS.putEight (b := bb) (fun h => absurd h (Nat.not_lt_of_le gb)) (.int .i64 0) (.int .i64 1) (.int .i64 0) (.string ⟨#[]⟩) (.slice none 0 0) (.int .i32 v) (.string ⟨#[]⟩) (.slice none 0 0)
                  have qb' := qb.putEight (.int .i64 0) (.int .i64 1) (.int .i64 0) (.string ⟨#[]⟩) (.slice none 0 0) (.int .i32 v) (.string ⟨#[]⟩) (.slice none 0 0)
                  have qa' := qa.otherEight hne (.int .i64 0) (.int .i64 1) (.int .i64 0) (.string ⟨#[]⟩) (.slice none 0 0) (.int .i32 v) (.string ⟨#[]⟩) (.slice none 0 0)
                  obtain ⟨wn, hwn⟩ : ∃ z, ((((((((wn.setCell ⟨bb, 0, none⟩ (.int .i64 0)).setCell ⟨bb, 1, none⟩ (.int .i64 1)).setCell ⟨bb, 2, none⟩ (.int .i64 0)).setCell ⟨bb, 3, none⟩ (.string ⟨#[]⟩)).setCell ⟨bb, 4, none⟩ (.slice none 0 0)).setCell ⟨bb, 5, none⟩ (.int .i32 v)).setCell ⟨bb, 6, none⟩ (.string ⟨#[]⟩)).setCell ⟨bb, 7, none⟩ (.slice none 0 0)) = z := ⟨_, rfl⟩
                  rw [hwn] at hS' qb' qa' ⊢
                  clear hwn hS qb qa
                  have hS := hS'
                  have qb := qb'
                  have qa := qa'
                  clear hS' qb' qa'
                  refine wpAnyT_done (by kernel_rfl) ?_
                  go_wp2_with fail
                  go_meet
                  exact ⟨ab, bb, rfl, rfl, hS, ga, gb, qa, qb⟩
                · go_simp
                  refine hK.out _ _ (fun _ => hS.alloc _) ?_
                  clear hK K
                  have qa := Blk.new w2 #[.int .i64 0, .int .i64 0, .int .i64 0, .string ⟨#[]⟩, .slice none 0 0, .int .i32 0, .string ⟨#[]⟩, .slice none 0 0] 27
                  have hS3 := hS.alloc (.cells #[.int .i64 0, .int .i64 0, .int .i64 0, .string ⟨#[]⟩, .slice none 0 0, .int .i32 0, .string ⟨#[]⟩, .slice none 0 0] 27)
                  have hz3 : w2.heap.size ≤ (w2.alloc (.cells #[.int .i64 0, .int .i64 0, .int .i64 0, .string ⟨#[]⟩, .slice none 0 0, .int .i32 0, .string ⟨#[]⟩, .slice none 0 0] 27)).heap.size := (alloc_nil _ _).size
                  have hne0 := qb.lt
                  replace qb := qb.alloc (.cells #[.int .i64 0, .int .i64 0, .int .i64 0, .string ⟨#[]⟩, .slice none 0 0, .int .i32 0, .string ⟨#[]⟩, .slice none 0 0] 27)
                  obtain ⟨ab, hab⟩ : ∃ z, w2.heap.size = z := ⟨_, rfl⟩
                  have ga : wq.heap.size ≤ ab := by rw [← hab]; exact hge
                  have hne : ab ≠ bb := by rw [← hab]; exact Nat.ne_of_gt hne0
                  clear hne0
                  obtain ⟨w3, hw3⟩ : ∃ z, w2.alloc (.cells #[.int .i64 0, .int .i64 0, .int .i64 0, .string ⟨#[]⟩, .slice none 0 0, .int .i32 0, .string ⟨#[]⟩, .slice none 0 0] 27) = z := ⟨_, rfl⟩
                  rw [hab] at qa ⊢
                  rw [hw3] at qa hS3 hz3 qb ⊢
                  clear hab hw3
                  replace hge := Nat.le_trans hge hz3
                  replace hS := hS3
                  clear hS3 hz3
                  refine wpAnyT_one (i := 12) rfl (by kernel_rfl) (fun K hK => ?_)
                  go_simp
                  go_wp2_with (go_at_call 11; refine (numP_any 1 v _).mono ?_; rintro e w4 ⟨rfl, ho4⟩; have hS4 := Nil.trans hS ho4)
                  refine hK.out _ _ (fun _ => hS4) ?_
                  clear hK K
                  replace qa := qa.kept ho4 (fun h => h)
                  replace qb := qb.kept ho4 (fun h => h)
                  replace hge := Nat.le_trans hge ho4.size
                  replace hS := hS4
                  clear ho4 hS4
                  obtain ⟨⟨z0, z1, z2, z3, z4, z5, z6, z7⟩, zf0, zf1, zf2, zf3, zf4, zf5, zf6, zf7⟩ := qa.Eights
                  refine wpAnyT_one (i := 15) rfl (by kernel_rfl) (fun K hK => ?_)
                  go_simp
                  refine hK.out _ _ (fun _ => hS.putEight (fun h => absurd h (Nat.not_lt_of_le ga)) _ _ _ _ _ _ _ _) ?_
                  clear hK K z0 z1 z2 z3 z4 z5 z6 z7 zf0 zf1 zf2 zf3 zf4 zf5 zf6 zf7
                  have hS' := hS.putEight (b := ab) (fun h => absurd h (Nat.not_lt_of_le ga)) (.int .i64 0) (.int .i64 1) (.int .i64 0) (.string ⟨#[]⟩) (.slice none 0 0) (.int .i32 u) (.string ⟨#[]⟩) (.slice none 0 0)
                  have qa' := qa.putEight (.int .i64 0) (.int .i64 1) (.int .i64 0) (.string ⟨#[]⟩) (.slice none 0 0) (.int .i32 u) (.string ⟨#[]⟩) (.slice none 0 0)
                  have qb' := qb.otherEight hne.symm (.int .i64 0) (.int .i64 1) (.int .i64 0) (.string ⟨#[]⟩) (.slice none 0 0) (.int .i32 u) (.string ⟨#[]⟩) (.slice none 0 0)
                  obtain ⟨wn, hwn⟩ : ∃ z, ((((((((w4.setCell ⟨ab, 0, none⟩ (.int .i64 0)).setCell ⟨ab, 1, none⟩ (.int .i64 1)).setCell ⟨ab, 2, none⟩ (.int .i64 0)).setCell ⟨ab, 3, none⟩ (.string ⟨#[]⟩)).setCell ⟨ab, 4, none⟩ (.slice none 0 0)).setCell ⟨ab, 5, none⟩ (.int .i32 u)).setCell ⟨ab, 6, none⟩ (.string ⟨#[]⟩)).setCell ⟨ab, 7, none⟩ (.slice none 0 0)) = z := ⟨_, rfl⟩
                  rw [hwn] at hS' qa' qb' ⊢
                  clear hwn hS qa qb
                  have hS := hS'
                  have qa := qa'
                  have qb := qb'
                  clear hS' qa' qb'
                  obtain ⟨⟨z0, z1, z2, z3, z4, z5, z6, z7⟩, zf0, zf1, zf2, zf3, zf4, zf5, zf6, zf7⟩ := qb.Eights
                  refine wpAnyT_one (i := 16) rfl (by kernel_rfl) (fun K hK => ?_)
                  go_simp
                  refine hK.out _ _ (fun _ => hS.putEight (fun h => absurd h (Nat.not_lt_of_le gb)) _ _ _ _ _ _ _ _) ?_
                  clear hK K z0 z1 z2 z3 z4 z5 z6 z7 zf0 zf1 zf2 zf3 zf4 zf5 zf6 zf7
                  have hS' := hS.putEight (b := bb) (fun h => absurd h (Nat.not_lt_of_le gb)) (.int .i64 0) (.int .i64 1) (.int .i64 0) (.string ⟨#[]⟩) (.slice none 0 0) (.int .i32 v) (.string ⟨#[]⟩) (.slice none 0 0)
                  have qb' := qb.putEight (.int .i64 0) (.int .i64 1) (.int .i64 0) (.string ⟨#[]⟩) (.slice none 0 0) (.int .i32 v) (.string ⟨#[]⟩) (.slice none 0 0)
                  have qa' := qa.otherEight hne (.int .i64 0) (.int .i64 1) (.int .i64 0) (.string ⟨#[]⟩) (.slice none 0 0) (.int .i32 v) (.string ⟨#[]⟩) (.slice none 0 0)
                  obtain ⟨wn, hwn⟩ : ∃ z, ((((((((wn.setCell ⟨bb, 0, none⟩ (.int .i64 0)).setCell ⟨bb, 1, none⟩ (.int .i64 1)).setCell ⟨bb, 2, none⟩ (.int .i64 0)).setCell ⟨bb, 3, none⟩ (.string ⟨#[]⟩)).setCell ⟨bb, 4, none⟩ (.slice none 0 0)).setCell ⟨bb, 5, none⟩ (.int .i32 v)).setCell ⟨bb, 6, none⟩ (.string ⟨#[]⟩)).setCell ⟨bb, 7, none⟩ (.slice none 0 0)) = z := ⟨_, rfl⟩
                  rw [hwn] at hS' qb' qa' ⊢
                  clear hwn hS qb qa
                  have hS := hS'
                  have qb := qb'
                  have qa := qa'
                  clear hS' qb' qa'
                  refine wpAnyT_done (by kernel_rfl) ?_
                  go_wp2_with fail
                  go_meet
                  exact ⟨ab, bb, rfl, rfl, hS, ga, gb, qa, qb⟩
              · go_simp
                refine hK.out _ _ (fun _ => hS.alloc _) ?_
                clear hK K
                have qa := Blk.new w1 #[.int .i64 0, .int .i64 0, .int .i64 0, .string ⟨#[]⟩, .slice none 0 0, .int .i32 0, .string ⟨#[]⟩, .slice none 0 0] 27
                have hS2 := hS.alloc (.cells #[.int .i64 0, .int .i64 0, .int .i64 0, .string ⟨#[]⟩, .slice none 0 0, .int .i32 0, .string ⟨#[]⟩, .slice none 0 0] 27)
                have hz2 : w1.heap.size ≤ (w1.alloc (.cells #[.int .i64 0, .int .i64 0, .int .i64 0, .string ⟨#[]⟩, .slice none 0 0, .int .i32 0, .string ⟨#[]⟩, .slice none 0 0] 27)).heap.size := (alloc_nil _ _).size
                have hne0 := qb.lt
                replace qb := qb.alloc (.cells #[.int .i64 0, .int .i64 0, .int .i64 0, .string ⟨#[]⟩, .slice none 0 0, .int .i32 0, .string ⟨#[]⟩, .slice none 0 0] 27)
                obtain ⟨ab, hab⟩ : ∃ z, w1.heap.size = z := ⟨_, rfl⟩
                have ga : wq.heap.size ≤ ab := by rw [← hab]; exact hge
                have hne : ab ≠ bb := by rw [← hab]; exact Nat.ne_of_gt hne0
                clear hne0
                obtain ⟨w2, hw2⟩ : ∃ z, w1.alloc (.cells #[.int .i64 0, .int .i64 0, .int .i64 0, .string ⟨#[]⟩, .slice none 0 0, .int .i32 0, .string ⟨#[]⟩, .slice none 0 0] 27) = z := ⟨_, rfl⟩
                rw [hab] at qa ⊢
                rw [hw2] at qa hS2 hz2 qb ⊢
                clear hab hw2
                replace hge := Nat.le_trans hge hz2
                replace hS := hS2
                clear hS2 hz2
                refine wpAnyT_one (i := 5) rfl (by kernel_rfl) (fun K hK => ?_)
                go_simp
                go_wp2_with (go_at_call 11; refine (numP_any 1 u _).mono ?_; rintro e w3 ⟨rfl, ho3⟩; have hS3 := Nil.trans hS ho3)
                refine hK.out _ _ (fun _ => hS3) ?_
                clear hK K
                replace qa := qa.kept ho3 (fun h => h)
                replace qb := qb.kept ho3 (fun h => h)
                replace hge := Nat.le_trans hge ho3.size
                replace hS := hS3
                clear ho3 hS3
                refine wpAnyT_one (i := 12) rfl (by kernel_rfl) (fun K hK => ?_)
                go_simp
                go_wp2_with (go_at_call 11; refine (numP_any 1 v _).mono ?_; rintro e w4 ⟨rfl, ho4⟩; have hS4 := Nil.trans hS ho4)
                refine hK.out _ _ (fun _ => hS4) ?_
                clear hK K
                replace qa := qa.kept ho4 (fun h => h)
                replace qb := qb.kept ho4 (fun h => h)
                replace hge := Nat.le_trans hge ho4.size
                replace hS := hS4
                clear ho4 hS4
                obtain ⟨⟨z0, z1, z2, z3, z4, z5, z6, z7⟩, zf0, zf1, zf2, zf3, zf4, zf5, zf6, zf7⟩ := qa.Eights
                refine wpAnyT_one (i := 15) rfl (by kernel_rfl) (fun K hK => ?_)
                go_simp
                refine hK.out _ _ (fun _ => hS.putEight (fun h => absurd h (Nat.not_lt_of_le ga)) _ _ _ _ _ _ _ _) ?_
                clear hK K z0 z1 z2 z3 z4 z5 z6 z7 zf0 zf1 zf2 zf3 zf4 zf5 zf6 zf7
                have hS' := hS.putEight (b := ab) (fun h => absurd h (Nat.not_lt_of_le ga)) (.int .i64 0) (.int .i64 1) (.int .i64 0) (.string ⟨#[]⟩) (.slice none 0 0) (.int .i32 u) (.string ⟨#[]⟩) (.slice none 0 0)
                have qa' := qa.putEight (.int .i64 0) (.int .i64 1) (.int .i64 0) (.string ⟨#[]⟩) (.slice none 0 0) (.int .i32 u) (.string ⟨#[]⟩) (.slice none 0 0)
                have qb' := qb.otherEight hne.symm (.int .i64 0) (.int .i64 1) (.int .i64 0) (.string ⟨#[]⟩) (.slice none 0 0) (.int .i32 u) (.string ⟨#[]⟩) (.slice none 0 0)
                obtain ⟨wn, hwn⟩ : ∃ z, ((((((((w4.setCell ⟨ab, 0, none⟩ (.int .i64 0)).setCell ⟨ab, 1, none⟩ (.int .i64 1)).setCell ⟨ab, 2, none⟩ (.int .i64 0)).setCell ⟨ab, 3, none⟩ (.string ⟨#[]⟩)).setCell ⟨ab, 4, none⟩ (.slice none 0 0)).setCell ⟨ab, 5, none⟩ (.int .i32 u)).setCell ⟨ab, 6, none⟩ (.string ⟨#[]⟩)).setCell ⟨ab, 7, none⟩ (.slice none 0 0)) = z := ⟨_, rfl⟩
                rw [hwn] at hS' qa' qb' ⊢
                clear hwn hS qa qb
                have hS := hS'
                have qa := qa'
                have qb := qb'
                clear hS' qa' qb'
                obtain ⟨⟨z0, z1, z2, z3, z4, z5, z6, z7⟩, zf0, zf1, zf2, zf3, zf4, zf5, zf6, zf7⟩ := qb.Eights
                refine wpAnyT_one (i := 16) rfl (by kernel_rfl) (fun K hK => ?_)
                go_simp
                refine hK.out _ _ (fun _ => hS.putEight (fun h => absurd h (Nat.not_lt_of_le gb)) _ _ _ _ _ _ _ _) ?_
                clear hK K z0 z1 z2 z3 z4 z5 z6 z7 zf0 zf1 zf2 zf3 zf4 zf5 zf6 zf7
                have hS' := hS.putEight (b := bb) (fun h => absurd h (Nat.not_lt_of_le gb)) (.int .i64 0) (.int .i64 1) (.int .i64 0) (.string ⟨#[]⟩) (.slice none 0 0) (.int .i32 v) (.string ⟨#[]⟩) (.slice none 0 0)
                have qb' := qb.putEight (.int .i64 0) (.int .i64 1) (.int .i64 0) (.string ⟨#[]⟩) (.slice none 0 0) (.int .i32 v) (.string ⟨#[]⟩) (.slice none 0 0)
                have qa' := qa.otherEight hne (.int .i64 0) (.int .i64 1) (.int .i64 0) (.string ⟨#[]⟩) (.slice none 0 0) (.int .i32 v) (.string ⟨#[]⟩) (.slice none 0 0)
                obtain ⟨wn, hwn⟩ : ∃ z, ((((((((wn.setCell ⟨bb, 0, none⟩ (.int .i64 0)).setCell ⟨bb, 1, none⟩ (.int .i64 1)).setCell ⟨bb, 2, none⟩ (.int .i64 0)).setCell ⟨bb, 3, none⟩ (.string ⟨#[]⟩)).setCell ⟨bb, 4, none⟩ (.slice none 0 0)).setCell ⟨bb, 5, none⟩ (.int .i32 v)).setCell ⟨bb, 6, none⟩ (.string ⟨#[]⟩)).setCell ⟨bb, 7, none⟩ (.slice none 0 0)) = z := ⟨_, rfl⟩
                rw [hwn] at hS' qb' qa' ⊢
                clear hwn hS qb qa
                have hS := hS'
                have qb := qb'
                have qa := qa'
                clear hS' qb' qa'
                refine wpAnyT_done (by kernel_rfl) ?_
                go_wp2_with fail
                go_meet
                exact ⟨ab, bb, rfl, rfl, hS, ga, gb, qa, qb⟩
          case rest =>
            obtain ⟨ab, bb, rfl, rfl, hoc, ga, gb, qa, qb⟩ := hcut
            have dl0 := hoc.cell cl0 (fun h => h)
            have dl1 := hoc.cell cl1 (fun h => h)
            have dl2 := hoc.cell cl2 (fun h => h)
            clear cl0 cl1 cl2
            go_wp2_with fail
            obtain ⟨wq2, hwq2⟩ : ∃ z, wc = z := ⟨_, rfl⟩
            rw [hwq2] at hoc dl0 dl1 dl2 qa qb ⊢
            clear hwq2
            go_cut [10, 11] (fun s8 s9 wx => ∃ (ab bb : Nat), s8 = .pointer (some ⟨ab, 0, none⟩) ∧ s9 = .pointer (some ⟨bb, 0, none⟩) ∧ Only Nil wq2 wx ∧ wq2.heap.size ≤ ab ∧ wq2.heap.size ≤ bb ∧ Blk wx ab #[.int .i64 0, .int .i64 1, .int .i64 0, .string ⟨#[]⟩, .slice none 0 0, .int .i32 x, .string ⟨#[]⟩, .slice none 0 0] 27 ∧ Blk wx bb #[.int .i64 0, .int .i64 1, .int .i64 0, .string ⟨#[]⟩, .slice none 0 0, .int .i32 y, .string ⟨#[]⟩, .slice none 0 0] 27)
            case first =>
              clear qa qb ga gb
              have hS : Only Nil wq2 wq2.drew := (Only.refl Nil wq2).drew
              have hge : wq2.heap.size ≤ wq2.drew.heap.size := Nat.le_refl _
              refine wp_region_T (fun w' => Only Nil wq2 w') [] (by kernel_rfl) ?_
              obtain ⟨w0, hw0⟩ : ∃ z, wq2.drew = z := ⟨_, rfl⟩
              rw [hw0] at hS hge ⊢
              clear hw0
              refine wpAnyT_take 0 (v := ?_) rfl (by kernel_rfl) (by kernel_rfl) (by kernel_rfl) (fun _ _ _ h => h) (by kernel_rfl) (by kernel_rfl) (Or.inl ⟨by kernel_rfl, ?_⟩) hS ?_
              rotate_left
              · (intro w' hw'; have c0' := M.Only.cell hw' dl0 (fun h => h); have c1' := M.Only.cell hw' dl1 (fun h => h); go_simp; (try with_reducible rfl))
              refine wpAnyT_take 1 (v := ?_) rfl (by kernel_rfl) (by kernel_rfl) (by kernel_rfl) (fun _ _ _ h => h) (by kernel_rfl) (by kernel_rfl) (Or.inl ⟨by kernel_rfl, ?_⟩) hS ?_
              rotate_left
              · (intro w' hw'; have c0' := M.Only.cell hw' dl0 (fun h => h); have c1' := M.Only.cell hw' dl1 (fun h => h); go_simp; (try with_reducible rfl))
              refine wpAnyT_take 2 (v := ?_) rfl (by kernel_rfl) (by kernel_rfl) (by kernel_rfl) (fun _ _ _ h => h) (by kernel_rfl) (by kernel_rfl) (Or.inl ⟨by kernel_rfl, ?_⟩) hS ?_
              rotate_left
              · (intro w' hw'; have c0' := M.Only.cell hw' dl0 (fun h => h); have c1' := M.Only.cell hw' dl1 (fun h => h); go_simp; (try with_reducible rfl))
              refine wpAnyT_take 3 (v := ?_) rfl (by kernel_rfl) (by kernel_rfl) (by kernel_rfl) (fun _ _ _ h => h) (by kernel_rfl) (by kernel_rfl) (Or.inl ⟨by kernel_rfl, ?_⟩) hS ?_
              rotate_left
              · (intro w' hw'; have c0' := M.Only.cell hw' dl0 (fun h => h); have c1' := M.Only.cell hw' dl1 (fun h => h); go_simp; (try with_reducible rfl))
              refine wpAnyT_take 5 (v := ?_) rfl (by kernel_rfl) (by kernel_rfl) (by kernel_rfl) (fun _ _ _ h => h) (by kernel_rfl) (by kernel_rfl) (Or.inl ⟨by kernel_rfl, ?_⟩) hS ?_
              rotate_left
              · (intro w' hw'; have c0' := M.Only.cell hw' dl0 (fun h => h); have c1' := M.Only.cell hw' dl1 (fun h => h); go_simp; (try with_reducible rfl))
              refine wpAnyT_take 6 (v := ?_) rfl (by kernel_rfl) (by kernel_rfl) (by kernel_rfl) (fun _ _ _ h => h) (by kernel_rfl) (by kernel_rfl) (Or.inl ⟨by kernel_rfl, ?_⟩) hS ?_
              rotate_left
              · (intro w' hw'; have c0' := M.Only.cell hw' dl0 (fun h => h); have c1' := M.Only.cell hw' dl1 (fun h => h); go_simp; (try with_reducible rfl))
              refine wpAnyT_take 7 (v := ?_) rfl (by kernel_rfl) (by kernel_rfl) (by kernel_rfl) (fun _ _ _ h => h) (by kernel_rfl) (by kernel_rfl) (Or.inl ⟨by kernel_rfl, ?_⟩) hS ?_
              rotate_left
              · (intro w' hw'; have c0' := M.Only.cell hw' dl0 (fun h => h); have c1' := M.Only.cell hw' dl1 (fun h => h); go_simp; (try with_reducible rfl))
              refine wpAnyT_take 8 (v := ?_) rfl (by kernel_rfl) (by kernel_rfl) (by kernel_rfl) (fun _ _ _ h => h) (by kernel_rfl) (by kernel_rfl) (Or.inl ⟨by kernel_rfl, ?_⟩) hS ?_
              rotate_left
              · (intro w' hw'; have c0' := M.Only.cell hw' dl0 (fun h => h); have c1' := M.Only.cell hw' dl1 (fun h => h); go_simp; (try with_reducible rfl))
              refine wpAnyT_take 9 (v := ?_) rfl (by kernel_rfl) (by kernel_rfl) (by kernel_rfl) (fun _ _ _ h => h) (by kernel_rfl) (by kernel_rfl) (Or.inl ⟨by kernel_rfl, ?_⟩) hS ?_
              rotate_left
              · (intro w' hw'; have c0' := M.Only.cell hw' dl0 (fun h => h); have c1' := M.Only.cell hw' dl1 (fun h => h); go_simp; (try with_reducible rfl))
              refine wpAnyT_three (i := 4) (j := 11) (k := 12) rfl rfl rfl (by kernel_rfl) (fun K hK => ?_) (fun K hK => ?_) (fun K hK => ?_)
              · go_simp
                go_wp2_with (go_at_call 11; refine (numP_any 1 x _).mono ?_; rintro e w1 ⟨rfl, ho1⟩; have hS1 := Nil.trans hS ho1)
                refine hK.out _ _ (fun _ => hS1) ?_
                clear hK K
                replace hge := Nat.le_trans hge ho1.size
                replace hS := hS1
                clear ho1 hS1
                refine wpAnyT_three (i := 10) (j := 11) (k := 12) rfl rfl rfl (by kernel_rfl) (fun K hK => ?_) (fun K hK => ?_) (fun K hK => ?_)
                · go_simp
                  go_wp2_with (go_at_call 11; refine (numP_any 1 y _).mono ?_; rintro e w2 ⟨rfl, ho2⟩; have hS2 := Nil.trans hS ho2)
                  refine hK.out _ _ (fun _ => hS2) ?_
                  clear hK K
                  replace hge := Nat.le_trans hge ho2.size
                  replace hS := hS2
                  clear ho2 hS2
                  refine wpAnyT_two (i := 11) (j := 12) rfl rfl (by kernel_rfl) (fun K hK => ?_) (fun K hK => ?_)
                  · go_simp
                    refine hK.out _ _ (fun _ => hS.alloc _) ?_
                    clear hK K
                    have qa := Blk.new w2 #[.int .i64 0, .int .i64 0, .int .i64 0, .string ⟨#[]⟩, .slice none 0 0, .int .i32 0, .string ⟨#[]⟩, .slice none 0 0] 27
                    have hS3 := hS.alloc (.cells #[.int .i64 0, .int .i64 0, .int .i64 0, .string ⟨#[]⟩, .slice none 0 0, .int .i32 0, .string ⟨#[]⟩, .slice none 0 0] 27)
                    have hz3 : w2.heap.size ≤ (w2.alloc (.cells #[.int .i64 0, .int .i64 0, .int .i64 0, .string ⟨#[]⟩, .slice none 0 0, .int .i32 0, .string ⟨#[]⟩, .slice none 0 0] 27)).heap.size := (alloc_nil _ _).size
                    obtain ⟨ab, hab⟩ : ∃ z, w2.heap.size = z := ⟨_, rfl⟩
                    have ga : wq2.heap.size ≤ ab := by rw [← hab]; exact hge
                    obtain ⟨w3, hw3⟩ : ∃ z, w2.alloc (.cells #[.int .i64 0, .int .i64 0, .int .i64 0, .string ⟨#[]⟩, .slice none 0 0, .int .i32 0, .string ⟨#[]⟩, .slice none 0 0] 27) = z := ⟨_, rfl⟩
                    rw [hab] at qa ⊢
                    rw [hw3] at qa hS3 hz3 ⊢
                    clear hab hw3
                    replace hge := Nat.le_trans hge hz3
                    replace hS := hS3
                    clear hS3 hz3
                    refine wpAnyT_one (i := 12) rfl (by kernel_rfl) (fun K hK => ?_)
                    go_simp
                    refine hK.out _ _ (fun _ => hS.alloc _) ?_
                    clear hK K
                    have qb := Blk.new w3 #[.int .i64 0, .int .i64 0, .int .i64 0, .string ⟨#[]⟩, .slice none 0 0, .int .i32 0, .string ⟨#[]⟩, .slice none 0 0] 27
                    have hS4 := hS.alloc (.cells #[.int .i64 0, .int .i64 0, .int .i64 0, .string ⟨#[]⟩, .slice none 0 0, .int .i32 0, .string ⟨#[]⟩, .slice none 0 0] 27)
                    have hz4 : w3.heap.size ≤ (w3.alloc (.cells #[.int .i64 0, .int .i64 0, .int .i64 0, .string ⟨#[]⟩, .slice none 0 0, .int .i32 0, .string ⟨#[]⟩, .slice none 0 0] 27)).heap.size := (alloc_nil _ _).size
                    have hne0 := qa.lt
                    replace qa := qa.alloc (.cells #[.int .i64 0, .int .i64 0, .int .i64 0, .string ⟨#[]⟩, .slice none 0 0, .int .i32 0, .string ⟨#[]⟩, .slice none 0 0] 27)
                    obtain ⟨bb, hbb⟩ : ∃ z, w3.heap.size = z := ⟨_, rfl⟩
                    have gb : wq2.heap.size ≤ bb := by rw [← hbb]; exact hge
                    have hne : ab ≠ bb := by rw [← hbb]; exact Nat.ne_of_lt hne0
                    clear hne0
                    obtain ⟨w4, hw4⟩ : ∃ z, w3.alloc (.cells #[.int .i64 0, .int .i64 0, .int .i64 0, .string ⟨#[]⟩, .slice none 0 0, .int .i32 0, .string ⟨#[]⟩, .slice none 0 0] 27) = z := ⟨_, rfl⟩
                    rw [hbb] at qb ⊢
                    rw [hw4] at qb hS4 hz4 qa ⊢
                    clear hbb hw4
                    replace hge := Nat.le_trans hge hz4
                    replace hS := hS4
                    clear hS4 hz4
                    obtain ⟨⟨z0, z1, z2, z3, z4, z5, z6, z7⟩, zf0, zf1, zf2, zf3, zf4, zf5, zf6, zf7⟩ := qa.Eights
                    refine wpAnyT_one (i := 13) rfl (by kernel_rfl) (fun K hK => ?_)
                    go_simp
                    refine hK.out _ _ (fun _ => hS.putEight (fun h => absurd h (Nat.not_lt_of_le ga)) _ _ _ _ _ _ _ _) ?_
                    clear hK K z0 z1 z2 z3 z4 z5 z6 z7 zf0 zf1 zf2 zf3 zf4 zf5 zf6 zf7
                    have hS' := hS.putEight (b := ab) (fun h => absurd h (Nat.not_lt_of_le ga)) (.int .i64 0) (.int .i64 1) (.int .i64 0) (.string ⟨#[]⟩) (.slice none 0 0) (.int .i32 x) (.string ⟨#[]⟩) (.slice none 0 0)
                    have qa' := qa.putEight (.int .i64 0) (.int .i64 1) (.int .i64 0) (.string ⟨#[]⟩) (.slice none 0 0) (.int .i32 x) (.string ⟨#[]⟩) (.slice none 0 0)
                    have qb' := qb.otherEight hne.symm (.int .i64 0) (.int .i64 1) (.int .i64 0) (.string ⟨#[]⟩) (.slice none 0 0) (.int .i32 x) (.string ⟨#[]⟩) (.slice none 0 0)
                    obtain ⟨wn, hwn⟩ : ∃ z, ((((((((w4.setCell ⟨ab, 0, none⟩ (.int .i64 0)).setCell ⟨ab, 1, none⟩ (.int .i64 1)).setCell ⟨ab, 2, none⟩ (.int .i64 0)).setCell ⟨ab, 3, none⟩ (.string ⟨#[]⟩)).setCell ⟨ab, 4, none⟩ (.slice none 0 0)).setCell ⟨ab, 5, none⟩ (.int .i32 x)).setCell ⟨ab, 6, none⟩ (.string ⟨#[]⟩)).setCell ⟨ab, 7, none⟩ (.slice none 0 0)) = z := ⟨_, rfl⟩
                    rw [hwn] at hS' qa' qb' ⊢
                    clear hwn hS qa qb
                    have hS := hS'
                    have qa := qa'
                    have qb := qb'
                    clear hS' qa' qb'
                    obtain ⟨⟨z0, z1, z2, z3, z4, z5, z6, z7⟩, zf0, zf1, zf2, zf3, zf4, zf5, zf6, zf7⟩ := qb.Eights
                    refine wpAnyT_one (i := 14) rfl (by kernel_rfl) (fun K hK => ?_)
                    go_simp
                    refine hK.out _ _ (fun _ => hS.putEight (fun h => absurd h (Nat.not_lt_of_le gb)) _ _ _ _ _ _ _ _) ?_
                    clear hK K z0 z1 z2 z3 z4 z5 z6 z7 zf0 zf1 zf2 zf3 zf4 zf5 zf6 zf7
                    have hS' := hS.putEight (b := bb) (fun h => absurd h (Nat.not_lt_of_le gb)) (.int .i64 0) (.int .i64 1) (.int .i64 0) (.string ⟨#[]⟩) (.slice none 0 0) (.int .i32 y) (.string ⟨#[]⟩) (.slice none 0 0)
                    have qb' := qb.putEight (.int .i64 0) (.int .i64 1) (.int .i64 0) (.string ⟨#[]⟩) (.slice none 0 0) (.int .i32 y) (.string ⟨#[]⟩) (.slice none 0 0)
                    have qa' := qa.otherEight hne (.int .i64 0) (.int .i64 1) (.int .i64 0) (.string ⟨#[]⟩) (.slice none 0 0) (.int .i32 y) (.string ⟨#[]⟩) (.slice none 0 0)
                    obtain ⟨wn, hwn⟩ : ∃ z, ((((((((wn.setCell ⟨bb, 0, none⟩ (.int .i64 0)).setCell ⟨bb, 1, none⟩ (.int .i64 1)).setCell ⟨bb, 2, none⟩ (.int .i64 0)).setCell ⟨bb, 3, none⟩ (.string ⟨#[]⟩)).setCell ⟨bb, 4, none⟩ (.slice none 0 0)).setCell ⟨bb, 5, none⟩ (.int .i32 y)).setCell ⟨bb, 6, none⟩ (.string ⟨#[]⟩)).setCell ⟨bb, 7, none⟩ (.slice none 0 0)) = z := ⟨_, rfl⟩
                    rw [hwn] at hS' qb' qa' ⊢
                    clear hwn hS qb qa
                    have hS := hS'
                    have qb := qb'
                    have qa := qa'
                    clear hS' qb' qa'
                    refine wpAnyT_done (by kernel_rfl) ?_
                    go_wp2_with fail
                    go_meet
                    exact ⟨ab, bb, rfl, rfl, hS, ga, gb, qa, qb⟩
                  · go_simp
                    refine hK.out _ _ (fun _ => hS.alloc _) ?_
                    clear hK K
                    have qb := Blk.new w2 #[.int .i64 0, .int .i64 0, .int .i64 0, .string ⟨#[]⟩, .slice none 0 0, .int .i32 0, .string ⟨#[]⟩, .slice none 0 0] 27
                    have hS3 := hS.alloc (.cells #[.int .i64 0, .int .i64 0, .int .i64 0, .string ⟨#[]⟩, .slice none 0 0, .int .i32 0, .string ⟨#[]⟩, .slice none 0 0] 27)
                    have hz3 : w2.heap.size ≤ (w2.alloc (.cells #[.int .i64 0, .int .i64 0, .int .i64 0, .string ⟨#[]⟩, .slice none 0 0, .int .i32 0, .string ⟨#[]⟩, .slice none 0 0] 27)).heap.size := (alloc_nil _ _).size
                    obtain ⟨bb, hbb⟩ : ∃ z, w2.heap.size = z := ⟨_, rfl⟩
                    have gb : wq2.heap.size ≤ bb := by rw [← hbb]; exact hge
                    obtain ⟨w3, hw3⟩ : ∃ z, w2.alloc (.cells #[.int .i64 0, .int .i64 0, .int .i64 0, .string ⟨#[]⟩, .slice none 0 0, .int .i32 0, .string ⟨#[]⟩, .slice none 0 0] 27) = z := ⟨_, rfl⟩
                    rw [hbb] at qb ⊢
                    rw [hw3] at qb hS3 hz3 ⊢
                    clear hbb hw3
                    replace hge := Nat.le_trans hge hz3
                    replace hS := hS3
                    clear hS3 hz3
                    refine wpAnyT_one (i := 11) rfl (by kernel_rfl) (fun K hK => ?_)
                    go_simp
                    refine hK.out _ _ (fun _ => hS.alloc _) ?_
                    clear hK K
                    have qa := Blk.new w3 #[.int .i64 0, .int .i64 0, .int .i64 0, .string ⟨#[]⟩, .slice none 0 0, .int .i32 0, .string ⟨#[]⟩, .slice none 0 0] 27
                    have hS4 := hS.alloc (.cells #[.int .i64 0, .int .i64 0, .int .i64 0, .string ⟨#[]⟩, .slice none 0 0, .int .i32 0, .string ⟨#[]⟩, .slice none 0 0] 27)
                    have hz4 : w3.heap.size ≤ (w3.alloc (.cells #[.int .i64 0, .int .i64 0, .int .i64 0, .string ⟨#[]⟩, .slice none 0 0, .int .i32 0, .string ⟨#[]⟩, .slice none 0 0] 27)).heap.size := (alloc_nil _ _).size
                    have hne0 := qb.lt
                    replace qb := qb.alloc (.cells #[.int .i64 0, .int .i64 0, .int .i64 0, .string ⟨#[]⟩, .slice none 0 0, .int .i32 0, .string ⟨#[]⟩, .slice none 0 0] 27)
                    obtain ⟨ab, hab⟩ : ∃ z, w3.heap.size = z := ⟨_, rfl⟩
                    have ga : wq2.heap.size ≤ ab := by rw [← hab]; exact hge
                    have hne : ab ≠ bb := by rw [← hab]; exact Nat.ne_of_gt hne0
                    clear hne0
                    obtain ⟨w4, hw4⟩ : ∃ z, w3.alloc (.cells #[.int .i64 0, .int .i64 0, .int .i64 0, .string ⟨#[]⟩, .slice none 0 0, .int .i32 0, .string ⟨#[]⟩, .slice none 0 0] 27) = z := ⟨_, rfl⟩
                    rw [hab] at qa ⊢
                    rw [hw4] at qa hS4 hz4 qb ⊢
                    clear hab hw4
                    replace hge := Nat.le_trans hge hz4
                    replace hS := hS4
                    clear hS4 hz4
                    obtain ⟨⟨z0, z1, z2, z3, z4, z5, z6, z7⟩, zf0, zf1, zf2, zf3, zf4, zf5, zf6, zf7⟩ := qa.Eights
                    refine wpAnyT_one (i := 13) rfl (by kernel_rfl) (fun K hK => ?_)
                    go_simp
                    refine hK.out _ _ (fun _ => hS.putEight (fun h => absurd h (Nat.not_lt_of_le ga)) _ _ _ _ _ _ _ _) ?_
                    clear hK K z0 z1 z2 z3 z4 z5 z6 z7 zf0 zf1 zf2 zf3 zf4 zf5 zf6 zf7
                    have hS' := hS.putEight (b := ab) (fun h => absurd h (Nat.not_lt_of_le ga)) (.int .i64 0) (.int .i64 1) (.int .i64 0) (.string ⟨#[]⟩) (.slice none 0 0) (.int .i32 x) (.string ⟨#[]⟩) (.slice none 0 0)
                    have qa' := qa.putEight (.int .i64 0) (.int .i64 1) (.int .i64 0) (.string ⟨#[]⟩) (.slice none 0 0) (.int .i32 x) (.string ⟨#[]⟩) (.slice none 0 0)
                    have qb' := qb.otherEight hne.symm (.int .i64 0) (.int .i64 1) (.int .i64 0) (.string ⟨#[]⟩) (.slice none 0 0) (.int .i32 x) (.string ⟨#[]⟩) (.slice none 0 0)
                    obtain ⟨wn, hwn⟩ : ∃ z, ((((((((w4.setCell ⟨ab, 0, none⟩ (.int .i64 0)).setCell ⟨ab, 1, none⟩ (.int .i64 1)).setCell ⟨ab, 2, none⟩ (.int .i64 0)).setCell ⟨ab, 3, none⟩ (.string ⟨#[]⟩)).setCell ⟨ab, 4, none⟩ (.slice none 0 0)).setCell ⟨ab, 5, none⟩ (.int .i32 x)).setCell ⟨ab, 6, none⟩ (.string ⟨#[]⟩)).setCell ⟨ab, 7, none⟩ (.slice none 0 0)) = z := ⟨_, rfl⟩
                    rw [hwn] at hS' qa' qb' ⊢
                    clear hwn hS qa qb
                    have hS := hS'
                    have qa := qa'
                    have qb := qb'
                    clear hS' qa' qb'
                    obtain ⟨⟨z0, z1, z2, z3, z4, z5, z6, z7⟩, zf0, zf1, zf2, zf3, zf4, zf5, zf6, zf7⟩ := qb.Eights
                    refine wpAnyT_one (i := 14) rfl (by kernel_rfl) (fun K hK => ?_)
                    go_simp
                    refine hK.out _ _ (fun _ => hS.putEight (fun h => absurd h (Nat.not_lt_of_le gb)) _ _ _ _ _ _ _ _) ?_
                    clear hK K z0 z1 z2 z3 z4 z5 z6 z7 zf0 zf1 zf2 zf3 zf4 zf5 zf6 zf7
                    have hS' := hS.putEight (b := bb) (fun h => absurd h (Nat.not_lt_of_le gb)) (.int .i64 0) (.int .i64 1) (.int .i64 0) (.string ⟨#[]⟩) (.slice none 0 0) (.int .i32 y) (.string ⟨#[]⟩) (.slice none 0 0)
                    have qb' := qb.putEight (.int .i64 0) (.int .i64 1) (.int .i64 0) (.string ⟨#[]⟩) (.slice none 0 0) (.int .i32 y) (.string ⟨#[]⟩) (.slice none 0 0)
                    have qa' := qa.otherEight hne (.int .i64 0) (.int .i64 1) (.int .i64 0) (.string ⟨#[]⟩) (.slice none 0 0) (.int .i32 y) (.string ⟨#[]⟩) (.slice none 0 0)
                    obtain ⟨wn, hwn⟩ : ∃ z, ((((((((wn.setCell ⟨bb, 0, none⟩ (.int .i64 0)).setCell ⟨bb, 1, none⟩ (.int .i64 1)).setCell ⟨bb, 2, none⟩ (.int .i64 0)).setCell ⟨bb, 3, none⟩ (.string ⟨#[]⟩)).setCell ⟨bb, 4, none⟩ (.slice none 0 0)).setCell ⟨bb, 5, none⟩ (.int .i32 y)).setCell ⟨bb, 6, none⟩ (.string ⟨#[]⟩)).setCell ⟨bb, 7, none⟩ (.slice none 0 0)) = z := ⟨_, rfl⟩
                    rw [hwn] at hS' qb' qa' ⊢
                    clear hwn hS qb qa
                    have hS := hS'
                    have qb := qb'
                    have qa := qa'
                    clear hS' qb' qa'
                    refine wpAnyT_done (by kernel_rfl) ?_
                    go_wp2_with fail
                    go_meet
                    exact ⟨ab, bb, rfl, rfl, hS, ga, gb, qa, qb⟩
                · go_simp
                  refine hK.out _ _ (fun _ => hS.alloc _) ?_
                  clear hK K
                  have qa := Blk.new w1 #[.int .i64 0, .int .i64 0, .int .i64 0, .string ⟨#[]⟩, .slice none 0 0, .int .i32 0, .string ⟨#[]⟩, .slice none 0 0] 27
                  have hS2 := hS.alloc (.cells #[.int .i64 0, .int .i64 0, .int .i64 0, .string ⟨#[]⟩, .slice none 0 0, .int .i32 0, .string ⟨#[]⟩, .slice none 0 0] 27)
                  have hz2 : w1.heap.size ≤ (w1.alloc (.cells #[.int .i64 0, .int .i64 0, .int .i64 0, .string ⟨#[]⟩, .slice none 0 0, .int .i32 0, .string ⟨#[]⟩, .slice none 0 0] 27)).heap.size := (alloc_nil _ _).size
                  obtain ⟨ab, hab⟩ : ∃ z, w1.heap.size = z := ⟨_, rfl⟩
                  have ga : wq2.heap.size ≤ ab := by rw [← hab]; exact hge
                  obtain ⟨w2, hw2⟩ : ∃ z, w1.alloc (.cells #[.int .i64 0, .int .i64 0, .int .i64 0, .string ⟨#[]⟩, .slice none 0 0, .int .i32 0, .string ⟨#[]⟩, .slice none 0 0] 27) = z := ⟨_, rfl⟩
                  rw [hab] at qa ⊢
                  rw [hw2] at qa hS2 hz2 ⊢
                  clear hab hw2
                  replace hge := Nat.le_trans hge hz2
                  replace hS := hS2
                  clear hS2 hz2
                  refine wpAnyT_two (i := 10) (j := 12) rfl rfl (by kernel_rfl) (fun K hK => ?_) (fun K hK => ?_)
                  · go_simp
                    go_wp2_with (go_at_call 11; refine (numP_any 1 y _).mono ?_; rintro e w3 ⟨rfl, ho3⟩; have hS3 := Nil.trans hS ho3)
                    refine hK.out _ _ (fun _ => hS3) ?_
                    clear hK K
                    replace qa := qa.kept ho3 (fun h => h)
                    replace hge := Nat.le_trans hge ho3.size
                    replace hS := hS3
                    clear ho3 hS3
                    refine wpAnyT_one (i := 12) rfl (by kernel_rfl) (fun K hK => ?_)
                    go_simp
                    refine hK.out _ _ (fun _ => hS.alloc _) ?_
                    clear hK K
                    have qb := Blk.new w3 #[.int .i64 0, .int .i64 0, .int .i64 0, .string ⟨#[]⟩, .slice none 0 0, .int .i32 0, .string ⟨#[]⟩, .slice none 0 0] 27
                    have hS4 := hS.alloc (.cells #[.int .i64 0, .int .i64 0, .int .i64 0, .string ⟨#[]⟩, .slice none 0 0, .int .i32 0, .string ⟨#[]⟩, .slice none 0 0] 27)
                    have hz4 : w3.heap.size ≤ (w3.alloc (.cells #[.int .i64 0, .int .i64 0, .int .i64 0, .string ⟨#[]⟩, .slice none 0 0, .int .i32 0, .string ⟨#[]⟩, .slice none 0 0] 27)).heap.size := (alloc_nil _ _).size
                    have hne0 := qa.lt
                    replace qa := qa.alloc (.cells #[.int .i64 0, .int .i64 0, .int .i64 0, .string ⟨#[]⟩, .slice none 0 0, .int .i32 0, .string ⟨#[]⟩, .slice none 0 0] 27)
                    obtain ⟨bb, hbb⟩ : ∃ z, w3.heap.size = z := ⟨_, rfl⟩
                    have gb : wq2.heap.size ≤ bb := by rw [← hbb]; exact hge
                    have hne : ab ≠ bb := by rw [← hbb]; exact Nat.ne_of_lt hne0
                    clear hne0
                    obtain ⟨w4, hw4⟩ : ∃ z, w3.alloc (.cells #[.int .i64 0, .int .i64 0, .int .i64 0, .string ⟨#[]⟩, .slice none 0 0, .int .i32 0, .string ⟨#[]⟩, .slice none 0 0] 27) = z := ⟨_, rfl⟩
                    rw [hbb] at qb ⊢
                    rw [hw4] at qb hS4 hz4 qa ⊢
                    clear hbb hw4
                    replace hge := Nat.le_trans hge hz4
                    replace hS := hS4
                    clear hS4 hz4
                    obtain ⟨⟨z0, z1, z2, z3, z4, z5, z6, z7⟩, zf0, zf1, zf2, zf3, zf4, zf5, zf6, zf7⟩ := qa.Eights
                    refine wpAnyT_one (i := 13) rfl (by kernel_rfl) (fun K hK => ?_)
                    go_simp
                    refine hK.out _ _ (fun _ => hS.putEight (fun h => absurd h (Nat.not_lt_of_le ga)) _ _ _ _ _ _ _ _) ?_
                    clear hK K z0 z1 z2 z3 z4 z5 z6 z7 zf0 zf1 zf2 zf3 zf4 zf5 zf6 zf7
                    have hS' := hS.putEight (b := ab) (fun h => absurd h (Nat.not_lt_of_le ga)) (.int .i64 0) (.int .i64 1) (.int .i64 0) (.string ⟨#[]⟩) (.slice none 0 0) (.int .i32 x) (.string ⟨#[]⟩) (.slice none 0 0)
                    have qa' := qa.putEight (.int .i64 0) (.int .i64 1) (.int .i64 0) (.string ⟨#[]⟩) (.slice none 0 0) (.int .i32 x) (.string ⟨#[]⟩) (.slice none 0 0)
                    have qb' := qb.otherEight hne.symm (.int .i64 0) (.int .i64 1) (.int .i64 0) (.string ⟨#[]⟩) (.slice none 0 0) (.int .i32 x) (.string ⟨#[]⟩) (.slice none 0 0)
                    obtain ⟨wn, hwn⟩ : ∃ z, ((((((((w4.setCell ⟨ab, 0, none⟩ (.int .i64 0)).setCell ⟨ab, 1, none⟩ (.int .i64 1)).setCell ⟨ab, 2, none⟩ (.int .i64 0)).setCell ⟨ab, 3, none⟩ (.string ⟨#[]⟩)).setCell ⟨ab, 4, none⟩ (.slice none 0 0)).setCell ⟨ab, 5, none⟩ (.int .i32 x)).setCell ⟨ab, 6, none⟩ (.string ⟨#[]⟩)).setCell ⟨ab, 7, none⟩ (.slice none 0 0)) = z := ⟨_, rfl⟩
                    rw [hwn] at hS' qa' qb' ⊢
                    clear hwn hS qa qb
                    have hS := hS'
                    have qa := qa'
                    have qb := qb'
                    clear hS' qa' qb'
                    obtain ⟨⟨z0, z1, z2, z3, z4, z5, z6, z7⟩, zf0, zf1, zf2, zf3, zf4, zf5, zf6, zf7⟩ := qb.Eights
                    refine wpAnyT_one (i := 14) rfl (by kernel_rfl) (fun K hK => ?_)
                    go_simp
                    refine hK.out _ _ (fun _ => hS.putEight (fun h => absurd h (Nat.not_lt_of_le gb)) _ _ _ _ _ _ _ _) ?_
                    clear hK K z0 z1 z2 z3 z4 z5 z6 z7 zf0 zf1 zf2 zf3 zf4 zf5 zf6 zf7
                    have hS' := hS.putEight (b := bb) (fun h => absurd h (Nat.not_lt_of_le gb)) (.int .i64 0) (.int .i64 1) (.int .i64 0) (.string ⟨#[]⟩) (.slice none 0 0) (.int .i32 y) (.string ⟨#[]⟩) (.slice none 0 0)
                    have qb' := qb.putEight (.int .i64 0) (.int .i64 1) (.int .i64 0) (.string ⟨#[]⟩) (.slice none 0 0) (.int .i32 y) (.string ⟨#[]⟩) (.slice none 0 0)
                    have qa' := qa.otherEight hne (.int .i64 0) (.int .i64 1) (.int .i64 0) (.string ⟨#[]⟩) (.slice none 0 0) (.int .i32 y) (.string ⟨#[]⟩) (.slice none 0 0)
                    obtain ⟨wn, hwn⟩ : ∃ z, ((((((((wn.setCell ⟨bb, 0, none⟩ (.int .i64 0)).setCell ⟨bb, 1, none⟩ (.int .i64 1)).setCell ⟨bb, 2, none⟩ (.int .i64 0)).setCell ⟨bb, 3, none⟩ (.string ⟨#[]⟩)).setCell ⟨bb, 4, none⟩ (.slice none 0 0)).setCell ⟨bb, 5, none⟩ (.int .i32 y)).setCell ⟨bb, 6, none⟩ (.string ⟨#[]⟩)).setCell ⟨bb, 7, none⟩ (.slice none 0 0)) = z := ⟨_, rfl⟩
                    rw [hwn] at hS' qb' qa' ⊢
                    clear hwn hS qb qa
                    have hS := hS'
                    have qb := qb'
                    have qa := qa'
                    clear hS' qb' qa'
                    refine wpAnyT_done (by kernel_rfl) ?_
                    go_wp2_with fail
                    go_meet
                    exact ⟨ab, bb, rfl, rfl, hS, ga, gb, qa, qb⟩
                  · go_simp
                    refine hK.out _ _ (fun _ => hS.alloc _) ?_
                    clear hK K
                    have qb := Blk.new w2 #[.int .i64 0, .int .i64 0, .int .i64 0, .string ⟨#[]⟩, .slice none 0 0, .int .i32 0, .string ⟨#[]⟩, .slice none 0 0] 27
                    have hS3 := hS.alloc (.cells #[.int .i64 0, .int .i64 0, .int .i64 0, .string ⟨#[]⟩, .slice none 0 0, .int .i32 0, .string ⟨#[]⟩, .slice none 0 0] 27)
                    have hz3 : w2.heap.size ≤ (w2.alloc (.cells #[.int .i64 0, .int .i64 0, .int .i64 0, .string ⟨#[]⟩, .slice none 0 0, .int .i32 0, .string ⟨#[]⟩, .slice none 0 0] 27)).heap.size := (alloc_nil _ _).size
                    have hne0 := qa.lt
                    replace qa := qa.alloc (.cells #[.int .i64 0, .int .i64 0, .int .i64 0, .string ⟨#[]⟩, .slice none 0 0, .int .i32 0, .string ⟨#[]⟩, .slice none 0 0] 27)
                    obtain ⟨bb, hbb⟩ : ∃ z, w2.heap.size = z := ⟨_, rfl⟩
                    have gb : wq2.heap.size ≤ bb := by rw [← hbb]; exact hge
                    have hne : ab ≠ bb := by rw [← hbb]; exact Nat.ne_of_lt hne0
                    clear hne0
                    obtain ⟨w3, hw3⟩ : ∃ z, w2.alloc (.cells #[.int .i64 0, .int .i64 0, .int .i64 0, .string ⟨#[]⟩, .slice none 0 0, .int .i32 0, .string ⟨#[]⟩, .slice none 0 0] 27) = z := ⟨_, rfl⟩
                    rw [hbb] at qb ⊢
                    rw [hw3] at qb hS3 hz3 qa ⊢
                    clear hbb hw3
                    replace hge := Nat.le_trans hge hz3
                    replace hS := hS3
                    clear hS3 hz3
                    refine wpAnyT_one (i := 10) rfl (by kernel_rfl) (fun K hK => ?_)
                    go_simp
                    go_wp2_with (go_at_call 11; refine (numP_any 1 y _).mono ?_; rintro e w4 ⟨rfl, ho4⟩; have hS4 := Nil.trans hS ho4)
                    refine hK.out _ _ (fun _ => hS4) ?_
                    clear hK K
                    replace qa := qa.kept ho4 (fun h => h)
                    replace qb := qb.kept ho4 (fun h => h)
                    replace hge := Nat.le_trans hge ho4.size
                    replace hS := hS4
                    clear ho4 hS4
                    obtain ⟨⟨z0, z1, z2, z3, z4, z5, z6, z7⟩, zf0, zf1, zf2, zf3, zf4, zf5, zf6, zf7⟩ := qa.Eights
                    refine wpAnyT_one (i := 13) rfl (by kernel_rfl) (fun K hK => ?_)
                    go_simp
                    refine hK.out _ _ (fun _ => hS.putEight (fun h => absurd h (Nat.not_lt_of_le ga)) _ _ _ _ _ _ _ _) ?_
                    clear hK K z0 z1 z2 z3 z4 z5 z6 z7 zf0 zf1 zf2 zf3 zf4 zf5 zf6 zf7
                    have hS' := hS.putEight (b := ab) (fun h => absurd h (Nat.not_lt_of_le ga)) (.int .i64 0) (.int .i64 1) (.int .i64 0) (.string ⟨#[]⟩) (.slice none 0 0) (.int .i32 x) (.string ⟨#[]⟩) (.slice none 0 0)
                    have qa' := qa.putEight (.int .i64 0) (.int .i64 1) (.int .i64 0) (.string ⟨#[]⟩) (.slice none 0 0) (.int .i32 x) (.string ⟨#[]⟩) (.slice none 0 0)
                    have qb' := qb.otherEight hne.symm (.int .i64 0) (.int .i64 1) (.int .i64 0) (.string ⟨#[]⟩) (.slice none 0 0) (.int .i32 x) (.string ⟨#[]⟩) (.slice none 0 0)
                    obtain ⟨wn, hwn⟩ : ∃ z, ((((((((w4.setCell ⟨ab, 0, none⟩ (.int .i64 0)).setCell ⟨ab, 1, none⟩ (.int .i64 1)).setCell ⟨ab, 2, none⟩ (.int .i64 0)).setCell ⟨ab, 3, none⟩ (.string ⟨#[]⟩)).setCell ⟨ab, 4, none⟩ (.slice none 0 0)).setCell ⟨ab, 5, none⟩ (.int .i32 x)).setCell ⟨ab, 6, none⟩ (.string ⟨#[]⟩)).setCell ⟨ab, 7, none⟩ (.slice none 0 0)) = z := ⟨_, rfl⟩
                    rw [hwn] at hS' qa' qb' ⊢
                    clear hwn hS qa qb
                    have hS := hS'
                    have qa := qa'
                    have qb := qb'
                    clear hS' qa' qb'
                    obtain ⟨⟨z0, z1, z2, z3, z4, z5, z6, z7⟩, zf0, zf1, zf2, zf3, zf4, zf5, zf6, zf7⟩ := qb.Eights
                    refine wpAnyT_one (i := 14) rfl (by kernel_rfl) (fun K hK => ?_)
                    go_simp
                    refine hK.out _ _ (fun _ => hS.putEight (fun h => absurd h (Nat.not_lt_of_le gb)) _ _ _ _ _ _ _ _) ?_
                    clear hK K z0 z1 z2 z3 z4 z5 z6 z7 zf0 zf1 zf2 zf3 zf4 zf5 zf6 zf7
                    have hS' := hS.putEight (b := bb) (fun h => absurd h (Nat.not_lt_of_le gb)) (.int .i64 0) (.int .i64 1) (.int .i64 0) (.string ⟨#[]⟩) (.slice none 0 0) (.int .i32 y) (.string ⟨#[]⟩) (.slice none 0 0)
                    have qb' := qb.putEight (.int .i64 0) (.int .i64 1) (.int .i64 0) (.string ⟨#[]⟩) (.slice none 0 0) (.int .i32 y) (.string ⟨#[]⟩) (.slice none 0 0)
                    have qa' := qa.otherEight hne (.int .i64 0) (.int .i64 1) (.int .i64 0) (.string ⟨#[]⟩) (.slice none 0 0) (.int .i32 y) (.string ⟨#[]⟩) (.slice none 0 0)
                    obtain ⟨wn, hwn⟩ : ∃ z, ((((((((wn.setCell ⟨bb, 0, none⟩ (.int .i64 0)).setCell ⟨bb, 1, none⟩ (.int .i64 1)).setCell ⟨bb, 2, none⟩ (.int .i64 0)).setCell ⟨bb, 3, none⟩ (.string ⟨#[]⟩)).setCell ⟨bb, 4, none⟩ (.slice none 0 0)).setCell ⟨bb, 5, none⟩ (.int .i32 y)).setCell ⟨bb, 6, none⟩ (.string ⟨#[]⟩)).setCell ⟨bb, 7, none⟩ (.slice none 0 0)) = z := ⟨_, rfl⟩
                    rw [hwn] at hS' qb' qa' ⊢
                    clear hwn hS qb qa
                    have hS := hS'
                    have qb := qb'
                    have qa := qa'
                    clear hS' qb' qa'
                    refine wpAnyT_done (by kernel_rfl) ?_
                    go_wp2_with fail
                    go_meet
                    exact ⟨ab, bb, rfl, rfl, hS, ga, gb, qa, qb⟩
                · go_simp
                  refine hK.out _ _ (fun _ => hS.alloc _) ?_
                  clear hK K
                  have qb := Blk.new w1 #[.int .i64 0, .int .i64 0, .int .i64 0, .string ⟨#[]⟩, .slice none 0 0, .int .i32 0, .string ⟨#[]⟩, .slice none 0 0] 27
                  have hS2 := hS.alloc (.cells #[.int .i64 0, .int .i64 0, .int .i64 0, .string ⟨#[]⟩, .slice none 0 0, .int .i32 0, .string ⟨#[]⟩, .slice none 0 0] 27)
                  have hz2 : w1.heap.size ≤ (w1.alloc (.cells #[.int .i64 0, .int .i64 0, .int .i64 0, .string ⟨#[]⟩, .slice none 0 0, .int .i32 0, .string ⟨#[]⟩, .slice none 0 0] 27)).heap.size := (alloc_nil _ _).size
                  obtain ⟨bb, hbb⟩ : ∃ z, w1.heap.size = z := ⟨_, rfl⟩
                  have gb : wq2.heap.size ≤ bb := by rw [← hbb]; exact hge
                  obtain ⟨w2, hw2⟩ : ∃ z, w1.alloc (.cells #[.int .i64 0, .int .i64 0, .int .i64 0, .string ⟨#[]⟩, .slice none 0 0, .int .i32 0, .string ⟨#[]⟩, .slice none 0 0] 27) = z := ⟨_, rfl⟩
                  rw [hbb] at qb ⊢
                  rw [hw2] at qb hS2 hz2 ⊢
                  clear hbb hw2
                  replace hge := Nat.le_trans hge hz2
                  replace hS := hS2
                  clear hS2 hz2
                  refine wpAnyT_two (i := 10) (j := 11) rfl rfl (by kernel_rfl) (fun K hK => ?_) (fun K hK => ?_)
                  · go_simp
                    go_wp2_with (go_at_call 11; refine (numP_any 1 y _).mono ?_; rintro e w3 ⟨rfl, ho3⟩; have hS3 := Nil.trans hS ho3)
                    refine hK.out _ _ (fun _ => hS3) ?_
                    clear hK K
                    replace qb := qb.kept ho3 (fun h => h)
                    replace hge := Nat.le_trans hge ho3.size
                    replace hS := hS3
                    clear ho3 hS3
                    refine wpAnyT_one (i := 11) rfl (by kernel_rfl) (fun K hK => ?_)
                    go_simp
                    refine hK.out _ _ (fun _ => hS.alloc _) ?_
                    clear hK K
                    have qa := Blk.new w3 #[.int .i64 0, .int .i64 0, .int .i64 0, .string ⟨#[]⟩, .slice none 0 0, .int .i32 0, .string ⟨#[]⟩, .slice none 0 0] 27
                    have hS4 := hS.alloc (.cells #[.int .i64 0, .int .i64 0, .int .i64 0, .string ⟨#[]⟩, .slice none 0 0, .int .i32 0, .string ⟨#[]⟩, .slice none 0 0] 27)
                    have hz4 : w3.heap.size ≤ (w3.alloc (.cells #[.int .i64 0, .int .i64 0, .int .i64 0, .string ⟨#[]⟩, .slice none 0 0, .int .i32 0, .string ⟨#[]⟩, .slice none 0 0] 27)).heap.size := (alloc_nil _ _).size
                    have hne0 := qb.lt
                    replace qb := qb.alloc (.cells #[.int .i64 0, .int .i64 0, .int .i64 0, .string ⟨#[]⟩, .slice none 0 0, .int .i32 0, .string ⟨#[]⟩, .slice none 0 0] 27)
                    obtain ⟨ab, hab⟩ : ∃ z, w3.heap.size = z := ⟨_, rfl⟩
                    have ga : wq2.heap.size ≤ ab := by rw [← hab]; exact hge
                    have hne : ab ≠ bb := by rw [← hab]; exact Nat.ne_of_gt hne0
                    clear hne0
                    obtain ⟨w4, hw4⟩ : ∃ z, w3.alloc (.cells #[.int .i64 0, .int .i64 0, .int .i64 0, .string ⟨#[]⟩, .slice none 0 0, .int .i32 0, .string ⟨#[]⟩, .slice none 0 0] 27) = z := ⟨_, rfl⟩
                    rw [hab] at qa ⊢
                    rw [hw4] at qa hS4 hz4 qb ⊢
                    clear hab hw4
                    replace hge := Nat.le_trans hge hz4
                    replace hS := hS4
                    clear hS4 hz4
                    obtain ⟨⟨z0, z1, z2, z3, z4, z5, z6, z7⟩, zf0, zf1, zf2, zf3, zf4, zf5, zf6, zf7⟩ := qa.Eights
                    refine wpAnyT_one (i := 13) rfl (by kernel_rfl) (fun K hK => ?_)
                    go_simp
                    refine hK.out _ _ (fun _ => hS.putEight (fun h => absurd h (Nat.not_lt_of_le ga)) _ _ _ _ _ _ _ _) ?_
                    clear hK K z0 z1 z2 z3 z4 z5 z6 z7 zf0 zf1 zf2 zf3 zf4 zf5 zf6 zf7
                    have hS' := hS.putEight (b := ab) (fun h => absurd h (Nat.not_lt_of_le ga)) (.int .i64 0) (.int .i64 1) (.int .i64 0) (.string ⟨#[]⟩) (.slice none 0 0) (.int .i32 x) (.string ⟨#[]⟩) (.slice none 0 0)
                    have qa' := qa.putEight (.int .i64 0) (.int .i64 1) (.int .i64 0) (.string ⟨#[]⟩) (.slice none 0 0) (.int .i32 x) (.string ⟨#[]⟩) (.slice none 0 0)
                    have qb' := qb.otherEight hne.symm (.int .i64 0) (.int .i64 1) (.int .i64 0) (.string ⟨#[]⟩) (.slice none 0 0) (.int .i32 x) (.string ⟨#[]⟩) (.slice none 0 0)
                    obtain ⟨wn, hwn⟩ : ∃ z, ((((((((w4.setCell ⟨ab, 0, none⟩ (.int .i64 0)).setCell ⟨ab, 1, none⟩ (.int .i64 1)).setCell ⟨ab, 2, none⟩ (.int .i64 0)).setCell ⟨ab, 3, none⟩ (.string ⟨#[]⟩)).setCell ⟨ab, 4, none⟩ (.slice none 0 0)).setCell ⟨ab, 5, none⟩ (.int .i32 x)).setCell ⟨ab, 6, none⟩ (.string ⟨#[]⟩)).setCell ⟨ab, 7, none⟩ (.slice none 0 0)) = z := ⟨_, rfl⟩
                    rw [hwn] at hS' qa' qb' ⊢
                    clear hwn hS qa qb
                    have hS := hS'
                    have qa := qa'
                    have qb := qb'
                    clear hS' qa' qb'
                    obtain ⟨⟨z0, z1, z2, z3, z4, z5, z6, z7⟩, zf0, zf1, zf2, zf3, zf4, zf5, zf6, zf7⟩ := qb.Eights
                    refine wpAnyT_one (i := 14) rfl (by kernel_rfl) (fun K hK => ?_)
                    go_simp
                    refine hK.out _ _ (fun _ => hS.putEight (fun h => absurd h (Nat.not_lt_of_le gb)) _ _ _ _ _ _ _ _) ?_
                    clear hK K z0 z1 z2 z3 z4 z5 z6 z7 zf0 zf1 zf2 zf3 zf4 zf5 zf6 zf7
                    have hS' := hS.putEight (b := bb) (fun h => absurd h (Nat.not_lt_of_le gb)) (.int .i64 0) (.int .i64 1) (.int .i64 0) (.string ⟨#[]⟩) (.slice none 0 0) (.int .i32 y) (.string ⟨#[]⟩) (.slice none 0 0)
                    have qb' := qb.putEight (.int .i64 0) (.int .i64 1) (.int .i64 0) (.string ⟨#[]⟩) (.slice none 0 0) (.int .i32 y) (.string ⟨#[]⟩) (.slice none 0 0)
                    have qa' := qa.otherEight hne (.int .i64 0) (.int .i64 1) (.int .i64 0) (.string ⟨#[]⟩) (.slice none 0 0) (.int .i32 y) (.string ⟨#[]⟩) (.slice none 0 0)
                    obtain ⟨wn, hwn⟩ : ∃ z, ((((((((wn.setCell ⟨bb, 0, none⟩ (.int .i64 0)).setCell ⟨bb, 1, none⟩ (.int .i64 1)).setCell ⟨bb, 2, none⟩ (.int .i64 0)).setCell ⟨bb, 3, none⟩ (.string ⟨#[]⟩)).setCell ⟨bb, 4, none⟩ (.slice none 0 0)).setCell ⟨bb, 5, none⟩ (.int .i32 y)).setCell ⟨bb, 6, none⟩ (.string ⟨#[]⟩)).setCell ⟨bb, 7, none⟩ (.slice none 0 0)) = z := ⟨_, rfl⟩
                    rw [hwn] at hS' qb' qa' ⊢
                    clear hwn hS qb qa
                    have hS := hS'
                    have qb := qb'
                    have qa := qa'
                    clear hS' qb' qa'
                    refine wpAnyT_done (by kernel_rfl) ?_
                    go_wp2_with fail
                    go_meet
                    exact ⟨ab, bb, rfl, rfl, hS, ga, gb, qa, qb⟩
                  · go_simp
                    refine hK.out _ _ (fun _ => hS.alloc _) ?_
                    clear hK K
                    have qa := Blk.new w2 #[.int .i64 0, .int .i64 0, .int .i64 0, .string ⟨#[]⟩, .slice none 0 0, .int .i32 0, .string ⟨#[]⟩, .slice none 0 0] 27
                    have hS3 := hS.alloc (.cells #[.int .i64 0, .int .i64 0, .int .i64 0, .string ⟨#[]⟩, .slice none 0 0, .int .i32 0, .string ⟨#[]⟩, .slice none 0 0] 27)
                    have hz3 : w2.heap.size ≤ (w2.alloc (.cells #[.int .i64 0, .int .i64 0, .int .i64 0, .string ⟨#[]⟩, .slice none 0 0, .int .i32 0, .string ⟨#[]⟩, .slice none 0 0] 27)).heap.size := (alloc_nil _ _).size
                    have hne0 := qb.lt
                    replace qb := qb.alloc (.cells #[.int .i64 0, .int .i64 0, .int .i64 0, .string ⟨#[]⟩, .slice none 0 0, .int .i32 0, .string ⟨#[]⟩, .slice none 0 0] 27)
                    obtain ⟨ab, hab⟩ : ∃ z, w2.heap.size = z := ⟨_, rfl⟩
                    have ga : wq2.heap.size ≤ ab := by rw [← hab]; exact hge
                    have hne : ab ≠ bb := by rw [← hab]; exact Nat.ne_of_gt hne0
                    clear hne0
                    obtain ⟨w3, hw3⟩ : ∃ z, w2.alloc (.cells #[.int .i64 0, .int .i64 0, .int .i64 0, .string ⟨#[]⟩, .slice none 0 0, .int .i32 0, .string ⟨#[]⟩, .slice none 0 0] 27) = z := ⟨_, rfl⟩
                    rw [hab] at qa ⊢
                    rw [hw3] at qa hS3 hz3 qb ⊢
                    clear hab hw3
                    replace hge := Nat.le_trans hge hz3
                    replace hS := hS3
                    clear hS3 hz3
                    refine wpAnyT_one (i := 10) rfl (by kernel_rfl) (fun K hK => ?_)
                    go_simp
                    go_wp2_with (go_at_call 11; refine (numP_any 1 y _).mono ?_; rintro e w4 ⟨rfl, ho4⟩; have hS4 := Nil.trans hS ho4)
                    refine hK.out _ _ (fun _ => hS4) ?_
                    clear hK K
                    replace qa := qa.kept ho4 (fun h => h)
                    replace qb := qb.kept ho4 (fun h => h)
                    replace hge := Nat.le_trans hge ho4.size
                    replace hS := hS4
                    clear ho4 hS4
                    obtain ⟨⟨z0, z1, z2, z3, z4, z5, z6, z7⟩, zf0, zf1, zf2, zf3, zf4, zf5, zf6, zf7⟩ := qa.Eights
                    refine wpAnyT_one (i := 13) rfl (by kernel_rfl) (fun K hK => ?_)
                    go_simp
                    refine hK.out _ _ (fun _ => hS.putEight (fun h => absurd h (Nat.not_lt_of_le ga)) _ _ _ _ _ _ _ _) ?_
                    clear hK K z0 z1 z2 z3 z4 z5 z6 z7 zf0 zf1 zf2 zf3 zf4 zf5 zf6 zf7
                    have hS' := hS.putEight (b := ab) (fun h => absurd h (Nat.not_lt_of_le ga)) (.int .i64 0) (.int .i64 1) (.int .i64 0) (.string ⟨#[]⟩) (.slice none 0 0) (.int .i32 x) (.string ⟨#[]⟩) (.slice none 0 0)
                    have qa' := qa.putEight (.int .i64 0) (.int .i64 1) (.int .i64 0) (.string ⟨#[]⟩) (.slice none 0 0) (.int .i32 x) (.string ⟨#[]⟩) (.slice none 0 0)
                    have qb' := qb.otherEight hne.symm (.int .i64 0) (.int .i64 1) (.int .i64 0) (.string ⟨#[]⟩) (.slice none 0 0) (.int .i32 x) (.string ⟨#[]⟩) (.slice none 0 0)
                    obtain ⟨wn, hwn⟩ : ∃ z, ((((((((w4.setCell ⟨ab, 0, none⟩ (.int .i64 0)).setCell ⟨ab, 1, none⟩ (.int .i64 1)).setCell ⟨ab, 2, none⟩ (.int .i64 0)).setCell ⟨ab, 3, none⟩ (.string ⟨#[]⟩)).setCell ⟨ab, 4, none⟩ (.slice none 0 0)).setCell ⟨ab, 5, none⟩ (.int .i32 x)).setCell ⟨ab, 6, none⟩ (.string ⟨#[]⟩)).setCell ⟨ab, 7, none⟩ (.slice none 0 0)) = z := ⟨_, rfl⟩
                    rw [hwn] at hS' qa' qb' ⊢
                    clear hwn hS qa qb
                    have hS := hS'
                    have qa := qa'
                    have qb := qb'
                    clear hS' qa' qb'
                    obtain ⟨⟨z0, z1, z2, z3, z4, z5, z6, z7⟩, zf0, zf1, zf2, zf3, zf4, zf5, zf6, zf7⟩ := qb.Eights
                    refine wpAnyT_one (i := 14) rfl (by kernel_rfl) (fun K hK => ?_)
                    go_simp
                    refine hK.out _ _ (fun _ => hS.putEight (fun h => absurd h (Nat.not_lt_of_le gb)) _ _ _ _ _ _ _ _) ?_
                    clear hK K z0 z1 z2 z3 z4 z5 z6 z7 zf0 zf1 zf2 zf3 zf4 zf5 zf6 zf7
                    have hS' := hS.putEight (b := bb) (fun h => absurd h (Nat.not_lt_of_le gb)) (.int .i64 0) (.int .i64 1) (.int .i64 0) (.string ⟨#[]⟩) (.slice none 0 0) (.int .i32 y) (.string ⟨#[]⟩) (.slice none 0 0)
                    have qb' := qb.putEight (.int .i64 0) (.int .i64 1) (.int .i64 0) (.string ⟨#[]⟩) (.slice none 0 0) (.int .i32 y) (.string ⟨#[]⟩) (.slice none 0 0)
                    have qa' := qa.otherEight hne (.int .i64 0) (.int .i64 1) (.int .i64 0) (.string ⟨#[]⟩) (.slice none 0 0) (.int .i32 y) (.string ⟨#[]⟩) (.slice none 0 0)
                    obtain ⟨wn, hwn⟩ : ∃ z, ((((((((wn.setCell ⟨bb, 0, none⟩ (.int .i64 0)).setCell ⟨bb, 1, none⟩ (.int .i64 1)).setCell ⟨bb, 2, none⟩ (.int .i64 0)).setCell ⟨bb, 3, none⟩ (.string ⟨#[]⟩)).setCell ⟨bb, 4, none⟩ (.slice none 0 0)).setCell ⟨bb, 5, none⟩ (.int .i32 y)).setCell ⟨bb, 6, none⟩ (.string ⟨#[]⟩)).setCell ⟨bb, 7, none⟩ (.slice none 0 0)) = z := ⟨_, rfl⟩
                    rw [hwn] at hS' qb' qa' ⊢
                    clear hwn hS qb qa
                    have hS := hS'
                    have qb := qb'
                    have qa := qa'
                    clear hS' qb' qa'
                    refine wpAnyT_done (by kernel_rfl) ?_
                    go_wp2_with fail
                    go_meet
                    exact ⟨ab, bb, rfl, rfl, hS, ga, gb, qa, qb⟩
              · go_simp
                refine hK.out _ _ (fun _ => hS.alloc _) ?_
                clear hK K
                have qa := Blk.new w0 #[.int .i64 0, .int .i64 0, .int .i64 0, .string ⟨#[]⟩, .slice none 0 0, .int .i32 0, .string ⟨#[]⟩, .slice none 0 0] 27
                have hS1 := hS.alloc (.cells #[.int .i64 0, .int .i64 0, .int .i64 0, .string ⟨#[]⟩, .slice none 0 0, .int .i32 0, .string ⟨#[]⟩, .slice none 0 0] 27)
                have hz1 : w0.heap.size ≤ (w0.alloc (.cells #[.int .i64 0, .int .i64 0, .int .i64 0, .string ⟨#[]⟩, .slice none 0 0, .int .i32 0, .string ⟨#[]⟩, .slice none 0 0] 27)).heap.size := (alloc_nil _ _).size
                obtain ⟨ab, hab⟩ : ∃ z, w0.heap.size = z := ⟨_, rfl⟩
                have ga : wq2.heap.size ≤ ab := by rw [← hab]; exact hge
                obtain ⟨w1, hw1⟩ : ∃ z, w0.alloc (.cells #[.int .i64 0, .int .i64 0, .int .i64 0, .string ⟨#[]⟩, .slice none 0 0, .int .i32 0, .string ⟨#[]⟩, .slice none 0 0] 27) = z := ⟨_, rfl⟩
                rw [hab] at qa ⊢
                rw [hw1] at qa hS1 hz1 ⊢
                clear hab hw1
                replace hge := Nat.le_trans hge hz1
                replace hS := hS1
                clear hS1 hz1
                refine wpAnyT_two (i := 4) (j := 12) rfl rfl (by kernel_rfl) (fun K hK => ?_) (fun K hK => ?_)
                · go_simp
                  go_wp2_with (go_at_call 11; refine (numP_any 1 x _).mono ?_; rintro e w2 ⟨rfl, ho2⟩; have hS2 := Nil.trans hS ho2)
                  refine hK.out _ _ (fun _ => hS2) ?_
                  clear hK K
                  replace qa := qa.kept ho2 (fun h => h)
                  replace hge := Nat.le_trans hge ho2.size
                  replace hS := hS2
                  clear ho2 hS2
                  refine wpAnyT_two (i := 10) (j := 12) rfl rfl (by kernel_rfl) (fun K hK => ?_) (fun K hK => ?_)
                  · go_simp
                    go_wp2_with (go_at_call 11; refine (numP_any 1 y _).mono ?_; rintro e w3 ⟨rfl, ho3⟩; have hS3 := Nil.trans hS ho3)
                    refine hK.out _ _ (fun _ => hS3) ?_
                    clear hK K
                    replace qa := qa.kept ho3 (fun h => h)
                    replace hge := Nat.le_trans hge ho3.size
                    replace hS := hS3
                    clear ho3 hS3
                    refine wpAnyT_one (i := 12) rfl (by kernel_rfl) (fun K hK => ?_)
                    go_simp
                    refine hK.out _ _ (fun _ => hS.alloc _) ?_
                    clear hK K
                    have qb := Blk.new w3 #[.int .i64 0, .int .i64 0, .int .i64 0, .string ⟨#[]⟩, .slice none 0 0, .int .i32 0, .string ⟨#[]⟩, .slice none 0 0] 27
                    have hS4 := hS.alloc (.cells #[.int .i64 0, .int .i64 0, .int .i64 0, .string ⟨#[]⟩, .slice none 0 0, .int .i32 0, .string ⟨#[]⟩, .slice none 0 0] 27)
                    have hz4 : w3.heap.size ≤ (w3.alloc (.cells #[.int .i64 0, .int .i64 0, .int .i64 0, .string ⟨#[]⟩, .slice none 0 0, .int .i32 0, .string ⟨#[]⟩, .slice none 0 0] 27)).heap.size := (alloc_nil _ _).size
                    have hne0 := qa.lt
                    replace qa := qa.alloc (.cells #[.int .i64 0, .int .i64 0, .int .i64 0, .string ⟨#[]⟩, .slice none 0 0, .int .i32 0, .string ⟨#[]⟩, .slice none 0 0] 27)
                    obtain ⟨bb, hbb⟩ : ∃ z, w3.heap.size = z := ⟨_, rfl⟩
                    have gb : wq2.heap.size ≤ bb := by rw [← hbb]; exact hge
                    have hne : ab ≠ bb := by rw [← hbb]; exact Nat.ne_of_lt hne0
                    clear hne0
                    obtain ⟨w4, hw4⟩ : ∃ z, w3.alloc (.cells #[.int .i64 0, .int .i64 0, .int .i64 0, .string ⟨#[]⟩, .slice none 0 0, .int .i32 0, .string ⟨#[]⟩, .slice none 0 0] 27) = z := ⟨_, rfl⟩
                    rw [hbb] at qb ⊢
                    rw [hw4] at qb hS4 hz4 qa ⊢
                    clear hbb hw4
                    replace hge := Nat.le_trans hge hz4
                    replace hS := hS4
                    clear hS4 hz4
                    obtain ⟨⟨z0, z1, z2, z3, z4, z5, z6, z7⟩, zf0, zf1, zf2, zf3, zf4, zf5, zf6, zf7⟩ := qa.Eights
                    refine wpAnyT_one (i := 13) rfl (by kernel_rfl) (fun K hK => ?_)
                    go_simp
                    refine hK.out _ _ (fun _ => hS.putEight (fun h => absurd h (Nat.not_lt_of_le ga)) _ _ _ _ _ _ _ _) ?_
                    clear hK K z0 z1 z2 z3 z4 z5 z6 z7 zf0 zf1 zf2 zf3 zf4 zf5 zf6 zf7
                    have hS' := hS.putEight (b := ab) (fun h => absurd h (Nat.not_lt_of_le ga)) (.int .i64 0) (.int .i64 1) (.int .i64 0) (.string ⟨#[]⟩) (.slice none 0 0) (.int .i32 x) (.string ⟨#[]⟩) (.slice none 0 0)
                    have qa' := qa.putEight (.int .i64 0) (.int .i64 1) (.int .i64 0) (.string ⟨#[]⟩) (.slice none 0 0) (.int .i32 x) (.string ⟨#[]⟩) (.slice none 0 0)
                    have qb' := qb.otherEight hne.symm (.int .i64 0) (.int .i64 1) (.int .i64 0) (.string ⟨#[]⟩) (.slice none 0 0) (.int .i32 x) (.string ⟨#[]⟩) (.slice none 0 0)
                    obtain ⟨wn, hwn⟩ : ∃ z, ((((((((w4.setCell ⟨ab, 0, none⟩ (.int .i64 0)).setCell ⟨ab, 1, none⟩ (.int .i64 1)).setCell ⟨ab, 2, none⟩ (.int .i64 0)).setCell ⟨ab, 3, none⟩ (.string ⟨#[]⟩)).setCell ⟨ab, 4, none⟩ (.slice none 0 0)).setCell ⟨ab, 5, none⟩ (.int .i32 x)).setCell ⟨ab, 6, none⟩ (.string ⟨#[]⟩)).setCell ⟨ab, 7, none⟩ (.slice none 0 0)) = z := ⟨_, rfl⟩
                    rw [hwn] at hS' qa' qb' ⊢
                    clear hwn hS qa qb
                    have hS := hS'
                    have qa := qa'
                    have qb := qb'
                    clear hS' qa' qb'
                    obtain ⟨⟨z0, z1, z2, z3, z4, z5, z6, z7⟩, zf0, zf1, zf2, zf3, zf4, zf5, zf6, zf7⟩ := qb.Eights
                    refine wpAnyT_one (i := 14) rfl (by kernel_rfl) (fun K hK => ?_)
                    go_simp
                    refine hK.out _ _ (fun _ => hS.putEight (fun h => absurd h (Nat.not_lt_of_le gb)) _ _ _ _ _ _ _ _) ?_
                    clear hK K z0 z1 z2 z3 z4 z5 z6 z7 zf0 zf1 zf2 zf3 zf4 zf5 zf6 zf7
                    have hS' := hS.putEight (b := bb) (fun h => absurd h (Nat.not_lt_of_le gb)) (.int .i64 0) (.int .i64 1) (.int .i64 0) (.string ⟨#[]⟩) (.slice none 0 0) (.int .i32 y) (.string ⟨#[]⟩) (.slice none 0 0)
                    have qb' := qb.putEight (.int .i64 0) (.int .i64 1) (.int .i64 0) (.string ⟨#[]⟩) (.slice none 0 0) (.int .i32 y) (.string ⟨#[]⟩) (.slice none 0 0)
                    have qa' := qa.otherEight hne (.int .i64 0) (.int .i64 1) (.int .i64 0) (.string ⟨#[]⟩) (.slice none 0 0) (.int .i32 y) (.string ⟨#[]⟩) (.slice none 0 0)
                    obtain ⟨wn, hwn⟩ : ∃ z, ((((((((wn.setCell ⟨bb, 0, none⟩ (.int .i64 0)).setCell ⟨bb, 1, none⟩ (.int .i64 1)).setCell ⟨bb, 2, none⟩ (.int .i64 0)).setCell ⟨bb, 3, none⟩ (.string ⟨#[]⟩)).setCell ⟨bb, 4, none⟩ (.slice none 0 0)).setCell ⟨bb, 5, none⟩ (.int .i32 y)).setCell ⟨bb, 6, none⟩ (.string ⟨#[]⟩)).setCell ⟨bb, 7, none⟩ (.slice none 0 0)) = z := ⟨_, rfl⟩
                    rw [hwn] at hS' qb' qa' ⊢
                    clear hwn hS qb qa
                    have hS := hS'
                    have qb := qb'
                    have qa := qa'
                    clear hS' qb' qa'
                    refine wpAnyT_done (by kernel_rfl) ?_
                    go_wp2_with fail
                    go_meet
                    exact ⟨ab, bb, rfl, rfl, hS, ga, gb, qa, qb⟩
                  · go_simp
                    refine hK.out _ _ (fun _ => hS.alloc _) ?_
                    clear hK K
                    have qb := Blk.new w2 #[.int .i64 0, .int .i64 0, .int .i64 0, .string ⟨#[]⟩, .slice none 0 0, .int .i32 0, .string ⟨#[]⟩, .slice none 0 0] 27
                    have hS3 := hS.alloc (.cells #[.int .i64 0, .int .i64 0, .int .i64 0, .string ⟨#[]⟩, .slice none 0 0, .int .i32 0, .string ⟨#[]⟩, .slice none 0 0] 27)
                    have hz3 : w2.heap.size ≤ (w2.alloc (.cells #[.int .i64 0, .int .i64 0, .int .i64 0, .string ⟨#[]⟩, .slice none 0 0, .int .i32 0, .string ⟨#[]⟩, .slice none 0 0] 27)).heap.size := (alloc_nil _ _).size
                    have hne0 := qa.lt
                    replace qa := qa.alloc (.cells #[.int .i64 0, .int .i64 0, .int .i64 0, .string ⟨#[]⟩, .slice none 0 0, .int .i32 0, .string ⟨#[]⟩, .slice none 0 0] 27)
                    obtain ⟨bb, hbb⟩ : ∃ z, w2.heap.size = z := ⟨_, rfl⟩
                    have gb : wq2.heap.size ≤ bb := by rw [← hbb]; exact hge
                    have hne : ab ≠ bb := by rw [← hbb]; exact Nat.ne_of_lt hne0
                    clear hne0
                    obtain ⟨w3, hw3⟩ : ∃ z, w2.alloc (.cells #[.int .i64 0, .int .i64 0, .int .i64 0, .string ⟨#[]⟩, .slice none 0 0, .int .i32 0, .string ⟨#[]⟩, .slice none 0 0] 27) = z := ⟨_, rfl⟩
                    rw [hbb] at qb ⊢
                    rw [hw3] at qb hS3 hz3 qa ⊢
                    clear hbb hw3
                    replace hge := Nat.le_trans hge hz3
                    replace hS := hS3
                    clear hS3 hz3
                    refine wpAnyT_one (i := 10) rfl (by kernel_rfl) (fun K hK => ?_)
                    go_simp
                    go_wp2_with (go_at_call 11; refine (numP_any 1 y _).mono ?_; rintro e w4 ⟨rfl, ho4⟩; have hS4 := Nil.trans hS ho4)
                    refine hK.out _ _ (fun _ => hS4) ?_
                    clear hK K
                    replace qa := qa.kept ho4 (fun h => h)
                    replace qb := qb.kept ho4 (fun h => h)
                    replace hge := Nat.le_trans hge ho4.size
                    replace hS := hS4
                    clear ho4 hS4
                    obtain ⟨⟨z0, z1, z2, z3, z4, z5, z6, z7⟩, zf0, zf1, zf2, zf3, zf4, zf5, zf6, zf7⟩ := qa.Eights
                    refine wpAnyT_one (i := 13) rfl (by kernel_rfl) (fun K hK => ?_)
                    go_simp
                    refine hK.out _ _ (fun _ => hS.putEight (fun h => absurd h (Nat.not_lt_of_le ga)) _ _ _ _ _ _ _ _) ?_
                    clear hK K z0 z1 z2 z3 z4 z5 z6 z7 zf0 zf1 zf2 zf3 zf4 zf5 zf6 zf7
                    have hS' := hS.putEight (b := ab) (fun h => absurd h (Nat.not_lt_of_le ga)) (.int .i64 0) (.int .i64 1) (.int .i64 0) (.string ⟨#[]⟩) (.slice none 0 0) (.int .i32 x) (.string ⟨#[]⟩) (.slice none 0 0)
                    have qa' := qa.putEight (.int .i64 0) (.int .i64 1) (.int .i64 0) (.string ⟨#[]⟩) (.slice none 0 0) (.int .i32 x) (.string ⟨#[]⟩) (.slice none 0 0)
                    have qb' := qb.otherEight hne.symm (.int .i64 0) (.int .i64 1) (.int .i64 0) (.string ⟨#[]⟩) (.slice none 0 0) (.int .i32 x) (.string ⟨#[]⟩) (.slice none 0 0)
                    obtain ⟨wn, hwn⟩ : ∃ z, ((((((((w4.setCell ⟨ab, 0, none⟩ (.int .i64 0)).setCell ⟨ab, 1, none⟩ (.int .i64 1)).setCell ⟨ab, 2, none⟩ (.int .i64 0)).setCell ⟨ab, 3, none⟩ (.string ⟨#[]⟩)).setCell ⟨ab, 4, none⟩ (.slice none 0 0)).setCell ⟨ab, 5, none⟩ (.int .i32 x)).setCell ⟨ab, 6, none⟩ (.string ⟨#[]⟩)).setCell ⟨ab, 7, none⟩ (.slice none 0 0)) = z := ⟨_, rfl⟩
                    rw [hwn] at hS' qa' qb' ⊢
                    clear hwn hS qa qb
                    have hS := hS'
                    have qa := qa'
                    have qb := qb'
                    clear hS' qa' qb'
                    obtain ⟨⟨z0, z1, z2, z3, z4, z5, z6, z7⟩, zf0, zf1, zf2, zf3, zf4, zf5, zf6, zf7⟩ := qb.Eights
                    refine wpAnyT_one (i := 14) rfl (by kernel_rfl) (fun K hK => ?_)
                    go_simp
                    refine hK.out _ _ (fun _ => hS.putEight (fun h => absurd h (Nat.not_lt_of_le gb)) _ _ _ _ _ _ _ _) ?_
                    clear hK K z0 z1 z2 z3 z4 z5 z6 z7 zf0 zf1 zf2 zf3 zf4 zf5 zf6 zf7
                    have hS' := hS.putEight (b := bb) (fun h => absurd h (Nat.not_lt_of_le gb)) (.int .i64 0) (.int .i64 1) (.int .i64 0) (.string ⟨#[]⟩) (.slice none 0 0) (.int .i32 y) (.string ⟨#[]⟩) (.slice none 0 0)
                    have qb' := qb.putEight (.int .i64 0) (.int .i64 1) (.int .i64 0) (.string ⟨#[]⟩) (.slice none 0 0) (.int .i32 y) (.string ⟨#[]⟩) (.slice none 0 0)
                    have qa' := qa.otherEight hne (.int .i64 0) (.int .i64 1) (.int .i64 0) (.string ⟨#[]⟩) (.slice none 0 0) (.int .i32 y) (.string ⟨#[]⟩) (.slice none 0 0)
                    obtain ⟨wn, hwn⟩ : ∃ z, ((((((((wn.setCell ⟨bb, 0, none⟩ (.int .i64 0)).setCell ⟨bb, 1, none⟩ (.int .i64 1)).setCell ⟨bb, 2, none⟩ (.int .i64 0)).setCell ⟨bb, 3, none⟩ (.string ⟨#[]⟩)).setCell ⟨bb, 4, none⟩ (.slice none 0 0)).setCell ⟨bb, 5, none⟩ (.int .i32 y)).setCell ⟨bb, 6, none⟩ (.string ⟨#[]⟩)).setCell ⟨bb, 7, none⟩ (.slice none 0 0)) = z := ⟨_, rfl⟩
                    rw [hwn] at hS' qb' qa' ⊢
                    clear hwn hS qb qa
                    have hS := hS'
                    have qb := qb'
                    have qa := qa'
                    clear hS' qb' qa'
                    refine wpAnyT_done (by kernel_rfl) ?_
                    go_wp2_with fail
                    go_meet
                    exact ⟨ab, bb, rfl, rfl, hS, ga, gb, qa, qb⟩
                · go_simp
                  refine hK.out _ _ (fun _ => hS.alloc _) ?_
                  clear hK K
                  have qb := Blk.new w1 #[.int .i64 0, .int .i64 0, .int .i64 0, .string ⟨#[]⟩, .slice none 0 0, .int .i32 0, .string ⟨#[]⟩, .slice none 0 0] 27
                  have hS2 := hS.alloc (.cells #[.int .i64 0, .int .i64 0, .int .i64 0, .string ⟨#[]⟩, .slice none 0 0, .int .i32 0, .string ⟨#[]⟩, .slice none 0 0] 27)
                  have hz2 : w1.heap.size ≤ (w1.alloc (.cells #[.int .i64 0, .int .i64 0, .int .i64 0, .string ⟨#[]⟩, .slice none 0 0, .int .i32 0, .string ⟨#[]⟩, .slice none 0 0] 27)).heap.size := (alloc_nil _ _).size
                  have hne0 := qa.lt
                  replace qa := qa.alloc (.cells #[.int .i64 0, .int .i64 0, .int .i64 0, .string ⟨#[]⟩, .slice none 0 0, .int .i32 0, .string ⟨#[]⟩, .slice none 0 0] 27)
                  obtain ⟨bb, hbb⟩ : ∃ z, w1.heap.size = z := ⟨_, rfl⟩
                  have gb : wq2.heap.size ≤ bb := by rw [← hbb]; exact hge
                  have hne : ab ≠ bb := by rw [← hbb]; exact Nat.ne_of_lt hne0
                  clear hne0
                  obtain ⟨w2, hw2⟩ : ∃ z, w1.alloc (.cells #[.int .i64 0, .int .i64 0, .int .i64 0, .string ⟨#[]⟩, .slice none 0 0, .int .i32 0, .string ⟨#[]⟩, .slice none 0 0] 27) = z := ⟨_, rfl⟩
                  rw [hbb] at qb ⊢
                  rw [hw2] at qb hS2 hz2 qa ⊢
                  clear hbb hw2
                  replace hge := Nat.le_trans hge hz2
                  replace hS := hS2
                  clear hS2 hz2
                  refine wpAnyT_one (i := 4) rfl (by kernel_rfl) (fun K hK => ?_)
                  go_simp
                  go_wp2_with (go_at_call 11; refine (numP_any 1 x _).mono ?_; rintro e w3 ⟨rfl, ho3⟩; have hS3 := Nil.trans hS ho3)
                  refine hK.out _ _ (fun _ => hS3) ?_
                  clear hK K
                  replace qa := qa.kept ho3 (fun h => h)
                  replace qb := qb.kept ho3 (fun h => h)
                  replace hge := Nat.le_trans hge ho3.size
                  replace hS := hS3
                  clear ho3 hS3
                  refine wpAnyT_one (i := 10) rfl (by kernel_rfl) (fun K hK => ?_)
                  go_simp
                  go_wp2_with (go_at_call 11; refine (numP_any 1 y _).mono ?_; rintro e w4 ⟨rfl, ho4⟩; have hS4 := Nil.trans hS ho4)
                  refine hK.out _ _ (fun _ => hS4) ?_
                  clear hK K
                  replace qa := qa.kept ho4 (fun h => h)
                  replace qb := qb.kept ho4 (fun h => h)
                  replace hge := Nat.le_trans hge ho4.size
                  replace hS := hS4
                  clear ho4 hS4
                  obtain ⟨⟨z0, z1, z2, z3, z4, z5, z6, z7⟩, zf0, zf1, zf2, zf3, zf4, zf5, zf6, zf7⟩ := qa.Eights
                  refine wpAnyT_one (i := 13) rfl (by kernel_rfl) (fun K hK => ?_)
                  go_simp
                  refine hK.out _ _ (fun _ => hS.putEight (fun h => absurd h (Nat.not_lt_of_le ga)) _ _ _ _ _ _ _ _) ?_
                  clear hK K z0 z1 z2 z3 z4 z5 z6 z7 zf0 zf1 zf2 zf3 zf4 zf5 zf6 zf7
                  have hS' := hS.putEight (b := ab) (fun h => absurd h (Nat.not_lt_of_le ga)) (.int .i64 0) (.int .i64 1) (.int .i64 0) (.string ⟨#[]⟩) (.slice none 0 0) (.int .i32 x) (.string ⟨#[]⟩) (.slice none 0 0)
                  have qa' := qa.putEight (.int .i64 0) (.int .i64 1) (.int .i64 0) (.string ⟨#[]⟩) (.slice none 0 0) (.int .i32 x) (.string ⟨#[]⟩) (.slice none 0 0)
                  have qb' := qb.otherEight hne.symm (.int .i64 0) (.int .i64 1) (.int .i64 0) (.string ⟨#[]⟩) (.slice none 0 0) (.int .i32 x) (.string ⟨#[]⟩) (.slice none 0 0)
                  obtain ⟨wn, hwn⟩ : ∃ z, ((((((((w4.setCell ⟨ab, 0, none⟩ (.int .i64 0)).setCell ⟨ab, 1, none⟩ (.int .i64 1)).setCell ⟨ab, 2, none⟩ (.int .i64 0)).setCell ⟨ab, 3, none⟩ (.string ⟨#[]⟩)).setCell ⟨ab, 4, none⟩ (.slice none 0 0)).setCell ⟨ab, 5, none⟩ (.int .i32 x)).setCell ⟨ab, 6, none⟩ (.string ⟨#[]⟩)).setCell ⟨ab, 7, none⟩ (.slice none 0 0)) = z := ⟨_, rfl⟩
                  rw [hwn] at hS' qa' qb' ⊢
                  clear hwn hS qa qb
                  have hS := hS'
                  have qa := qa'
                  have qb := qb'
                  clear hS' qa' qb'
                  obtain ⟨⟨z0, z1, z2, z3, z4, z5, z6, z7⟩, zf0, zf1, zf2, zf3, zf4, zf5, zf6, zf7⟩ := qb.Eights
                  refine wpAnyT_one (i := 14) rfl (by kernel_rfl) (fun K hK => ?_)
                  go_simp
                  refine hK.out _ _ (fun _ => hS.putEight (fun h => absurd h (Nat.not_lt_of_le gb)) _ _ _ _ _ _ _ _) ?_
                  clear hK K z0 z1 z2 z3 z4 z5 z6 z7 zf0 zf1 zf2 zf3 zf4 zf5 zf6 zf7
                  have hS' := hS.putEight (b := bb) (fun h => absurd h (Nat.not_lt_of_le gb)) (.int .i64 0) (.int .i64 1) (.int .i64 0) (.string ⟨#[]⟩) (.slice none 0 0) (.int .i32 y) (.string ⟨#[]⟩) (.slice none 0 0)
                  have qb' := qb.putEight (.int .i64 0) (.int .i64 1) (.int .i64 0) (.string ⟨#[]⟩) (.slice none 0 0) (.int .i32 y) (.string ⟨#[]⟩) (.slice none 0 0)
                  have qa' := qa.otherEight hne (.int .i64 0) (.int .i64 1) (.int .i64 0) (.string ⟨#[]⟩) (.slice none 0 0) (.int .i32 y) (.string ⟨#[]⟩) (.slice none 0 0)
                  obtain ⟨wn, hwn⟩ : ∃ z, ((((((((wn.setCell ⟨bb, 0, none⟩ (.int .i64 0)).setCell ⟨bb, 1, none⟩ (.int .i64 1)).setCell ⟨bb, 2, none⟩ (.int .i64 0)).setCell ⟨bb, 3, none⟩ (.string ⟨#[]⟩)).setCell ⟨bb, 4, none⟩ (.slice none 0 0)).setCell ⟨bb, 5, none⟩ (.int .i32 y)).setCell ⟨bb, 6, none⟩ (.string ⟨#[]⟩)).setCell ⟨bb, 7, none⟩ (.slice none 0 0)) = z := ⟨_, rfl⟩
                  rw [hwn] at hS' qb' qa' ⊢
                  clear hwn hS qb qa
                  have hS := hS'
                  have qb := qb'
                  have qa := qa'
                  clear hS' qb' qa'
                  refine wpAnyT_done (by kernel_rfl) ?_
                  go_wp2_with fail
                  go_meet
                  exact ⟨ab, bb, rfl, rfl, hS, ga, gb, qa, qb⟩
              · go_simp
                refine hK.out _ _ (fun _ => hS.alloc _) ?_
                clear hK K
                have qb := Blk.new w0 #[.int .i64 0, .int .i64 0, .int .i64 0, .string ⟨#[]⟩, .slice none 0 0, .int .i32 0, .string ⟨#[]⟩, .slice none 0 0] 27
                have hS1 := hS.alloc (.cells #[.int .i64 0, .int .i64 0, .int .i64 0, .string ⟨#[]⟩, .slice none 0 0, .int .i32 0, .string ⟨#[]⟩, .slice none 0 0] 27)
                have hz1 : w0.heap.size ≤ (w0.alloc (.cells #[.int .i64 0, .int .i64 0, .int .i64 0, .string ⟨#[]⟩, .slice none 0 0, .int .i32 0, .string ⟨#[]⟩, .slice none 0 0] 27)).heap.size := (alloc_nil _ _).size
                obtain ⟨bb, hbb⟩ : ∃ z, w0.heap.size = z := ⟨_, rfl⟩
                have gb : wq2.heap.size ≤ bb := by rw [← hbb]; exact hge
                obtain ⟨w1, hw1⟩ : ∃ z, w0.alloc (.cells #[.int .i64 0, .int .i64 0, .int .i64 0, .string ⟨#[]⟩, .slice none 0 0, .int .i32 0, .string ⟨#[]⟩, .slice none 0 0] 27) = z := ⟨_, rfl⟩
                rw [hbb] at qb ⊢
                rw [hw1] at qb hS1 hz1 ⊢
                clear hbb hw1
                replace hge := Nat.le_trans hge hz1
                replace hS := hS1
                clear hS1 hz1
                refine wpAnyT_two (i := 4) (j := 11) rfl rfl (by kernel_rfl) (fun K hK => ?_) (fun K hK => ?_)
                · go_simp
                  go_wp2_with (go_at_call 11; refine (numP_any 1 x _).mono ?_; rintro e w2 ⟨rfl, ho2⟩; have hS2 := Nil.trans hS ho2)
                  refine hK.out _ _ (fun _ => hS2) ?_
                  clear hK K
                  replace qb := qb.kept ho2 (fun h => h)
                  replace hge := Nat.le_trans hge ho2.size
                  replace hS := hS2
                  clear ho2 hS2
                  refine wpAnyT_two (i := 10) (j := 11) rfl rfl (by kernel_rfl) (fun K hK => ?_) (fun K hK => ?_)
                  · go_simp
                    go_wp2_with (go_at_call 11; refine (numP_any 1 y _).mono ?_; rintro e w3 ⟨rfl, ho3⟩; have hS3 := Nil.trans hS ho3)
                    refine hK.out _ _ (fun _ => hS3) ?_
                    clear hK K
                    replace qb := qb.kept ho3 (fun h => h)
                    replace hge := Nat.le_trans hge ho3.size
                    replace hS := hS3
                    clear ho3 hS3
                    refine wpAnyT_one (i := 11) rfl (by kernel_rfl) (fun K hK => ?_)
                    go_simp
                    refine hK.out _ _ (fun _ => hS.alloc _) ?_
                    clear hK K
                    have qa := Blk.new w3 #[.int .i64 0, .int .i64 0, .int .i64 0, .string ⟨#[]⟩, .slice none 0 0, .int .i32 0, .string ⟨#[]⟩, .slice none 0 0] 27
                    have hS4 := hS.alloc (.cells #[.int .i64 0, .int .i64 0, .int .i64 0, .string ⟨#[]⟩, .slice none 0 0, .int .i32 0, .string ⟨#[]⟩, .slice none 0 0] 27)
                    have hz4 : w3.heap.size ≤ (w3.alloc (.cells #[.int .i64 0, .int .i64 0, .int .i64 0, .string ⟨#[]⟩, .slice none 0 0, .int .i32 0, .string ⟨#[]⟩, .slice none 0 0] 27)).heap.size := (alloc_nil _ _).size
                    have hne0 := qb.lt
                    replace qb := qb.alloc (.cells #[.int .i64 0, .int .i64 0, .int .i64 0, .string ⟨#[]⟩, .slice none 0 0, .int .i32 0, .string ⟨#[]⟩, .slice none 0 0] 27)
                    obtain ⟨ab, hab⟩ : ∃ z, w3.heap.size = z := ⟨_, rfl⟩
                    have ga : wq2.heap.size ≤ ab := by rw [← hab]; exact hge
                    have hne : ab ≠ bb := by rw [← hab]; exact Nat.ne_of_gt hne0
                    clear hne0
                    obtain ⟨w4, hw4⟩ : ∃ z, w3.alloc (.cells #[.int .i64 0, .int .i64 0, .int .i64 0, .string ⟨#[]⟩, .slice none 0 0, .int .i32 0, .string ⟨#[]⟩, .slice none 0 0] 27) = z := ⟨_, rfl⟩
                    rw [hab] at qa ⊢
                    rw [hw4] at qa hS4 hz4 qb ⊢
                    clear hab hw4
                    replace hge := Nat.le_trans hge hz4
                    replace hS := hS4
                    clear hS4 hz4
                    obtain ⟨⟨z0, z1, z2, z3, z4, z5, z6, z7⟩, zf0, zf1, zf2, zf3, zf4, zf5, zf6, zf7⟩ := qa.Eights
                    refine wpAnyT_one (i := 13) rfl (by kernel_rfl) (fun K hK => ?_)
                    go_simp
                    refine hK.out _ _ (fun _ => hS.putEight (fun h => absurd h (Nat.not_lt_of_le ga)) _ _ _ _ _ _ _ _) ?_
                    clear hK K z0 z1 z2 z3 z4 z5 z6 z7 zf0 zf1 zf2 zf3 zf4 zf5 zf6 zf7
                    have hS' := hS.putEight (b := ab) (fun h => absurd h (Nat.not_lt_of_le ga)) (.int .i64 0) (.int .i64 1) (.int .i64 0) (.string ⟨#[]⟩) (.slice none 0 0) (.int .i32 x) (.string ⟨#[]⟩) (.slice none 0 0)
                    have qa' := qa.putEight (.int .i64 0) (.int .i64 1) (.int .i64 0) (.string ⟨#[]⟩) (.slice none 0 0) (.int .i32 x) (.string ⟨#[]⟩) (.slice none 0 0)
                    have qb' := qb.otherEight hne.symm (.int .i64 0) (.int .i64 1) (.int .i64 0) (.string ⟨#[]⟩) (.slice none 0 0) (.int .i32 x) (.string ⟨#[]⟩) (.slice none 0 0)
                    obtain ⟨wn, hwn⟩ : ∃ z, ((((((((w4.setCell ⟨ab, 0, none⟩ (.int .i64 0)).setCell ⟨ab, 1, none⟩ (.int .i64 1)).setCell ⟨ab, 2, none⟩ (.int .i64 0)).setCell ⟨ab, 3, none⟩ (.string ⟨#[]⟩)).setCell ⟨ab, 4, none⟩ (.slice none 0 0)).setCell ⟨ab, 5, none⟩ (.int .i32 x)).setCell ⟨ab, 6, none⟩ (.string ⟨#[]⟩)).setCell ⟨ab, 7, none⟩ (.slice none 0 0)) = z := ⟨_, rfl⟩
                    rw [hwn] at hS' qa' qb' ⊢
                    clear hwn hS qa qb
                    have hS := hS'
                    have qa := qa'
                    have qb := qb'
                    clear hS' qa' qb'
                    obtain ⟨⟨z0, z1, z2, z3, z4, z5, z6, z7⟩, zf0, zf1, zf2, zf3, zf4, zf5, zf6, zf7⟩ := qb.Eights
                    refine wpAnyT_one (i := 14) rfl (by kernel_rfl) (fun K hK => ?_)
                    go_simp
                    refine hK.out _ _ (fun _ => hS.putEight (fun h => absurd h (Nat.not_lt_of_le gb)) _ _ _ _ _ _ _ _) ?_
                    clear hK K z0 z1 z2 z3 z4 z5 z6 z7 zf0 zf1 zf2 zf3 zf4 zf5 zf6 zf7
                    have hS' := hS.putEight (b := bb) (fun h => absurd h (Nat.not_lt_of_le gb)) (.int .i64 0) (.int .i64 1) (.int .i64 0) (.string ⟨#[]⟩) (.slice none 0 0) (.int .i32 y) (.string ⟨#[]⟩) (.slice none 0 0)
                    have qb' := qb.putEight (.int .i64 0) (.int .i64 1) (.int .i64 0) (.string ⟨#[]⟩) (.slice none 0 0) (.int .i32 y) (.string ⟨#[]⟩) (.slice none 0 0)
                    have qa' := qa.otherEight hne (.int .i64 0) (.int .i64 1) (.int .i64 0) (.string ⟨#[]⟩) (.slice none 0 0) (.int .i32 y) (.string ⟨#[]⟩) (.slice none 0 0)
                    obtain ⟨wn, hwn⟩ : ∃ z, ((((((((wn.setCell ⟨bb, 0, none⟩ (.int .i64 0)).setCell ⟨bb, 1, none⟩ (.int .i64 1)).setCell ⟨bb, 2, none⟩ (.int .i64 0)).setCell ⟨bb, 3, none⟩ (.string ⟨#[]⟩)).setCell ⟨bb, 4, none⟩ (.slice none 0 0)).setCell ⟨bb, 5, none⟩ (.int .i32 y)).setCell ⟨bb, 6, none⟩ (.string ⟨#[]⟩)).setCell ⟨bb, 7, none⟩ (.slice none 0 0)) = z := ⟨_, rfl⟩
                    rw [hwn] at hS' qb' qa' ⊢
                    clear hwn hS qb qa
                    have hS := hS'
                    have qb := qb'
                    have qa := qa'
                    clear hS' qb' qa'
                    refine wpAnyT_done (by kernel_rfl) ?_
                    go_wp2_with fail
                    go_meet
                    exact ⟨ab, bb, rfl, rfl, hS, ga, gb, qa, qb⟩
                  · go_simp
                    refine hK.out _ _ (fun _ => hS.alloc _) ?_
                    clear hK K
                    have qa := Blk.new w2 #[.int .i64 0, .int .i64 0, .int .i64 0, .string ⟨#[]⟩, .slice none 0 0, .int .i32 0, .string ⟨#[]⟩, .slice none 0 0] 27
                    have hS3 := hS.alloc (.cells #[.int .i64 0, .int .i64 0, .int .i64 0, .string ⟨#[]⟩, .slice none 0 0, .int .i32 0, .string ⟨#[]⟩, .slice none 0 0] 27)
                    have hz3 : w2.heap.size ≤ (w2.alloc (.cells #[.int .i64 0, .int .i64 0, .int .i64 0, .string ⟨#[]⟩, .slice none 0 0, .int .i32 0, .string ⟨#[]⟩, .slice none 0 0] 27)).heap.size := (alloc_nil _ _).size
                    have hne0 := qb.lt
                    replace qb := qb.alloc (.cells #[.int .i64 0, .int .i64 0, .int .i64 0, .string ⟨#[]⟩, .slice none 0 0, .int .i32 0, .string ⟨#[]⟩, .slice none 0 0] 27)
                    obtain ⟨ab, hab⟩ : ∃ z, w2.heap.size = z := ⟨_, rfl⟩
                    have ga : wq2.heap.size ≤ ab := by rw [← hab]; exact hge
                    have hne : ab ≠ bb := by rw [← hab]; exact Nat.ne_of_gt hne0
                    clear hne0
                    obtain ⟨w3, hw3⟩ : ∃ z, w2.alloc (.cells #[.int .i64 0, .int .i64 0, .int .i64 0, .string ⟨#[]⟩, .slice none 0 0, .int .i32 0, .string ⟨#[]⟩, .slice none 0 0] 27) = z := ⟨_, rfl⟩
                    rw [hab] at qa ⊢
                    rw [hw3] at qa hS3 hz3 qb ⊢
                    clear hab hw3
                    replace hge := Nat.le_trans hge hz3
                    replace hS := hS3
                    clear hS3 hz3
                    refine wpAnyT_one (i := 10) rfl (by kernel_rfl) (fun K hK => ?_)
                    go_simp
                    go_wp2_with (go_at_call 11; refine (numP_any 1 y _).mono ?_; rintro e w4 ⟨rfl, ho4⟩; have hS4 := Nil.trans hS ho4)
                    refine hK.out _ _ (fun _ => hS4) ?_
                    clear hK K
                    replace qa := qa.kept ho4 (fun h => h)
                    replace qb := qb.kept ho4 (fun h => h)
                    replace hge := Nat.le_trans hge ho4.size
                    replace hS := hS4
                    clear ho4 hS4
                    obtain ⟨⟨z0, z1, z2, z3, z4, z5, z6, z7⟩, zf0, zf1, zf2, zf3, zf4, zf5, zf6, zf7⟩ := qa.Eights
                    refine wpAnyT_one (i := 13) rfl (by kernel_rfl) (fun K hK => ?_)
                    go_simp
                    refine hK.out _ _ (fun _ => hS.putEight (fun h => absurd h (Nat.not_lt_of_le ga)) _ _ _ _ _ _ _ _) ?_
                    clear hK K z0 z1 z2 z3 z4 z5 z6 z7 zf0 zf1 zf2 zf3 zf4 zf5 zf6 zf7
                    have hS' := hS.putEight (b := ab) (fun h => absurd h (Nat.not_lt_of_le ga)) (.int .i64 0) (.int .i64 1) (.int .i64 0) (.string ⟨#[]⟩) (.slice none 0 0) (.int .i32 x) (.string ⟨#[]⟩) (.slice none 0 0)
                    have qa' := qa.putEight (.int .i64 0) (.int .i64 1) (.int .i64 0) (.string ⟨#[]⟩) (.slice none 0 0) (.int .i32 x) (.string ⟨#[]⟩) (.slice none 0 0)
                    have qb' := qb.otherEight hne.symm (.int .i64 0) (.int .i64 1) (.int .i64 0) (.string ⟨#[]⟩) (.slice none 0 0) (.int .i32 x) (.string ⟨#[]⟩) (.slice none 0 0)
                    obtain ⟨wn, hwn⟩ : ∃ z, ((((((((w4.setCell ⟨ab, 0, none⟩ (.int .i64 0)).setCell ⟨ab, 1, none⟩ (.int .i64 1)).setCell ⟨ab, 2, none⟩ (.int .i64 0)).setCell ⟨ab, 3, none⟩ (.string ⟨#[]⟩)).setCell ⟨ab, 4, none⟩ (.slice none 0 0)).setCell ⟨ab, 5, none⟩ (.int .i32 x)).setCell ⟨ab, 6, none⟩ (.string ⟨#[]⟩)).setCell ⟨ab, 7, none⟩ (.slice none 0 0)) = z := ⟨_, rfl⟩
                    rw [hwn] at hS' qa' qb' ⊢
                    clear hwn hS qa qb
                    have hS := hS'
                    have qa := qa'
                    have qb := qb'
                    clear hS' qa' qb'
                    obtain ⟨⟨z0, z1, z2, z3, z4, z5, z6, z7⟩, zf0, zf1, zf2, zf3, zf4, zf5, zf6, zf7⟩ := qb.Eights
                    refine wpAnyT_one (i := 14) rfl (by kernel_rfl) (fun K hK => ?_)
                    go_simp
                    refine hK.out _ _ (fun _ => hS.putEight (fun h => absurd h (Nat.not_lt_of_le gb)) _ _ _ _ _ _ _ _) ?_
                    clear hK K z0 z1 z2 z3 z4 z5 z6 z7 zf0 zf1 zf2 zf3 zf4 zf5 zf6 zf7
                    have hS' := hS.putEight (b := bb) (fun h => absurd h (Nat.not_lt_of_le gb)) (.int .i64 0) (.int .i64 1) (.int .i64 0) (.string ⟨#[]⟩) (.slice none 0 0) (.int .i32 y) (.string ⟨#[]⟩) (.slice none 0 0)
                    have qb' := qb.putEight (.int .i64 0) (.int .i64 1) (.int .i64 0) (.string ⟨#[]⟩) (.slice none 0 0) (.int .i32 y) (.string ⟨#[]⟩) (.slice none 0 0)
                    have qa' := qa.otherEight hne (.int .i64 0) (.int .i64 1) (.int .i64 0) (.string ⟨#[]⟩) (.slice none 0 0) (.int .i32 y) (.string ⟨#[]⟩) (.slice none 0 0)
                    obtain ⟨wn, hwn⟩ : ∃ z, ((((((((wn.setCell ⟨bb, 0, none⟩ (.int .i64 0)).setCell ⟨bb, 1, none⟩ (.int .i64 1)).setCell ⟨bb, 2, none⟩ (.int .i64 0)).setCell ⟨bb, 3, none⟩ (.string ⟨#[]⟩)).setCell ⟨bb, 4, none⟩ (.slice none 0 0)).setCell ⟨bb, 5, none⟩ (.int .i32 y)).setCell ⟨bb, 6, none⟩ (.string ⟨#[]⟩)).setCell ⟨bb, 7, none⟩ (.slice none 0 0)) = z := ⟨_, rfl⟩
                    rw [hwn] at hS' qb' qa' ⊢
                    clear hwn hS qb qa
                    have hS := hS'
                    have qb := qb'
                    have qa := qa'
                    clear hS' qb' qa'
                    refine wpAnyT_done (by kernel_rfl) ?_
                    go_wp2_with fail
                    go_meet
                    exact ⟨ab, bb, rfl, rfl, hS, ga, gb, qa, qb⟩
                · go_simp
                  refine hK.out _ _ (fun _ => hS.alloc _) ?_
                  clear hK K
                  have qa := Blk.new w1 #[.int .i64 0, .int .i64 0, .int .i64 0, .string ⟨#[]⟩, .slice none 0 0, .int .i32 0, .string ⟨#[]⟩, .slice none 0 0] 27
                  have hS2 := hS.alloc (.cells #[.int .i64 0, .int .i64 0, .int .i64 0, .string ⟨#[]⟩, .slice none 0 0, .int .i32 0, .string ⟨#[]⟩, .slice none 0 0] 27)
                  have hz2 : w1.heap.size ≤ (w1.alloc (.cells #[.int .i64 0, .int .i64 0, .int .i64 0, .string ⟨#[]⟩, .slice none 0 0, .int .i32 0, .string ⟨#[]⟩, .slice none 0 0] 27)).heap.size := (alloc_nil _ _).size
                  have hne0 := qb.lt
                  replace qb := qb.alloc (.cells #[.int .i64 0, .int .i64 0, .int .i64 0, .string ⟨#[]⟩, .slice none 0 0, .int .i32 0, .string ⟨#[]⟩, .slice none 0 0] 27)
                  obtain ⟨ab, hab⟩ : ∃ z, w1.heap.size = z := ⟨_, rfl⟩
                  have ga : wq2.heap.size ≤ ab := by rw [← hab]; exact hge
                  have hne : ab ≠ bb := by rw [← hab]; exact Nat.ne_of_gt hne0
                  clear hne0
                  obtain ⟨w2, hw2⟩ : ∃ z, w1.alloc (.cells #[.int .i64 0, .int .i64 0, .int .i64 0, .string ⟨#[]⟩, .slice none 0 0, .int .i32 0, .string ⟨#[]⟩, .slice none 0 0] 27) = z := ⟨_, rfl⟩
                  rw [hab] at qa ⊢
                  rw [hw2] at qa hS2 hz2 qb ⊢
                  clear hab hw2
                  replace hge := Nat.le_trans hge hz2
                  replace hS := hS2
                  clear hS2 hz2
                  refine wpAnyT_one (i := 4) rfl (by kernel_rfl) (fun K hK => ?_)
                  go_simp
                  go_wp2_with (go_at_call 11; refine (numP_any 1 x _).mono ?_; rintro e w3 ⟨rfl, ho3⟩; have hS3 := Nil.trans hS ho3)
                  refine hK.out _ _ (fun _ => hS3) ?_
                  clear hK K
                  replace qa := qa.kept ho3 (fun h => h)
                  replace qb := qb.kept ho3 (fun h => h)
                  replace hge := Nat.le_trans hge ho3.size
                  replace hS := hS3
                  clear ho3 hS3
                  refine wpAnyT_one (i := 10) rfl (by kernel_rfl) (fun K hK => ?_)
                  go_simp
                  go_wp2_with (go_at_call 11; refine (numP_any 1 y _).mono ?_; rintro e w4 ⟨rfl, ho4⟩; have hS4 := Nil.trans hS ho4)
                  refine hK.out _ _ (fun _ => hS4) ?_
                  clear hK K
                  replace qa := qa.kept ho4 (fun h => h)
                  replace qb := qb.kept ho4 (fun h => h)
                  replace hge := Nat.le_trans hge ho4.size
                  replace hS := hS4
                  clear ho4 hS4
                  obtain ⟨⟨z0, z1, z2, z3, z4, z5, z6, z7⟩, zf0, zf1, zf2, zf3, zf4, zf5, zf6, zf7⟩ := qa.Eights
                  refine wpAnyT_one (i := 13) rfl (by kernel_rfl) (fun K hK => ?_)
                  go_simp
                  refine hK.out _ _ (fun _ => hS.putEight (fun h => absurd h (Nat.not_lt_of_le ga)) _ _ _ _ _ _ _ _) ?_
                  clear hK K z0 z1 z2 z3 z4 z5 z6 z7 zf0 zf1 zf2 zf3 zf4 zf5 zf6 zf7
                  have hS' := hS.putEight (b := ab) (fun h => absurd h (Nat.not_lt_of_le ga)) (.int .i64 0) (.int .i64 1) (.int .i64 0) (.string ⟨#[]⟩) (.slice none 0 0) (.int .i32 x) (.string ⟨#[]⟩) (.slice none 0 0)
                  have qa' := qa.putEight (.int .i64 0) (.int .i64 1) (.int .i64 0) (.string ⟨#[]⟩) (.slice none 0 0) (.int .i32 x) (.string ⟨#[]⟩) (.slice none 0 0)
                  have qb' := qb.otherEight hne.symm (.int .i64 0) (.int .i64 1) (.int .i64 0) (.string ⟨#[]⟩) (.slice none 0 0) (.int .i32 x) (.string ⟨#[]⟩) (.slice none 0 0)
                  obtain ⟨wn, hwn⟩ : ∃ z, ((((((((w4.setCell ⟨ab, 0, none⟩ (.int .i64 0)).setCell ⟨ab, 1, none⟩ (.int .i64 1)).setCell ⟨ab, 2, none⟩ (.int .i64 0)).setCell ⟨ab, 3, none⟩ (.string ⟨#[]⟩)).setCell ⟨ab, 4, none⟩ (.slice none 0 0)).setCell ⟨ab, 5, none⟩ (.int .i32 x)).setCell ⟨ab, 6, none⟩ (.string ⟨#[]⟩)).setCell ⟨ab, 7, none⟩ (.slice none 0 0)) = z := ⟨_, rfl⟩
                  rw [hwn] at hS' qa' qb' ⊢
                  clear hwn hS qa qb
                  have hS := hS'
                  have qa := qa'
                  have qb := qb'
                  clear hS' qa' qb'
                  obtain ⟨⟨z0, z1, z2, z3, z4, z5, z6, z7⟩, zf0, zf1, zf2, zf3, zf4, zf5, zf6, zf7⟩ := qb.Eights
                  refine wpAnyT_one (i := 14) rfl (by kernel_rfl) (fun K hK => ?_)
                  go_simp
                  refine hK.out _ _ (fun _ => hS.putEight (fun h => absurd h (Nat.not_lt_of_le gb)) _ _ _ _ _ _ _ _) ?_
                  clear hK K z0 z1 z2 z3 z4 z5 z6 z7 zf0 zf1 zf2 zf3 zf4 zf5 zf6 zf7
                  have hS' := hS.putEight (b := bb) (fun h => absurd h (Nat.not_lt_of_le gb)) (.int .i64 0) (.int .i64 1) (.int .i64 0) (.string ⟨#[]⟩) (.slice none 0 0) (.int .i32 y) (.string ⟨#[]⟩) (.slice none 0 0)
                  have qb' := qb.putEight (.int .i64 0) (.int .i64 1) (.int .i64 0) (.string ⟨#[]⟩) (.slice none 0 0) (.int .i32 y) (.string ⟨#[]⟩) (.slice none 0 0)
                  have qa' := qa.otherEight hne (.int .i64 0) (.int .i64 1) (.int .i64 0) (.string ⟨#[]⟩) (.slice none 0 0) (.int .i32 y) (.string ⟨#[]⟩) (.slice none 0 0)
                  obtain ⟨wn, hwn⟩ : ∃ z, ((((((((wn.setCell ⟨bb, 0, none⟩ (.int .i64 0)).setCell ⟨bb, 1, none⟩ (.int .i64 1)).setCell ⟨bb, 2, none⟩ (.int .i64 0)).setCell ⟨bb, 3, none⟩ (.string ⟨#[]⟩)).setCell ⟨bb, 4, none⟩ (.slice none 0 0)).setCell ⟨bb, 5, none⟩ (.int .i32 y)).setCell ⟨bb, 6, none⟩ (.string ⟨#[]⟩)).setCell ⟨bb, 7, none⟩ (.slice none 0 0)) = z := ⟨_, rfl⟩
                  rw [hwn] at hS' qb' qa' ⊢
                  clear hwn hS qb qa
                  have hS := hS'
                  have qb := qb'
                  have qa := qa'
                  clear hS' qb' qa'
                  refine wpAnyT_done (by kernel_rfl) ?_
                  go_wp2_with fail
                  go_meet
                  exact ⟨ab, bb, rfl, rfl, hS, ga, gb, qa, qb⟩
            case rest =>
              clear e1 e2 e3
              obtain ⟨cb, db, rfl, rfl, hod, gc, gd, qc, qd⟩ := hcut
              have el2 := hod.cell dl2 (fun h => h)
              replace qa := qa.kept hod (fun h => h)
              replace qb := qb.kept hod (fun h => h)
              have h9 := Nil.trans hoc hod
              have HO9 := Lib.hid (Nil.trans HO.out h9)
              have HE9 := Lib.hid (HE.out.kept h9 (fun h => h))
              have HR9 := Lib.hid (HR.out.kept h9 (fun h => h))
              have HPE9 := Lib.hid (HPE.out.quiet h9)
              have HPR9 := Lib.hid (HPR.out.quiet h9)
              have HZ9 := Lib.hid (Nat.le_trans HSZ.out h9.size)
              have HVE : Hid (∀ q, vE.ownBlock = some q → q < wq.heap.size) := Lib.hid (fun q h => (HPE.out.own.lt q h).2)
              have GC : Hid (wq.heap.size ≤ cb) := Lib.hid (Nat.le_trans hoc.size gc)
              have GD : Hid (wq.heap.size ≤ db) := Lib.hid (Nat.le_trans hoc.size gd)
              have HCE : Hid (eb < cb ∧ eb < db) := Lib.hid (by have h1 := HSZ.out; have h2 := GC.out; have h3 := GD.out; exact ⟨by omega, by omega⟩)
              have HJN := Lib.hid hkn
              clear dl0 dl1 dl2 hoc hod ga gb gc gd h9
              obtain ⟨w9, hw9⟩ : ∃ z, wc = z := ⟨_, rfl⟩
              rw [hw9] at el2 qa qb qc qd HO9 HE9 HR9 HPE9 HPR9 HZ9 ⊢
              clear hw9
              cases bbv
              · go_upto_region 15 with fail
                clear el2
                obtain ⟨⟨za0, za1, za2, za3, za4, za5, za6, za7⟩, zaf0, zaf1, zaf2, zaf3, zaf4, zaf5, zaf6, zaf7⟩ := qa.Eights
                obtain ⟨⟨zb0, zb1, zb2, zb3, zb4, zb5, zb6, zb7⟩, zbf0, zbf1, zbf2, zbf3, zbf4, zbf5, zbf6, zbf7⟩ := qb.Eights
                have yy0 := fun o : Obj => (alloc_nil w9 o).cell zb0 (fun h => h)
                have yy1 := fun o : Obj => (alloc_nil w9 o).cell zb1 (fun h => h)
                have yy2 := fun o : Obj => (alloc_nil w9 o).cell zb2 (fun h => h)
                have yy3 := fun o : Obj => (alloc_nil w9 o).cell zb3 (fun h => h)
                have yy4 := fun o : Obj => (alloc_nil w9 o).cell zb4 (fun h => h)
                have yy5 := fun o : Obj => (alloc_nil w9 o).cell zb5 (fun h => h)
                have yy6 := fun o : Obj => (alloc_nil w9 o).cell zb6 (fun h => h)
                have yy7 := fun o : Obj => (alloc_nil w9 o).cell zb7 (fun h => h)
                have bx7 := HE9.out.cell 7
                have bxf := HE9.out.free 7
                simp only [List.getElem?_toArray, List.getElem?_cons_zero, List.getElem?_cons_succ] at bx7
                have HBK : Hid ((((w9.alloc (.cells #[.int .i64 0, .int .i64 1, .int .i64 0, .string ⟨#[]⟩, .slice none 0 0, .int .i32 u, .string ⟨#[]⟩, .slice none 0 0] 27)).alloc (.cells #[.int .i64 0, .int .i64 1, .int .i64 0, .string ⟨#[]⟩, .slice none 0 0, .int .i32 v, .string ⟨#[]⟩, .slice none 0 0] 27))).heap.size = w9.heap.size + 2) := Lib.hid (by simp)
                have HOWN : Hid ((((w9.alloc (.cells #[.int .i64 0, .int .i64 1, .int .i64 0, .string ⟨#[]⟩, .slice none 0 0, .int .i32 u, .string ⟨#[]⟩, .slice none 0 0] 27)).alloc (.cells #[.int .i64 0, .int .i64 1, .int .i64 0, .string ⟨#[]⟩, .slice none 0 0, .int .i32 v, .string ⟨#[]⟩, .slice none 0 0] 27))).ownsRow (eb + 2) 27 8 vE P.length (flatP P)) := Lib.hid ((HPE9.out.own.alloc _).alloc _)
                have H63 : Hid (P.length + 2 ≤ maxLen) := Lib.hid (by have := HP.out; have := HI.out; unfold maxLen; omega)
                have H112 : Hid ((P.length + 2) * 112 ≤ 140737488355328) := Lib.hid (by have := HP.out; have := HI.out; omega)
                have HBS : Hid (eb + 2 ≤ (((w9.alloc (.cells #[.int .i64 0, .int .i64 1, .int .i64 0, .string ⟨#[]⟩, .slice none 0 0, .int .i32 u, .string ⟨#[]⟩, .slice none 0 0] 27)).alloc (.cells #[.int .i64 0, .int .i64 1, .int .i64 0, .string ⟨#[]⟩, .slice none 0 0, .int .i32 v, .string ⟨#[]⟩, .slice none 0 0] 27))).heap.size) := Lib.hid (by have h := HBK.out; have h2 := HZ9.out; omega)
                have hW1 : Only Nil w9 (((w9.alloc (.cells #[.int .i64 0, .int .i64 1, .int .i64 0, .string ⟨#[]⟩, .slice none 0 0, .int .i32 u, .string ⟨#[]⟩, .slice none 0 0] 27)).alloc (.cells #[.int .i64 0, .int .i64 1, .int .i64 0, .string ⟨#[]⟩, .slice none 0 0, .int .i32 v, .string ⟨#[]⟩, .slice none 0 0] 27))) := (alloc_nil _ _).alloc _
                have HW1 := Lib.hid hW1
                clear hW1
                go_wp2_with (with_reducible refine wpList_append_many rfl _ _ 25 rfl (eb + 2) 27 i0 z0 8 112 2 Try.underlying25 hi hz0 hz1 hz2 hz3 (by decide) (by decide) _ _ _ rfl HOWN.out #[.int .i64 25, .int .i64 0, .int .i64 0, .string ⟨#[]⟩, .slice none 0 0, .int .i32 0, .string ⟨#[]⟩, .slice (some ⟨w9.heap.size, 0, none⟩) 1 1, .int .i64 25, .int .i64 0, .int .i64 0, .string ⟨#[]⟩, .slice none 0 0, .int .i32 0, .string ⟨#[]⟩, .slice (some ⟨w9.heap.size + 1, 0, none⟩) 1 1] rfl (by simp [Value.oneCell']) _ HBK.out rfl H63.out H112.out HBS.out ?_)
                intro g1 cap1 w1a hown1 _ _ hg1 ho1
                have hmv : MovedTo (((w9.alloc (.cells #[.int .i64 0, .int .i64 1, .int .i64 0, .string ⟨#[]⟩, .slice none 0 0, .int .i32 u, .string ⟨#[]⟩, .slice none 0 0] 27)).alloc (.cells #[.int .i64 0, .int .i64 1, .int .i64 0, .string ⟨#[]⟩, .slice none 0 0, .int .i32 v, .string ⟨#[]⟩, .slice none 0 0] 27))) vE (.slice (some ⟨g1, 0, none⟩) (P.length + 2) cap1) := ⟨g1, rfl, hg1.imp Eq.symm (fun h => by have h2 := HBK.out; omega)⟩
                have HPE1 := Lib.hid (PRow.push (M := [(elemE 25 [numE 1 u], .slice (some ⟨w9.heap.size, 0, none⟩) 1 1), (elemE 25 [numE 1 v], .slice (some ⟨w9.heap.size + 1, 0, none⟩) 1 1)]) HPE9.out rfl rfl HW1.out (by have := HZ9.out; exact this) (by
                  intro p hp
                  simp only [List.mem_cons, List.not_mem_nil, or_false] at hp
                  rcases hp with rfl | rfl
                  · exact ⟨Flat.elem _ _, ExS.newConsts (cap := 1) (t := 27) [numE 1 u] (by
                      intro e he
                      simp only [List.mem_cons, List.not_mem_nil, or_false] at he
                      subst he
                      exact Leaf.num _ _ HU.out) (by simp) (Blk.new w9 #[.int .i64 0, .int .i64 1, .int .i64 0, .string ⟨#[]⟩, .slice none 0 0, .int .i32 u, .string ⟨#[]⟩, .slice none 0 0] 27) (Nat.le_refl _) (alloc_nil _ _)⟩
                  · exact ⟨Flat.elem _ _, ExS.newConsts (cap := 1) (t := 27) [numE 1 v] (by
                      intro e he
                      simp only [List.mem_cons, List.not_mem_nil, or_false] at he
                      subst he
                      exact Leaf.num _ _ HV.out) (by simp) (by have h := (Blk.new (w9.alloc (.cells #[.int .i64 0, .int .i64 1, .int .i64 0, .string ⟨#[]⟩, .slice none 0 0, .int .i32 u, .string ⟨#[]⟩, .slice none 0 0] 27)) #[.int .i64 0, .int .i64 1, .int .i64 0, .string ⟨#[]⟩, .slice none 0 0, .int .i32 v, .string ⟨#[]⟩, .slice none 0 0] 27); rw [show ((w9.alloc (.cells #[.int .i64 0, .int .i64 1, .int .i64 0, .string ⟨#[]⟩, .slice none 0 0, .int .i32 u, .string ⟨#[]⟩, .slice none 0 0] 27))).heap.size = w9.heap.size + 1 by simp] at h; exact h) (by simp) (Only.refl _ _)⟩) hown1 hmv ho1 (fun q hq => (HPR9.out.own.lt q hq).2))
                have HPR1 := Lib.hid (HPR9.out.other HW1.out hmv ho1)
                have hno : ∀ q, q < eb + 2 → ¬ Own vE.ownBlock q := fun q hq h => by have := (HOWN.out.lt _ h.symm).1; omega
                have keepb : ∀ {b : Nat} {cs : Array Value} {t : TypeId}, Blk w9 b cs t → ¬ Own vE.ownBlock b → Blk w1a b cs t := fun h hn => (h.kept HW1.out (fun h => h)).kept ho1 hn
                have HBo1 := Lib.hid (keepb HE9.out (hno _ (by omega)))
                have HBt1 := Lib.hid (keepb HR9.out (hno _ (by omega)))
                have HOn1 : Hid (Only Nil w w1a) := Lib.hid ((Nil.trans HO9.out HW1.out).trans ho1 (fun q hq h => by have := (HOWN.out.lt _ h.symm).1; have := HEB.out; omega))
                have HZn1 : Hid (eb + 2 ≤ w1a.heap.size) := Lib.hid (Nat.le_trans HBS.out ho1.size)
                have hqc := keepb qc (fun h => absurd (HVE.out _ h.symm) (Nat.not_lt_of_le GC.out))
                have hqd := keepb qd (fun h => absurd (HVE.out _ h.symm) (Nat.not_lt_of_le GD.out))
                have kx7 := HBo1.out.cell 7
                have kxf := HBo1.out.free 7
                simp only [List.getElem?_toArray, List.getElem?_cons_zero, List.getElem?_cons_succ] at kx7
                clear keepb hno hmv HOWN H63 H112 HBS HBK HW1 hown1 hg1 ho1 qa qb qc qd bx7 bxf za0 za1 za2 za3 za4 za5 za6 za7 zaf0 zaf1 zaf2 zaf3 zaf4 zaf5 zaf6 zaf7 zb0 zb1 zb2 zb3 zb4 zb5 zb6 zb7 zbf0 zbf1 zbf2 zbf3 zbf4 zbf5 zbf6 zbf7 yy0 yy1 yy2 yy3 yy4 yy5 yy6 yy7
                go_upto_region 16 with fail
                have hE11 := HBo1.out.setCell 7 (.slice (some ⟨g1, 0, none⟩) (P.length + 2) cap1)
                have hR11 := HBt1.out.setOther ⟨eb, 7, none⟩ (.slice (some ⟨g1, 0, none⟩) (P.length + 2) cap1) (Nat.succ_ne_self eb)
                have qc := hqc.setOther ⟨eb, 7, none⟩ (.slice (some ⟨g1, 0, none⟩) (P.length + 2) cap1) (Nat.ne_of_gt (HCE.out).1)
                have qd := hqd.setOther ⟨eb, 7, none⟩ (.slice (some ⟨g1, 0, none⟩) (P.length + 2) cap1) (Nat.ne_of_gt (HCE.out).2)
                have hOs : Only (M.One eb) w1a (w1a.setCell ⟨eb, 7, none⟩ (.slice (some ⟨g1, 0, none⟩) (P.length + 2) cap1)) := (Only.refl (M.One eb) w1a).setCell (p := ⟨eb, 7, none⟩) (fun _ => rfl) _
                have hPE11 := HPE1.out.low hOs (fun k hk => by have h : k = eb := hk; omega)
                have hPR11 := HPR1.out.low hOs (fun k hk => by have h : k = eb := hk; omega)
                have hO11 := HOn1.out.setCell (p := ⟨eb, 7, none⟩) (fun h => absurd h (Nat.not_lt_of_le HEB.out)) (.slice (some ⟨g1, 0, none⟩) (P.length + 2) cap1)
                have hZ11 := Nat.le_trans HZn1.out hOs.size
                simp only [List.setIfInBounds_toArray, List.set_cons_zero, List.set_cons_succ] at hE11
                obtain ⟨vE2, hvE2⟩ : ∃ z, Value.slice (some ⟨g1, 0, none⟩) (P.length + 2) cap1 = z := ⟨_, rfl⟩
                rw [hvE2] at hE11 hR11 qc qd hPE11 hPR11 hO11 hOs hZ11 ⊢
                obtain ⟨w11, hw11⟩ : ∃ z, w1a.setCell ⟨eb, 7, none⟩ vE2 = z := ⟨_, rfl⟩
                rw [hw11] at hE11 hR11 qc qd hPE11 hPR11 hO11 hZ11 ⊢
                clear hw11 hvE2 hOs hqc hqd kx7 kxf HBo1 HBt1 HPE1 HPR1 HOn1 HZn1
                have HE11 := Lib.hid hE11
                have HR11 := Lib.hid hR11
                have HPE11 := Lib.hid hPE11
                have HPR11 := Lib.hid hPR11
                have HO11 := Lib.hid hO11
                have HZ11 := Lib.hid hZ11
                clear hE11 hR11 hPE11 hPR11 hO11 hZ11
                obtain ⟨⟨zc0, zc1, zc2, zc3, zc4, zc5, zc6, zc7⟩, zcf0, zcf1, zcf2, zcf3, zcf4, zcf5, zcf6, zcf7⟩ := qc.Eights
                have bx7 := HR11.out.cell 7
                have bxf := HR11.out.free 7
                simp only [List.getElem?_toArray, List.getElem?_cons_zero, List.getElem?_cons_succ] at bx7
                have HBK : Hid (((w11.alloc (.cells #[.int .i64 0, .int .i64 1, .int .i64 0, .string ⟨#[]⟩, .slice none 0 0, .int .i32 x, .string ⟨#[]⟩, .slice none 0 0] 27))).heap.size = w11.heap.size + 1) := Lib.hid (by simp)
                have HOWN : Hid (((w11.alloc (.cells #[.int .i64 0, .int .i64 1, .int .i64 0, .string ⟨#[]⟩, .slice none 0 0, .int .i32 x, .string ⟨#[]⟩, .slice none 0 0] 27))).ownsRow (eb + 2) 27 8 vR Q.length (flatP Q)) := Lib.hid (HPR11.out.own.alloc _)
                have H63 : Hid (Q.length + 1 ≤ maxLen) := Lib.hid (by have := HQ.out; have := HI.out; unfold maxLen; omega)
                have H112 : Hid ((Q.length + 1) * 112 ≤ 140737488355328) := Lib.hid (by have := HQ.out; have := HI.out; omega)
                have HBS : Hid (eb + 2 ≤ ((w11.alloc (.cells #[.int .i64 0, .int .i64 1, .int .i64 0, .string ⟨#[]⟩, .slice none 0 0, .int .i32 x, .string ⟨#[]⟩, .slice none 0 0] 27))).heap.size) := Lib.hid (by have h := HBK.out; have h2 := HZ11.out; omega)
                have hW1 : Only Nil w11 ((w11.alloc (.cells #[.int .i64 0, .int .i64 1, .int .i64 0, .string ⟨#[]⟩, .slice none 0 0, .int .i32 x, .string ⟨#[]⟩, .slice none 0 0] 27))) := alloc_nil _ _
                have HW1 := Lib.hid hW1
                clear hW1
                go_wp2_with (with_reducible refine wpList_append_many rfl _ _ 25 rfl (eb + 2) 27 i0 z0 8 112 1 Try.underlying25 hi hz0 hz1 hz2 hz3 (by decide) (by decide) _ _ _ rfl HOWN.out #[.int .i64 25, .int .i64 0, .int .i64 0, .string ⟨#[]⟩, .slice none 0 0, .int .i32 0, .string ⟨#[]⟩, .slice (some ⟨w11.heap.size, 0, none⟩) 1 1] rfl (by simp [Value.oneCell']) _ HBK.out rfl H63.out H112.out HBS.out ?_)
                intro g2 cap2 w2a hown2 _ _ hg2 ho2
                have hmv : MovedTo ((w11.alloc (.cells #[.int .i64 0, .int .i64 1, .int .i64 0, .string ⟨#[]⟩, .slice none 0 0, .int .i32 x, .string ⟨#[]⟩, .slice none 0 0] 27))) vR (.slice (some ⟨g2, 0, none⟩) (Q.length + 1) cap2) := ⟨g2, rfl, hg2.imp Eq.symm (fun h => by have h2 := HBK.out; omega)⟩
                have HPE2 := Lib.hid (PRow.push (M := [(elemE 25 [numE 1 x], .slice (some ⟨w11.heap.size, 0, none⟩) 1 1)]) HPR11.out rfl rfl HW1.out (by have := HZ11.out; exact this) (by
                  intro p hp
                  simp only [List.mem_cons, List.not_mem_nil, or_false] at hp
                  subst hp
                  exact ⟨Flat.elem _ _, ExS.newConsts (cap := 1) (t := 27) [numE 1 x] (by
                    intro e he
                    simp only [List.mem_cons, List.not_mem_nil, or_false] at he
                    subst he
                    exact Leaf.num _ _ HX.out) (by simp) (Blk.new w11 #[.int .i64 0, .int .i64 1, .int .i64 0, .string ⟨#[]⟩, .slice none 0 0, .int .i32 x, .string ⟨#[]⟩, .slice none 0 0] 27) (Nat.le_refl _) (Only.refl _ _)⟩) hown2 hmv ho2 (fun q hq => (HPE11.out.own.lt q hq).2))
                have HPR2 := Lib.hid (HPE11.out.other HW1.out hmv ho2)
                have hno : ∀ q, q < eb + 2 → ¬ Own vR.ownBlock q := fun q hq h => by have := (HOWN.out.lt _ h.symm).1; omega
                have keepb : ∀ {b : Nat} {cs : Array Value} {t : TypeId}, Blk w11 b cs t → ¬ Own vR.ownBlock b → Blk w2a b cs t := fun h hn => (h.kept HW1.out (fun h => h)).kept ho2 hn
                have HBo2 := Lib.hid (keepb HR11.out (hno _ (by omega)))
                have HBt2 := Lib.hid (keepb HE11.out (hno _ (by omega)))
                have HOn2 : Hid (Only Nil w w2a) := Lib.hid ((Nil.trans HO11.out HW1.out).trans ho2 (fun q hq h => by have := (HOWN.out.lt _ h.symm).1; have := HEB.out; omega))
                have HZn2 : Hid (eb + 2 ≤ w2a.heap.size) := Lib.hid (Nat.le_trans HBS.out ho2.size)
                have kx7 := HBo2.out.cell 7
                have kxf := HBo2.out.free 7
                simp only [List.getElem?_toArray, List.getElem?_cons_zero, List.getElem?_cons_succ] at kx7
                clear keepb hno hmv HOWN H63 H112 HBS HBK HW1 hown2 hg2 ho2 qc qd bx7 bxf zc0 zc1 zc2 zc3 zc4 zc5 zc6 zc7 zcf0 zcf1 zcf2 zcf3 zcf4 zcf5 zcf6 zcf7
                go_wp2_with fail
                go_roundg (22 - (i + 2))
                case measure => have := HG.out; have := HI.out; have := HN20.out; have := HJ.out; have := HJN.out; omega
                case rel =>
                  have hR12 := HBo2.out.setCell 7 (.slice (some ⟨g2, 0, none⟩) (Q.length + 1) cap2)
                  simp only [List.setIfInBounds_toArray, List.set_cons_zero, List.set_cons_succ] at hR12
                  have hE12 := HBt2.out.setOther ⟨eb + 1, 7, none⟩ (.slice (some ⟨g2, 0, none⟩) (Q.length + 1) cap2) (Nat.ne_of_lt (Nat.lt_succ_self eb))
                  have hOs : Only (M.One (eb + 1)) w2a (w2a.setCell ⟨eb + 1, 7, none⟩ (.slice (some ⟨g2, 0, none⟩) (Q.length + 1) cap2)) := (Only.refl (M.One (eb + 1)) w2a).setCell (p := ⟨eb + 1, 7, none⟩) (fun _ => rfl) _
                  refine ⟨i + 2, vE2, _, _, _, sets_2 HI.out, by have := HN20.out; have := HJ.out; have := HJN.out; omega, rfl, HOn2.out.setCell (p := ⟨eb + 1, 7, none⟩) (fun h => absurd h (Nat.not_lt_of_le (Nat.le_succ_of_le HEB.out))) _, Nat.le_trans HZn2.out hOs.size, hE12, hR12, ?_, ?_, HPR2.out.low hOs (fun k hk => by have h : k = eb + 1 := hk; omega), HPE2.out.low hOs (fun k hk => by have h : k = eb + 1 := hk; omega)⟩
                  · rw [List.length_append]; have := HP.out; simp; omega
                  · rw [List.length_append]; have := HQ.out; simp; omega
              · go_upto_region 13 with fail
                clear el2
                obtain ⟨⟨za0, za1, za2, za3, za4, za5, za6, za7⟩, zaf0, zaf1, zaf2, zaf3, zaf4, zaf5, zaf6, zaf7⟩ := qa.Eights
                obtain ⟨⟨zb0, zb1, zb2, zb3, zb4, zb5, zb6, zb7⟩, zbf0, zbf1, zbf2, zbf3, zbf4, zbf5, zbf6, zbf7⟩ := qb.Eights
                have bx7 := HE9.out.cell 7
                have bxf := HE9.out.free 7
                simp only [List.getElem?_toArray, List.getElem?_cons_zero, List.getElem?_cons_succ] at bx7
                have HBK : Hid (((w9.alloc (.cells #[.int .i64 0, .int .i64 1, .int .i64 0, .string ⟨#[]⟩, .slice none 0 0, .int .i32 u, .string ⟨#[]⟩, .slice none 0 0, .int .i64 0, .int .i64 1, .int .i64 0, .string ⟨#[]⟩, .slice none 0 0, .int .i32 v, .string ⟨#[]⟩, .slice none 0 0] 27))).heap.size = w9.heap.size + 1) := Lib.hid (by simp)
                have HOWN : Hid (((w9.alloc (.cells #[.int .i64 0, .int .i64 1, .int .i64 0, .string ⟨#[]⟩, .slice none 0 0, .int .i32 u, .string ⟨#[]⟩, .slice none 0 0, .int .i64 0, .int .i64 1, .int .i64 0, .string ⟨#[]⟩, .slice none 0 0, .int .i32 v, .string ⟨#[]⟩, .slice none 0 0] 27))).ownsRow (eb + 2) 27 8 vE P.length (flatP P)) := Lib.hid (HPE9.out.own.alloc _)
                have H63 : Hid (P.length + 1 ≤ maxLen) := Lib.hid (by have := HP.out; have := HI.out; unfold maxLen; omega)
                have H112 : Hid ((P.length + 1) * 112 ≤ 140737488355328) := Lib.hid (by have := HP.out; have := HI.out; omega)
                have HBS : Hid (eb + 2 ≤ ((w9.alloc (.cells #[.int .i64 0, .int .i64 1, .int .i64 0, .string ⟨#[]⟩, .slice none 0 0, .int .i32 u, .string ⟨#[]⟩, .slice none 0 0, .int .i64 0, .int .i64 1, .int .i64 0, .string ⟨#[]⟩, .slice none 0 0, .int .i32 v, .string ⟨#[]⟩, .slice none 0 0] 27))).heap.size) := Lib.hid (by have h := HBK.out; have h2 := HZ9.out; omega)
                have hW1 : Only Nil w9 ((w9.alloc (.cells #[.int .i64 0, .int .i64 1, .int .i64 0, .string ⟨#[]⟩, .slice none 0 0, .int .i32 u, .string ⟨#[]⟩, .slice none 0 0, .int .i64 0, .int .i64 1, .int .i64 0, .string ⟨#[]⟩, .slice none 0 0, .int .i32 v, .string ⟨#[]⟩, .slice none 0 0] 27))) := alloc_nil _ _
                have HW1 := Lib.hid hW1
                clear hW1
                go_wp2_with (with_reducible refine wpList_append_many rfl _ _ 25 rfl (eb + 2) 27 i0 z0 8 112 1 Try.underlying25 hi hz0 hz1 hz2 hz3 (by decide) (by decide) _ _ _ rfl HOWN.out #[.int .i64 26, .int .i64 0, .int .i64 0, .string ⟨#[]⟩, .slice none 0 0, .int .i32 0, .string ⟨#[]⟩, .slice (some ⟨w9.heap.size, 0, none⟩) 2 2] rfl (by simp [Value.oneCell']) _ HBK.out rfl H63.out H112.out HBS.out ?_)
                intro g1 cap1 w1a hown1 _ _ hg1 ho1
                have hmv : MovedTo ((w9.alloc (.cells #[.int .i64 0, .int .i64 1, .int .i64 0, .string ⟨#[]⟩, .slice none 0 0, .int .i32 u, .string ⟨#[]⟩, .slice none 0 0, .int .i64 0, .int .i64 1, .int .i64 0, .string ⟨#[]⟩, .slice none 0 0, .int .i32 v, .string ⟨#[]⟩, .slice none 0 0] 27))) vE (.slice (some ⟨g1, 0, none⟩) (P.length + 1) cap1) := ⟨g1, rfl, hg1.imp Eq.symm (fun h => by have h2 := HBK.out; omega)⟩
                have HPE1 := Lib.hid (PRow.push (M := [(elemE 26 [numE 1 u, numE 1 v], .slice (some ⟨w9.heap.size, 0, none⟩) 2 2)]) HPE9.out rfl rfl HW1.out (by have := HZ9.out; exact this) (by
                  intro p hp
                  simp only [List.mem_cons, List.not_mem_nil, or_false] at hp
                  subst hp
                  exact ⟨Flat.elem _ _, ExS.newConsts (cap := 2) (t := 27) [numE 1 u, numE 1 v] (by
                    intro e he
                    simp only [List.mem_cons, List.not_mem_nil, or_false] at he
                    rcases he with rfl | rfl
                    · exact Leaf.num _ _ HU.out
                    · exact Leaf.num _ _ HV.out) (by simp) (Blk.new w9 #[.int .i64 0, .int .i64 1, .int .i64 0, .string ⟨#[]⟩, .slice none 0 0, .int .i32 u, .string ⟨#[]⟩, .slice none 0 0, .int .i64 0, .int .i64 1, .int .i64 0, .string ⟨#[]⟩, .slice none 0 0, .int .i32 v, .string ⟨#[]⟩, .slice none 0 0] 27) (Nat.le_refl _) (Only.refl _ _)⟩) hown1 hmv ho1 (fun q hq => (HPR9.out.own.lt q hq).2))
                have HPR1 := Lib.hid (HPR9.out.other HW1.out hmv ho1)
                have hno : ∀ q, q < eb + 2 → ¬ Own vE.ownBlock q := fun q hq h => by have := (HOWN.out.lt _ h.symm).1; omega
                have keepb : ∀ {b : Nat} {cs : Array Value} {t : TypeId}, Blk w9 b cs t → ¬ Own vE.ownBlock b → Blk w1a b cs t := fun h hn => (h.kept HW1.out (fun h => h)).kept ho1 hn
                have HBo1 := Lib.hid (keepb HE9.out (hno _ (by omega)))
                have HBt1 := Lib.hid (keepb HR9.out (hno _ (by omega)))
                have HOn1 : Hid (Only Nil w w1a) := Lib.hid ((Nil.trans HO9.out HW1.out).trans ho1 (fun q hq h => by have := (HOWN.out.lt _ h.symm).1; have := HEB.out; omega))
                have HZn1 : Hid (eb + 2 ≤ w1a.heap.size) := Lib.hid (Nat.le_trans HBS.out ho1.size)
                have hqc := keepb qc (fun h => absurd (HVE.out _ h.symm) (Nat.not_lt_of_le GC.out))
                have hqd := keepb qd (fun h => absurd (HVE.out _ h.symm) (Nat.not_lt_of_le GD.out))
                have kx7 := HBo1.out.cell 7
                have kxf := HBo1.out.free 7
                simp only [List.getElem?_toArray, List.getElem?_cons_zero, List.getElem?_cons_succ] at kx7
                clear keepb hno hmv HOWN H63 H112 HBS HBK HW1 hown1 hg1 ho1 qa qb qc qd bx7 bxf za0 za1 za2 za3 za4 za5 za6 za7 zaf0 zaf1 zaf2 zaf3 zaf4 zaf5 zaf6 zaf7 zb0 zb1 zb2 zb3 zb4 zb5 zb6 zb7 zbf0 zbf1 zbf2 zbf3 zbf4 zbf5 zbf6 zbf7
                go_upto_region 14 with fail
                have hE11 := HBo1.out.setCell 7 (.slice (some ⟨g1, 0, none⟩) (P.length + 1) cap1)
                have hR11 := HBt1.out.setOther ⟨eb, 7, none⟩ (.slice (some ⟨g1, 0, none⟩) (P.length + 1) cap1) (Nat.succ_ne_self eb)
                have qc := hqc.setOther ⟨eb, 7, none⟩ (.slice (some ⟨g1, 0, none⟩) (P.length + 1) cap1) (Nat.ne_of_gt (HCE.out).1)
                have qd := hqd.setOther ⟨eb, 7, none⟩ (.slice (some ⟨g1, 0, none⟩) (P.length + 1) cap1) (Nat.ne_of_gt (HCE.out).2)
                have hOs : Only (M.One eb) w1a (w1a.setCell ⟨eb, 7, none⟩ (.slice (some ⟨g1, 0, none⟩) (P.length + 1) cap1)) := (Only.refl (M.One eb) w1a).setCell (p := ⟨eb, 7, none⟩) (fun _ => rfl) _
                have hPE11 := HPE1.out.low hOs (fun k hk => by have h : k = eb := hk; omega)
                have hPR11 := HPR1.out.low hOs (fun k hk => by have h : k = eb := hk; omega)
                have hO11 := HOn1.out.setCell (p := ⟨eb, 7, none⟩) (fun h => absurd h (Nat.not_lt_of_le HEB.out)) (.slice (some ⟨g1, 0, none⟩) (P.length + 1) cap1)
                have hZ11 := Nat.le_trans HZn1.out hOs.size
                simp only [List.setIfInBounds_toArray, List.set_cons_zero, List.set_cons_succ] at hE11
                obtain ⟨vE2, hvE2⟩ : ∃ z, Value.slice (some ⟨g1, 0, none⟩) (P.length + 1) cap1 = z := ⟨_, rfl⟩
                rw [hvE2] at hE11 hR11 qc qd hPE11 hPR11 hO11 hOs hZ11 ⊢
                obtain ⟨w11, hw11⟩ : ∃ z, w1a.setCell ⟨eb, 7, none⟩ vE2 = z := ⟨_, rfl⟩
                rw [hw11] at hE11 hR11 qc qd hPE11 hPR11 hO11 hZ11 ⊢
                clear hw11 hvE2 hOs hqc hqd kx7 kxf HBo1 HBt1 HPE1 HPR1 HOn1 HZn1
                have HE11 := Lib.hid hE11
                have HR11 := Lib.hid hR11
                have HPE11 := Lib.hid hPE11
                have HPR11 := Lib.hid hPR11
                have HO11 := Lib.hid hO11
                have HZ11 := Lib.hid hZ11
                clear hE11 hR11 hPE11 hPR11 hO11 hZ11
                obtain ⟨⟨zc0, zc1, zc2, zc3, zc4, zc5, zc6, zc7⟩, zcf0, zcf1, zcf2, zcf3, zcf4, zcf5, zcf6, zcf7⟩ := qc.Eights
                obtain ⟨⟨zd0, zd1, zd2, zd3, zd4, zd5, zd6, zd7⟩, zdf0, zdf1, zdf2, zdf3, zdf4, zdf5, zdf6, zdf7⟩ := qd.Eights
                have bx7 := HR11.out.cell 7
                have bxf := HR11.out.free 7
                simp only [List.getElem?_toArray, List.getElem?_cons_zero, List.getElem?_cons_succ] at bx7
                have HBK : Hid (((w11.alloc (.cells #[.int .i64 0, .int .i64 1, .int .i64 0, .string ⟨#[]⟩, .slice none 0 0, .int .i32 x, .string ⟨#[]⟩, .slice none 0 0, .int .i64 0, .int .i64 1, .int .i64 0, .string ⟨#[]⟩, .slice none 0 0, .int .i32 y, .string ⟨#[]⟩, .slice none 0 0] 27))).heap.size = w11.heap.size + 1) := Lib.hid (by simp)
                have HOWN : Hid (((w11.alloc (.cells #[.int .i64 0, .int .i64 1, .int .i64 0, .string ⟨#[]⟩, .slice none 0 0, .int .i32 x, .string ⟨#[]⟩, .slice none 0 0, .int .i64 0, .int .i64 1, .int .i64 0, .string ⟨#[]⟩, .slice none 0 0, .int .i32 y, .string ⟨#[]⟩, .slice none 0 0] 27))).ownsRow (eb + 2) 27 8 vR Q.length (flatP Q)) := Lib.hid (HPR11.out.own.alloc _)
                have H63 : Hid (Q.length + 1 ≤ maxLen) := Lib.hid (by have := HQ.out; have := HI.out; unfold maxLen; omega)
                have H112 : Hid ((Q.length + 1) * 112 ≤ 140737488355328) := Lib.hid (by have := HQ.out; have := HI.out; omega)
                have HBS : Hid (eb + 2 ≤ ((w11.alloc (.cells #[.int .i64 0, .int .i64 1, .int .i64 0, .string ⟨#[]⟩, .slice none 0 0, .int .i32 x, .string ⟨#[]⟩, .slice none 0 0, .int .i64 0, .int .i64 1, .int .i64 0, .string ⟨#[]⟩, .slice none 0 0, .int .i32 y, .string ⟨#[]⟩, .slice none 0 0] 27))).heap.size) := Lib.hid (by have h := HBK.out; have h2 := HZ11.out; omega)
                have hW1 : Only Nil w11 ((w11.alloc (.cells #[.int .i64 0, .int .i64 1, .int .i64 0, .string ⟨#[]⟩, .slice none 0 0, .int .i32 x, .string ⟨#[]⟩, .slice none 0 0, .int .i64 0, .int .i64 1, .int .i64 0, .string ⟨#[]⟩, .slice none 0 0, .int .i32 y, .string ⟨#[]⟩, .slice none 0 0] 27))) := alloc_nil _ _
                have HW1 := Lib.hid hW1
                clear hW1
                go_wp2_with (with_reducible refine wpList_append_many rfl _ _ 25 rfl (eb + 2) 27 i0 z0 8 112 1 Try.underlying25 hi hz0 hz1 hz2 hz3 (by decide) (by decide) _ _ _ rfl HOWN.out #[.int .i64 26, .int .i64 0, .int .i64 0, .string ⟨#[]⟩, .slice none 0 0, .int .i32 0, .string ⟨#[]⟩, .slice (some ⟨w11.heap.size, 0, none⟩) 2 2] rfl (by simp [Value.oneCell']) _ HBK.out rfl H63.out H112.out HBS.out ?_)
                intro g2 cap2 w2a hown2 _ _ hg2 ho2
                have hmv : MovedTo ((w11.alloc (.cells #[.int .i64 0, .int .i64 1, .int .i64 0, .string ⟨#[]⟩, .slice none 0 0, .int .i32 x, .string ⟨#[]⟩, .slice none 0 0, .int .i64 0, .int .i64 1, .int .i64 0, .string ⟨#[]⟩, .slice none 0 0, .int .i32 y, .string ⟨#[]⟩, .slice none 0 0] 27))) vR (.slice (some ⟨g2, 0, none⟩) (Q.length + 1) cap2) := ⟨g2, rfl, hg2.imp Eq.symm (fun h => by have h2 := HBK.out; omega)⟩
                have HPE2 := Lib.hid (PRow.push (M := [(elemE 26 [numE 1 x, numE 1 y], .slice (some ⟨w11.heap.size, 0, none⟩) 2 2)]) HPR11.out rfl rfl HW1.out (by have := HZ11.out; exact this) (by
                  intro p hp
                  simp only [List.mem_cons, List.not_mem_nil, or_false] at hp
                  subst hp
                  exact ⟨Flat.elem _ _, ExS.newConsts (cap := 2) (t := 27) [numE 1 x, numE 1 y] (by
                    intro e he
                    simp only [List.mem_cons, List.not_mem_nil, or_false] at he
                    rcases he with rfl | rfl
                    · exact Leaf.num _ _ HX.out
                    · exact Leaf.num _ _ HY.out) (by simp) (Blk.new w11 #[.int .i64 0, .int .i64 1, .int .i64 0, .string ⟨#[]⟩, .slice none 0 0, .int .i32 x, .string ⟨#[]⟩, .slice none 0 0, .int .i64 0, .int .i64 1, .int .i64 0, .string ⟨#[]⟩, .slice none 0 0, .int .i32 y, .string ⟨#[]⟩, .slice none 0 0] 27) (Nat.le_refl _) (Only.refl _ _)⟩) hown2 hmv ho2 (fun q hq => (HPE11.out.own.lt q hq).2))
                have HPR2 := Lib.hid (HPE11.out.other HW1.out hmv ho2)
                have hno : ∀ q, q < eb + 2 → ¬ Own vR.ownBlock q := fun q hq h => by have := (HOWN.out.lt _ h.symm).1; omega
                have keepb : ∀ {b : Nat} {cs : Array Value} {t : TypeId}, Blk w11 b cs t → ¬ Own vR.ownBlock b → Blk w2a b cs t := fun h hn => (h.kept HW1.out (fun h => h)).kept ho2 hn
                have HBo2 := Lib.hid (keepb HR11.out (hno _ (by omega)))
                have HBt2 := Lib.hid (keepb HE11.out (hno _ (by omega)))
                have HOn2 : Hid (Only Nil w w2a) := Lib.hid ((Nil.trans HO11.out HW1.out).trans ho2 (fun q hq h => by have := (HOWN.out.lt _ h.symm).1; have := HEB.out; omega))
                have HZn2 : Hid (eb + 2 ≤ w2a.heap.size) := Lib.hid (Nat.le_trans HBS.out ho2.size)
                have kx7 := HBo2.out.cell 7
                have kxf := HBo2.out.free 7
                simp only [List.getElem?_toArray, List.getElem?_cons_zero, List.getElem?_cons_succ] at kx7
                clear keepb hno hmv HOWN H63 H112 HBS HBK HW1 hown2 hg2 ho2 qc qd bx7 bxf zc0 zc1 zc2 zc3 zc4 zc5 zc6 zc7 zcf0 zcf1 zcf2 zcf3 zcf4 zcf5 zcf6 zcf7 zd0 zd1 zd2 zd3 zd4 zd5 zd6 zd7 zdf0 zdf1 zdf2 zdf3 zdf4 zdf5 zdf6 zdf7
                go_wp2_with fail
                go_roundg (22 - (i + 2))
                case measure => have := HG.out; have := HI.out; have := HN20.out; have := HJ.out; have := HJN.out; omega
                case rel =>
                  have hR12 := HBo2.out.setCell 7 (.slice (some ⟨g2, 0, none⟩) (Q.length + 1) cap2)
                  simp only [List.setIfInBounds_toArray, List.set_cons_zero, List.set_cons_succ] at hR12
                  have hE12 := HBt2.out.setOther ⟨eb + 1, 7, none⟩ (.slice (some ⟨g2, 0, none⟩) (Q.length + 1) cap2) (Nat.ne_of_lt (Nat.lt_succ_self eb))
                  have hOs : Only (M.One (eb + 1)) w2a (w2a.setCell ⟨eb + 1, 7, none⟩ (.slice (some ⟨g2, 0, none⟩) (Q.length + 1) cap2)) := (Only.refl (M.One (eb + 1)) w2a).setCell (p := ⟨eb + 1, 7, none⟩) (fun _ => rfl) _
                  refine ⟨i + 2, vE2, _, _, _, sets_2 HI.out, by have := HN20.out; have := HJ.out; have := HJN.out; omega, rfl, HOn2.out.setCell (p := ⟨eb + 1, 7, none⟩) (fun h => absurd h (Nat.not_lt_of_le (Nat.le_succ_of_le HEB.out))) _, Nat.le_trans HZn2.out hOs.size, hE12, hR12, ?_, ?_, HPR2.out.low hOs (fun k hk => by have h : k = eb + 1 := hk; omega), HPE2.out.low hOs (fun k hk => by have h : k = eb + 1 := hk; omega)⟩
                  · rw [List.length_append]; have := HP.out; simp; omega
                  · rw [List.length_append]; have := HQ.out; simp; omega
        · have hkn' : decide (j < n0) = false := by simp; omega
          have HPL : Hid (P.length * 112 ≤ 140737488355328) := Lib.hid (by have := HP.out; have := HI.out; omega)
          have HQL : Hid (Q.length * 112 ≤ 140737488355328) := Lib.hid (by have := HQ.out; have := HI.out; omega)
          obtain ⟨⟨ze0, ze1, ze2, ze3, ze4, ze5, ze6, ze7⟩, zef0, zef1, zef2, zef3, zef4, zef5, zef6, zef7⟩ := HE.out.Eights
          clear hkn
          have e1 : (i : Int) + 1 = (j : Int) := sets_n HJ.out
          have e2 : wrap64 (j : Int) = (j : Int) := sets_w HJ.out HI.out
          go_wp2_with fail
          refine (told_any (.mk 24 (.mk 4 0 ⟨#[]⟩ []) 0 ⟨#[]⟩ (P.map (·.1))) (TyS.nil Any wr) (HPE.out.exS HPL.out) wr (Only.refl _ _)).mono ?_
          rintro e w8 ⟨rfl, ho8⟩
          have HO8 := Lib.hid ho8
          have hR8 := HR.out.kept ho8 (fun h => h)
          obtain ⟨⟨zr0, zr1, zr2, zr3, zr4, zr5, zr6, zr7⟩, zrf0, zrf1, zrf2, zrf3, zrf4, zrf5, zrf6, zrf7⟩ := hR8.Eights
          clear ho8 hR8
          go_wp2_with fail
          refine (told_any (.mk 24 (.mk 4 0 ⟨#[]⟩ []) 0 ⟨#[]⟩ (Q.map (·.1))) (TyS.nil Any w8) ((HPR.out.exS HQL.out).go HO8.out) w8 (Only.refl _ _)).mono ?_
          rintro e w10 ⟨rfl, ho10⟩
          have HO10 := Lib.hid (Nil.trans (Nil.trans HO.out HO8.out) ho10)
          clear ho10
          go_wp2_with fail
          go_ret
          exact ⟨rfl, HO10.out⟩
end Go.Proofs.Ytgicibblkmeoeaa

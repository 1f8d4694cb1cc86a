/- CodeText, the document's. -/
import Derived.Test.YtipdfgkemghmoaaDoorCText
import Derived.Deep.RegionWith
set_option linter.unusedSimpArgs false
set_option linter.unusedVariables false
namespace Go.Proofs.YtipdfgkemghmoaaDoor
open Go.RowKit M
attribute [local go_sem ↓] Go.wp_at_zero Go.wp_at_succ

set_option maxRecDepth 20000 in
set_option maxHeartbeats 3200000 in
theorem textR (op k : Int) (w : World) (hk1 : -2147483648 ≤ k) (hk2 : k ≤ 2147483647) :
    Calls Tryd.prog 15 #[.agg #[.int .i64 op, .int .i32 k]] w fun e w' => e = .returned (.string (txt (codT ⟨op, k⟩))) ∧ Only Nil w w' := by
  by_cases hg : (Cod.mk op k).Good
  · have cG : ∀ w, Calls Tryd.prog 21 #[.agg #[.int .i64 op, .int .i32 k]] w fun e w' => e = .returned (.bool true) ∧ Only Nil w w' := fun w => by
      have := good_any op k w
      rwa [decide_eq_true hg] at this
    have hg1 := hg.1
    have hg2 := hg.2.1
    simp only at hg1 hg2
    obtain ⟨o, rfl⟩ := Int.eq_ofNat_of_zero_le hg1
    have ho34 : o < 34 := by omega
    have hnl := namT_le o ho34
    have hil := itoa_le k (by omega) (by omega)
    rw [← txt_size] at hnl hil
    have e : codT ⟨o, k⟩ = if hasK (o : Int) then namT o ++ [32] ++ Lib.itoa k else namT o := by unfold codT; rw [if_pos hg]; simp
    have cD := fun w => dec_any k w (by omega) (by omega)
    have e2 : txt (namT o ++ [32] ++ Lib.itoa k) = txt (namT o) ++ txt [32] ++ txt (Lib.itoa k) := by rw [txt_append, txt_append]
    have cH := fun w => hasK_any (o : Int) w
    have cN : ∀ w, Calls Tryd.prog 28 #[] w fun e w' => ∃ b, e = .returned (.slice (some ⟨b, 0, none⟩) 34 34) ∧ w'.cell? ⟨b, o, none⟩ = some (.string (txt (namT o))) ∧ Only Nil w w' := fun w =>
      (names_any w).mono fun e w' ⟨b, h1, h2, h3⟩ => ⟨b, h1, h2 o ho34, h3⟩
    have hkw : IntKind.i64.wrap k = k := by rw [IntKind.wrap_i64]; omega
    have o0 : (0 : Int) ≤ (o : Int) := Int.natCast_nonneg _
    cases hh : hasK (o : Int)
    · rw [hh] at e cH
      simp only [Bool.false_eq_true, if_false] at e
      rw [e]
      obtain ⟨x, hx⟩ : ∃ x, txt (namT o) = x := ⟨_, rfl⟩
      rw [hx] at cN hnl ⊢
      clear e e2 hg hh hx cD hil
      go_enter Tryd.func15, Tryd.ntmps15
      go_wp2_with fail
      refine (cG _).mono ?_
      rintro e w1 ⟨rfl, ho1⟩
      have hB := (Blk.new w #[Value.int .i64 o, .int .i32 k] 26).kept ho1 (fun h => h)
      have hoW : Only Nil w w1 := ((Only.refl Nil w).alloc _).trans ho1 (fun _ _ h => h)
      obtain ⟨bk, hbk⟩ : ∃ b, w.heap.size = b := ⟨_, rfl⟩
      rw [hbk] at hB ⊢
      have b0 := hB.cell 0
      have b1 := hB.cell 1
      simp only [List.getElem?_toArray, List.getElem?_cons_zero, List.getElem?_cons_succ] at b0 b1
      have keep : ∀ w', Only Nil w1 w' → w'.cell? ⟨bk, 0, none⟩ = some (.int .i64 o) ∧ w'.cell? ⟨bk, 1, none⟩ = some (.int .i32 k) ∧ Only Nil w1 w' := fun w' h => ⟨h.cell b0 (fun h => h), h.cell b1 (fun h => h), h⟩
      have KEEP := Lib.hid keep
      clear cG keep hbk
      go_wp2_with fail
      refine (cH _).mono ?_
      rintro e w2 ⟨rfl, rfl⟩
      clear cH
      go_wp2_with fail
      go_region_with (first
        | (go_at_call 28; refine (cN _).mono ?_; rintro e w' ⟨bn, rfl, hcn, ho2⟩; have d0 := ho2.cell (a := ⟨bk, 0, none⟩) b0 (fun h => h); have d1 := ho2.cell (a := ⟨bk, 1, none⟩) b1 (fun h => h)))
      all_goals
        go_wp2_with fail
        go_ret
        refine ⟨rfl, ?_⟩
        exact hoW.trans ((Only.refl _ _).drew.trans ho2 (fun _ _ h => h)) (fun _ _ h => h)
    · rw [hh] at e cH
      simp only [if_true] at e
      rw [e]
      obtain ⟨x, hx⟩ : ∃ x, txt (namT o) = x := ⟨_, rfl⟩
      obtain ⟨y, hy⟩ : ∃ y, txt (Lib.itoa k) = y := ⟨_, rfl⟩
      rw [hx, hy] at e2
      rw [hx] at cN hnl
      rw [hy] at cD hil
      have HE := Lib.hid e2
      clear e e2 hg hh hx hy
      go_enter Tryd.func15, Tryd.ntmps15
      go_wp2_with fail
      refine (cG _).mono ?_
      rintro e w1 ⟨rfl, ho1⟩
      have hB := (Blk.new w #[Value.int .i64 o, .int .i32 k] 26).kept ho1 (fun h => h)
      have hoW : Only Nil w w1 := ((Only.refl Nil w).alloc _).trans ho1 (fun _ _ h => h)
      obtain ⟨bk, hbk⟩ : ∃ b, w.heap.size = b := ⟨_, rfl⟩
      rw [hbk] at hB ⊢
      have b0 := hB.cell 0
      have b1 := hB.cell 1
      simp only [List.getElem?_toArray, List.getElem?_cons_zero, List.getElem?_cons_succ] at b0 b1
      have keep : ∀ w', Only Nil w1 w' → w'.cell? ⟨bk, 0, none⟩ = some (.int .i64 o) ∧ w'.cell? ⟨bk, 1, none⟩ = some (.int .i32 k) ∧ Only Nil w1 w' := fun w' h => ⟨h.cell b0 (fun h => h), h.cell b1 (fun h => h), h⟩
      have KEEP := Lib.hid keep
      clear cG keep hbk
      go_wp2_with fail
      refine (cH _).mono ?_
      rintro e w2 ⟨rfl, rfl⟩
      clear cH
      go_wp2_with fail
      go_region_with (first
        | (go_at_call 28; refine (cN _).mono ?_; rintro e w' ⟨bn, rfl, hcn, ho2⟩; have d0 := ho2.cell (a := ⟨bk, 0, none⟩) b0 (fun h => h); have d1 := ho2.cell (a := ⟨bk, 1, none⟩) b1 (fun h => h))
        | (go_at_call 29; refine (cD _).mono ?_; rintro e w' ⟨rfl, rfl⟩))
      all_goals
        go_wp2_with fail
        go_ret
        refine ⟨str_of HE.out.symm, ?_⟩
        exact hoW.trans ((Only.refl _ _).drew.trans ho2 (fun _ _ h => h)) (fun _ _ h => h)
  · have cG : ∀ w, Calls Tryd.prog 21 #[.agg #[.int .i64 op, .int .i32 k]] w fun e w' => e = .returned (.bool false) ∧ Only Nil w w' := fun w => by
      have := good_any op k w
      rwa [decide_eq_false hg] at this
    have e : codT ⟨op, k⟩ = [63] := by unfold codT; rw [if_neg hg]
    rw [e]
    clear e hg
    go_enter Tryd.func15, Tryd.ntmps15
    go_wp2_with fail
    refine (cG _).mono ?_
    rintro e w1 ⟨rfl, ho1⟩
    go_wp2_with fail
    go_ret
    exact ⟨rfl, ((Only.refl Nil w).alloc _).trans ho1 (fun _ _ h => h)⟩
end Go.Proofs.YtipdfgkemghmoaaDoor

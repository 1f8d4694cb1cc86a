/- FoldReckons: any operator of any constants. -/
import Derived.Test.YtgicibblkmeoeaaProg
import Derived.Test.YtgicibblkmeoeaaWKnown
import Derived.Deep.Cut
import Derived.Deep.CutBlock
set_option linter.unusedSimpArgs false
set_option linter.unusedVariables false
namespace Go.Proofs.Ytgicibblkmeoeaa
open Go.RowKit M


set_option maxRecDepth 10000 in
set_option maxHeartbeats 3200000 in
theorem reckons_any (a b : Int) (form how : Nat) (w : World) (ha : I32 a) (hb : I32 b) (hf : form < 256) (hh : how < 256) :
    Calls Try.prog 4 #[.int .i32 a, .int .i32 b, .int .u8 (form : Int), .int .u8 (how : Int)] w fun e w' => e = .returned (.bool true) ∧ Only Nil w w' := by
  have CK := fun w => known13_any w
  have HA := Lib.hid ha
  have HB := Lib.hid hb
  clear ha hb
  go_enter Try.func4, Try.ntmps4
  go_wp2_with fail
  refine (CK _).mono ?_
  rintro e w1 ⟨rfl, ho1⟩
  have HO1 := Lib.hid ho1
  clear ho1 CK
  go_wp2_with fail
  go_loopg [9] 28 (fun g v wr => ∃ p : Nat, v = .int .i64 (p : Int) ∧ 7 ≤ p ∧ p ≤ 35 ∧ g = 35 - p ∧ Only Nil w wr)
  case atStart => exact ⟨7, rfl, by omega, by omega, rfl, HO1.out⟩
  case round =>
    obtain ⟨p, rfl, hp7, hp, hg, ho⟩ := hrel
    have HG := Lib.hid hg
    have HO := Lib.hid ho
    clear hg ho
    by_cases hpn : p ≤ 34
    · have p1 : (p : Int) ≤ 34 := by omega
      go_wp2_with fail
      go_loopg [26] 5 (fun g v w2 => ∃ j : Nat, v = .int .i64 (j : Int) ∧ j ≤ 5 ∧ g = 5 - j ∧ Only Nil w w2 ∧ Blk w2 wr.heap.size #[.int .i64 1, .int .i64 4, .int .i64 3, .int .i64 2, .int .i64 ((form : Int) % 12)] 3)
      case atStart => exact ⟨0, rfl, by omega, rfl, HO.out.alloc _, Blk.new wr _ _⟩
      case round =>
        obtain ⟨j, rfl, hj, hgj, hoj, hF⟩ := hrel
        have HGJ := Lib.hid hgj
        have HOJ := Lib.hid hoj
        clear hgj hoj
        by_cases hj5 : j < 5
        · have j1 : (j : Int) < 5 := by omega
          have j0 : (0 : Int) ≤ (j : Int) := Int.natCast_nonneg _
          obtain ⟨f, hff⟩ : ∃ f : Int, (#[.int .i64 1, .int .i64 4, .int .i64 3, .int .i64 2, .int .i64 ((form : Int) % 12)] : Array Value)[j]? = some (.int .i64 f) := by
            have : j = 0 ∨ j = 1 ∨ j = 2 ∨ j = 3 ∨ j = 4 := by omega
            rcases this with rfl | rfl | rfl | rfl | rfl
            · exact ⟨_, rfl⟩
            · exact ⟨_, rfl⟩
            · exact ⟨_, rfl⟩
            · exact ⟨_, rfl⟩
            · exact ⟨_, rfl⟩
          have cf := (hF.cell j).trans hff
          have CA := fun w => numP_any f a w
          have CB := fun w => numP_any f b w
          clear hff
          go_wp2_with fail
          refine (CA _).mono ?_
          rintro e w3 ⟨rfl, ho3⟩
          go_wp2_with fail
          refine (CB _).mono ?_
          rintro e w4 ⟨rfl, ho4⟩
          have hF4 := ((hF.kept ho3 (fun h => h)).kept ho4 (fun h => h))
          have HO4 := Lib.hid (Nil.trans (Nil.trans HOJ.out ho3) ho4)
          clear CA CB ho3 ho4 hF cf
          go_upto_region 10 with fail
          have hX := (Blk.new w4 #[.int .i64 0, .int .i64 f, .int .i64 0, .string ⟨#[]⟩, .slice none 0 0, .int .i32 a, .string ⟨#[]⟩, .slice none 0 0] 27).alloc (.cells #[.int .i64 0, .int .i64 f, .int .i64 0, .string ⟨#[]⟩, .slice none 0 0, .int .i32 b, .string ⟨#[]⟩, .slice none 0 0] 27)
          have hY := Blk.new (w4.alloc (.cells #[.int .i64 0, .int .i64 f, .int .i64 0, .string ⟨#[]⟩, .slice none 0 0, .int .i32 a, .string ⟨#[]⟩, .slice none 0 0] 27)) #[.int .i64 0, .int .i64 f, .int .i64 0, .string ⟨#[]⟩, .slice none 0 0, .int .i32 b, .string ⟨#[]⟩, .slice none 0 0] 27
          rw [show (w4.alloc (.cells #[.int .i64 0, .int .i64 f, .int .i64 0, .string ⟨#[]⟩, .slice none 0 0, .int .i32 a, .string ⟨#[]⟩, .slice none 0 0] 27)).heap.size = w4.heap.size + 1 by simp] at hY
          have hF := (hF4.alloc (.cells #[.int .i64 0, .int .i64 f, .int .i64 0, .string ⟨#[]⟩, .slice none 0 0, .int .i32 a, .string ⟨#[]⟩, .slice none 0 0] 27)).alloc (.cells #[.int .i64 0, .int .i64 f, .int .i64 0, .string ⟨#[]⟩, .slice none 0 0, .int .i32 b, .string ⟨#[]⟩, .slice none 0 0] 27)
          have HO5 := Lib.hid ((HO4.out.alloc (.cells #[.int .i64 0, .int .i64 f, .int .i64 0, .string ⟨#[]⟩, .slice none 0 0, .int .i32 a, .string ⟨#[]⟩, .slice none 0 0] 27)).alloc (.cells #[.int .i64 0, .int .i64 f, .int .i64 0, .string ⟨#[]⟩, .slice none 0 0, .int .i32 b, .string ⟨#[]⟩, .slice none 0 0] 27))
          have hlt := hF4.lt
          have hw4 := HO4.out.size
          obtain ⟨w5, hw5⟩ : ∃ z, (w4.alloc (.cells #[.int .i64 0, .int .i64 f, .int .i64 0, .string ⟨#[]⟩, .slice none 0 0, .int .i32 a, .string ⟨#[]⟩, .slice none 0 0] 27)).alloc (.cells #[.int .i64 0, .int .i64 f, .int .i64 0, .string ⟨#[]⟩, .slice none 0 0, .int .i32 b, .string ⟨#[]⟩, .slice none 0 0] 27) = z := ⟨_, rfl⟩
          rw [hw5] at hX hY hF HO5 ⊢
          clear hw5 hF4 HO4
          by_cases h3 : 0 < (how : Int) % 3
          · have e7 := and_mask b 3 HB.out (by decide)
            have HV0 : I32 ((U b % 2 ^ 3 : Nat) : Int) := by unfold I32; omega
            obtain ⟨v, hv⟩ : ∃ v : Int, ((U b % 2 ^ 3 : Nat) : Int) = v := ⟨_, rfl⟩
            rw [hv] at e7 HV0
            have HV := Lib.hid HV0
            have e8 : bits BinOp.and IntKind.i32 b 7 = v := e7
            have c5 := hY.cell 5
            have g5 := hY.free 5
            simp only [List.getElem?_toArray, List.getElem?_cons_zero, List.getElem?_cons_succ] at c5
            clear hv HV0 e7
            go_upto_region 12 with fail
            replace hX := hX.setOther ⟨w4.heap.size + 1, 5, none⟩ (.int .i32 v) (Nat.ne_of_lt (Nat.lt_succ_self _))
            replace hY := hY.setCell 5 (.int .i32 v)
            replace hF := hF.setOther ⟨w4.heap.size + 1, 5, none⟩ (.int .i32 v) (Nat.ne_of_lt (Nat.lt_succ_of_lt hlt))
            replace HO5 := Lib.hid (HO5.out.setCell (p := ⟨w4.heap.size + 1, 5, none⟩) (fun h => absurd (show w4.heap.size + 1 < w.heap.size from h) (by omega)) (.int .i32 v))
            simp only [List.setIfInBounds_toArray, List.set_cons_zero, List.set_cons_succ] at hY
            obtain ⟨w55, hw5⟩ : ∃ z, w5.setCell ⟨w4.heap.size + 1, 5, none⟩ (.int .i32 v) = z := ⟨_, rfl⟩
            rw [hw5] at hX hY hF HO5 ⊢
            clear hw5 c5 g5 e8 hlt hw4 h3
            have CBs := fun w => basicR_any f w
            have HLF1 : Hid (∀ e ∈ [numE f a], Leaf e) := Lib.hid (by
              intro e he
              simp only [List.mem_cons, List.not_mem_nil, or_false] at he
              subst he
              exact Leaf.num _ _ HA.out)
            have HLF2 : Hid (∀ e ∈ [numE f a, numE f v], Leaf e) := Lib.hid (by
              intro e he
              simp only [List.mem_cons, List.not_mem_nil, or_false] at he
              rcases he with rfl | rfl
              · exact Leaf.num _ _ HA.out
              · exact Leaf.num _ _ HV.out)
            have HLF3 : Hid (∀ e ∈ [numE f a, numE f v, numE f a], Leaf e) := Lib.hid (by
              intro e he
              simp only [List.mem_cons, List.not_mem_nil, or_false] at he
              rcases he with rfl | rfl | rfl
              · exact Leaf.num _ _ HA.out
              · exact Leaf.num _ _ HV.out
              · exact Leaf.num _ _ HA.out)
            go_wp2_with fail
            refine (CBs _).mono ?_
            clear CBs
            rintro e w6 ⟨rfl, ho6⟩
            have h6X := (hX.kept ho6 (fun h => h)).alloc (.cells #[.int .i64 f, .int .i64 0, .string ⟨#[]⟩, .slice none 0 0] 24)
            have h6Y := (hY.kept ho6 (fun h => h)).alloc (.cells #[.int .i64 f, .int .i64 0, .string ⟨#[]⟩, .slice none 0 0] 24)
            have h6F := (hF.kept ho6 (fun h => h)).alloc (.cells #[.int .i64 f, .int .i64 0, .string ⟨#[]⟩, .slice none 0 0] 24)
            have h6T := Blk.new w6 #[.int .i64 f, .int .i64 0, .string ⟨#[]⟩, .slice none 0 0] 24
            have HO6 := Lib.hid ((Nil.trans HO5.out ho6).alloc (.cells #[.int .i64 f, .int .i64 0, .string ⟨#[]⟩, .slice none 0 0] 24))
            clear ho6 hX hY hF
            go_upto_region 13 with fail
            obtain ⟨w7, hw7⟩ : ∃ z, w6.alloc (.cells #[.int .i64 f, .int .i64 0, .string ⟨#[]⟩, .slice none 0 0] 24) = z := ⟨_, rfl⟩
            rw [hw7] at h6X h6Y h6F h6T HO6 ⊢
            clear hw7
            obtain ⟨⟨x0, x1, x2, x3, x4, x5, x6, x7⟩, xfree⟩ := h6X.Eights
            obtain ⟨⟨y0, y1, y2, y3, y4, y5, y6, y7⟩, yfree⟩ := h6Y.Eights
            obtain ⟨⟨t0, t1, t2, t3⟩, tfree⟩ := h6T.Fours
            have H6X := Lib.hid h6X
            have H6Y := Lib.hid h6Y
            have H6T := Lib.hid h6T
            have H6F := Lib.hid h6F
            clear h6X h6Y h6T h6F xfree yfree tfree
            go_wp2_with fail
            have CT := told_any (.mk p (.mk f 0 ⟨#[]⟩ []) 0 ⟨#[]⟩ [numE f a]) (TyS.nil Any (w7.alloc (.cells #[.int .i64 0, .int .i64 f, .int .i64 0, .string ⟨#[]⟩, .slice none 0 0, .int .i32 a, .string ⟨#[]⟩, .slice none 0 0] 27))) (ExS.blk (cap := 1) (t := 27) [numE f a] (HLF1.out) (by simp) (Blk.new w7 #[.int .i64 0, .int .i64 f, .int .i64 0, .string ⟨#[]⟩, .slice none 0 0, .int .i32 a, .string ⟨#[]⟩, .slice none 0 0] 27)) _ (Only.refl _ _)
            refine CT.mono ?_
            clear CT
            rintro e w8 ⟨rfl, how8⟩
            have hw8X := (H6X.out.alloc _).kept how8 (fun h => h)
            have hw8Y := (H6Y.out.alloc _).kept how8 (fun h => h)
            have hw8T := (H6T.out.alloc _).kept how8 (fun h => h)
            have hw8F := (H6F.out.alloc _).kept how8 (fun h => h)
            have HOw8 := Lib.hid (Nil.trans (HO6.out.alloc _) how8)
            clear how8 x0 x1 x2 x3 x4 x5 x6 x7 y0 y1 y2 y3 y4 y5 y6 y7 t0 t1 t2 t3 H6X H6Y H6T H6F HO6
            obtain ⟨⟨x0, x1, x2, x3, x4, x5, x6, x7⟩, xfree⟩ := hw8X.Eights
            obtain ⟨⟨y0, y1, y2, y3, y4, y5, y6, y7⟩, yfree⟩ := hw8Y.Eights
            obtain ⟨⟨t0, t1, t2, t3⟩, tfree⟩ := hw8T.Fours
            have Hw8X := Lib.hid hw8X
            have Hw8Y := Lib.hid hw8Y
            have Hw8T := Lib.hid hw8T
            have Hw8F := Lib.hid hw8F
            clear hw8X hw8Y hw8T hw8F xfree yfree tfree
            go_wp2_with fail
            have CT := told_any (.mk p (.mk f 0 ⟨#[]⟩ []) 0 ⟨#[]⟩ [numE f a, numE f v]) (TyS.nil Any (w8.alloc (.cells #[.int .i64 0, .int .i64 f, .int .i64 0, .string ⟨#[]⟩, .slice none 0 0, .int .i32 a, .string ⟨#[]⟩, .slice none 0 0, .int .i64 0, .int .i64 f, .int .i64 0, .string ⟨#[]⟩, .slice none 0 0, .int .i32 v, .string ⟨#[]⟩, .slice none 0 0] 27))) (ExS.blk (cap := 2) (t := 27) [numE f a, numE f v] (HLF2.out) (by simp) (Blk.new w8 #[.int .i64 0, .int .i64 f, .int .i64 0, .string ⟨#[]⟩, .slice none 0 0, .int .i32 a, .string ⟨#[]⟩, .slice none 0 0, .int .i64 0, .int .i64 f, .int .i64 0, .string ⟨#[]⟩, .slice none 0 0, .int .i32 v, .string ⟨#[]⟩, .slice none 0 0] 27)) _ (Only.refl _ _)
            refine CT.mono ?_
            clear CT
            rintro e w9 ⟨rfl, how9⟩
            have hw9X := (Hw8X.out.alloc _).kept how9 (fun h => h)
            have hw9Y := (Hw8Y.out.alloc _).kept how9 (fun h => h)
            have hw9T := (Hw8T.out.alloc _).kept how9 (fun h => h)
            have hw9F := (Hw8F.out.alloc _).kept how9 (fun h => h)
            have HOw9 := Lib.hid (Nil.trans (HOw8.out.alloc _) how9)
            clear how9 x0 x1 x2 x3 x4 x5 x6 x7 y0 y1 y2 y3 y4 y5 y6 y7 t0 t1 t2 t3 Hw8X Hw8Y Hw8T Hw8F HOw8
            obtain ⟨⟨x0, x1, x2, x3, x4, x5, x6, x7⟩, xfree⟩ := hw9X.Eights
            obtain ⟨⟨y0, y1, y2, y3, y4, y5, y6, y7⟩, yfree⟩ := hw9Y.Eights
            obtain ⟨⟨t0, t1, t2, t3⟩, tfree⟩ := hw9T.Fours
            have Hw9X := Lib.hid hw9X
            have Hw9Y := Lib.hid hw9Y
            have Hw9T := Lib.hid hw9T
            have Hw9F := Lib.hid hw9F
            clear hw9X hw9Y hw9T hw9F xfree yfree tfree
            go_wp2_with fail
            have CT := told_any (.mk p (.mk f 0 ⟨#[]⟩ []) 0 ⟨#[]⟩ [numE f a, numE f v, numE f a]) (TyS.nil Any (w9.alloc (.cells #[.int .i64 0, .int .i64 f, .int .i64 0, .string ⟨#[]⟩, .slice none 0 0, .int .i32 a, .string ⟨#[]⟩, .slice none 0 0, .int .i64 0, .int .i64 f, .int .i64 0, .string ⟨#[]⟩, .slice none 0 0, .int .i32 v, .string ⟨#[]⟩, .slice none 0 0, .int .i64 0, .int .i64 f, .int .i64 0, .string ⟨#[]⟩, .slice none 0 0, .int .i32 a, .string ⟨#[]⟩, .slice none 0 0] 27))) (ExS.blk (cap := 3) (t := 27) [numE f a, numE f v, numE f a] (HLF3.out) (by simp) (Blk.new w9 #[.int .i64 0, .int .i64 f, .int .i64 0, .string ⟨#[]⟩, .slice none 0 0, .int .i32 a, .string ⟨#[]⟩, .slice none 0 0, .int .i64 0, .int .i64 f, .int .i64 0, .string ⟨#[]⟩, .slice none 0 0, .int .i32 v, .string ⟨#[]⟩, .slice none 0 0, .int .i64 0, .int .i64 f, .int .i64 0, .string ⟨#[]⟩, .slice none 0 0, .int .i32 a, .string ⟨#[]⟩, .slice none 0 0] 27)) _ (Only.refl _ _)
            refine CT.mono ?_
            clear CT
            rintro e w10 ⟨rfl, how10⟩
            have hw10X := (Hw9X.out.alloc _).kept how10 (fun h => h)
            have hw10Y := (Hw9Y.out.alloc _).kept how10 (fun h => h)
            have hw10T := (Hw9T.out.alloc _).kept how10 (fun h => h)
            have hw10F := (Hw9F.out.alloc _).kept how10 (fun h => h)
            have HOw10 := Lib.hid (Nil.trans (HOw9.out.alloc _) how10)
            clear how10 x0 x1 x2 x3 x4 x5 x6 x7 y0 y1 y2 y3 y4 y5 y6 y7 t0 t1 t2 t3 Hw9X Hw9Y Hw9T Hw9F HOw9
            have HFF := Lib.hid hw10F
            clear hw10X hw10Y hw10T hw10F
            go_wp2_with fail
            go_roundg (5 - (j + 1))
            case measure => have := HGJ.out; omega
            case rel => exact ⟨j + 1, by go_num, by omega, rfl, HOw10.out, HFF.out⟩
          · have h4 : (how : Int) % 3 ≤ 0 := by omega
            have hd : decide (0 < (how : Int) % 3) = false := by simp; omega
            have HV := HB
            go_upto_region 12 with fail
            clear hd h3 h4 hlt hw4
            have CBs := fun w => basicR_any f w
            have HLF1 : Hid (∀ e ∈ [numE f a], Leaf e) := Lib.hid (by
              intro e he
              simp only [List.mem_cons, List.not_mem_nil, or_false] at he
              subst he
              exact Leaf.num _ _ HA.out)
            have HLF2 : Hid (∀ e ∈ [numE f a, numE f b], Leaf e) := Lib.hid (by
              intro e he
              simp only [List.mem_cons, List.not_mem_nil, or_false] at he
              rcases he with rfl | rfl
              · exact Leaf.num _ _ HA.out
              · exact Leaf.num _ _ HV.out)
            have HLF3 : Hid (∀ e ∈ [numE f a, numE f b, numE f a], Leaf e) := Lib.hid (by
              intro e he
              simp only [List.mem_cons, List.not_mem_nil, or_false] at he
              rcases he with rfl | rfl | rfl
              · exact Leaf.num _ _ HA.out
              · exact Leaf.num _ _ HV.out
              · exact Leaf.num _ _ HA.out)
            go_wp2_with fail
            refine (CBs _).mono ?_
            clear CBs
            rintro e w6 ⟨rfl, ho6⟩
            have h6X := (hX.kept ho6 (fun h => h)).alloc (.cells #[.int .i64 f, .int .i64 0, .string ⟨#[]⟩, .slice none 0 0] 24)
            have h6Y := (hY.kept ho6 (fun h => h)).alloc (.cells #[.int .i64 f, .int .i64 0, .string ⟨#[]⟩, .slice none 0 0] 24)
            have h6F := (hF.kept ho6 (fun h => h)).alloc (.cells #[.int .i64 f, .int .i64 0, .string ⟨#[]⟩, .slice none 0 0] 24)
            have h6T := Blk.new w6 #[.int .i64 f, .int .i64 0, .string ⟨#[]⟩, .slice none 0 0] 24
            have HO6 := Lib.hid ((Nil.trans HO5.out ho6).alloc (.cells #[.int .i64 f, .int .i64 0, .string ⟨#[]⟩, .slice none 0 0] 24))
            clear ho6 hX hY hF
            go_upto_region 13 with fail
            obtain ⟨w7, hw7⟩ : ∃ z, w6.alloc (.cells #[.int .i64 f, .int .i64 0, .string ⟨#[]⟩, .slice none 0 0] 24) = z := ⟨_, rfl⟩
            rw [hw7] at h6X h6Y h6F h6T HO6 ⊢
            clear hw7
            obtain ⟨⟨x0, x1, x2, x3, x4, x5, x6, x7⟩, xfree⟩ := h6X.Eights
            obtain ⟨⟨y0, y1, y2, y3, y4, y5, y6, y7⟩, yfree⟩ := h6Y.Eights
            obtain ⟨⟨t0, t1, t2, t3⟩, tfree⟩ := h6T.Fours
            have H6X := Lib.hid h6X
            have H6Y := Lib.hid h6Y
            have H6T := Lib.hid h6T
            have H6F := Lib.hid h6F
            clear h6X h6Y h6T h6F xfree yfree tfree
            go_wp2_with fail
            have CT := told_any (.mk p (.mk f 0 ⟨#[]⟩ []) 0 ⟨#[]⟩ [numE f a]) (TyS.nil Any (w7.alloc (.cells #[.int .i64 0, .int .i64 f, .int .i64 0, .string ⟨#[]⟩, .slice none 0 0, .int .i32 a, .string ⟨#[]⟩, .slice none 0 0] 27))) (ExS.blk (cap := 1) (t := 27) [numE f a] (HLF1.out) (by simp) (Blk.new w7 #[.int .i64 0, .int .i64 f, .int .i64 0, .string ⟨#[]⟩, .slice none 0 0, .int .i32 a, .string ⟨#[]⟩, .slice none 0 0] 27)) _ (Only.refl _ _)
            refine CT.mono ?_
            clear CT
            rintro e w8 ⟨rfl, how8⟩
            have hw8X := (H6X.out.alloc _).kept how8 (fun h => h)
            have hw8Y := (H6Y.out.alloc _).kept how8 (fun h => h)
            have hw8T := (H6T.out.alloc _).kept how8 (fun h => h)
            have hw8F := (H6F.out.alloc _).kept how8 (fun h => h)
            have HOw8 := Lib.hid (Nil.trans (HO6.out.alloc _) how8)
            clear how8 x0 x1 x2 x3 x4 x5 x6 x7 y0 y1 y2 y3 y4 y5 y6 y7 t0 t1 t2 t3 H6X H6Y H6T H6F HO6
            obtain ⟨⟨x0, x1, x2, x3, x4, x5, x6, x7⟩, xfree⟩ := hw8X.Eights
            obtain ⟨⟨y0, y1, y2, y3, y4, y5, y6, y7⟩, yfree⟩ := hw8Y.Eights
            obtain ⟨⟨t0, t1, t2, t3⟩, tfree⟩ := hw8T.Fours
            have Hw8X := Lib.hid hw8X
            have Hw8Y := Lib.hid hw8Y
            have Hw8T := Lib.hid hw8T
            have Hw8F := Lib.hid hw8F
            clear hw8X hw8Y hw8T hw8F xfree yfree tfree
            go_wp2_with fail
            have CT := told_any (.mk p (.mk f 0 ⟨#[]⟩ []) 0 ⟨#[]⟩ [numE f a, numE f b]) (TyS.nil Any (w8.alloc (.cells #[.int .i64 0, .int .i64 f, .int .i64 0, .string ⟨#[]⟩, .slice none 0 0, .int .i32 a, .string ⟨#[]⟩, .slice none 0 0, .int .i64 0, .int .i64 f, .int .i64 0, .string ⟨#[]⟩, .slice none 0 0, .int .i32 b, .string ⟨#[]⟩, .slice none 0 0] 27))) (ExS.blk (cap := 2) (t := 27) [numE f a, numE f b] (HLF2.out) (by simp) (Blk.new w8 #[.int .i64 0, .int .i64 f, .int .i64 0, .string ⟨#[]⟩, .slice none 0 0, .int .i32 a, .string ⟨#[]⟩, .slice none 0 0, .int .i64 0, .int .i64 f, .int .i64 0, .string ⟨#[]⟩, .slice none 0 0, .int .i32 b, .string ⟨#[]⟩, .slice none 0 0] 27)) _ (Only.refl _ _)
            refine CT.mono ?_
            clear CT
            rintro e w9 ⟨rfl, how9⟩
            have hw9X := (Hw8X.out.alloc _).kept how9 (fun h => h)
            have hw9Y := (Hw8Y.out.alloc _).kept how9 (fun h => h)
            have hw9T := (Hw8T.out.alloc _).kept how9 (fun h => h)
            have hw9F := (Hw8F.out.alloc _).kept how9 (fun h => h)
            have HOw9 := Lib.hid (Nil.trans (HOw8.out.alloc _) how9)
            clear how9 x0 x1 x2 x3 x4 x5 x6 x7 y0 y1 y2 y3 y4 y5 y6 y7 t0 t1 t2 t3 Hw8X Hw8Y Hw8T Hw8F HOw8
            obtain ⟨⟨x0, x1, x2, x3, x4, x5, x6, x7⟩, xfree⟩ := hw9X.Eights
            obtain ⟨⟨y0, y1, y2, y3, y4, y5, y6, y7⟩, yfree⟩ := hw9Y.Eights
            obtain ⟨⟨t0, t1, t2, t3⟩, tfree⟩ := hw9T.Fours
            have Hw9X := Lib.hid hw9X
            have Hw9Y := Lib.hid hw9Y
            have Hw9T := Lib.hid hw9T
            have Hw9F := Lib.hid hw9F
            clear hw9X hw9Y hw9T hw9F xfree yfree tfree
            go_wp2_with fail
            have CT := told_any (.mk p (.mk f 0 ⟨#[]⟩ []) 0 ⟨#[]⟩ [numE f a, numE f b, numE f a]) (TyS.nil Any (w9.alloc (.cells #[.int .i64 0, .int .i64 f, .int .i64 0, .string ⟨#[]⟩, .slice none 0 0, .int .i32 a, .string ⟨#[]⟩, .slice none 0 0, .int .i64 0, .int .i64 f, .int .i64 0, .string ⟨#[]⟩, .slice none 0 0, .int .i32 b, .string ⟨#[]⟩, .slice none 0 0, .int .i64 0, .int .i64 f, .int .i64 0, .string ⟨#[]⟩, .slice none 0 0, .int .i32 a, .string ⟨#[]⟩, .slice none 0 0] 27))) (ExS.blk (cap := 3) (t := 27) [numE f a, numE f b, numE f a] (HLF3.out) (by simp) (Blk.new w9 #[.int .i64 0, .int .i64 f, .int .i64 0, .string ⟨#[]⟩, .slice none 0 0, .int .i32 a, .string ⟨#[]⟩, .slice none 0 0, .int .i64 0, .int .i64 f, .int .i64 0, .string ⟨#[]⟩, .slice none 0 0, .int .i32 b, .string ⟨#[]⟩, .slice none 0 0, .int .i64 0, .int .i64 f, .int .i64 0, .string ⟨#[]⟩, .slice none 0 0, .int .i32 a, .string ⟨#[]⟩, .slice none 0 0] 27)) _ (Only.refl _ _)
            refine CT.mono ?_
            clear CT
            rintro e w10 ⟨rfl, how10⟩
            have hw10X := (Hw9X.out.alloc _).kept how10 (fun h => h)
            have hw10Y := (Hw9Y.out.alloc _).kept how10 (fun h => h)
            have hw10T := (Hw9T.out.alloc _).kept how10 (fun h => h)
            have hw10F := (Hw9F.out.alloc _).kept how10 (fun h => h)
            have HOw10 := Lib.hid (Nil.trans (HOw9.out.alloc _) how10)
            clear how10 x0 x1 x2 x3 x4 x5 x6 x7 y0 y1 y2 y3 y4 y5 y6 y7 t0 t1 t2 t3 Hw9X Hw9Y Hw9T Hw9F HOw9
            have HFF := Lib.hid hw10F
            clear hw10X hw10Y hw10T hw10F
            go_wp2_with fail
            go_roundg (5 - (j + 1))
            case measure => have := HGJ.out; omega
            case rel => exact ⟨j + 1, by go_num, by omega, rfl, HOw10.out, HFF.out⟩
        · have hj' : j = 5 := by omega
          subst hj'
          go_wp2_with fail
          go_roundg (35 - (p + 1))
          case measure => have := HG.out; omega
          case rel => exact ⟨p + 1, by go_num, by omega, by omega, rfl, HOJ.out⟩
    · have hp' : p = 35 := by omega
      subst hp'
      have CP := fun w => numP_any (form : Int) a w
      have CR := fun w => numR_any (form : Int) a w
      have CS := fun w => sameExpr_any (w := w) (numE (form : Int) a) (numE (form : Int) a) (.slice none 0 0) (.slice none 0 0) (.slice none 0 0) (.slice none 0 0) (TyS.nil Any w) (ExS.nil Any w) (TyS.nil Any w) (ExS.nil Any w) w (Only.refl _ _)
      rw [eqB_true rfl] at CS
      go_wp2_with fail
      refine (CP _).mono ?_
      rintro e w3 ⟨rfl, ho3⟩
      go_wp2_with fail
      refine (CR _).mono ?_
      rintro e w4 ⟨rfl, ho4⟩
      go_wp2_with fail
      refine (CS _).mono ?_
      rintro e w5 ⟨rfl, ho5⟩
      have HO5 := Lib.hid (Nil.trans (Nil.trans (Nil.trans HO.out ho3) ho4) ho5)
      clear CP CR CS ho3 ho4 ho5
      go_wp2_with fail
      go_ret
      exact ⟨rfl, HO5.out⟩
end Go.Proofs.Ytgicibblkmeoeaa

/- The walks of the laws VerifyChecks and VerifyHeights. -/
import Derived.Test.YtbgmdckfkfkglaaHKnow
set_option linter.unusedSimpArgs false
set_option linter.unusedVariables false
namespace Go.Proofs.Ytbgmdckfkfkglaa
open Go.RowKit M

/-- A list that is looked at. -/
def CodList (w : World) (y : Value) : Prop := ∃ b ao n cap L, y = .slice ao n cap ∧ CSrc w b y L ∧ L.length = n ∧ (∀ c ∈ L, c.Fits) ∧ n ≤ 61
theorem CodList.kept {w w' : World} {y : Value} (h : CodList w y) (ho : Only Nil w w') : CodList w' y := by
  obtain ⟨b, ao, n, cap, L, e, h1, h2, h3, h4⟩ := h
  exact ⟨b, ao, n, cap, L, e, h1.kept ho, h2, h3, h4⟩
theorem CodList.of_own {w : World} {base n : Nat} {v : Value} {L : List Cod} (h : w.ownsRow base 49 2 v n (codCells L)) (hf : ∀ c ∈ L, c.Fits) (hn : L.length = n) (hl : n ≤ 61) : CodList w v := by
  obtain ⟨ao, cap, rfl⟩ := own_slice h
  exact ⟨_, ao, n, cap, L, rfl, CSrc.of_own h, hn, hf, hl⟩

set_option maxRecDepth 10000 in
set_option maxHeartbeats 3200000 in
theorem checksLaw_any (b : Nat) (ao : Option Addr) (n cap : Nat) (L : List Cod) (w : World) (hs : CSrc w b (.slice ao n cap) L) (hn : L.length = n) (hf : ∀ c ∈ L, c.Fits) :
    Calls Try.prog 3 #[.slice ao n cap] w fun e w' => e = .returned (.bool true) ∧ Only Nil w w' := by
  have cK := known8_any w
  by_cases h60 : 60 < n
  · have t1 : (60 : Int) < (n : Int) := by omega
    clear hs hn hf
    go_enter Try.func3, Try.ntmps3
    go_wp2_with fail
    refine cK.mono ?_
    rintro e w1 ⟨rfl, ho1⟩
    clear cK
    go_wp2_with fail
    go_ret
    exact ⟨rfl, ho1⟩
  · have t1 : decide ((60 : Int) < (n : Int)) = false := by simp; omega
    have cM := fun (w' : World) (ho : Only Nil w w') => made_any b ao n cap L w' (hs.kept ho) hn hf (by omega)
    have HS := Lib.hid hs
    have HN := Lib.hid hn
    have HF := Lib.hid hf
    clear hs hn hf
    go_enter Try.func3, Try.ntmps3
    go_wp2_with fail
    refine cK.mono ?_
    rintro e w1 ⟨rfl, ho1⟩
    clear cK
    go_wp2_with fail
    refine (cM w1 ho1).mono ?_
    rintro e w2 ⟨v, L', rfl, hL', hF', hown, ho2⟩
    have ho12 := ho1.trans ho2 (fun _ _ h => h)
    have hc1 : CodList w2 (.slice ao n cap) := ⟨b, ao, n, cap, L, rfl, HS.out.kept ho12, HN.out, HF.out, by omega⟩
    have hc2 : CodList w2 v := CodList.of_own hown hF' rfl (by omega)
    obtain ⟨av, cv, rfl⟩ := own_slice hown
    have HC1 := Lib.hid hc1
    have HC2 := Lib.hid hc2
    clear cM ho1 ho2 hown hc1 hc2 HS HN HF hF' hL'
    obtain ⟨n2, hn2⟩ : ∃ n2, L'.length = n2 := ⟨_, rfl⟩
    rw [hn2] at HC2 ⊢
    clear hn2
    go_wp2_with fail
    have hblk := Blk.new w2 #[.slice ao n cap, .slice av n2 cv] 22
    have ho6 : Only Nil w2 (w2.alloc (.cells #[.slice ao n cap, .slice av n2 cv] 22)) := (Only.refl _ _).alloc _
    obtain ⟨w6, hw6⟩ : ∃ w6, w2.alloc (.cells #[.slice ao n cap, .slice av n2 cv] 22) = w6 := ⟨_, rfl⟩
    rw [hw6] at hblk ho6 ⊢
    obtain ⟨W, hW⟩ : ∃ W, w2.heap.size = W := ⟨_, rfl⟩
    rw [hW] at hblk ⊢
    have hcells : ∀ j, j < 2 → ∃ y, w6.cell? ⟨W, j, none⟩ = some y ∧ CodList w6 y := by
      intro j hj
      rw [hblk.cell j]
      match j, hj with
      | 0, _ => exact ⟨_, rfl, HC1.out.kept ho6⟩
      | 1, _ => exact ⟨_, rfl, HC2.out.kept ho6⟩
    have HC := Lib.hid hcells
    have HO6 := Lib.hid (ho12.trans ho6 (fun _ _ h => h))
    clear hblk ho6 hw6 hW hcells HC1 HC2 ho12
    go_loopg [18] 2 (fun m i wx => m ≤ 2 ∧ i = .int .i64 ((2 - m : Nat) : Int) ∧ Only Nil w6 wx)
    case atStart => exact ⟨Nat.le_refl _, by simp, Only.refl _ _⟩
    case round =>
      obtain ⟨hm, rfl, ho⟩ := hrel
      obtain ⟨q, rfl⟩ : ∃ q, q = gk := ⟨gk, rfl⟩
      obtain ⟨j, hj⟩ : ∃ j, 2 - q = j := ⟨_, rfl⟩
      rw [hj]
      have HJ := Lib.hid hj
      have hj2 : j ≤ 2 := by omega
      clear hj
      by_cases hjl : j < 2
      · obtain ⟨y, hy0, hCL⟩ := HC.out j hjl
        have hy := ho.cell hy0 (fun h => h)
        obtain ⟨b', ao', n', cap', Y, rfl, hsY, hnY, hfY, hlY⟩ := hCL.kept ho
        have cI := chkI_any b' ao' n' cap' Y wr hsY hnY hfY (by omega)
        have cR := fun (w' : World) (ho' : Only Nil wr w') => chkR_any b' ao' n' cap' Y w' (hsY.kept ho') hnY hfY (by omega)
        have j0 : (0 : Int) ≤ (j : Int) := Int.natCast_nonneg _
        have j1 : (j : Int) < 2 := by omega
        have HOR := Lib.hid ho
        clear hsY hy0 ho hCL
        cases hc : chk Y with
        | none =>
          rw [chkI_none hc] at cI
          rw [chkR_none hc] at cR
          clear hc
          go_wp2_with fail
          refine cI.mono ?_
          rintro e w7 ⟨rfl, ho7⟩
          clear cI
          go_wp2_with fail
          refine (cR w7 ho7).mono ?_
          rintro e w8 ⟨rfl, ho8⟩
          clear cR
          have ho9 := (HOR.out.trans ho7 (fun _ _ h => h)).trans ho8 (fun _ _ h => h)
          clear ho7 ho8 hy
          go_wp2_with fail
          go_roundg (q - 1)
          case measure => have := HJ.out; omega
          case rel => exact ⟨by omega, by have := HJ.out; go_num, ho9⟩
        | some z =>
          rw [chkI_some hc] at cI
          rw [chkR_some hc] at cR
          have z0 : (0 : Int) ≤ (z : Int) := Int.natCast_nonneg _
          have z1 : decide ((z : Int) < 0) = false := by simp
          clear hc
          go_wp2_with fail
          refine cI.mono ?_
          rintro e w7 ⟨rfl, ho7⟩
          clear cI
          go_wp2_with fail
          refine (cR w7 ho7).mono ?_
          rintro e w8 ⟨rfl, ho8⟩
          clear cR
          have ho9 := (HOR.out.trans ho7 (fun _ _ h => h)).trans ho8 (fun _ _ h => h)
          clear ho7 ho8 hy
          go_wp2_with fail
          go_roundg (q - 1)
          case measure => have := HJ.out; omega
          case rel => exact ⟨by omega, by have := HJ.out; go_num, ho9⟩
      · have hj3 : j = 2 := by omega
        subst hj3
        clear HC
        go_wp2_with fail
        go_ret
        exact ⟨rfl, HO6.out.trans ho (fun _ _ h => h)⟩

set_option maxRecDepth 10000 in
set_option maxHeartbeats 3200000 in
theorem heightsLaw_any (b : Nat) (ao : Option Addr) (n cap : Nat) (L : List Cod) (w : World) (hs : CSrc w b (.slice ao n cap) L) (hn : L.length = n) (hf : ∀ c ∈ L, c.Fits) :
    Calls Try.prog 4 #[.slice ao n cap] w fun e w' => e = .returned (.bool true) ∧ Only Nil w w' := by
  have cK := known8_any w
  by_cases h60 : 60 < n
  · have t1 : (60 : Int) < (n : Int) := by omega
    clear hs hn hf
    go_enter Try.func4, Try.ntmps4
    go_wp2_with fail
    refine cK.mono ?_
    rintro e w1 ⟨rfl, ho1⟩
    clear cK
    go_wp2_with fail
    go_ret
    exact ⟨rfl, ho1⟩
  · have t1 : decide ((60 : Int) < (n : Int)) = false := by simp; omega
    have cM := fun (w' : World) (ho : Only Nil w w') => made_any b ao n cap L w' (hs.kept ho) hn hf (by omega)
    have HS := Lib.hid hs
    have HN := Lib.hid hn
    have HF := Lib.hid hf
    clear hs hn hf
    go_enter Try.func4, Try.ntmps4
    go_wp2_with fail
    refine cK.mono ?_
    rintro e w1 ⟨rfl, ho1⟩
    clear cK
    go_wp2_with fail
    refine (cM w1 ho1).mono ?_
    rintro e w2 ⟨v, L', rfl, hL', hF', hown, ho2⟩
    have ho12 := ho1.trans ho2 (fun _ _ h => h)
    have hc1 : CodList w2 (.slice ao n cap) := ⟨b, ao, n, cap, L, rfl, HS.out.kept ho12, HN.out, HF.out, by omega⟩
    have hc2 : CodList w2 v := CodList.of_own hown hF' rfl (by omega)
    obtain ⟨av, cv, rfl⟩ := own_slice hown
    have HC1 := Lib.hid hc1
    have HC2 := Lib.hid hc2
    clear cM ho1 ho2 hown hc1 hc2 HS HN HF hF' hL'
    obtain ⟨n2, hn2⟩ : ∃ n2, L'.length = n2 := ⟨_, rfl⟩
    rw [hn2] at HC2 ⊢
    clear hn2
    go_wp2_with fail
    have hblk := Blk.new w2 #[.slice ao n cap, .slice av n2 cv] 22
    have ho6 : Only Nil w2 (w2.alloc (.cells #[.slice ao n cap, .slice av n2 cv] 22)) := (Only.refl _ _).alloc _
    obtain ⟨w6, hw6⟩ : ∃ w6, w2.alloc (.cells #[.slice ao n cap, .slice av n2 cv] 22) = w6 := ⟨_, rfl⟩
    rw [hw6] at hblk ho6 ⊢
    obtain ⟨W, hW⟩ : ∃ W, w2.heap.size = W := ⟨_, rfl⟩
    rw [hW] at hblk ⊢
    have hcells : ∀ j, j < 2 → ∃ y, w6.cell? ⟨W, j, none⟩ = some y ∧ CodList w6 y := by
      intro j hj
      rw [hblk.cell j]
      match j, hj with
      | 0, _ => exact ⟨_, rfl, HC1.out.kept ho6⟩
      | 1, _ => exact ⟨_, rfl, HC2.out.kept ho6⟩
    have HC := Lib.hid hcells
    have HO6 := Lib.hid (ho12.trans ho6 (fun _ _ h => h))
    clear hblk ho6 hw6 hW hcells HC1 HC2 ho12
    go_loopg [19] 2 (fun m i wx => m ≤ 2 ∧ i = .int .i64 ((2 - m : Nat) : Int) ∧ Only Nil w6 wx)
    case atStart => exact ⟨Nat.le_refl _, by simp, Only.refl _ _⟩
    case round =>
      obtain ⟨hm, rfl, ho⟩ := hrel
      obtain ⟨q, rfl⟩ : ∃ q, q = gk := ⟨gk, rfl⟩
      obtain ⟨j, hj⟩ : ∃ j, 2 - q = j := ⟨_, rfl⟩
      rw [hj]
      have HJ := Lib.hid hj
      have hj2 : j ≤ 2 := by omega
      clear hj
      by_cases hjl : j < 2
      · obtain ⟨y, hy0, hCL⟩ := HC.out j hjl
        have hy := ho.cell hy0 (fun h => h)
        obtain ⟨b', ao', n', cap', Y, rfl, hsY, hnY, hfY, hlY⟩ := hCL.kept ho
        have cI := htsI_any b' ao' n' cap' Y wr hsY hnY hfY (by omega)
        have cR := fun (w' : World) (ho' : Only Nil wr w') => htsR_any b' ao' n' cap' Y w' (hsY.kept ho') hnY hfY (by omega)
        have j0 : (0 : Int) ≤ (j : Int) := Int.natCast_nonneg _
        have j1 : (j : Int) < 2 := by omega
        have HOR := Lib.hid ho
        have HNY := Lib.hid hnY
        clear hsY hy0 ho hCL hnY
        go_wp2_with fail
        refine cI.mono ?_
        rintro e w7 ⟨ok7, H7, v7, rfl, hT7, hown7, ho7⟩
        clear cI
        obtain ⟨a7, c7, rfl⟩ := own_slice hown7
        have HT7 := Lib.hid hT7
        have HW7 := Lib.hid hown7
        clear hT7 hown7
        go_wp2_with fail
        refine (cR w7 ho7).mono ?_
        rintro e w8 ⟨ok8, H8, v8, rfl, hT8, hown8, ho8⟩
        clear cR
        obtain ⟨e1, e2⟩ := hgts_one HT7.out hT8
        subst e1
        subst e2
        have hl7 : H7.length ≤ 61 := by
          rcases HT7.out with ⟨_, h, _⟩ | ⟨_, _, _, h, _⟩
          · rw [h]; exact Nat.zero_le _
          · rw [h, HNY.out]; exact hlY
        have cS := ints_same _ _ _ _ H7 w8 ((Src.of_own HW7.out).kept ho8 (fun _ h => h)) (Src.of_own hown8) (by omega)
        obtain ⟨a8, c8, rfl⟩ := own_slice hown8
        have ho9 := (HOR.out.trans ho7 (fun _ _ h => h)).trans ho8 (fun _ _ h => h)
        clear ho7 ho8 hy hT8 hown8 HW7 HT7
        obtain ⟨l7, hl⟩ : ∃ l, H7.length = l := ⟨_, rfl⟩
        rw [hl] at cS ⊢
        clear hl hl7
        cases ok7
        all_goals
          go_wp2_with fail
          refine cS.mono ?_
          rintro e w9 ⟨rfl, ho10⟩
          have ho11 := ho9.trans ho10 (fun _ _ h => h)
          clear ho9 ho10 cS
          go_wp2_with fail
          go_roundg (q - 1)
          case measure => have := HJ.out; omega
          case rel => exact ⟨by omega, by have := HJ.out; go_num, ho11⟩
      · have hj3 : j = 2 := by omega
        subst hj3
        clear HC
        go_wp2_with fail
        go_ret
        exact ⟨rfl, HO6.out.trans ho (fun _ _ h => h)⟩
end Go.Proofs.Ytbgmdckfkfkglaa

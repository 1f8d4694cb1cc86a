/- The document's own Open. -/
import Derived.Test.YtgijepaohhekfaaBOpen
import Derived.Deep.RegionHeld
namespace Go.Proofs.Ytgijepaohhekfaa
open Go.RowKit M

set_option maxRecDepth 10000 in
set_option maxHeartbeats 1600000 in
theorem open_any1 (s : Value) (B : List Nat) (w : World) (hs : Row w s B) (hl : B.length ≤ 100000) :
    Calls Try.prog 13 #[s] w (Opened w (openV B)) := by
  obtain ⟨n, hn⟩ : ∃ n, B.length = n := ⟨_, rfl⟩
  rw [hn] at hl
  have hrow := hs
  obtain ⟨b, ao, cap, off, rfl, h2, h3, h4, h5, h6, h7⟩ := hs
  rw [hn] at h2 h4 hrow ⊢
  by_cases hn5 : n < 5
  · have hV : openV B = (0, [], 20) := by unfold openV; rw [if_pos (Or.inl (by omega))]
    rw [hV]
    clear hV h4 h5 h6 h7 hrow
    go_enter Try.func13, Try.ntmps13
    go_wp2
    go_ret3
    exact opened_none w w 20 (Only.refl _ _)
  · have hao := h4 (by omega)
    subst hao
    unfold maxLen at h3
    have hrow4 := hrow.sub (by omega) 0 4 (by omega)
    rw [List.drop_zero, Nat.add_zero, Nat.sub_zero] at hrow4
    obtain ⟨b4, hs4⟩ := hrow4.src
    have hcv := conv_src w b4 _ _ hs4
    clear hs4 hrow4 h4 h5
    by_cases hW : B.take 4 = [87, 65, 70, 82]
    · rw [hW, show strOf [87, 65, 70, 82] = { data := #[87, 65, 70, 82] } from rfl] at hcv
      have hrow5 := hrow.five (by omega)
      obtain ⟨A5, hA5⟩ : ∃ A, (if cap = 5 then some (⟨b, off, none⟩ : Addr) else some ⟨b, off + 5, none⟩) = A := ⟨_, rfl⟩
      rw [hA5] at hrow5
      rcases open_ways B n hn (by omega) hW with ⟨a, m, hr, hV⟩ | ⟨a, m, hr, ha, hV⟩ | ⟨a, m, G, E, hr, ha, hG, hE, hne, hV⟩ | ⟨a, m, G, E, ⟨hr, ha, hG, hE, hnE⟩, hS, hV⟩ | ⟨a, m, G, E, ⟨hr, ha, hG, hE, hnE⟩, hS, hV⟩
      · rw [hV]
        have hread := readVar_val _ _ w hrow5 a m false hr
        clear hV hr hrow5 hrow h6 h7 hW hn
        go_enter Try.func13, Try.ntmps13
        go_wp2_with fail
        refine hread.mono ?_
        rintro e w1 ⟨rfl, rfl⟩
        go_wp2_with fail
        go_ret3
        exact opened_none w w 20 (Only.refl _ _)
      · rw [hV]
        have hread := readVar_val _ _ w hrow5 a m true hr
        clear hV hr hrow5 hrow h6 h7 hW hn
        go_enter Try.func13, Try.ntmps13
        go_wp2_with fail
        refine hread.mono ?_
        rintro e w1 ⟨rfl, rfl⟩
        go_wp2_with fail
        go_ret3
        exact opened_none w w 22 (Only.refl _ _)
      · rw [hV]
        have hread := readVar_val _ _ w hrow5 a m true hr
        have hm10 := (readV_bound (B.drop 5) 0 0 (by decide) (by decide) (by omega)).2
        rw [hr] at hm10
        have hm10 : m ≤ 10 := hm10
        have eG : (5 : Int) + (m : Int) = (G : Int) := by omega
        have eE : (G : Int) + (a : Int) = (E : Int) := by omega
        have hE2 : E ≤ 20000000 := by omega
        have hcmp : ((n : Int) != (E : Int) + 4) = true := by rw [bne_iff_ne]; omega
        clear hV hr hrow5 hrow h6 h7 hW hn hne hG hE
        go_enter Try.func13, Try.ntmps13
        go_wp2_with fail
        refine hread.mono ?_
        rintro e w1 ⟨rfl, rfl⟩
        go_wp2_with fail
        go_ret3
        exact opened_none w w 20 (Only.refl _ _)
      · rw [hV]
        rw [if_neg (show ¬ cap = 5 by omega)] at hA5
        subst hA5
        have hread := readVar_val _ _ w hrow5 a m true hr
        have hm10 := (readV_bound (B.drop 5) 0 0 (by decide) (by decide) (by omega)).2
        rw [hr] at hm10
        have hm10 : m ≤ 10 := hm10
        have eG : (5 : Int) + (m : Int) = (G : Int) := by omega
        have eE : (G : Int) + (a : Int) = (E : Int) := by omega
        have hE2 : E ≤ 100000 := by omega
        have hEn : E < n := by omega
        have hGE : G ≤ E := by omega
        have i1 : (0 : Int) ≤ (E : Int) := by omega
        have i2 : (E : Int) ≤ (n : Int) := by omega
        have i3 : (n : Int) ≤ (cap : Int) := by omega
        have i4 : ¬ cap = E := by omega
        have i5 : (E : Int) ≤ (cap : Int) := by omega
        have i6 : (G : Int) ≤ (E : Int) := by omega
        have i7 : (0 : Int) ≤ (G : Int) := by omega
        have i8 : ¬ cap = G := by omega
        have i9 : (4 : Int) < (n : Int) := by omega
        have iA : IntKind.i64.wrap (5 + (m : Int)) = (G : Int) := by rw [IntKind.wrap_i64]; omega
        have iB : IntKind.i64.wrap (G : Int) = (G : Int) := by rw [IntKind.wrap_i64]; omega
        have hcmp : ((n : Int) != (E : Int) + 4) = false := by rw [bne_eq_false_iff_eq]; omega
        have hrowS := hrow.sub (by omega) 0 E (by omega)
        rw [List.drop_zero, Nat.add_zero, Nat.sub_zero] at hrowS
        have hrowW := hrow.sub (by omega) E (n - E) (by omega)
        rw [List.take_of_length_le (by simp; omega)] at hrowW
        have hW8 : ∀ x ∈ B.drop E, x < 256 := fun x hx => h7 x (List.mem_of_mem_drop hx)
        have hWl : (B.drop E).length = 4 := by simp; omega
        have hword := word_four (B.drop E) hWl hW8 (sumOf (B.take E)) (sumOf_lt _)
        have hcs := sum_any1 _ _ w.drew (hrowS.kept (Only.refl Nil w).drew)
        obtain ⟨bw, hsW⟩ := hrowW.src
        have hsWd : Src w.drew bw _ (U8s (B.drop E)) := hsW
        have hcvW := conv_src w.drew bw _ _ hsWd
        have hcf := four_any (sumOf (B.take E)) w.drew (sumOf_lt _)
        have hne := strOf_ne (four_lt (sumOf (B.take E))) hW8 (fun h => hS h.symm)
        obtain ⟨X, hX⟩ : ∃ X, sumOf (B.take E) = X := ⟨_, rfl⟩
        obtain ⟨D, hD⟩ : ∃ D, B.drop E = D := ⟨_, rfl⟩
        simp only [hX, hD] at hcs hcvW hcf hne hsWd
        obtain ⟨F4, hF4⟩ : ∃ F, four X = F := ⟨_, rfl⟩
        have hF4l : F4.length = 4 := by rw [← hF4]; rfl
        simp only [hF4] at hcf hne
        obtain ⟨T1, hT1⟩ : ∃ T, strOf F4 = T := ⟨_, rfl⟩
        obtain ⟨T2, hT2⟩ : ∃ T, strOf D = T := ⟨_, rfl⟩
        rw [hT1, hT2] at hne
        rw [hT2] at hcvW
        have HT1 := Lib.hid hT1
        have HT2 := Lib.hid hT2
        clear hV hr hrow5 hrow h6 h7 hW hn hG hE hnE hrowS hrowW hW8 hWl hword hX hD hS hsW hF4 hF4l hT1 hT2
        go_enter Try.func13, Try.ntmps13
        go_wp2_with fail
        refine hread.mono ?_
        rintro e w1 ⟨rfl, rfl⟩
        go_wp2_with fail
        go_region_held (fun w' => (convert 22 9 (.slice (some ⟨b, off + E, none⟩) (n - E) (cap - E))).run Try.prog w' = .ok (.string T2) w') (go_keep) (first
          | (go_at_call 12; refine hcs.mono ?_; rintro e w9 ⟨rfl, rfl⟩)
          | (go_at_call 17; refine hcf.mono ?_; rintro e w9 ⟨sv9, rfl, hown9, ho9⟩; have hcv9 := conv_src w9 _ sv9 F4 (Src.of_own hown9); have hcvc := conv_src w9 bw _ D (hsWd.kept ho9 (fun _ h => h)); rw [HT1.out] at hcv9; rw [HT2.out] at hcvc))
        all_goals (go_wp2_with fail; go_ret3)
        all_goals exact opened_none w _ 21 ((Only.refl Nil w).drew.trans ho9 (fun _ _ h => h))
      · rw [hV]
        rw [if_neg (show ¬ cap = 5 by omega)] at hA5
        subst hA5
        have hread := readVar_val _ _ w hrow5 a m true hr
        have hm10 := (readV_bound (B.drop 5) 0 0 (by decide) (by decide) (by omega)).2
        rw [hr] at hm10
        have hm10 : m ≤ 10 := hm10
        have eG : (5 : Int) + (m : Int) = (G : Int) := by omega
        have eE : (G : Int) + (a : Int) = (E : Int) := by omega
        have hE2 : E ≤ 100000 := by omega
        have hEn : E < n := by omega
        have hGE : G ≤ E := by omega
        have i1 : (0 : Int) ≤ (E : Int) := by omega
        have i2 : (E : Int) ≤ (n : Int) := by omega
        have i3 : (n : Int) ≤ (cap : Int) := by omega
        have i4 : ¬ cap = E := by omega
        have i5 : (E : Int) ≤ (cap : Int) := by omega
        have i6 : (G : Int) ≤ (E : Int) := by omega
        have i7 : (0 : Int) ≤ (G : Int) := by omega
        have i8 : ¬ cap = G := by omega
        have i9 : (4 : Int) < (n : Int) := by omega
        have iA : IntKind.i64.wrap (5 + (m : Int)) = (G : Int) := by rw [IntKind.wrap_i64]; omega
        have iB : IntKind.i64.wrap (G : Int) = (G : Int) := by rw [IntKind.wrap_i64]; omega
        have hcmp : ((n : Int) != (E : Int) + 4) = false := by rw [bne_eq_false_iff_eq]; omega
        have hrowS := hrow.sub (by omega) 0 E (by omega)
        rw [List.drop_zero, Nat.add_zero, Nat.sub_zero] at hrowS
        have hrowW := hrow.sub (by omega) E (n - E) (by omega)
        rw [List.take_of_length_le (by simp; omega)] at hrowW
        have hW8 : ∀ x ∈ B.drop E, x < 256 := fun x hx => h7 x (List.mem_of_mem_drop hx)
        have hWl : (B.drop E).length = 4 := by simp; omega
        have hword := word_four (B.drop E) hWl hW8 (sumOf (B.take E)) (sumOf_lt _)
        have hcs := sum_any1 _ _ w.drew (hrowS.kept (Only.refl Nil w).drew)
        obtain ⟨bw, hsW⟩ := hrowW.src
        have hsWd : Src w.drew bw _ (U8s (B.drop E)) := hsW
        have hcvW := conv_src w.drew bw _ _ hsWd
        have hcf := four_any (sumOf (B.take E)) w.drew (sumOf_lt _)
        obtain ⟨X, hX⟩ : ∃ X, sumOf (B.take E) = X := ⟨_, rfl⟩
        simp only [hX] at hcs hcvW hcf hsWd hS
        rw [hS] at hcvW hsWd
        obtain ⟨F4, hF4⟩ : ∃ F, four X = F := ⟨_, rfl⟩
        simp only [hF4] at hcf hcvW hsWd
        obtain ⟨T1, hT1⟩ : ∃ T, strOf F4 = T := ⟨_, rfl⟩
        rw [hT1] at hcvW
        have HT1 := Lib.hid hT1
        have hrowP := hrow.sub (by omega) G (E - G) (by omega)
        rw [show E - G = a by omega] at hrowP
        have hBP : ((B.drop G).take a).length = a := by simp; omega
        obtain ⟨c4, hc4⟩ : ∃ c, B[4]? = some c := ⟨_, List.getElem?_eq_getElem (by omega)⟩
        have hg4 : B.getD 4 0 = c4 := by rw [List.getD, hc4]; rfl
        have cell4 : w.cell? ⟨b, off + 4, none⟩ = some (.int .u8 c4) := h6 4 _ (by simp [U8s, hc4])
        have hga : E - G = a := by omega
        rw [hg4]
        obtain ⟨P, hP⟩ : ∃ P, (B.drop G).take a = P := ⟨_, rfl⟩
        rw [hP] at hrowP hBP ⊢
        have HP := Lib.hid hBP
        have HROWP := Lib.hid hrowP
        have HGA := Lib.hid hga
        clear hV hr hrow5 hrow h6 h7 hW hn hG hE hnE hrowS hrowW hW8 hWl hword hX hS hsW hF4 hT1 hrowP hBP hg4 hc4 hP hga
        obtain ⟨i0, hi, hz0, hz1, hz2⟩ := info_parts Try.info5
        go_enter Try.func13, Try.ntmps13
        go_wp2_with fail
        refine hread.mono ?_
        rintro e w1 ⟨rfl, rfl⟩
        go_wp2_with fail
        go_region_held (fun w' => (convert 22 9 (.slice (some ⟨b, off + E, none⟩) (n - E) (cap - E))).run Try.prog w' = .ok (.string T1) w') (go_keep) (first
          | (go_at_call 12; refine hcs.mono ?_; rintro e w9 ⟨rfl, rfl⟩)
          | (go_at_call 17; refine hcf.mono ?_; rintro e w9 ⟨sv9, rfl, hown9, ho9⟩; have hcv9 := conv_src w9 _ sv9 F4 (Src.of_own hown9); have hcvc := conv_src w9 bw _ F4 (hsWd.kept ho9 (fun _ h => h)); rw [HT1.out] at hcv9; rw [HT1.out] at hcvc))
        go_upto_region 13 with fail
        have ho2 : Only Nil w (w9) := (Only.refl Nil w).drew.trans ho9 (fun _ _ h => h)
        have hrowP := HROWP.out.kept ho2
        have cell2 := ho2.cell cell4 (fun h => h)
        have ho2d : Only Nil w w9.drew := ho2.drew
        have cell2d : w9.drew.cell? ⟨b, off + 4, none⟩ = some (.int .u8 c4) := cell2
        obtain ⟨bp, hsrcP⟩ := hrowP.src
        have hsrcPd : Src w9.drew bp _ (U8s P) := hsrcP
        rw [← HGA.out] at hsrcPd
        have A1 := Lib.hid (show 0 + (U8s P).length ≤ maxLen by rw [U8s_len, HP.out]; simp [maxLen]; omega)
        have A2 := Lib.hid (show (0 + (U8s P).length) * 1 ≤ 140737488355328 by rw [U8s_len, HP.out]; omega)
        have A3 := Lib.hid (show w.heap.size ≤ w9.drew.heap.size from ho2d.size)
        clear hrowP hsrcP cell2 cell4
        go_region_held3 (fun w' => w'.cell? ⟨b, off + 4, none⟩ = some (.int .u8 c4)) (go_keep) (first
          | (refine step_append_src rfl _ _ 22 rfl w.heap.size 5 i0 (.int .u8 0) 1 Try.underlying22 hi hz0 hz1 hz2 rfl _ 0 [] rfl (World.ownsRow_nil _ _ _ _) bp _ (U8s P) rfl hsrcPd (U8s_one _) A1.out A2.out A3.out ?_; intro v8 w8 hown8 ho8; have hc8 := ho8.cell cell2d (fun h => by cases h)))
        all_goals (go_wp2_with fail; go_ret3)
        all_goals
          rw [List.nil_append, U8s_len, Nat.zero_add] at hown8
          exact ⟨_, rfl, hown8, ho2d.trans ho8 (fun _ _ h => by cases h)⟩
    · obtain ⟨T, hT⟩ : ∃ T, strOf (B.take 4) = T := ⟨_, rfl⟩
      have hne : (T.toList == [87, 65, 70, 82]) = false := by
        have e : (strOf [87, 65, 70, 82]).toList = [87, 65, 70, 82] := by rw [ByteArray.toList_eq]; rfl
        rw [← hT, ← e]
        exact strOf_ne (C := [87, 65, 70, 82]) (fun x hx => h7 x (List.mem_of_mem_take hx)) (by decide) hW
      have hV : openV B = (0, [], 20) := by unfold openV; rw [if_pos (Or.inr hW)]
      rw [hV]
      rw [hT] at hcv
      clear hV h6 h7 hrow hT hW
      go_enter Try.func13, Try.ntmps13
      go_wp2
      go_ret3
      exact opened_none w w 20 (Only.refl _ _)
end Go.Proofs.Ytgijepaohhekfaa

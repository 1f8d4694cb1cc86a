/- The walks of the laws BoxBack and BoxChanged. -/
import Derived.Test.YtgijepaohhekfaaBKnown
namespace Go.Proofs.Ytgijepaohhekfaa
open Go.RowKit M

set_option maxRecDepth 10000 in
set_option maxHeartbeats 1600000 in
theorem back_any (k : Nat) (ab : Option Addr) (nb capb : Nat) (P : List Nat) (w : World) (hk : k < 256)
    (hb : Row w (.slice ab nb capb) P) (hPl : P.length = nb) :
    Calls Try.prog 3 #[.int .u8 k, .slice ab nb capb] w fun e w' => e = .returned (.bool true) ∧ Only Nil w w' := by
  have HB := Lib.hid hb
  have HPL := Lib.hid hPl
  clear hb hPl
  by_cases h1000 : 1000 < nb
  · go_enter Try.func3, Try.ntmps3
    go_wp2_with (go_at_call 7; refine (known_any w).mono ?_; rintro e w1 ⟨rfl, ho1⟩)
    go_ret
    exact ⟨rfl, ho1⟩
  · have hn : nb ≤ 1000 := by omega
    have t1000 : decide ((1000 : Int) < (nb : Int)) = false := by simp; omega
    have hF := open_file k P (by rw [HPL.out]; omega)
    have hFl := fileOf_len k P
    have hz := putVar_len P.length (by rw [HPL.out]; omega)
    rw [HPL.out] at hFl hz
    have hP8 : ∀ x ∈ P, x < 256 := by
      obtain ⟨_, _, _, _, _, _, _, _, _, _, h8⟩ := HB.out
      exact h8
    have hF8 := fileOf_lt k P hk hP8
    have hw1 := fun w hs => wrap_any k (.slice ab nb capb) P w hs hk (by rw [HPL.out]; omega)
    have hw2 := fun w hs => wrap_any1 k (.slice ab nb capb) P w hs hk (by rw [HPL.out]; omega)
    obtain ⟨F, hFd⟩ : ∃ F, fileOf k P = F := ⟨_, rfl⟩
    simp only [hFd] at hF hFl hF8 hw1 hw2
    have hFl' : F.length ≤ 100000 := by omega
    have hop := fun s w hs => open_val s F w hs hFl' k P 0 hF k 0 rfl rfl nb HPL.out
    have HW1 := Lib.hid hw1
    have HW2 := Lib.hid hw2
    have HOP := Lib.hid hop
    have HF8 := Lib.hid hF8
    obtain ⟨T1, hT1⟩ : ∃ T, strOf F = T := ⟨_, rfl⟩
    obtain ⟨T2, hT2⟩ : ∃ T, strOf P = T := ⟨_, rfl⟩
    have HT1 := Lib.hid hT1
    have HT2 := Lib.hid hT2
    obtain ⟨X, hX⟩ : ∃ X, sumOf P = X := ⟨_, rfl⟩
    have HX := Lib.hid hX
    clear hF hFl hz hP8 hF8 hw1 hw2 hFd hFl' hop hT1 hT2 hX
    go_enter Try.func3, Try.ntmps3
    go_wp2_with (go_at_call 7; refine (known_any w).mono ?_; rintro e w1 ⟨rfl, ho1⟩)
    refine (HW1.out w1 (HB.out.kept ho1)).mono ?_
    rintro e w2 ⟨v2, rfl, hown2, ho2'⟩
    have ho2 := ho1.trans ho2' (fun _ _ h => h)
    go_wp2_with fail
    refine (HW2.out w2 (HB.out.kept ho2)).mono ?_
    rintro e w3 ⟨v3, rfl, hown3, ho3'⟩
    have ho3 := ho2.trans ho3' (fun _ _ h => h)
    have hrow2 := (Row.of_own hown2 HF8.out).kept ho3'
    go_wp2_with fail
    refine (HOP.out v2 w3 hrow2).mono ?_
    rintro e w4 ⟨v4, rfl, hown4, ho4'⟩
    have ho4 := ho3.trans ho4' (fun _ _ h => h)
    have c1 := conv_src w4 _ v2 F (((Src.of_own hown2).kept ho3' (fun _ h => h)).kept ho4' (fun _ h => h))
    have c2 := conv_src w4 _ v3 F ((Src.of_own hown3).kept ho4' (fun _ h => h))
    have c3 := conv_src w4 _ v4 P (Src.of_own hown4)
    obtain ⟨bp, hsp⟩ := (HB.out.kept ho4).src
    have c4 := conv_src w4 bp _ P hsp
    rw [HT1.out] at c1 c2
    rw [HT2.out] at c3 c4
    have s1 := sum_any _ P w4 (HB.out.kept ho4)
    have s2 := sum_any1 _ P w4 (HB.out.kept ho4)
    rw [HX.out] at s1 s2
    clear ho1 ho2 ho3 ho2' ho3' ho4' hown2 hown3 hown4 hrow2 hsp
    go_wp2_with fail
    refine s1.mono ?_
    rintro e w5 ⟨rfl, rfl⟩
    go_wp2_with fail
    refine s2.mono ?_
    rintro e w5 ⟨rfl, rfl⟩
    go_wp2_with fail
    go_ret
    exact ⟨rfl, ho4⟩

theorem xor_ne (c x : Nat) (h : x ≠ 0) : c ≠ c ^^^ x := by
  intro e
  apply h
  have : c ^^^ (c ^^^ x) = c ^^^ c := by rw [← e]
  rwa [← Nat.xor_assoc, Nat.xor_self, Nat.zero_xor] at this

set_option maxRecDepth 10000 in
set_option maxHeartbeats 1600000 in
theorem changed_any (k : Nat) (ab : Option Addr) (nb capb t x : Nat) (P : List Nat) (w : World) (hk : k < 256) (ht : t < 65536) (hx : x < 256)
    (hb : Row w (.slice ab nb capb) P) (hPl : P.length = nb) :
    Calls Try.prog 5 #[.int .u8 k, .slice ab nb capb, .int .u16 t, .int .u8 x] w fun e w' => e = .returned (.bool true) ∧ Only Nil w w' := by
  have HB := Lib.hid hb
  have HPL := Lib.hid hPl
  clear hb hPl
  by_cases h300 : 300 < nb
  · go_enter Try.func5, Try.ntmps5
    go_wp2_with (go_at_call 7; refine (known_any w).mono ?_; rintro e w1 ⟨rfl, ho1⟩)
    go_ret
    exact ⟨rfl, ho1⟩
  · have t300 : decide ((300 : Int) < (nb : Int)) = false := by simp; omega
    by_cases hx0 : x = 0
    · have ex0 : ((x : Int) == 0) = true := by rw [beq_iff_eq]; omega
      clear hx0
      go_enter Try.func5, Try.ntmps5
      go_wp2_with (go_at_call 7; refine (known_any w).mono ?_; rintro e w1 ⟨rfl, ho1⟩)
      go_ret
      exact ⟨rfl, ho1⟩
    · have ex0 : ((x : Int) == 0) = false := by rw [beq_eq_false_iff_ne]; omega
      have hFl := fileOf_len k P
      have hz := putVar_len P.length (by rw [HPL.out]; omega)
      have hzp := putVar_pos P.length
      rw [HPL.out] at hFl hz hzp
      have hP8 : ∀ x ∈ P, x < 256 := by
        obtain ⟨_, _, _, _, _, _, _, _, _, _, h8⟩ := HB.out
        exact h8
      have hF8 := fileOf_lt k P hk hP8
      have hw1 := fun w hs => wrap_any k (.slice ab nb capb) P w hs hk (by rw [HPL.out]; omega)
      have hch := fun i c d => open_changed k P hk hP8 i c d
      obtain ⟨F, hFd⟩ : ∃ F, fileOf k P = F := ⟨_, rfl⟩
      simp only [hFd] at hFl hF8 hw1 hch
      obtain ⟨L, hL⟩ : ∃ L, F.length = L := ⟨_, rfl⟩
      rw [hL] at hFl
      simp only [hL] at hw1
      have hL0 : 0 < L := by omega
      have hL1 : L ≤ 1000 := by omega
      obtain ⟨i, hi⟩ : ∃ i, t % L = i := ⟨_, rfl⟩
      have hiL : i < L := by rw [← hi]; exact Nat.mod_lt _ hL0
      have ei : (t : Int) % (L : Int) = (i : Int) := by rw [← hi]; simp
      obtain ⟨c, hc⟩ : ∃ c, F[i]? = some c := ⟨_, List.getElem?_eq_getElem (by omega)⟩
      have hc8 : c < 256 := hF8 c (List.mem_of_getElem? hc)
      obtain ⟨z, hz'⟩ : ∃ z, c ^^^ x = z := ⟨_, rfl⟩
      have ez : bits BinOp.xor IntKind.u8 (c : Int) (x : Int) = (z : Int) := by rw [u8_xor_nat c x hc8 hx, hz']
      have hz8 : z < 256 := by rw [← hz']; exact Nat.xor_lt_two_pow (n := 8) hc8 hx
      have hne := hch i c z hc hz8 (by rw [← hz']; exact xor_ne c x hx0)
      obtain ⟨V, hV⟩ : ∃ V, openV (F.set i z) = V := ⟨_, rfl⟩
      have herr := openV_err (F.set i z)
      rw [hV] at hne herr
      obtain ⟨vk, vp, ve⟩ := V
      simp only at hne herr
      have herr' : ve = 20 ∨ ve = 21 ∨ ve = 22 := by omega
      have hE8 : ∀ y ∈ F.set i z, y < 256 := fun y hy => by
        rcases List.mem_or_eq_of_mem_set hy with h | h
        · exact hF8 y h
        · omega
      have hop := fun s w hs => open_val s (F.set i z) w hs (by simp; omega) vk vp ve hV vk ve rfl rfl _ rfl
      have HW1 := Lib.hid hw1
      have HOP := Lib.hid hop
      have HE8 := Lib.hid hE8
      have HERR := Lib.hid herr'
      have HC := Lib.hid hc
      have HLL := Lib.hid hL
      clear hFl hz hP8 hF8 hw1 hch hFd hL hop hi hc hz' hne hV herr herr' hE8 hx0 hzp
      go_enter Try.func5, Try.ntmps5
      go_wp2_with (go_at_call 7; refine (known_any w).mono ?_; rintro e w1 ⟨rfl, ho1⟩)
      refine (HW1.out w1 (HB.out.kept ho1)).mono ?_
      rintro e w2 ⟨v2, rfl, hown2, ho2'⟩
      have ho2 := ho1.trans ho2' (fun _ _ h => h)
      obtain ⟨g, cap, rfl, hg1, hcp1, hcp2, hg2⟩ := ownsRow_shape hown2 hL0
      have hsz1 := ho1.size
      have ck := hown2.cellAt i (by omega)
      have fk := hown2.frozenAt i
      rw [show (U8s F)[i]? = some (.int .u8 c) by simp [U8s, HC.out]] at ck
      have hst := (hown2.stored i (.int .u8 z)).1
      have hEs : U8s (F.set i z) = (U8s F).set i (.int .u8 z) := by simp [U8s, List.map_set]
      rw [← hEs] at hst
      have HST := Lib.hid hst
      clear hst hEs hown2 ho2'
      go_upto_region 9 with fail
      have ho3 : Only Nil w (w2.setCell ⟨g, i, none⟩ (.int .u8 z)) := ho2.setCell (p := ⟨g, i, none⟩) (fun h => absurd h (by simp; omega)) _
      obtain ⟨w3, hw3⟩ : ∃ w3, w2.setCell ⟨g, i, none⟩ (.int .u8 z) = w3 := ⟨_, rfl⟩
      rw [hw3] at ho3 HST ⊢
      have hrow3 := Row.of_own HST.out HE8.out
      have hop3 := HOP.out _ w3 hrow3
      clear HST hw3 ck fk ez ei hrow3
      go_wp2_with fail
      refine hop3.mono ?_
      rintro e w4 ⟨v4, rfl, _, ho4'⟩
      have ho4 := ho3.trans ho4' (fun _ _ h => h)
      clear hop3
      rcases HERR.out with h | h | h
      · have e1 : ((ve : Int) == 20) = true := by rw [beq_iff_eq]; omega
        clear h
        go_wp2_with fail
        go_ret
        exact ⟨rfl, ho4⟩
      · have e1 : ((ve : Int) == 20) = false := by rw [beq_eq_false_iff_ne]; omega
        have e2 : ((ve : Int) == 21) = true := by rw [beq_iff_eq]; omega
        clear h
        go_wp2_with fail
        go_ret
        exact ⟨rfl, ho4⟩
      · have e1 : ((ve : Int) == 20) = false := by rw [beq_eq_false_iff_ne]; omega
        have e2 : ((ve : Int) == 21) = false := by rw [beq_eq_false_iff_ne]; omega
        have e3 : ((ve : Int) == 22) = true := by rw [beq_iff_eq]; omega
        clear h
        go_wp2_with fail
        go_ret
        exact ⟨rfl, ho4⟩
end Go.Proofs.Ytgijepaohhekfaa

/- Layer 19: the document's list. -/
import Derived.Test.YthdolanamcmooaaFList
set_option linter.unusedSimpArgs false
set_option linter.unusedVariables false
namespace Go.Proofs.Ythdolanamcmooaa
open Go.RowKit M

set_option maxRecDepth 10000 in
set_option maxHeartbeats 1600000 in
theorem firstR_any (N : Int) (m : Nat) (hm : m = clampN N) (w : World) :
    Calls Try.prog 37 #[.int .i64 N] w fun e w' => ∃ v, e = .returned v ∧ w'.ownsRow w.heap.size 3 1 v m (Ints (upto m)) ∧ Only Nil w w' := by
  have hm1 := clampN_le N
  have hm2 := clampN_eq N
  rw [← hm] at hm1 hm2
  have mk := fun w => make_int m (by omega) w
  have hX0 : (List.replicate m (0 : Int)).length = m := by simp
  obtain ⟨X0, hX⟩ : ∃ X, List.replicate m (0 : Int) = X := ⟨_, rfl⟩
  rw [hX] at mk hX0
  clear hX hm
  have HU := Lib.hid (upto_len m)
  obtain ⟨N0, hN0⟩ : ∃ N0, (if N < 0 then 0 else N) = N0 := ⟨_, rfl⟩
  have hN1 : (if 65536 < N0 then 65536 else N0) = (m : Int) := by rw [← hm2, ← hN0]; split <;> split <;> omega
  clear hm2
  go_enter Try.func37, Try.ntmps37
  go_wp2_with fail
  have hB0 := Blk.new w (Ints X0).toArray 3
  have ho0 : Only Nil w (w.alloc (.cells (Ints X0).toArray 3)) := (Only.refl _ _).alloc _
  obtain ⟨w1, hw1⟩ : ∃ w1, w.alloc (.cells (Ints X0).toArray 3) = w1 := ⟨_, rfl⟩
  rw [hw1] at hB0 ho0 ⊢
  obtain ⟨rb, hrb⟩ : ∃ rb, w.heap.size = rb := ⟨_, rfl⟩
  rw [hrb] at hB0 ⊢
  have hRB := Lib.hid hrb
  clear mk hw1 hrb hN0 hN1
  go_loopg [4] m (fun g i wr => g ≤ m ∧ i = .int .i64 ((m - g : Nat) : Int) ∧ Only Nil w wr ∧ ∃ X : List Int, X.length = m ∧ (∀ j, j < m - g → X.getD j 0 = (j : Int)) ∧ Blk wr rb (Ints X).toArray 3)
  case atStart => exact ⟨Nat.le_refl _, by simp, ho0, X0, hX0, fun j hj => by omega, hB0⟩
  case round =>
    clear hB0 ho0
    obtain ⟨hg, rfl, ho, X, hXl, hX, hB⟩ := hrel
    obtain ⟨g, rfl⟩ : ∃ g, g = gk := ⟨gk, rfl⟩
    obtain ⟨k, hk⟩ : ∃ k, m - g = k := ⟨_, rfl⟩
    rw [hk] at hX ⊢
    have hkn : k ≤ m := by omega
    have HK := Lib.hid hk
    have HX := Lib.hid hX
    have HL := Lib.hid hXl
    clear hk hX hXl hX0
    have k0 : (0 : Int) ≤ (k : Int) := Int.natCast_nonneg _
    by_cases hkl : k < m
    · have k1 : (k : Int) < (m : Int) := by omega
      have f0 := hB.free k
      have c0 := (hB.cell k).trans (Ints_get (by rw [HL.out]; exact hkl))
      have hB1 := hB.setCell k (.int .i64 k)
      rw [Ints_set] at hB1
      have ho1 : Only Nil w (wr.setCell ⟨rb, k, none⟩ (.int .i64 k)) := ho.setCell (fun h => absurd h (by simp only; have := hRB.out; omega)) _
      have hlt := hB.lt
      have HB1 := Lib.hid hB1
      have HO1 := Lib.hid ho1
      clear hB ho hB1 ho1
      go_wp2_with fail
      go_roundg (g - 1)
      case measure => have := HK.out; omega
      case rel =>
        rw [show m - (g - 1) = k + 1 by have := HK.out; omega]
        refine ⟨by omega, by have := HK.out; go_num, HO1.out, _, by rw [List.length_set]; exact HL.out, fun j hj => ?_, HB1.out⟩
        by_cases hjk : j = k
        · subst hjk
          simp [List.getD, HL.out, hkl]
        · have := HX.out j (by omega)
          rw [← this]
          simp [List.getD, List.getElem?_set, show ¬ k = j by omega]
    · have hkl2 : (m : Int) ≤ (k : Int) := by omega
      have hlt := hB.lt
      have e : X = upto m := same_all (by rw [HL.out, HU.out]) (fun j hj => by
        rw [HL.out] at hj
        rw [HX.out j (by omega), upto_get m j hj])
      have hw := own_blk hB (base := w.heap.size) (Nat.le_of_eq hRB.out) (by rw [Ints_len, HL.out]; simp [maxLen]; omega)
      rw [Ints_len, HL.out, e] at hw
      have HE := Lib.hid hw
      clear e hw
      go_wp2_with fail
      go_ret
      exact ⟨_, rfl, HE.out, ho⟩

set_option maxRecDepth 10000 in
set_option maxHeartbeats 1600000 in
theorem atR_any (b : Nat) (L : List Int) (x : Int) (s : Value) (w : World) (hs : Src w b s (Ints L)) (hl : L.length ≤ 1000000) :
    Calls Try.prog 41 #[s, .int .i64 x] w fun e w' => e = .returned (.int .i64 (posI L.length (posN L x))) ∧ w = w' := by
  obtain ⟨ao, cap, off, rfl, p2, p3, p4⟩ := hs
  rw [Ints_len] at p2
  rw [Ints_len]
  obtain ⟨n, hn⟩ : ∃ n, L.length = n := ⟨_, rfl⟩
  rw [hn] at p2 hl ⊢
  have HN := Lib.hid hn
  have H1 := Lib.hid p4
  have G1 := Lib.hid p2
  obtain ⟨R, hR⟩ : ∃ R, posI n (posN L x) = R := ⟨_, rfl⟩
  rw [hR]
  have HR := Lib.hid hR
  clear hn p4 p3 p2 hR
  go_enter Try.func41, Try.ntmps41
  go_wp2_with fail
  go_loopg [5] n (fun g i wr => wr = w ∧ g ≤ n ∧ i = .int .i64 ((n - g : Nat) : Int) ∧ ∀ j, j < n - g → L.getD j 0 ≠ x)
  case atStart => exact ⟨rfl, Nat.le_refl _, by simp, fun j hj => by omega⟩
  case round =>
    obtain ⟨rfl, hm, rfl, hX⟩ := hrel
    obtain ⟨g, rfl⟩ : ∃ g, g = gk := ⟨gk, rfl⟩
    obtain ⟨k, hk⟩ : ∃ k, n - g = k := ⟨_, rfl⟩
    rw [hk] at hX ⊢
    have hkn : k ≤ n := by omega
    have HK := Lib.hid hk
    have HX := Lib.hid hX
    clear hk hX
    have k0 : (0 : Int) ≤ (k : Int) := Int.natCast_nonneg _
    by_cases hkl : k < n
    · have k1 : (k : Int) < (n : Int) := by omega
      have i1 := Ints_at (X := L) (k := k) (by rw [HN.out]; exact hkl)
      obtain ⟨y, hy⟩ : ∃ y, L.getD k 0 = y := ⟨_, rfl⟩
      rw [hy] at i1
      have e1 := G1.out (by omega)
      subst e1
      have t1 := H1.out k _ i1
      have HY := Lib.hid hy
      clear hy i1
      by_cases hyz : y = x
      · subst hyz
        have e3 : ((y : Int) == y) = true := by simp
        have hF : R = (k : Int) := by
          rw [← HR.out, posN_eq L y k (by rw [HN.out]; exact hkl) HY.out HX.out]; unfold posI; rw [if_pos hkl]
        have HF := Lib.hid hF
        clear hF
        go_wp2_with fail
        go_ret
        exact ⟨by rw [HF.out]; rfl, rfl⟩
      · have e3 : ((y : Int) == x) = false := by simpa using hyz
        have HNE := Lib.hid hyz
        clear hyz
        go_wp2_with fail
        go_roundg (g - 1)
        case measure => have := HK.out; omega
        case rel =>
          rw [show n - (g - 1) = k + 1 by have := HK.out; omega]
          refine ⟨rfl, by omega, by have := HK.out; go_num, fun j hj => ?_⟩
          by_cases hjk : j = k
          · subst hjk; rw [HY.out]; exact HNE.out
          · exact HX.out j (by omega)
    · have hF : R = -1 := by
        rw [← HR.out, posN_none L x (fun j hj => HX.out j (by rw [HN.out] at hj; omega)), HN.out]; unfold posI; rw [if_neg (by omega)]
      subst hF
      have hkl2 : (n : Int) ≤ (k : Int) := by omega
      go_wp2_with fail
      go_ret
      exact ⟨rfl, rfl⟩

set_option maxRecDepth 10000 in
set_option maxHeartbeats 1600000 in
theorem frontR_any (b : Nat) (L : List Int) (k : Nat) (s : Value) (base : Nat) (w : World) (hown : w.ownsRow base 3 1 s L.length (Ints L)) (hl : L.length ≤ 65536) (hk : k < L.length) :
    Calls Try.prog 39 #[s, .int .i64 k] w fun e w' => ∃ v, e = .returned v ∧ w'.ownsRow w.heap.size 3 1 v (front L k).length (Ints (front L k)) ∧ Only Nil w w' := by
  obtain ⟨i0, hi0, hz0, hz1, hz2⟩ := info_parts Try.info3
  obtain ⟨g, cap, rfl, q1, q2, q3, q4⟩ := ownsRow_shape hown (by omega)
  have hsrc : Src w g (.slice (some ⟨g, 0, none⟩) L.length cap) (Ints L) := Src.of_own hown
  have hsT := hsrc.takeK k (by omega)
  obtain ⟨ap, hap⟩ : ∃ ap, (if cap = k + 1 then some (⟨g, 0, none⟩ : Addr) else some ⟨g, k + 1, none⟩) = ap := ⟨_, rfl⟩
  have hsD := M.Src.dropK (w := w) (b := g) (off := 0) (ap := ap) (Ints_len L) (fun i u hu => by
    obtain ⟨_, _, off, e, h2, _, h4⟩ := hsrc
    have := h2 (by rw [Ints_len]; omega)
    simp only [Value.slice.injEq] at e
    obtain ⟨rfl, _, _⟩ := e
    simp only [Option.some.injEq, Addr.mk.injEq] at this
    have h5 := h4 i u hu
    rwa [← this.2.1] at h5) q2 (k + 1) hk (by rw [Nat.zero_add]; exact hap)
  have ck := (hown.cellAt k (by omega)).trans (Ints_at hk)
  have eT : (Ints L).take k = Ints (L.take k) := by simp [Ints, List.map_take]
  have eD : (Ints L).drop (k + 1) = Ints (L.drop (k + 1)) := by simp [Ints, List.map_drop]
  rw [eT] at hsT
  rw [eD] at hsD
  have hF : front L k = [L.getD k 0] ++ L.take k ++ L.drop (k + 1) := rfl
  have lT : (L.take k).length = k := by rw [List.length_take]; omega
  have lD : (L.drop (k + 1)).length = L.length - (k + 1) := by rw [List.length_drop]
  have lF := front_len L k hk
  rw [lF]
  obtain ⟨x, hx⟩ : ∃ x, L.getD k 0 = x := ⟨_, rfl⟩
  obtain ⟨T, hT⟩ : ∃ T, L.take k = T := ⟨_, rfl⟩
  obtain ⟨D, hD⟩ : ∃ D, L.drop (k + 1) = D := ⟨_, rfl⟩
  rw [hx] at ck hF
  rw [hT] at hsT hF lT
  rw [hD] at hsD hF lD
  obtain ⟨n, hn⟩ : ∃ n, L.length = n := ⟨_, rfl⟩
  rw [hn] at hsD lD hl hk q2 ⊢
  have HF := Lib.hid hF
  have LT := Lib.hid lT
  have LD := Lib.hid lD
  have HST := Lib.hid hsT
  have HSD := Lib.hid hsD
  have hgl := q4
  obtain ⟨k1, hk1⟩ : ∃ k1, k + 1 = k1 := ⟨_, rfl⟩
  rw [hk1] at hap HSD LD
  have HK1 := Lib.hid hk1
  have w2' : (k : Int) + 1 = (k1 : Int) := by omega
  have w3 : (k1 : Int) ≤ (n : Int) := by omega
  have w5 : (0 : Int) ≤ (k1 : Int) := Int.natCast_nonneg _
  have k0 : (0 : Int) ≤ (k : Int) := Int.natCast_nonneg _
  have k2 : (k : Int) < (n : Int) := by omega
  unfold maxLen at q3
  have hown0 := hown
  clear hown hown0 hsrc hsT hsD hF lT lD lF hx hT hD hn eT eD hk1 q1
  go_enter Try.func39, Try.ntmps39
  go_wp2_with (at_builtin; go_loud (refine wpList_append_src rfl _ _ 38 rfl w.heap.size 3 i0 (.int .i64 0) 8 Try.underlying38 hi0 hz0 hz1 hz2 rfl _ 1 [.int .i64 x] rfl (own_blk (l := [.int .i64 x]) (Blk.new w #[.int .i64 x] 3) (Nat.le_refl _) (by simp [maxLen])) g _ (Ints T) rfl (HST.out.kept (S := Nil) ((Only.refl _ _).alloc _) (fun _ h => h)) (Ints_one _) ?c1 ?c2 ?c3 ?_))
  case c1 => rw [Ints_len, LT.out]; simp [maxLen]; omega
  case c2 => rw [Ints_len, LT.out]; omega
  case c3 => simp
  intro v2 w2 hown2 hv2 ho2
  have hoA : Only Nil w w2 := M.Only.nil_own ((Only.refl Nil w).alloc (.cells #[.int .i64 x] 3)) (own_blk (l := [.int .i64 x]) (Blk.new w #[.int .i64 x] 3) (Nat.le_refl _) (by simp [maxLen])) ho2
  have hs2 := HSD.out.kept hoA (fun _ h => h)
  have sz := hoA.size
  have q5 : 1 + (Ints T).length ≤ 65537 := by rw [Ints_len, LT.out]; omega
  have q6 : (Ints T).length + (Ints D).length + 1 = n := by rw [Ints_len, Ints_len, LT.out, LD.out]; have := HK1.out; omega
  have Q5 := Lib.hid q5
  have Q6 := Lib.hid q6
  have HA := Lib.hid hoA
  clear q5 q6 ho2 hoA hv2
  go_wp2_with (at_builtin; go_loud (refine wpList_append_src rfl _ _ 38 rfl w.heap.size 3 i0 (.int .i64 0) 8 Try.underlying38 hi0 hz0 hz1 hz2 rfl _ _ _ rfl hown2 g _ (Ints D) rfl hs2 (Ints_one _) ?d1 ?d2 sz ?_))
  case d1 => have := Q6.out; simp only [maxLen]; omega
  case d2 => have := Q6.out; omega
  intro v3 w3 hown3 hv3 ho3
  have hoB := M.Only.nil_own HA.out hown2 ho3
  have e2 : Value.int .i64 x :: (Ints T ++ Ints D) = Ints (front L k) := by rw [HF.out]; simp [Ints]
  have e1 : 1 + (Ints T).length + (Ints D).length = n := by have := Q6.out; omega
  rw [e1, e2] at hown3
  have HOWN := Lib.hid hown3
  have HO := Lib.hid hoB
  obtain ⟨a9, c9, rfl⟩ := sl_of_own hown3
  clear hown3 hv3 ho3 e1 e2 hown2 hs2 hoB
  go_wp2_with fail
  go_ret
  exact ⟨_, rfl, HOWN.out, HO.out⟩
end Go.Proofs.Ythdolanamcmooaa

/- Layer 24: the document's order: what a module needs, where one is, a visit. -/
import Derived.Test.YthdolanamcmooaaOPut
import Derived.Test.YthdolanamcmooaaFList
import Derived.StillTailTactics
set_option linter.unusedSimpArgs false
set_option linter.unusedVariables false
namespace Go.Proofs.Ythdolanamcmooaa
open Go.RowKit M

set_option maxRecDepth 10000 in
set_option maxHeartbeats 3200000 in
theorem needsR_any (ib : Nat) (nm : ByteArray) (iv : Value) (l : List ByteArray) (w : World) (hs : Src w ib iv (Strs l)) (hl : l.length ≤ 1000) :
    Calls Try.prog 59 #[.agg #[.string nm, iv, .slice none 0 0, .slice none 0 0, .slice none 0 0, .slice none 0 0, .slice none 0 0, .slice none 0 0]] w (NeedsPost w l) := by
  obtain ⟨i0, hi0, hz0, hz1, hz2⟩ := info_parts infoStr
  obtain ⟨ao, cap, off, rfl, p2, p3, p4⟩ := hs
  rw [Strs_len] at p2 ⊢
  obtain ⟨n, hn⟩ : ∃ n, l.length = n := ⟨_, rfl⟩
  rw [hn] at p2 hl ⊢
  have HN := Lib.hid hn
  have H1 := Lib.hid p4
  have G1 := Lib.hid p2
  clear hn p4 p3 p2
  go_enter Try.func59, Try.ntmps59
  go_wp2_with fail
  have hB0 := Blk.new w #[.string nm, .slice ao n cap, .slice none 0 0, .slice none 0 0, .slice none 0 0, .slice none 0 0, .slice none 0 0, .slice none 0 0] 102
  have ho0 : Only Nil w (w.alloc (.cells #[.string nm, .slice ao n cap, .slice none 0 0, .slice none 0 0, .slice none 0 0, .slice none 0 0, .slice none 0 0, .slice none 0 0] 102)) := (Only.refl _ _).alloc _
  have hbm : (w.alloc (.cells #[.string nm, .slice ao n cap, .slice none 0 0, .slice none 0 0, .slice none 0 0, .slice none 0 0, .slice none 0 0, .slice none 0 0] 102)).cell? ⟨w.heap.size, 1, none⟩ = some (.slice ao n cap) := hB0.cell 1
  obtain ⟨w0, hw0⟩ : ∃ w0, w.alloc (.cells #[.string nm, .slice ao n cap, .slice none 0 0, .slice none 0 0, .slice none 0 0, .slice none 0 0, .slice none 0 0, .slice none 0 0] 102) = w0 := ⟨_, rfl⟩
  rw [hw0] at ho0 hbm ⊢
  have HO0 := Lib.hid ho0
  have HB0 := Lib.hid ho0.size
  obtain ⟨mbx, hmbx⟩ : ∃ mbx, w.heap.size = mbx := ⟨_, rfl⟩
  rw [hmbx] at hbm ⊢
  have HMX := Lib.hid hmbx
  have HBM := Lib.hid hbm
  clear hB0 ho0 hw0 hbm hmbx
  go_loopg [3, 4] n (fun g v i wr => ∃ (k : Nat) (vv : Value), i = .int .i64 (k : Int) ∧ v = vv ∧ k ≤ n ∧ g = n - k ∧ wr.ownsRow w0.heap.size 9 1 vv (needsM (l.take k)).length (Strs (needsM (l.take k))) ∧ Only Nil w0 wr)
  case atStart => exact ⟨0, _, rfl, rfl, Nat.zero_le _, rfl, World.ownsRow_nil _ _ _ _, Only.refl _ _⟩
  case round =>
    obtain ⟨k, vv, rfl, rfl, hk, hg, hown, ho⟩ := hrel
    have HG := Lib.hid hg
    have HO := Lib.hid ho
    have t0 := ho.cell HBM.out (fun h => h)
    have hblt2 := World.block_lt_of_cell? wr _ t0
    have hsz := ho.size
    clear hg
    have k0 : (0 : Int) ≤ (k : Int) := Int.natCast_nonneg _
    by_cases hkn : k < n
    · have k1 : (k : Int) < (n : Int) := by omega
      obtain ⟨s, hs⟩ : ∃ s, l[k]? = some s := ⟨_, List.getElem?_eq_getElem (by rw [HN.out]; exact hkn)⟩
      have e1 := G1.out (by omega)
      subst e1
      have t1 := (HO0.out.trans ho (fun _ _ h => h)).cell (H1.out k _ (Strs_at hs)) (fun h => h)
      have hsn := needsM_snoc l k s hs
      obtain ⟨ao2, cap2, hvv⟩ := sl_of_own hown
      subst hvv
      have hlen : (needsM (l.take k)).length ≤ 1000 := by
        have := needsM_len (l.take k)
        rw [List.length_take, HN.out] at this
        omega
      obtain ⟨A, hA⟩ : ∃ A, needsM (l.take k) = A := ⟨_, rfl⟩
      rw [hA] at hown hsn hlen
      obtain ⟨m, hm⟩ : ∃ m, A.length = m := ⟨_, rfl⟩
      rw [hm] at hown hlen
      rw [hA, hm]
      have HMM := Lib.hid hm
      have HSN := Lib.hid hsn
      clear hs ho hA hm hsn
      by_cases g1 : s = inB
      · have e5 := inB_eq' g1
        have HE := Lib.hid (show needsM (l.take (k + 1)) = A by rw [HSN.out, if_pos (by simp [isText, g1])])
        have HOWN := Lib.hid hown
        clear g1 HSN hown
        go_wp2_with fail
        go_roundg (n - (k + 1))
        case measure => have := HG.out; omega
        case rel => exact ⟨k + 1, _, by go_num, rfl, by omega, rfl, by rw [HE.out, HMM.out]; exact HOWN.out, HO.out⟩
      · have e5 := inB_eq g1
        by_cases g2 : s = outB
        · have e6 := outB_eq' g2
          have HE := Lib.hid (show needsM (l.take (k + 1)) = A by rw [HSN.out, if_pos (by simp [isText, g2])])
          have HOWN := Lib.hid hown
          clear g1 g2 HSN hown
          go_wp2_with fail
          go_roundg (n - (k + 1))
          case measure => have := HG.out; omega
          case rel => exact ⟨k + 1, _, by go_num, rfl, by omega, rfl, by rw [HE.out, HMM.out]; exact HOWN.out, HO.out⟩
        · have e6 := outB_eq g2
          have HE := Lib.hid (show needsM (l.take (k + 1)) = A ++ [s] by rw [HSN.out, if_neg (by simp [isText, g1, g2])])
          clear g1 g2 HSN
          go_wp2_with (with_reducible refine wpList_append_one rfl _ _ 70 rfl w0.heap.size 9 i0 (.string ByteArray.empty) 16 Try.underlying70 hi0 hz0 hz1 hz2 rfl _ _ _ rfl hown _ rfl rfl (by simp [maxLen]; omega) (by omega) hsz ?_)
          intro g2 cap3 w1 hown1 hc1 hc2 hg1 ho1
          have hoA := Lib.hid (M.Only.nil_own HO.out hown ho1)
          have HOWN := Lib.hid hown1
          have HOW0 := Lib.hid hown
          clear hown1 ho1 hg1 hown
          go_wp2_with fail
          go_roundg (n - (k + 1))
          case measure => have := HG.out; omega
          case rel => exact ⟨k + 1, _, by go_num, rfl, by omega, rfl, by rw [HE.out, Strs_snoc, List.length_append, HMM.out]; exact HOWN.out, hoA.out⟩
    · have hkn' : k = n := by omega
      subst hkn'
      have k1 : (k : Int) ≤ (k : Int) := Int.le_refl _
      have e9 : l.take k = l := List.take_of_length_le (by rw [HN.out]; exact Nat.le_refl _)
      rw [e9] at hown
      obtain ⟨ao2, cap2, hvv⟩ := sl_of_own hown
      subst hvv
      have HOWN := Lib.hid hown
      clear e9 hown ho
      go_wp2_with fail
      go_ret
      exact ⟨_, rfl, ownsRow_base HOWN.out (by have := HB0.out; have := HMX.out; omega), HO0.out.trans HO.out (fun _ _ h => h)⟩
set_option maxRecDepth 10000 in
set_option maxHeartbeats 1600000 in
theorem atM_any (M0 b : Nat) (sv : Value) (L : List Md) (s : ByteArray) (w : World) (hs : MSrc M0 w b sv L) (hl : L.length ≤ 1000) :
    Calls Try.prog 79 #[sv, .string s] w fun e w' => e = .returned (.int .i64 (posI L.length (posB (names L) s))) ∧ w = w' := by
  obtain ⟨ao, cap, off, rfl, p2, p3, p4, p5⟩ := hs
  obtain ⟨n, hn⟩ : ∃ n, L.length = n := ⟨_, rfl⟩
  rw [hn] at p2 hl ⊢
  have HN := Lib.hid hn
  have H1 := Lib.hid p5
  have G1 := Lib.hid p2
  obtain ⟨R, hR⟩ : ∃ R, posI n (posB (names L) s) = R := ⟨_, rfl⟩
  rw [hR]
  have HR := Lib.hid hR
  clear hn p5 p3 p2 hR
  go_enter Try.func79, Try.ntmps79
  go_wp2_with fail
  go_loopg [5] n (fun g i wr => wr = w ∧ g ≤ n ∧ i = .int .i64 ((n - g : Nat) : Int) ∧ ∀ j, j < n - g → (names L)[j]? ≠ some s)
  case atStart => exact ⟨rfl, Nat.le_refl _, by simp, fun j hj => by omega⟩
  case round =>
    obtain ⟨rfl, hm, rfl, hX⟩ := hrel
    obtain ⟨g, rfl⟩ : ∃ g, g = gk := ⟨gk, rfl⟩
    obtain ⟨k, hk⟩ : ∃ k, n - g = k := ⟨_, rfl⟩
    rw [hk] at hX ⊢
    have hkn : k ≤ n := by omega
    have HK := Lib.hid hk
    have HX := Lib.hid hX
    clear hk hX
    have k0 : (0 : Int) ≤ (k : Int) := Int.natCast_nonneg _
    by_cases hkl : k < n
    · have k1 : (k : Int) < (n : Int) := by omega
      obtain ⟨m, hm'⟩ : ∃ m, L[k]? = some m := ⟨_, List.getElem?_eq_getElem (by rw [HN.out]; exact hkl)⟩
      have e1 := G1.out (by omega)
      subst e1
      obtain ⟨iv, ib, q1, _⟩ := H1.out k m hm'
      have t1 := q1 0 _ rfl
      simp only [Nat.add_zero] at t1
      obtain ⟨y, hy⟩ : ∃ y, m.1 = y := ⟨_, rfl⟩
      rw [hy] at t1
      have HY := Lib.hid (show (names L)[k]? = some y by unfold names; rw [List.getElem?_map, hm', ← hy]; rfl)
      clear hm' hy q1
      by_cases hyz : y = s
      · subst hyz
        have hF : R = (k : Int) := by
          rw [← HR.out, posB_eq (names L) y k HY.out HX.out]; unfold posI; rw [if_pos hkl]
        have HF := Lib.hid hF
        clear hF
        go_wp2_with fail
        go_ret
        exact ⟨by rw [HF.out]; rfl, rfl⟩
      · have HNE := Lib.hid hyz
        have e3 := bytes_ne hyz
        clear hyz
        go_wp2_with fail
        go_roundg (g - 1)
        case measure => have := HK.out; omega
        case rel =>
          rw [show n - (g - 1) = k + 1 by have := HK.out; omega]
          refine ⟨rfl, by omega, by have := HK.out; go_num, fun j hj => ?_⟩
          by_cases hjk : j = k
          · subst hjk; rw [HY.out]; intro h; injection h with h; exact HNE.out h
          · exact HX.out j (by omega)
    · have hF : R = -1 := by
        rw [← HR.out, posB_none (names L) s (fun j hj => HX.out j (by rw [names_len, HN.out] at hj; omega)), names_len, HN.out]; unfold posI; rw [if_neg (by omega)]
      subst hF
      have hkl2 : (n : Int) ≤ (k : Int) := by omega
      go_wp2_with fail
      go_ret
      exact ⟨rfl, rfl⟩
end Go.Proofs.Ythdolanamcmooaa

/- A list of instructions becomes words. -/
import Derived.Test.YthimhbfglgnohaaKKnown
import Derived.Test.YthimhbfglgnohaaApp
set_option linter.unusedSimpArgs false
set_option linter.unusedVariables false
namespace Go.Proofs.Ythimhbfglgnohaa
open Go.RowKit M

/-- A row of instructions. -/
def InsRow (w : World) (b : Nat) (L : List Ins) : Prop := ∀ k i j, L[k]? = some i → j < 8 → w.cell? ⟨b, k * 8 + j, none⟩ = i.cells[j]?
theorem flat_cell (L : List Ins) (k : Nat) (i : Ins) (j : Nat) (h : L[k]? = some i) (hj : j < 8) : (L.flatMap (fun i => i.cells.toList))[k * 8 + j]? = i.cells[j]? := by
  induction L generalizing k with
  | nil => simp at h
  | cons x t ih =>
    rw [List.flatMap_cons]
    have hx : x.cells.toList.length = 8 := rfl
    cases k with
    | zero =>
      simp only [List.getElem?_cons_zero, Option.some.injEq] at h
      subst h
      rw [List.getElem?_append_left (by omega), Nat.zero_mul, Nat.zero_add]
      simp
    | succ k =>
      rw [List.getElem?_append_right (by omega), hx, show (k + 1) * 8 + j - 8 = k * 8 + j by omega]
      exact ih k (by simpa using h)
theorem insRow_new (w : World) (L : List Ins) (t : TypeId) {S : Nat → Prop} {w' : World} (ho : Only S (w.alloc (.cells (L.flatMap (fun i => i.cells.toList)).toArray t)) w') (hS : ¬ S w.heap.size) : InsRow w' w.heap.size L := by
  intro k i j h hj
  rw [((Blk.new w (L.flatMap (fun i => i.cells.toList)).toArray t).kept ho hS).cell]
  simpa using flat_cell L k i j h hj
theorem InsRow.kept {S : Nat → Prop} {w w' : World} {b : Nat} {L : List Ins} (h : InsRow w b L) (ho : Only S w w') (hS : ¬ S b) : InsRow w' b L := by
  intro k i j hk hj
  have h1 := h k i j hk hj
  have hi : j < i.cells.size := hj
  rw [Array.getElem?_eq_getElem hi] at h1 ⊢
  exact ho.cell h1 hS

set_option maxHeartbeats 1600000 in
theorem put_any (b : Nat) (L : List Ins) (cap : Nat) (w : World) (hr : InsRow w b L) (hg : ∀ i ∈ L, i.Good) (hl : L.length ≤ 1000) (hcap : L.length ≤ cap) (hcm : cap ≤ maxLen) :
    Calls Try.prog 25 #[.slice (some ⟨b, 0, none⟩) L.length cap] w fun e w' => ∃ sv, e = .returned sv ∧ w'.ownsRow w.heap.size 26 1 sv L.length (U32s (L.map enc)) ∧ Only Nil w w' := by
  obtain ⟨i0, hi, hz0, hz1, hz2⟩ := info_parts infoU32
  obtain ⟨n, hn⟩ : ∃ n, L.length = n := ⟨_, rfl⟩
  rw [hn] at hl hcap ⊢
  have HN := Lib.hid hn
  have HR := Lib.hid hr
  have HG := Lib.hid hg
  clear hn hr hg
  go_enter Try.func25, Try.ntmps25
  go_wp2_with fail
  go_loopg [3, 4] n (fun m t i wr => m ≤ n ∧ i = .int .i64 ((n - m : Nat) : Int) ∧ wr.ownsRow w.heap.size 26 1 t (n - m) (U32s ((L.take (n - m)).map enc)) ∧ Only Nil w wr)
  case atStart => exact ⟨Nat.le_refl _, by simp, by simpa [U32s] using World.ownsRow_nil _ _ _ _, Only.refl _ _⟩
  case round =>
    obtain ⟨hm, rfl, hown, ho⟩ := hrel
    obtain ⟨m, rfl⟩ : ∃ m, m = gk := ⟨gk, rfl⟩
    obtain ⟨k, hk⟩ : ∃ k, n - m = k := ⟨_, rfl⟩
    rw [hk] at hown ⊢
    have hkn : k ≤ n := by omega
    have HK := Lib.hid hk
    clear hk
    by_cases hkl : k < n
    · have hkl2 : k < L.length := by rw [HN.out]; exact hkl
      have hat : L[k]? = some L[k] := List.getElem?_eq_getElem hkl2
      have hG : (L[k]).Good := HG.out _ (List.getElem_mem _)
      have ht : L.take (k + 1) = L.take k ++ [L[k]] := by rw [List.take_succ_eq_append_getElem hkl2]
      have hR := HR.out.kept ho (fun h => h)
      obtain ⟨y, hy⟩ : ∃ y, L[k] = y := ⟨_, rfl⟩
      rw [hy] at hat hG ht
      have r0 := hR k y 0 hat (by decide)
      have r1 := hR k y 1 hat (by decide)
      have r2 := hR k y 2 hat (by decide)
      have r3 := hR k y 3 hat (by decide)
      have r4 := hR k y 4 hat (by decide)
      have r5 := hR k y 5 hat (by decide)
      have r6 := hR k y 6 hat (by decide)
      have r7 := hR k y 7 hat (by decide)
      have cE := fun w => encR_good y w hG
      obtain ⟨x, hx⟩ : ∃ x, enc y = x := ⟨_, rfl⟩
      rw [hx] at cE
      have HX := Lib.hid hx
      obtain ⟨F, u, v, A, B, C, o, mm⟩ := y
      unfold Ins.val at cE
      unfold Ins.cells at cE r0 r1 r2 r3 r4 r5 r6 r7
      simp only [List.getElem?_toArray, List.getElem?_cons_zero, List.getElem?_cons_succ, Nat.add_zero] at cE r0 r1 r2 r3 r4 r5 r6 r7
      have hsz := ho.size
      have HT := Lib.hid ht
      have k0 : (0 : Int) ≤ (k : Int) := Int.natCast_nonneg _
      have k1 : (k : Int) < (n : Int) := by omega
      clear hy ht hat hG hR hx
      go_wp2_with fail
      refine (cE _).mono ?_
      rintro e w1 ⟨rfl, ho1⟩
      clear cE
      have hsz1 := ho1.size
      have hown2 : w1.ownsRow w.heap.size 26 1 u3 k (U32s ((L.take k).map enc)) := ownsRow_only hown ho1 (fun _ _ h => h)
      clear r0 r1 r2 r3 r4 r5 r6 r7
      have hown3 := hown2
      clear hown
      go_wp2_with (with_reducible refine wpList_append_one rfl _ _ 25 rfl w.heap.size 26 i0 (.int .u32 0) 4 Try.underlying25 hi hz0 hz1 hz2 rfl _ _ _ rfl hown3 _ rfl rfl ?c1 ?c2 ?c3 ?_)
      case c1 => simp [maxLen]; omega
      case c2 => omega
      case c3 => omega
      intro g cap2 w2 hown4 hc4 hc5 hg4 ho4
      have ho5 : Only Nil w w2 := (ho.trans ho1 (fun _ _ h => h)).nil_own hown2 ho4
      clear hown2 hown3 ho4 ho1 ho hsz hsz1 hg4
      go_wp2_with fail
      go_roundg (m - 1)
      case measure => have := HK.out; omega
      case rel =>
        refine ⟨by omega, by have := HK.out; go_num, ?_, ho5⟩
        rw [show n - (m - 1) = k + 1 by have := HK.out; omega, HT.out, List.map_append, List.map_cons, List.map_nil, HX.out]
        simpa [U32s] using hown4
    · have hkl2 : k = n := by omega
      subst hkl2
      go_wp2_with fail
      go_ret
      refine ⟨_, rfl, ?_, ho⟩
      rw [← HN.out, List.take_length] at hown
      rw [← HN.out]
      exact hown
end Go.Proofs.Ythimhbfglgnohaa

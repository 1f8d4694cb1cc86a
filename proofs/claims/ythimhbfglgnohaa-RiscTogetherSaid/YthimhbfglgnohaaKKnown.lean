/- The laws' known: a number goes, and it ends. -/
import Derived.Test.YthimhbfglgnohaaMRun
import Derived.Test.YthimhbfglgnohaaMNew
import Derived.Test.YthimhbfglgnohaaMLaw
import Derived.Test.YthimhbfglgnohaaREnc
set_option linter.unusedSimpArgs false
set_option linter.unusedVariables false
namespace Go.Proofs.Ythimhbfglgnohaa
open Go.RowKit M

theorem src_u32 (w : World) (code : List Nat) (t : TypeId) (S : Nat → Prop) (w' : World) (ho : Only S (w.alloc (.cells (U32s code).toArray t)) w') (hS : ¬ S w.heap.size) : Src w' w.heap.size (.slice (some ⟨w.heap.size, 0, none⟩) code.length code.length) (U32s code) := by
  have hB := (Blk.new w (U32s code).toArray t).kept ho hS
  refine ⟨_, code.length, 0, by rw [U32s_len], fun _ => rfl, nofun, fun i u hu => ?_⟩
  rw [Nat.zero_add, hB.cell i]
  simpa using hu
/-- What is written lies in blocks that were made since. -/
theorem went_fresh {w w4 w5 : World} {mb wb : Nat} {ob' : Option Nat} (h : Only Nil w w4) (k : Went w4 w5 mb wb none ob') (hm : w.heap.size ≤ mb) (hw : w.heap.size ≤ wb) : Only Nil w w5 :=
  h.trans k.1 (fun i hi hS => by
    rcases hS with h | h | h
    · exact absurd hi (by omega)
    · exact absurd hi (by omega)
    · cases h)
theorem went_fresh' {w w4 w5 : World} {mb wb : Nat} {ob ob' : Option Nat} (h : Only Nil w w4) (k : Went w4 w5 mb wb ob ob') (hm : w.heap.size ≤ mb) (hw : w.heap.size ≤ wb) (ho : ∀ j, ob = some j → w.heap.size ≤ j) : Only Nil w w5 :=
  h.trans k.1 (fun i hi hS => by
    rcases hS with h | h | h
    · exact absurd hi (by omega)
    · exact absurd hi (by omega)
    · exact absurd hi (by have := ho i h.symm; omega))
/-- What is written later lies in a new block, too. -/
theorem went_ob {w4 w5 : World} {mb wb : Nat} {ob' : Option Nat} {m : Nat} (k : Went w4 w5 mb wb none ob') (h : m ≤ w4.heap.size) : ∀ j, ob' = some j → m ≤ j := fun j hj => by
  rcases k.2 with h2 | ⟨i, h2, h3⟩
  · rw [h2] at hj; cases hj
  · rw [h2] at hj; injection hj with hj; omega
theorem src_none (w : World) (b : Nat) : Src w b (.slice none 0 0) (U8s []) := ⟨none, 0, 0, rfl, (fun h => absurd h (Nat.lt_irrefl 0)), (fun _ => rfl), (fun i u hu => by simp [U8s] at hu)⟩

set_option maxHeartbeats 3200000 in
theorem known_any (w : World) : Calls Try.prog 11 #[] w fun e w' => e = .returned (.bool true) ∧ Only Nil w w' := by
  have c1 := fun w => encR_good ⟨1, false, false, 1, 0, 0, 0, 65⟩ w (by unfold Ins.Good; simp)
  have c2 := fun w => encR_good ⟨2, true, false, 1, 0, 0, 0, -64⟩ w (by unfold Ins.Good; simp)
  have c3 := fun w => encR_good iEnd w iEnd_good
  have hcode : cKnown = [enc ⟨1, false, false, 1, 0, 0, 0, 65⟩, enc ⟨2, true, false, 1, 0, 0, 0, -64⟩, enc iEnd] := rfl
  have hlt : ∀ x ∈ cKnown, x < 4294967296 := by
    rw [hcode]
    intro x hx
    simp only [List.mem_cons, List.not_mem_nil, or_false] at hx
    rcases hx with rfl | rfl | rfl
    · exact enc_lt _ (by unfold Ins.Good; simp)
    · exact enc_lt _ (by unfold Ins.Good; simp)
    · exact enc_lt _ iEnd_good
  obtain ⟨x1, hx1⟩ : ∃ x, enc ⟨1, false, false, 1, 0, 0, 0, 65⟩ = x := ⟨_, rfl⟩
  obtain ⟨x2, hx2⟩ : ∃ x, enc ⟨2, true, false, 1, 0, 0, 0, -64⟩ = x := ⟨_, rfl⟩
  obtain ⟨x3, hx3⟩ : ∃ x, enc iEnd = x := ⟨_, rfl⟩
  rw [hx1, hx2, hx3] at hcode
  rw [hx1] at c1
  rw [hx2] at c2
  rw [hx3] at c3
  unfold Ins.val Ins.cells at c1 c2 c3
  unfold iEnd at c3
  simp only at c1 c2 c3
  have HC := Lib.hid hcode
  have HLT := Lib.hid hlt
  clear hx1 hx2 hx3 hcode hlt
  go_enter Try.func11, Try.ntmps11
  go_wp2_with fail
  refine (c1 _).mono ?_
  rintro e w1 ⟨rfl, ho1⟩
  clear c1
  go_wp2_with fail
  refine (c2 _).mono ?_
  rintro e w2 ⟨rfl, ho2⟩
  clear c2
  go_wp2_with fail
  refine (c3 _).mono ?_
  rintro e w3 ⟨rfl, ho3⟩
  clear c3
  go_wp2_with fail
  have ho3' : Only Nil w w3 := (ho1.trans ho2 (fun _ _ h => h)).trans ho3 (fun _ _ h => h)
  have hsrc := src_u32 w3 cKnown 26 Nil _ (Only.refl _ _) (fun h => h)
  rw [HC.out] at hsrc
  simp only [U32s, List.map_cons, List.map_nil, List.length_cons, List.length_nil, Nat.zero_add, Nat.reduceAdd] at hsrc
  have cN := new_any (Q := Nil) [x1, x2, x3] [] 4 4 (by decide) w3.heap.size 0 _ _ _ hsrc (src_none _ 0) (by simp) (by simp) (by decide) (fun _ h => h.elim)
  clear hsrc
  refine cN.mono ?_
  rintro e w4 ⟨mb, wb, cv', iv', rfl, hmb, hwb, ho4, hM4⟩
  clear cN
  have ho4' : Only Nil w w4 := ((ho3'.alloc _).trans ho4 (fun _ _ h => h))
  have hm4 : w.heap.size ≤ mb := by have := ho3'.size; simp only [World.size_alloc] at hmb; omega
  have hw4 : w.heap.size ≤ wb := by have := ho3'.size; simp only [World.size_alloc] at hwb; omega
  have hs4 : (s0 4 []).Ok := s0_ok 4 [] (by decide) (fun _ h => by cases h)
  have cR := run_any mb wb none [x1, x2, x3] cv' iv' (.slice none 0 0) (s0 4 []) w4 hs4 (by rw [← HC.out]; exact HLT.out) (by simp) hM4 10 (by decide) (by decide) (by decide) (t := sKnown) (by rw [← HC.out]; exact run_known)
  rw [show ((sKnown.fin : Nat) : Int) = 1 from rfl, show ((sKnown.trap : Nat) : Int) = 0 from rfl, show sKnown.out = [65] from rfl] at cR
  clear hM4 ho1 ho2 ho3
  go_wp2_with fail
  refine cR.mono ?_
  rintro e w5 ⟨ob5, iv5, ov5, rv, rfl, hw5, hown5, hM5⟩
  clear cR
  obtain ⟨ao9, n9, cap9, rfl⟩ := ownsRow_slice hown5
  have hlt5 := hM5.1.lt
  go_wp2_with fail
  have cG := fun (w' : World) (ho : Only Nil w5 w') => reg_any mb 1 cv' _ iv5 ov5 sKnown w' (hM5.1.kept ho (fun h => h)) (by decide)
  rw [show ((1 : Nat) : Int) = 1 from rfl, show ((sKnown.R 1 : Nat) : Int) = 65 from rfl] at cG
  have HM := Lib.hid hM5
  clear hM5
  refine (cG _ ((Only.refl _ _).alloc _)).mono ?_
  rintro e w6 ⟨rfl, rfl⟩
  clear cG
  have hstr := conv_src _ _ _ _ ((Src.of_own hown5).kept ((Only.refl Nil w5).alloc (.cells #[Value.slice ao9 n9 cap9, .int .i64 1, .int .i64 0] 39)) (fun _ h => h))
  have hA : ((strOf [65]).toList == [65]) = true := by rw [ByteArray.toList_eq]; decide
  obtain ⟨T, hT⟩ : ∃ T, strOf [65] = T := ⟨_, rfl⟩
  rw [hT] at hstr hA
  go_wp2_with fail
  have hs5 : sKnown.Ok := by rw [← run_known]; exact (run_ok HLT.out (by decide) 10 hs4).1
  have cS := fun (w' : World) (ho : Only Nil w5 w') => step_any mb wb ob5 [x1, x2, x3] cv' iv5 ov5 sKnown w' hs5 (by rw [← HC.out]; exact HLT.out) (by simp) (HM.out.quiet ho) (by decide)
  rw [show (sKnown.fin == 0) = false from rfl] at cS
  refine (cS _ ((Only.refl _ _).alloc _)).mono ?_
  rintro e w7 ⟨ob7, iv7, ov7, rfl, hw7, hM7⟩
  clear cS
  go_wp2_with fail
  go_ret
  refine ⟨rfl, ?_⟩
  have q5 := went_fresh ho4' hw5 hm4 hw4
  exact went_fresh' (q5.alloc _) hw7 hm4 hw4 (went_ob hw5 ho4'.size)
end Go.Proofs.Ythimhbfglgnohaa

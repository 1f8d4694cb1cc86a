/- The laws' known: a number goes, and it ends. -/
import Derived.Test.YthimhbfglgnohaaMRun
import Derived.Test.YthimhbfglgnohaaMNew
import Derived.Test.YthimhbfglgnohaaMLaw
import Derived.Test.YthimhbfglgnohaaREnc
import Derived.Test.YthimhbfglgnohaaApp
set_option linter.unusedSimpArgs false
set_option linter.unusedVariables false
namespace Go.Proofs.Ythimhbfglgnohaa
open Go.RowKit M

theorem src_u32 (w : World) (code : List Nat) (t : TypeId) (S : Nat → Prop) (w' : World) (ho : Only S (w.alloc (.cells (U32s code).toArray t)) w') (hS : ¬ S w.heap.size) : Src w' w.heap.size (.slice (some ⟨w.heap.size, 0, none⟩) code.length code.length) (U32s code) := by
  have hB := (Blk.new w (U32s code).toArray t).kept ho hS
  refine ⟨_, code.length, 0, by rw [U32s_len], fun _ => rfl, nofun, fun i u hu => ?_⟩
  rw [Nat.zero_add, hB.cell i]
  simpa using hu
/-- What is written lies in blocks that were made since. -/
theorem went_fresh {w w4 w5 : World} {mb wb : Nat} {ob' : Option Nat} (h : Only Nil w w4) (k : Went w4 w5 mb wb none ob') (hm : w.heap.size ≤ mb) (hw : w.heap.size ≤ wb) : Only Nil w w5 :=
  h.trans k.1 (fun i hi hS => by
    rcases hS with h | h | h
    · exact absurd hi (by omega)
    · exact absurd hi (by omega)
    · cases h)
theorem went_fresh' {w w4 w5 : World} {mb wb : Nat} {ob ob' : Option Nat} (h : Only Nil w w4) (k : Went w4 w5 mb wb ob ob') (hm : w.heap.size ≤ mb) (hw : w.heap.size ≤ wb) (ho : ∀ j, ob = some j → w.heap.size ≤ j) : Only Nil w w5 :=
  h.trans k.1 (fun i hi hS => by
    rcases hS with h | h | h
    · exact absurd hi (by omega)
    · exact absurd hi (by omega)
    · exact absurd hi (by have := ho i h.symm; omega))
/-- What is written later lies in a new block, too. -/
theorem went_ob {w4 w5 : World} {mb wb : Nat} {ob' : Option Nat} {m : Nat} (k : Went w4 w5 mb wb none ob') (h : m ≤ w4.heap.size) : ∀ j, ob' = some j → m ≤ j := fun j hj => by
  rcases k.2 with h2 | ⟨i, h2, h3⟩
  · rw [h2] at hj; cases hj
  · rw [h2] at hj; injection hj with hj; omega
theorem src_none (w : World) (b : Nat) : Src w b (.slice none 0 0) (U8s []) := ⟨none, 0, 0, rfl, (fun h => absurd h (Nat.lt_irrefl 0)), (fun _ => rfl), (fun i u hu => by simp [U8s] at hu)⟩

set_option maxHeartbeats 3200000 in
theorem known_any (w : World) : Calls Try.prog 11 #[] w fun e w' => e = .returned (.bool true) ∧ Only Nil w w' := by
  have c1 := fun w => encR_good ⟨1, false, false, 1, 0, 0, 0, 65⟩ w (by unfold Ins.Good; simp)
  have c2 := fun w => encR_good ⟨2, true, false, 1, 0, 0, 0, -64⟩ w (by unfold Ins.Good; simp)
  have c3 := fun w => encR_good iEnd w iEnd_good
  have hcode : cKnown = [enc ⟨1, false, false, 1, 0, 0, 0, 65⟩, enc ⟨2, true, false, 1, 0, 0, 0, -64⟩, enc iEnd] := rfl
  have hlt : ∀ x ∈ cKnown, x < 4294967296 := by
    rw [hcode]
    intro x hx
    simp only [List.mem_cons, List.not_mem_nil, or_false] at hx
    rcases hx with rfl | rfl | rfl
    · exact enc_lt _ (by unfold Ins.Good; simp)
    · exact enc_lt _ (by unfold Ins.Good; simp)
    · exact enc_lt _ iEnd_good
  obtain ⟨x1, hx1⟩ : ∃ x, enc ⟨1, false, false, 1, 0, 0, 0, 65⟩ = x := ⟨_, rfl⟩
  obtain ⟨x2, hx2⟩ : ∃ x, enc ⟨2, true, false, 1, 0, 0, 0, -64⟩ = x := ⟨_, rfl⟩
  obtain ⟨x3, hx3⟩ : ∃ x, enc iEnd = x := ⟨_, rfl⟩
  rw [hx1, hx2, hx3] at hcode
  rw [hx1] at c1
  rw [hx2] at c2
  rw [hx3] at c3
  unfold Ins.val Ins.cells at c1 c2 c3
  unfold iEnd at c3
  simp only at c1 c2 c3
  have HC := Lib.hid hcode
  have HLT := Lib.hid hlt
  clear hx1 hx2 hx3 hcode hlt
  go_enter Try.func11, Try.ntmps11
  go_wp2_with fail
  refine (c1 _).mono ?_
  rintro e w1 ⟨rfl, ho1⟩
  clear c1
  go_wp2_with fail
  refine (c2 _).mono ?_
  rintro e w2 ⟨rfl, ho2⟩
  clear c2
  go_wp2_with fail
  refine (c3 _).mono ?_
  rintro e w3 ⟨rfl, ho3⟩
  clear c3
  go_wp2_with fail
  have ho3' : Only Nil w w3 := (ho1.trans ho2 (fun _ _ h => h)).trans ho3 (fun _ _ h => h)
  have hsrc := src_u32 w3 cKnown 26 Nil _ (Only.refl _ _) (fun h => h)
  rw [HC.out] at hsrc
  simp only [U32s, List.map_cons, List.map_nil, List.length_cons, List.length_nil, Nat.zero_add, Nat.reduceAdd] at hsrc
  have cN := new_any (Q := Nil) [x1, x2, x3] [] 4 4 (by decide) w3.heap.size 0 _ _ _ hsrc (src_none _ 0) (by simp) (by simp) (by decide) (fun _ h => h.elim)
  clear hsrc
  refine cN.mono ?_
  rintro e w4 ⟨mb, wb, cv', iv', rfl, hmb, hwb, ho4, hM4⟩
  clear cN
  have ho4' : Only Nil w w4 := ((ho3'.alloc _).trans ho4 (fun _ _ h => h))
  have hm4 : w.heap.size ≤ mb := by have := ho3'.size; simp only [World.size_alloc] at hmb; omega
  have hw4 : w.heap.size ≤ wb := by have := ho3'.size; simp only [World.size_alloc] at hwb; omega
  have hs4 : (s0 4 []).Ok := s0_ok 4 [] (by decide) (fun _ h => by cases h)
  have cR := run_any mb wb none [x1, x2, x3] cv' iv' (.slice none 0 0) (s0 4 []) w4 hs4 (by rw [← HC.out]; exact HLT.out) (by simp) hM4 10 (by decide) (by decide) (by decide) (t := sKnown) (by rw [← HC.out]; exact run_known)
  rw [show ((sKnown.fin : Nat) : Int) = 1 from rfl, show ((sKnown.trap : Nat) : Int) = 0 from rfl, show sKnown.out = [65] from rfl] at cR
  clear hM4 ho1 ho2 ho3
  go_wp2_with fail
  refine cR.mono ?_
  rintro e w5 ⟨ob5, iv5, ov5, rv, rfl, hw5, hown5, hM5⟩
  clear cR
  obtain ⟨ao9, n9, cap9, rfl⟩ := ownsRow_slice hown5
  have hlt5 := hM5.1.lt
  go_wp2_with fail
  have cG := fun (w' : World) (ho : Only Nil w5 w') => reg_any mb 1 cv' _ iv5 ov5 sKnown w' (hM5.1.kept ho (fun h => h)) (by decide)
  rw [show ((1 : Nat) : Int) = 1 from rfl, show ((sKnown.R 1 : Nat) : Int) = 65 from rfl] at cG
  have HM := Lib.hid hM5
  clear hM5
  refine (cG _ ((Only.refl _ _).alloc _)).mono ?_
  rintro e w6 ⟨rfl, rfl⟩
  clear cG
  have hstr := conv_src _ _ _ _ ((Src.of_own hown5).kept ((Only.refl Nil w5).alloc (.cells #[Value.slice ao9 n9 cap9, .int .i64 1, .int .i64 0] 39)) (fun _ h => h))
  have hA : ((strOf [65]).toList == [65]) = true := by rw [ByteArray.toList_eq]; decide
  obtain ⟨T, hT⟩ : ∃ T, strOf [65] = T := ⟨_, rfl⟩
  rw [hT] at hstr hA
  go_wp2_with fail
  have hs5 : sKnown.Ok := by rw [← run_known]; exact (run_ok HLT.out (by decide) 10 hs4).1
  have cS := fun (w' : World) (ho : Only Nil w5 w') => step_any mb wb ob5 [x1, x2, x3] cv' iv5 ov5 sKnown w' hs5 (by rw [← HC.out]; exact HLT.out) (by simp) (HM.out.quiet ho) (by decide)
  rw [show (sKnown.fin == 0) = false from rfl] at cS
  refine (cS _ ((Only.refl _ _).alloc _)).mono ?_
  rintro e w7 ⟨ob7, iv7, ov7, rfl, hw7, hM7⟩
  clear cS
  go_wp2_with fail
  go_ret
  refine ⟨rfl, ?_⟩
  have q5 := went_fresh ho4' hw5 hm4 hw4
  exact went_fresh' (q5.alloc _) hw7 hm4 hw4 (went_ob hw5 ho4'.size)
end Go.Proofs.Ythimhbfglgnohaa

/- A list of instructions becomes words. -/
set_option linter.unusedSimpArgs false
set_option linter.unusedVariables false
namespace Go.Proofs.Ythimhbfglgnohaa
open Go.RowKit M

/-- A row of instructions. -/
def InsRow (w : World) (b : Nat) (L : List Ins) : Prop := ∀ k i j, L[k]? = some i → j < 8 → w.cell? ⟨b, k * 8 + j, none⟩ = i.cells[j]?
theorem flat_cell (L : List Ins) (k : Nat) (i : Ins) (j : Nat) (h : L[k]? = some i) (hj : j < 8) : (L.flatMap (fun i => i.cells.toList))[k * 8 + j]? = i.cells[j]? := by
  induction L generalizing k with
  | nil => simp at h
  | cons x t ih =>
    rw [List.flatMap_cons]
    have hx : x.cells.toList.length = 8 := rfl
    cases k with
    | zero =>
      simp only [List.getElem?_cons_zero, Option.some.injEq] at h
      subst h
      rw [List.getElem?_append_left (by omega), Nat.zero_mul, Nat.zero_add]
      simp
    | succ k =>
      rw [List.getElem?_append_right (by omega), hx, show (k + 1) * 8 + j - 8 = k * 8 + j by omega]
      exact ih k (by simpa using h)
theorem insRow_new (w : World) (L : List Ins) (t : TypeId) {S : Nat → Prop} {w' : World} (ho : Only S (w.alloc (.cells (L.flatMap (fun i => i.cells.toList)).toArray t)) w') (hS : ¬ S w.heap.size) : InsRow w' w.heap.size L := by
  intro k i j h hj
  rw [((Blk.new w (L.flatMap (fun i => i.cells.toList)).toArray t).kept ho hS).cell]
  simpa using flat_cell L k i j h hj
theorem InsRow.kept {S : Nat → Prop} {w w' : World} {b : Nat} {L : List Ins} (h : InsRow w b L) (ho : Only S w w') (hS : ¬ S b) : InsRow w' b L := by
  intro k i j hk hj
  have h1 := h k i j hk hj
  have hi : j < i.cells.size := hj
  rw [Array.getElem?_eq_getElem hi] at h1 ⊢
  exact ho.cell h1 hS

set_option maxHeartbeats 1600000 in
theorem put_any (b : Nat) (L : List Ins) (cap : Nat) (w : World) (hr : InsRow w b L) (hg : ∀ i ∈ L, i.Good) (hl : L.length ≤ 1000) (hcap : L.length ≤ cap) (hcm : cap ≤ maxLen) :
    Calls Try.prog 25 #[.slice (some ⟨b, 0, none⟩) L.length cap] w fun e w' => ∃ sv, e = .returned sv ∧ w'.ownsRow w.heap.size 26 1 sv L.length (U32s (L.map enc)) ∧ Only Nil w w' := by
  obtain ⟨i0, hi, hz0, hz1, hz2⟩ := info_parts infoU32
  obtain ⟨n, hn⟩ : ∃ n, L.length = n := ⟨_, rfl⟩
  rw [hn] at hl hcap ⊢
  have HN := Lib.hid hn
  have HR := Lib.hid hr
  have HG := Lib.hid hg
  clear hn hr hg
  go_enter Try.func25, Try.ntmps25
  go_wp2_with fail
  go_loopg [3, 4] n (fun m t i wr => m ≤ n ∧ i = .int .i64 ((n - m : Nat) : Int) ∧ wr.ownsRow w.heap.size 26 1 t (n - m) (U32s ((L.take (n - m)).map enc)) ∧ Only Nil w wr)
  case atStart => exact ⟨Nat.le_refl _, by simp, by simpa [U32s] using World.ownsRow_nil _ _ _ _, Only.refl _ _⟩
  case round =>
    obtain ⟨hm, rfl, hown, ho⟩ := hrel
    obtain ⟨m, rfl⟩ : ∃ m, m = gk := ⟨gk, rfl⟩
    obtain ⟨k, hk⟩ : ∃ k, n - m = k := ⟨_, rfl⟩
    rw [hk] at hown ⊢
    have hkn : k ≤ n := by omega
    have HK := Lib.hid hk
    clear hk
    by_cases hkl : k < n
    · have hkl2 : k < L.length := by rw [HN.out]; exact hkl
      have hat : L[k]? = some L[k] := List.getElem?_eq_getElem hkl2
      have hG : (L[k]).Good := HG.out _ (List.getElem_mem _)
      have ht : L.take (k + 1) = L.take k ++ [L[k]] := by rw [List.take_succ_eq_append_getElem hkl2]
      have hR := HR.out.kept ho (fun h => h)
      obtain ⟨y, hy⟩ : ∃ y, L[k] = y := ⟨_, rfl⟩
      rw [hy] at hat hG ht
      have r0 := hR k y 0 hat (by decide)
      have r1 := hR k y 1 hat (by decide)
      have r2 := hR k y 2 hat (by decide)
      have r3 := hR k y 3 hat (by decide)
      have r4 := hR k y 4 hat (by decide)
      have r5 := hR k y 5 hat (by decide)
      have r6 := hR k y 6 hat (by decide)
      have r7 := hR k y 7 hat (by decide)
      have cE := fun w => encR_good y w hG
      obtain ⟨x, hx⟩ : ∃ x, enc y = x := ⟨_, rfl⟩
      rw [hx] at cE
      have HX := Lib.hid hx
      obtain ⟨F, u, v, A, B, C, o, mm⟩ := y
      unfold Ins.val at cE
      unfold Ins.cells at cE r0 r1 r2 r3 r4 r5 r6 r7
      simp only [List.getElem?_toArray, List.getElem?_cons_zero, List.getElem?_cons_succ, Nat.add_zero] at cE r0 r1 r2 r3 r4 r5 r6 r7
      have hsz := ho.size
      have HT := Lib.hid ht
      have k0 : (0 : Int) ≤ (k : Int) := Int.natCast_nonneg _
      have k1 : (k : Int) < (n : Int) := by omega
      clear hy ht hat hG hR hx
      go_wp2_with fail
      refine (cE _).mono ?_
      rintro e w1 ⟨rfl, ho1⟩
      clear cE
      have hsz1 := ho1.size
      have hown2 : w1.ownsRow w.heap.size 26 1 u3 k (U32s ((L.take k).map enc)) := ownsRow_only hown ho1 (fun _ _ h => h)
      clear r0 r1 r2 r3 r4 r5 r6 r7
      have hown3 := hown2
      clear hown
      go_wp2_with (with_reducible refine wpList_append_one rfl _ _ 25 rfl w.heap.size 26 i0 (.int .u32 0) 4 Try.underlying25 hi hz0 hz1 hz2 rfl _ _ _ rfl hown3 _ rfl rfl ?c1 ?c2 ?c3 ?_)
      case c1 => simp [maxLen]; omega
      case c2 => omega
      case c3 => omega
      intro g cap2 w2 hown4 hc4 hc5 hg4 ho4
      have ho5 : Only Nil w w2 := (ho.trans ho1 (fun _ _ h => h)).nil_own hown2 ho4
      clear hown2 hown3 ho4 ho1 ho hsz hsz1 hg4
      go_wp2_with fail
      go_roundg (m - 1)
      case measure => have := HK.out; omega
      case rel =>
        refine ⟨by omega, by have := HK.out; go_num, ?_, ho5⟩
        rw [show n - (m - 1) = k + 1 by have := HK.out; omega, HT.out, List.map_append, List.map_cons, List.map_nil, HX.out]
        simpa [U32s] using hown4
    · have hkl2 : k = n := by omega
      subst hkl2
      go_wp2_with fail
      go_ret
      refine ⟨_, rfl, ?_, ho⟩
      rw [← HN.out, List.take_length] at hown
      rw [← HN.out]
      exact hown
end Go.Proofs.Ythimhbfglgnohaa

/- The walk of the law RiscEcho. -/
set_option linter.unusedSimpArgs false
set_option linter.unusedVariables false
namespace Go.Proofs.Ythimhbfglgnohaa
open Go.RowKit M

def lEcho : List Ins := [⟨2, false, false, 1, 0, 0, 0, -60⟩, ⟨3, true, false, 9, 0, 0, 0, 3⟩, ⟨2, false, false, 1, 0, 0, 0, -64⟩, ⟨2, true, false, 1, 0, 0, 0, -64⟩, ⟨3, true, false, 7, 0, 0, 0, -5⟩, iEnd]
theorem map_lt {L : List Ins} (h : ∀ i ∈ L, i.Good) : ∀ x ∈ L.map enc, x < 4294967296 := fun x hx => by
  obtain ⟨i, hi, rfl⟩ := List.mem_map.1 hx
  exact enc_lt i (h i hi)
theorem lEcho_good : ∀ i ∈ lEcho, i.Good := by
  intro i hi
  unfold lEcho at hi
  simp only [List.mem_cons, List.not_mem_nil, or_false] at hi
  rcases hi with rfl | rfl | rfl | rfl | rfl | rfl
  · exact goodM _ _ _ (by decide) (by decide)
  · exact goodB _ 9 (by decide) _ (by decide) (by decide)
  · exact goodM _ _ _ (by decide) (by decide)
  · exact goodM _ _ _ (by decide) (by decide)
  · exact goodB _ 7 (by decide) _ (by decide) (by decide)
  · exact iEnd_good

set_option maxHeartbeats 3200000 in
theorem echo_any (b : Nat) (ao : Option Addr) (len cap : Nat) (B : List Nat) (w : World) (hs : Src w b (.slice ao len cap) (U8s B)) (hl : B.length = len) (hB : ∀ x ∈ B, x < 256) :
    Calls Try.prog 7 #[.slice ao len cap] w fun e w' => e = .returned (.bool true) ∧ Only Nil w w' := by
  have cK := known_any w
  by_cases h60 : 60 < len
  · have h60' : (60 : Int) < (len : Int) := by omega
    clear hs hB hl
    go_enter Try.func7, Try.ntmps7
    go_wp2_with fail
    refine cK.mono ?_
    rintro e w1 ⟨rfl, ho1⟩
    clear cK
    go_wp2_with fail
    go_ret
    exact ⟨rfl, ho1⟩
  · have h60' : (len : Int) ≤ 60 := by omega
    have h60n : len ≤ 60 := by omega
    have HS := Lib.hid hs
    have HB := Lib.hid hB
    have HL := Lib.hid hl
    clear hs hB hl h60
    go_enter Try.func7, Try.ntmps7
    go_wp2_with fail
    refine cK.mono ?_
    rintro e w1 ⟨rfl, ho1⟩
    clear cK
    go_wp2_with fail
    have hr := insRow_new w1 lEcho 49 (Only.refl Nil _) (fun h => h)
    have cP := put_any w1.heap.size lEcho 6 _ hr lEcho_good (by decide) (by decide) (by decide)
    clear hr
    refine cP.mono ?_
    rintro e w2 ⟨sv, rfl, hown2, ho2⟩
    clear cP
    have ho2' : Only Nil w w2 := (ho1.alloc _).trans ho2 (fun _ _ h => h)
    go_wp2_with fail
    have hme : lEcho.map enc = cEcho := rfl
    have hsB2 := HS.out.kept ho2' (fun _ h => h)
    have cN := new_any (Q := Nil) cEcho B 0 0 (by decide) (sv.ownBlock.getD 0) b sv (.slice ao len cap) w2 (by rw [← hme]; exact Src.of_own hown2) hsB2 (by decide) (by have := HL.out; omega) (by decide) (fun _ h => h.elim)
    refine cN.mono ?_
    rintro e w4 ⟨mb, wb, cv', iv', rfl, hmb, hwb, ho4, hM4⟩
    clear cN hown2
    have ho4' : Only Nil w w4 := ho2'.trans ho4 (fun _ _ h => h)
    have hm4 : w.heap.size ≤ mb := Nat.le_trans ho2'.size hmb
    have hw4 : w.heap.size ≤ wb := Nat.le_trans ho2'.size hwb
    have hs4 : (s0 0 B).Ok := s0_ok 0 B (by decide) HB.out
    have hrun := echo_run B HB.out (s0 0 B) rfl rfl rfl rfl rfl
    rw [HL.out] at hrun
    obtain ⟨t, ht⟩ : ∃ t, M.run cEcho (5 * len + 3) (s0 0 B) = t := ⟨_, rfl⟩
    rw [ht] at hrun
    have hto : t.out = B := hrun.1
    have htf : t.fin = 1 := hrun.2
    have hF : (5 * (len : Int) + 3).toNat = 5 * len + 3 := by omega
    have cR := run_any mb wb none cEcho cv' iv' (.slice none 0 0) (s0 0 B) w4 hs4 (by rw [← hme]; exact map_lt lEcho_good) (by decide) hM4 (5 * (len : Int) + 3) (by omega) (by omega) (by rw [hF]; show 0 + _ ≤ _; omega) (t := t) (by rw [hF]; exact ht)
    rw [hto, htf, show ((1 : Nat) : Int) = 1 from rfl] at cR
    clear hM4 hme hrun ht hto htf hF ho1 ho2
    go_wp2_with fail
    refine cR.mono ?_
    rintro e w5 ⟨ob5, iv5, ov5, rv, rfl, hw5, hown5, hM5⟩
    clear cR
    obtain ⟨ao9, n9, cap9, rfl⟩ := ownsRow_slice hown5
    have hlt5 := hM5.1.lt
    have ho5 := went_fresh ho4' hw5 hm4 hw4
    have hc1 := conv_src _ _ _ _ ((Src.of_own hown5).kept ((Only.refl Nil w5).alloc (.cells #[Value.slice ao9 n9 cap9, .int .i64 1, .int .i64 (t.trap : Nat)] 39)) (fun _ h => h))
    have hc2 := conv_src _ _ _ _ (HS.out.kept (ho5.alloc (.cells #[Value.slice ao9 n9 cap9, .int .i64 1, .int .i64 (t.trap : Nat)] 39)) (fun _ h => h))
    obtain ⟨T, hT⟩ : ∃ T, strOf B = T := ⟨_, rfl⟩
    rw [hT] at hc1 hc2
    have HO := Lib.hid ho5
    clear hM5 hown5 hw5 ho5 ho4' hsB2
    go_wp2_with fail
    go_ret
    exact ⟨by simp, HO.out.alloc _⟩
end Go.Proofs.Ythimhbfglgnohaa

/- Two results are held against one another. -/
namespace Go.Proofs.Ythimhbfglgnohaa
open Go.RowKit M

/-- Of the same bytes, ended alike: the same. -/
theorem helpResult_same (b1 b2 : Nat) (r1 r2 : Value) (B : List Nat) (f t : Int) (w : World) (h1 : Src w b1 r1 (U8s B)) (h2 : Src w b2 r2 (U8s B)) :
    Calls Try.prog 19 #[.agg #[r1, .int .i64 f, .int .i64 t], .agg #[r2, .int .i64 f, .int .i64 t]] w fun e w' => e = .returned (.bool true) ∧ Only Nil w w' := by
  have e1 : ∃ ao n cap, r1 = .slice ao n cap := by obtain ⟨ao, cap, off, h, _⟩ := h1; exact ⟨_, _, _, h⟩
  have e2 : ∃ ao n cap, r2 = .slice ao n cap := by obtain ⟨ao, cap, off, h, _⟩ := h2; exact ⟨_, _, _, h⟩
  obtain ⟨a1, n1, c1, rfl⟩ := e1
  obtain ⟨a2, n2, c2, rfl⟩ := e2
  have ho : Only Nil w ((w.alloc (.cells #[Value.slice a1 n1 c1, .int .i64 f, .int .i64 t] 39)).alloc (.cells #[Value.slice a2 n2 c2, .int .i64 f, .int .i64 t] 39)) := ((Only.refl Nil w).alloc _).alloc _
  have v1 := conv_src _ _ _ B (h1.kept ho (fun _ h => h))
  have v2 := conv_src _ _ _ B (h2.kept ho (fun _ h => h))
  obtain ⟨T, hT⟩ : ∃ T, strOf B = T := ⟨_, rfl⟩
  rw [hT] at v1 v2
  have HO := Lib.hid ho
  clear h1 h2 hT ho
  go_enter Try.func19, Try.ntmps19
  go_wp2_with fail
  go_ret
  exact ⟨by simp, HO.out⟩
end Go.Proofs.Ythimhbfglgnohaa


/- The walk of the law RiscInside. -/
import Derived.Test.YthimhbfglgnohaaKFlags
set_option linter.unusedSimpArgs false
set_option linter.unusedVariables false
namespace Go.Proofs.Ythimhbfglgnohaa
open Go.RowKit M

theorem ownsRow_len {w : World} {base : Nat} {e : TypeId} {size : Nat} {v : Value} {n : Nat} {xs : List Value} (h : w.ownsRow base e size v n xs) : ∃ ao cap, v = .slice ao n cap := by
  rcases h.2 with ⟨rfl, rfl⟩ | ⟨g, cap, cur, rfl, _⟩
  · exact ⟨_, _, rfl⟩
  · exact ⟨_, _, rfl⟩
theorem src_u8 (w : World) (l : List Nat) (t : TypeId) (S : Nat → Prop) (w' : World) (ho : Only S (w.alloc (.cells (U8s l).toArray t)) w') (hS : ¬ S w.heap.size) : Src w' w.heap.size (.slice (some ⟨w.heap.size, 0, none⟩) l.length l.length) (U8s l) := by
  have hB := (Blk.new w (U8s l).toArray t).kept ho hS
  refine ⟨_, l.length, 0, by rw [U8s_len'], fun _ => rfl, nofun, fun i u hu => ?_⟩
  rw [Nat.zero_add, hB.cell i]
  simpa using hu
theorem goodS (st : Bool) : (Ins.mk 2 st false 3 2 0 0 0).Good := by unfold Ins.Good; simp
theorem cInside_lt (p v : Nat) (st : Bool) (hp : p < 4294967296) (hv : v < 65536) : ∀ x ∈ cInside p v st, x < 4294967296 := by
  intro x hx
  unfold cInside at hx
  simp only [List.mem_cons, List.not_mem_nil, or_false] at hx
  rcases hx with rfl | rfl | rfl | rfl | rfl
  · exact enc_lt _ (good1 true false 2 0 0 _ (by decide) (by decide) (by decide) (high_le hp))
  · exact enc_lt _ (good1 false false 2 2 6 _ (by decide) (by decide) (by decide) (low_le p))
  · exact enc_lt _ (good1 false false 3 0 0 _ (by decide) (by decide) (by decide) (by omega))
  · exact enc_lt _ (goodS st)
  · exact enc_lt _ iEnd_good

set_option maxRecDepth 20000 in
set_option maxHeartbeats 1600000 in
theorem insideLaw_any (p n v : Nat) (st : Bool) (w : World) (hp : p < 4294967296) (hn : n < 256) (hv : v < 65536) :
    Calls Try.prog 6 #[.int .u32 p, .int .u8 n, .bool st, .int .u16 v] w fun e w' => e = .returned (.bool true) ∧ Only Nil w w' := by
  have cK := known_any w
  obtain ⟨s1, run1, res1⟩ := inside_run p n v st hp hn hv
  have hs4 : (s0 n [9]).Ok := s0_ok n [9] (by omega) (fun x hx => by rw [List.mem_singleton.1 hx]; decide)
  have hlt := cInside_lt p v st hp hv
  have hok1 : s1.Ok := by rw [← run1]; exact (run_ok hlt (Nat.le_of_ble_eq_true rfl) 9 hs4).1
  have hml1 : s1.mem.length = n := by
    have := (run_ok hlt (Nat.le_of_ble_eq_true rfl) 9 hs4).2.1
    rw [run1] at this
    rw [this]; show (List.replicate n 0).length = n; simp
  have c1 := fun w => encR_good ⟨1, true, false, 2, 0, 0, 0, (p / 65536 : Nat)⟩ w (good1 true false 2 0 0 _ (by decide) (by decide) (by decide) (high_le hp))
  have c2 := fun w => encR_good ⟨1, false, false, 2, 2, 0, 6, (p % 65536 : Nat)⟩ w (good1 false false 2 2 6 _ (by decide) (by decide) (by decide) (low_le p))
  have c3 := fun w => encR_good ⟨1, false, false, 3, 0, 0, 0, v⟩ w (good1 false false 3 0 0 v (by decide) (by decide) (by decide) (by omega))
  have c4 := fun w => encR_good ⟨2, st, false, 3, 2, 0, 0, 0⟩ w (goodS st)
  have c5 := fun w => encR_good iEnd w iEnd_good
  have ea1 := wrap_high p hp
  have ea2 := bits_low p hp
  have ea3 := wrap_low p
  have ev : wrap32 (v : Int) = (v : Int) := w32_in _ (by unfold I32; omega)
  have hcode : cInside p v st = [enc ⟨1, true, false, 2, 0, 0, 0, (p / 65536 : Nat)⟩, enc ⟨1, false, false, 2, 2, 0, 6, (p % 65536 : Nat)⟩, enc ⟨1, false, false, 3, 0, 0, 0, v⟩, enc ⟨2, st, false, 3, 2, 0, 0, 0⟩, enc iEnd] := rfl
  obtain ⟨x1, hx1⟩ : ∃ x, enc ⟨1, true, false, 2, 0, 0, 0, (p / 65536 : Nat)⟩ = x := ⟨_, rfl⟩
  obtain ⟨x2, hx2⟩ : ∃ x, enc ⟨1, false, false, 2, 2, 0, 6, (p % 65536 : Nat)⟩ = x := ⟨_, rfl⟩
  obtain ⟨x3, hx3⟩ : ∃ x, enc ⟨1, false, false, 3, 0, 0, 0, v⟩ = x := ⟨_, rfl⟩
  obtain ⟨x4, hx4⟩ : ∃ x, enc ⟨2, st, false, 3, 2, 0, 0, 0⟩ = x := ⟨_, rfl⟩
  obtain ⟨x5, hx5⟩ : ∃ x, enc iEnd = x := ⟨_, rfl⟩
  rw [hx1, hx2, hx3, hx4, hx5] at hcode
  rw [hx1] at c1
  rw [hx2] at c2
  rw [hx3] at c3
  rw [hx4] at c4
  rw [hx5] at c5
  unfold Ins.val Ins.cells at c1 c2 c3 c4 c5
  unfold iEnd at c5
  simp only at c1 c2 c3 c4 c5
  obtain ⟨hi, hhi⟩ : ∃ q, p / 65536 = q := ⟨_, rfl⟩
  obtain ⟨lo, hlo⟩ : ∃ q, p % 65536 = q := ⟨_, rfl⟩
  rw [hhi] at ea1 c1
  rw [hlo] at ea2 ea3 c2
  obtain ⟨q, hq⟩ : ∃ q, p / 4 = q := ⟨_, rfl⟩
  have eq4 : (p : Int) / 4 = (q : Int) := by omega
  have eqm : (q : Int) % 4294967296 = (q : Int) := by omega
  have EQM := Lib.hid eqm
  clear eqm
  have HQ := Lib.hid hq
  have HC := Lib.hid hcode
  have HLT := Lib.hid hlt
  have HR := Lib.hid run1
  have HRES := Lib.hid res1
  have HP := Lib.hid hp
  have HV := Lib.hid hv
  clear hx1 hx2 hx3 hx4 hx5 hcode hlt run1 res1 hp hv hhi hlo hq
  go_enter Try.func6, Try.ntmps6
  go_wp2_with fail
  refine cK.mono ?_
  rintro e w0 ⟨rfl, ho0⟩
  clear cK
  go_wp2_with fail
  refine (c1 _).mono ?_
  rintro e w1 ⟨rfl, ho1⟩
  clear c1
  go_wp2_with fail
  refine (c2 _).mono ?_
  rintro e w2 ⟨rfl, ho2⟩
  clear c2
  go_wp2_with fail
  refine (c3 _).mono ?_
  rintro e w2' ⟨rfl, ho2'⟩
  clear c3
  go_wp2_with fail
  refine (c4 _).mono ?_
  rintro e w2'' ⟨rfl, ho2''⟩
  clear c4
  go_wp2_with fail
  refine (c5 _).mono ?_
  rintro e w3 ⟨rfl, ho3⟩
  clear c5 ea1 ea2 ea3 ev
  have ho3' : Only Nil w w3 := (((((ho0.trans ho1 (fun _ _ h => h)).trans ho2 (fun _ _ h => h))).trans ho2' (fun _ _ h => h)).trans ho2'' (fun _ _ h => h)).trans ho3 (fun _ _ h => h)
  clear ho0 ho1 ho2 ho2' ho2'' ho3
  go_wp2_with fail
  have hsA := src_u32 w3 (cInside p v st) 26 Nil (((w3.alloc (.cells (U32s (cInside p v st)).toArray 26))).alloc (.cells (U8s [9]).toArray 5)) ((Only.refl _ _).alloc _) (fun h => h)
  have hsB := src_u8 (w3.alloc (.cells (U32s (cInside p v st)).toArray 26)) [9] 5 Nil _ (Only.refl _ _) (fun h => h)
  have hoN : Only Nil w (((w3.alloc (.cells (U32s (cInside p v st)).toArray 26))).alloc (.cells (U8s [9]).toArray 5)) := (ho3'.alloc _).alloc _
  rw [HC.out] at hsA hsB hoN
  simp only [U32s, U8s, List.map_cons, List.map_nil, List.length_cons, List.length_nil, Nat.zero_add, Nat.reduceAdd, World.size_alloc] at hsA hsB hoN
  have cN := new_any (Q := Nil) [x1, x2, x3, x4, x5] [9] (n : Int) n (by rw [if_neg (by omega : ¬ (n : Int) < 0), if_neg (by omega)]) w3.heap.size (w3.heap.size + 1) _ _ _ hsA hsB (by simp) (by simp) (by omega) (fun _ h => h.elim)
  clear hsA hsB
  refine cN.mono ?_
  rintro e w4 ⟨mb, wb, cv', iv', rfl, hmb, hwb, ho4, hM4⟩
  clear cN
  have ho4' : Only Nil w w4 := hoN.trans ho4 (fun _ _ h => h)
  have hm4 : w.heap.size ≤ mb := Nat.le_trans hoN.size hmb
  have hw4 : w.heap.size ≤ wb := Nat.le_trans hoN.size hwb
  have cR := run_any mb wb none [x1, x2, x3, x4, x5] cv' iv' (.slice none 0 0) (s0 n [9]) w4 hs4 (by rw [← HC.out]; exact HLT.out) (by simp) hM4 9 (by decide) (by decide) (by show 0 + 9 ≤ 1099511627776; decide) (t := s1) (by rw [← HC.out]; exact HR.out)
  clear hM4 hmb hwb hoN ho4
  go_wp2_with fail
  refine cR.mono ?_
  rintro e w5 ⟨ob5, iv5, ov5, rv, rfl, hw5, hown5, hM5⟩
  clear cR
  have ho5 := went_fresh ho4' hw5 hm4 hw4
  have HO := Lib.hid ho5
  clear hw5 ho4' ho5
  have hres := HRES.out
  by_cases hA : p = 4294967232 ∨ p = 4294967236 ∧ st = false
  · rw [if_pos hA] at hres
    obtain ⟨ao9, n9, cap9, rfl⟩ := ownsRow_slice hown5
    rw [hres]
    clear hown5 hM5 hres HRES
    rcases hA with hA | ⟨hA, rfl⟩
    · have t1 : ((p : Int) == 4294967232) = true := by rw [beq_iff_eq]; omega
      clear hA
      go_wp2_with fail
      go_ret
      exact ⟨rfl, HO.out.alloc _⟩
    · have t1 : ((p : Int) == 4294967232) = false := by rw [beq_eq_false_iff_ne]; omega
      have t2 : ((p : Int) == 4294967236) = true := by rw [beq_iff_eq]; omega
      clear hA
      go_wp2_with fail
      go_ret
      exact ⟨rfl, HO.out.alloc _⟩
  · rw [if_neg hA] at hres
    have t1 : ((p : Int) == 4294967232) = false := by rw [beq_eq_false_iff_ne]; omega
    have t2 : (((p : Int) == 4294967236) = false) ∨ (((p : Int) == 4294967236) = true ∧ st = true) := by
      by_cases h : p = 4294967236
      · right
        refine ⟨by rw [beq_iff_eq]; omega, ?_⟩
        cases hst : st
        · exact absurd (Or.inr ⟨h, hst⟩) hA
        · rfl
      · left; rw [beq_eq_false_iff_ne]; omega
    have HQ' := HQ.out
    clear hA
    by_cases hB : p % 4 ≠ 0 ∨ n ≤ p / 4
    · rw [if_pos hB] at hres
      obtain ⟨hf, htr, hout⟩ := hres
      rw [hout] at hown5
      obtain ⟨ao9, cap9, rfl⟩ := ownsRow_len hown5
      rw [hf, htr, show (([] : List Nat).length) = 0 from rfl, show ((2 : Nat) : Int) = 2 from rfl, show ((15 : Nat) : Int) = 15 from rfl]
      clear hown5 hM5 hf htr hout HRES
      by_cases h4 : p % 4 = 0
      · have t3 : ((p : Int) % 4 != 0) = false := by rw [bne_eq_false_iff_eq]; omega
        have t4 : (n : Int) ≤ (q : Int) % 4294967296 := by rw [EQM.out]; omega
        clear hB h4 HQ'
        rcases t2 with t2 | ⟨t2, rfl⟩
        · go_wp2_with fail
          go_ret
          exact ⟨rfl, HO.out.alloc _⟩
        · go_wp2_with fail
          go_ret
          exact ⟨rfl, HO.out.alloc _⟩
      · have t3 : ((p : Int) % 4 != 0) = true := by rw [bne_iff_ne]; omega
        clear hB h4 HQ'
        rcases t2 with t2 | ⟨t2, rfl⟩
        · go_wp2_with fail
          go_ret
          exact ⟨rfl, HO.out.alloc _⟩
        · go_wp2_with fail
          go_ret
          exact ⟨rfl, HO.out.alloc _⟩
    · rw [if_neg hB] at hres
      obtain ⟨hf, _, hat⟩ := hres
      rw [HQ'] at hat
      obtain ⟨ao9, n9, cap9, rfl⟩ := ownsRow_slice hown5
      rw [hf, show ((1 : Nat) : Int) = 1 from rfl]
      have t3 : ((p : Int) % 4 != 0) = false := by rw [bne_eq_false_iff_eq]; omega
      have t4 : (q : Int) % 4294967296 < (n : Int) := by rw [EQM.out]; omega
      have cW := fun (w' : World) (ho : Only Nil w5 w') => word_any mb wb ob5 [x1, x2, x3, x4, x5] q cv' iv5 ov5 s1 w' hok1 (hM5.quiet ho) hat
      have hv0 := HV.out
      clear hown5 hM5 hf hat HRES hB HQ'
      cases st
      · rw [if_neg (by decide)] at cW
        rw [show ((0 : Nat) : Int) = 0 from rfl] at cW
        have t5 : ((p : Int) == 4294967236) = false := by
          rcases t2 with t2 | ⟨_, h⟩
          · exact t2
          · cases h
        clear t2
        go_wp2_with fail
        rw [EQM.out]
        refine (cW _ ((Only.refl _ _).alloc _)).mono ?_
        rintro e w6 ⟨rfl, rfl⟩
        clear cW
        go_wp2_with fail
        go_ret
        exact ⟨rfl, HO.out.alloc _⟩
      · rw [if_pos rfl] at cW
        rcases t2 with t2 | ⟨t2, _⟩
        all_goals
          go_wp2_with fail
          rw [EQM.out]
          refine (cW _ ((Only.refl _ _).alloc _)).mono ?_
          rintro e w6 ⟨rfl, rfl⟩
          clear cW
          go_wp2_with fail
          go_ret
          exact ⟨by simp, HO.out.alloc _⟩
end Go.Proofs.Ythimhbfglgnohaa

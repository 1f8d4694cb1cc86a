/- The walk of the law StackFull. -/
import Derived.Test.YtbgmdckfkfkglaaSEcho
set_option linter.unusedSimpArgs false
set_option linter.unusedVariables false
namespace Go.Proofs.Ytbgmdckfkfkglaa
open Go.RowKit M

theorem sF1_ss0 : ss0 10 0 [] = sF1 (List.replicate 10 0) 0 0 := rfl
theorem sF2_ss0 : ss0 10 0 [] = sF2 (List.replicate 10 0) 0 := rfl
theorem cF1_i32 : ∀ c ∈ cF1, I32 c.k := by intro c hc; simp [cF1] at hc; rcases hc with rfl | rfl <;> (unfold I32; decide)
theorem cF2_i32 : ∀ c ∈ cF2, I32 c.k := by intro c hc; simp [cF2] at hc; rcases hc with rfl | rfl <;> (unfold I32; decide)
theorem beq_cast (n : Nat) : (((n : Nat) : Int) == 0) = (n == 0) := by
  cases n <;> simp <;> omega

set_option maxRecDepth 10000 in
set_option maxHeartbeats 3200000 in
theorem full9Law_any (x : Nat) (hx : x ≤ 65535) (c : Bool) (w : World) :
    Calls Try.prog 7 #[.int .u16 x, .bool c] w fun e w' => e = .returned (.bool true) ∧ Only Nil w w' := by
  have cK := known9_any w
  obtain ⟨r, hr⟩ : ∃ r, x % 20 = r := ⟨_, rfl⟩
  have hr20 : r < 20 := by omega
  have hri : (x : Int) % 20 = (r : Int) := by omega
  obtain ⟨k, hk⟩ : ∃ k : Nat, 990 + r = k := ⟨_, rfl⟩
  have hki : (990 : Int) + (r : Int) = (k : Int) := by omega
  cases c
  · obtain ⟨t, ht, ht1, ht2⟩ := full1_end (List.replicate 10 0) k (by omega)
    rw [← sF1_ss0] at ht
    clear hr
    go_enter Try.func7, Try.ntmps7
    go_wp2_with fail
    refine cK.mono ?_
    rintro e w1 ⟨rfl, ho1⟩
    clear cK
    have HO1 := Lib.hid ho1
    clear ho1
    go_wp2_with fail
    have hs1 := csrc_alloc w1 cF1 49 #[.int .i64 1, .int .i32 7, .int .i64 25, .int .i32 0] rfl 2 rfl (by decide)
    have ho2 : Only Nil w1 (w1.alloc (.cells #[.int .i64 1, .int .i32 7, .int .i64 25, .int .i32 0] 49)) := (Only.refl _ _).alloc _
    have ho2' := HO1.out.trans ho2 (fun _ _ h => h)
    have cN := newS_any (Q := Nil) cF1 [] 10 0 10 0 10 0 (by decide) (by decide) (by decide) (by decide) w1.heap.size 0 _ _ _ hs1 (fun n cap h => by cases h) (srcB_none _ 0) (by decide) (by decide) (by decide) (fun _ h => h.elim)
    refine cN.mono ?_
    rintro e w4 ⟨mb, wb, cv', iv', rfl, hmb, hwb, ho4, hM4⟩
    clear cN hs1
    have ho4' : Only Nil w w4 := ho2'.trans ho4 (fun _ _ h => h)
    have hF4 : Fr3 w.heap.size mb wb (.slice none 0 0) (.slice none 0 0) (.slice none 0 0) := Fr3.new (by have := ho2'.size; omega) (by have := ho2'.size; omega)
    have hF : (2 * (k : Int) - 1).toNat = 2 * k - 1 := by omega
    have hok := sRun_ok (ss0_ok 10 0 [] (by decide) (by decide) (by intro x hx; cases hx)) cF1_i32 (by decide) (2 * k - 1)
    rw [ht] at hok
    have cR := runS_any mb wb cF1 cF1_i32 (by decide) (ss0 10 0 []) cv' _ _ iv' _ w4 hM4 (ss0_ok 10 0 [] (by decide) (by decide) (by intro x hx; cases hx)) (2 * (k : Int) - 1) (by omega) (by omega) (by rw [hF]; show 0 + _ ≤ _; omega) (t := t) (by rw [hF]; exact ht)
    have HF4 := Lib.hid hF4
    have HO4 := Lib.hid ho4'
    have HOK := Lib.hid hok
    have HT2 := Lib.hid ht2
    have HT1 := Lib.hid ht1
    have hk1 : 1 ≤ k := by omega
    clear hM4 hmb hwb ho4 hF4 ho4' ht ht1 ht2 hF hok ho2 ho2'
    go_wp2_with fail
    refine cR.mono ?_
    rintro e w5 ⟨sv5, kv5, iv5, ov5, rv, rfl, hg5, hown5, hM5⟩
    clear cR
    have ho5 := HF4.out.only HO4.out hg5
    obtain ⟨ao9, n9, cap9, rfl⟩ := ownsRow_slice hown5
    have hoA : Only Nil w5 (w5.alloc (.cells #[Value.slice ao9 n9 cap9, .int .i64 (t.fin : Nat), .int .i64 (t.trap : Nat)] 44)) := (Only.refl Nil w5).alloc _
    have cO := operandsS_any mb wb cF1 t _ _ _ _ _ _ (hM5.quiet hoA) HOK.out.1.nops
    have hf : (((t.fin : Nat) : Int) == 0) = decide ((k : Int) ≤ 1000) := by rw [beq_cast, HT1.out]; simp; omega
    obtain ⟨f, hff⟩ : ∃ f : Int, (t.fin : Int) = f := ⟨_, rfl⟩
    rw [hff] at hf hoA cO ⊢
    have hm : ((t.ops.length : Nat) : Int) = (if (k : Int) < 1000 then (k : Int) else 1000) := by rw [HT2.out]; split <;> omega
    have HO := Lib.hid (ho5.trans hoA (fun _ _ h => h))
    clear hM5 hown5 hg5 ho5 HF4 HO4 hff hoA
    go_wp2_with fail
    refine cO.mono ?_
    rintro e w7 ⟨v7, rfl, hown7, ho7⟩
    obtain ⟨a7, c7, rfl⟩ := sl_of_own hown7
    have ho8 := HO.out.trans ho7 (fun _ _ h => h)
    obtain ⟨m7, hm7⟩ : ∃ m, t.ops.length = m := ⟨_, rfl⟩
    rw [hm7] at hm ⊢
    clear hown7 ho7 cO hm7
    by_cases hkk : (k : Int) ≤ 1000
    · have hm2 : (m7 : Int) = (k : Int) := by rw [hm]; split <;> omega
      clear hm
      go_wp2_with fail
      all_goals
        go_ret
        exact ⟨by simp, ho8⟩
    · have hm2 : (m7 : Int) = 1000 := by rw [hm]; split <;> omega
      have hkk' : 1000 < (k : Int) := by omega
      clear hm hkk
      go_wp2_with fail
      all_goals
        go_ret
        exact ⟨by simp, ho8⟩
  · obtain ⟨t, ht, ht1, ht2⟩ := full2_end (List.replicate 10 0) k
    rw [← sF2_ss0] at ht
    clear hr
    go_enter Try.func7, Try.ntmps7
    go_wp2_with fail
    refine cK.mono ?_
    rintro e w1 ⟨rfl, ho1⟩
    clear cK
    have HO1 := Lib.hid ho1
    clear ho1
    go_wp2_with fail
    obtain ⟨w2, hw2⟩ : ∃ w2, w1.alloc (.cells #[.int .i64 1, .int .i32 7, .int .i64 25, .int .i32 0] 49) = w2 := ⟨_, rfl⟩
    have hoB : Only Nil w1 w2 := by rw [← hw2]; exact (Only.refl _ _).alloc _
    have hsz2 : w1.heap.size + 1 = w2.heap.size := by rw [← hw2]; simp
    rw [hw2, hsz2]
    clear hsz2
    have hs1 := csrc_alloc w2 cF2 49 #[.int .i64 27, .int .i32 0, .int .i64 0, .int .i32 0] rfl 2 rfl (by decide)
    have ho2 : Only Nil w2 (w2.alloc (.cells #[.int .i64 27, .int .i32 0, .int .i64 0, .int .i32 0] 49)) := (Only.refl _ _).alloc _
    have ho2' := (HO1.out.trans hoB (fun _ _ h => h)).trans ho2 (fun _ _ h => h)
    have cN := newS_any (Q := Nil) cF2 [] 10 0 10 0 10 0 (by decide) (by decide) (by decide) (by decide) w2.heap.size 0 _ _ _ hs1 (fun n cap h => by cases h) (srcB_none _ 0) (by decide) (by decide) (by decide) (fun _ h => h.elim)
    refine cN.mono ?_
    rintro e w4 ⟨mb, wb, cv', iv', rfl, hmb, hwb, ho4, hM4⟩
    clear cN hs1
    have ho4' : Only Nil w w4 := ho2'.trans ho4 (fun _ _ h => h)
    have hF4 : Fr3 w.heap.size mb wb (.slice none 0 0) (.slice none 0 0) (.slice none 0 0) := Fr3.new (by have := ho2'.size; omega) (by have := ho2'.size; omega)
    have hF : ((k : Int)).toNat = k := by omega
    have cR := runS_any mb wb cF2 cF2_i32 (by decide) (ss0 10 0 []) cv' _ _ iv' _ w4 hM4 (ss0_ok 10 0 [] (by decide) (by decide) (by intro x hx; cases hx)) (k : Int) (by omega) (by omega) (by rw [hF]; show 0 + _ ≤ _; omega) (t := t) (by rw [hF]; exact ht)
    have HF4 := Lib.hid hF4
    have HO4 := Lib.hid ho4'
    have HT2 := Lib.hid ht2
    have HT1 := Lib.hid ht1
    clear hM4 hmb hwb ho4 hF4 ho4' ht ht1 ht2 hF ho2 ho2' hoB hw2
    go_wp2_with fail
    refine cR.mono ?_
    rintro e w5 ⟨sv5, kv5, iv5, ov5, rv, rfl, hg5, hown5, hM5⟩
    clear cR
    have ho5 := HF4.out.only HO4.out hg5
    obtain ⟨ao9, n9, cap9, rfl⟩ := ownsRow_slice hown5
    have hoA : Only Nil w5 (w5.alloc (.cells #[Value.slice ao9 n9 cap9, .int .i64 (t.fin : Nat), .int .i64 (t.trap : Nat)] 44)) := (Only.refl Nil w5).alloc _
    have hf : (((t.fin : Nat) : Int) == 0) = decide ((k : Int) ≤ 1000) := by rw [beq_cast, HT1.out]; simp; omega
    have hfz : t.fin = 0 ∨ t.trap = 15 := HT2.out
    obtain ⟨f, hff⟩ : ∃ f : Int, (t.fin : Int) = f := ⟨_, rfl⟩
    obtain ⟨d, hd⟩ : ∃ d : Int, (t.trap : Int) = d := ⟨_, rfl⟩
    have hfd : (f == 0) = true ∨ ((f == 0) = false ∧ d = 15) := by
      rcases hfz with h | h
      · exact Or.inl (by rw [← hff, h]; rfl)
      · by_cases h0 : f = 0
        · exact Or.inl (by rw [h0]; rfl)
        · exact Or.inr ⟨by simpa using h0, by rw [← hd, h]; rfl⟩
    rw [hff] at hf hoA ⊢
    rw [hd] at hoA ⊢
    have HO := Lib.hid (ho5.trans hoA (fun _ _ h => h))
    clear hM5 hown5 hg5 ho5 HF4 HO4 hff hoA hd hfz HT1 HT2
    obtain ⟨g, hg⟩ : ∃ g, decide ((k : Int) ≤ 1000) = g := ⟨_, rfl⟩
    rw [hg] at hf
    rcases hfd with h0 | ⟨h0, rfl⟩
    · rw [h0] at hf
      subst hf
      go_wp2_with fail
      go_ret
      exact ⟨by simp, HO.out⟩
    · rw [h0] at hf
      subst hf
      go_wp2_with fail
      go_ret
      exact ⟨by simp, HO.out⟩
end Go.Proofs.Ytbgmdckfkfkglaa

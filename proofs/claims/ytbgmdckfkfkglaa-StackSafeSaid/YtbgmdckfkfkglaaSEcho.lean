/- The stack laws' known; the loop that reads and writes. -/
import Derived.Test.YtbgmdckfkfkglaaSKnow
set_option linter.unusedSimpArgs false
set_option linter.unusedVariables false
namespace Go.Proofs.Ytbgmdckfkfkglaa
open Go.RowKit M
variable {Q : Nat → Prop}

theorem srcB_none (w : World) (b : Nat) : Src w b (.slice none 0 0) (U8s []) := ⟨none, 0, 0, rfl, (fun h => absurd h (Nat.lt_irrefl 0)), (fun _ => rfl), (fun i u hu => by simp [U8s] at hu)⟩
theorem csrc_alloc (w : World) (L : List Cod) (t : TypeId) (cs : Array Value) (hc : cs.toList = codCells L) (n : Nat) (hn : L.length = n) (hm : n ≤ 1000) : CSrc (w.alloc (.cells cs t)) w.heap.size (.slice (some ⟨w.heap.size, 0, none⟩) n n) L := by
  subst hn
  exact ⟨_, L.length, 0, rfl, Nat.le_refl _, by unfold maxLen; omega, fun _ => rfl, cAt_new w L t cs hc (Only.refl Nil _) (fun h => h)⟩

set_option maxRecDepth 10000 in
set_option maxHeartbeats 3200000 in
theorem known9_any (w : World) : Calls Try.prog 20 #[] w fun e w' => e = .returned (.bool true) ∧ Only Nil w w' := by
  go_enter Try.func20, Try.ntmps20
  go_wp2_with fail
  have hs1 := csrc_alloc w cK9 49 #[.int .i64 1, .int .i32 65, .int .i64 33, .int .i32 0, .int .i64 0, .int .i32 0] rfl 3 rfl (by decide)
  have cN := newS_any (Q := Nil) cK9 [] 4 0 4 0 4 0 (by decide) (by decide) (by decide) (by decide) w.heap.size 0 _ _ _ hs1 (fun n cap h => by cases h) (srcB_none _ 0) (by decide) (by decide) (by decide) (fun _ h => h.elim)
  refine cN.mono ?_
  rintro e w4 ⟨mb, wb, cv', iv', rfl, hmb, hwb, ho4, hM4⟩
  clear cN hs1
  have ho1 : Only Nil w (w.alloc (.cells #[.int .i64 1, .int .i32 65, .int .i64 33, .int .i32 0, .int .i64 0, .int .i32 0] 49)) := (Only.refl _ _).alloc _
  have ho4' : Only Nil w w4 := ho1.trans ho4 (fun _ _ h => h)
  have hF4 : Fr3 w.heap.size mb wb (.slice none 0 0) (.slice none 0 0) (.slice none 0 0) := Fr3.new (by have := ho1.size; omega) (by have := ho1.size; omega)
  have cR := runS_any mb wb cK9 (by intro c hc; simp [cK9] at hc; rcases hc with rfl | rfl | rfl <;> (unfold I32; decide)) (by decide) (ss0 4 0 []) cv' _ _ iv' _ w4 hM4 (ss0_ok 4 0 [] (by decide) (by decide) (by intro x hx; cases hx)) 9 (by decide) (by decide) (by decide) (t := sK9) run_k9
  rw [show ((sK9.fin : Nat) : Int) = 1 from rfl, show ((sK9.trap : Nat) : Int) = 0 from rfl, show sK9.out = [65] from rfl] at cR
  have HF4 := Lib.hid hF4
  have HO4 := Lib.hid ho4'
  clear hM4 hmb hwb ho4 ho1 hF4 ho4'
  go_wp2_with fail
  refine cR.mono ?_
  rintro e w5 ⟨sv5, kv5, iv5, ov5, rv, rfl, hg5, hown5, hM5⟩
  clear cR
  have hF5 := HF4.out.gone HO4.out.size hg5
  have ho5 := HF4.out.only HO4.out hg5
  obtain ⟨ao9, n9, cap9, rfl⟩ := ownsRow_slice hown5
  have hstr := conv_src _ _ _ _ ((Src.of_own hown5).kept ((Only.refl Nil w5).alloc (.cells #[Value.slice ao9 n9 cap9, .int .i64 1, .int .i64 0] 44)) (fun _ h => h))
  have hA : ((strOf [65]).toList == [65]) = true := by rw [ByteArray.toList_eq]; decide
  obtain ⟨T, hT⟩ : ∃ T, strOf [65] = T := ⟨_, rfl⟩
  rw [hT] at hstr hA
  have HM := Lib.hid hM5
  have HF5 := Lib.hid hF5
  have HO5 := Lib.hid ho5
  clear hM5 hg5 hown5 hF5 ho5 hT HF4 HO4
  go_wp2_with fail
  have hoA : Only Nil w5 (w5.alloc (.cells #[Value.slice ao9 n9 cap9, .int .i64 1, .int .i64 0] 44)) := (Only.refl Nil w5).alloc _
  refine (pcS_any mb wb cK9 sK9 _ _ _ _ _ _ (HM.out.quiet hoA)).mono ?_
  rintro e w6 ⟨rfl, rfl⟩
  go_wp2_with fail
  refine (operandsS_any mb wb cK9 sK9 _ _ _ _ _ _ (HM.out.quiet hoA) (by decide)).mono ?_
  rintro e w7 ⟨v7, rfl, hown7, ho7⟩
  obtain ⟨a7, c7, rfl⟩ := sl_of_own hown7
  have ho57 := hoA.trans ho7 (fun _ _ h => h)
  clear hown7 ho7
  rw [show sK9.ops.length = 0 from rfl]
  go_wp2_with fail
  refine (stepS_any mb wb cK9 (by intro c hc; simp [cK9] at hc; rcases hc with rfl | rfl | rfl <;> (unfold I32; decide)) sK9 _ _ _ _ _ _ (HM.out.quiet ho57) (by rw [← run_k9]; exact (sRun_ok (ss0_ok 4 0 [] (by decide) (by decide) (by intro x hx; cases hx)) (by intro c hc; simp [cK9] at hc; rcases hc with rfl | rfl | rfl <;> (unfold I32; decide)) (by decide) 9).1) (by decide)).mono ?_
  rintro e w8 ⟨sv8, kv8, iv8, ov8, rfl, hg8, hM8⟩
  rw [show (sK9.fin == 0) = false from rfl]
  have ho8 := HF5.out.only (HO5.out.trans ho57 (fun _ _ h => h)) hg8
  clear hM8 hg8 ho57 hoA
  go_wp2_with fail
  go_ret
  exact ⟨rfl, ho8⟩

set_option maxRecDepth 10000 in
set_option maxHeartbeats 3200000 in
theorem echo9Law_any (ao : Option Addr) (len cap : Nat) (zs : List Int) (w : World) (hr : IsRow .u8 w ao len cap zs) :
    Calls Try.prog 11 #[.slice ao len cap] w fun e w' => e = .returned (.bool true) ∧ Only Nil w w' := by
  obtain ⟨b, B, hl, hs, _, hB⟩ := hr.bytes
  clear hr
  have cK := known9_any w
  by_cases h60 : 60 < len
  · have h60' : (60 : Int) < (len : Int) := by omega
    clear hs hB hl
    go_enter Try.func11, Try.ntmps11
    go_wp2_with fail
    refine cK.mono ?_
    rintro e w1 ⟨rfl, ho1⟩
    clear cK
    go_wp2_with fail
    go_ret
    exact ⟨rfl, ho1⟩
  · have h60' : (len : Int) ≤ 60 := by omega
    have h60n : len ≤ 60 := by omega
    have HS := Lib.hid hs
    have HB := Lib.hid hB
    have HL := Lib.hid hl
    clear hs hB hl h60
    go_enter Try.func11, Try.ntmps11
    go_wp2_with fail
    refine cK.mono ?_
    rintro e w1 ⟨rfl, ho1⟩
    clear cK
    have HO1 := Lib.hid ho1
    clear ho1
    go_wp2_with fail
    have hs1 := csrc_alloc w1 cE9 49 #[.int .i64 32, .int .i32 0, .int .i64 26, .int .i32 3, .int .i64 0, .int .i32 0, .int .i64 31, .int .i32 0, .int .i64 33, .int .i32 0, .int .i64 25, .int .i32 0] rfl 6 rfl (by decide)
    have ho2 : Only Nil w1 (w1.alloc (.cells #[.int .i64 32, .int .i32 0, .int .i64 26, .int .i32 3, .int .i64 0, .int .i32 0, .int .i64 31, .int .i32 0, .int .i64 33, .int .i32 0, .int .i64 25, .int .i32 0] 49)) := (Only.refl _ _).alloc _
    have ho2' := HO1.out.trans ho2 (fun _ _ h => h)
    have hin := HS.out.kept ho2' (fun _ h => h)
    have cN := newS_any (Q := Nil) cE9 B 0 0 0 0 0 0 (by decide) (by decide) (by decide) (by decide) w1.heap.size b _ _ _ hs1 (fun n cap h => by cases h) hin (by decide) (by have := HL.out; omega) (by decide) (fun _ h => h.elim)
    refine cN.mono ?_
    rintro e w4 ⟨mb, wb, cv', iv', rfl, hmb, hwb, ho4, hM4⟩
    clear cN hs1 hin
    have ho4' : Only Nil w w4 := ho2'.trans ho4 (fun _ _ h => h)
    have hF4 : Fr3 w.heap.size mb wb (.slice none 0 0) (.slice none 0 0) (.slice none 0 0) := Fr3.new (by have := ho2'.size; omega) (by have := ho2'.size; omega)
    have hrun := echo9_run B HB.out [] [] [] 0 0
    rw [HL.out, List.nil_append] at hrun
    have hF : (5 * (len : Int) + 3).toNat = 5 * len + 3 := by omega
    have cR := runS_any mb wb cE9 (by intro c hc; simp [cE9] at hc; rcases hc with rfl | rfl | rfl | rfl | rfl | rfl <;> (unfold I32; decide)) (by decide) (ss0 0 0 B) cv' _ _ iv' _ w4 hM4 (ss0_ok 0 0 B (by decide) (by decide) HB.out) (5 * (len : Int) + 3) (by omega) (by omega) (by rw [hF]; show 0 + _ ≤ _; omega) (t := ⟨[], [], [], [], B, 0, 0, 2, 1, 0⟩) (by rw [hF]; exact hrun)
    simp only at cR
    rw [show ((1 : Nat) : Int) = 1 from rfl, show ((0 : Nat) : Int) = 0 from rfl] at cR
    have HF4 := Lib.hid hF4
    have HO4 := Lib.hid ho4'
    clear hM4 hmb hwb ho4 hF4 ho4' hrun hF ho2 ho2'
    go_wp2_with fail
    refine cR.mono ?_
    rintro e w5 ⟨sv5, kv5, iv5, ov5, rv, rfl, hg5, hown5, hM5⟩
    clear cR
    have ho5 := HF4.out.only HO4.out hg5
    obtain ⟨ao9, n9, cap9, rfl⟩ := ownsRow_slice hown5
    have hc1 := conv_src _ _ _ _ ((Src.of_own hown5).kept ((Only.refl Nil w5).alloc (.cells #[Value.slice ao9 n9 cap9, .int .i64 1, .int .i64 0] 44)) (fun _ h => h))
    have hc2 := conv_src _ _ _ _ (HS.out.kept (ho5.alloc (.cells #[Value.slice ao9 n9 cap9, .int .i64 1, .int .i64 0] 44)) (fun _ h => h))
    obtain ⟨T, hT⟩ : ∃ T, strOf B = T := ⟨_, rfl⟩
    rw [hT] at hc1 hc2
    have HO := Lib.hid ho5
    clear hM5 hown5 hg5 ho5 hT HF4 HO4
    go_wp2_with fail
    go_ret
    exact ⟨by simp, HO.out.alloc _⟩
end Go.Proofs.Ytbgmdckfkfkglaa

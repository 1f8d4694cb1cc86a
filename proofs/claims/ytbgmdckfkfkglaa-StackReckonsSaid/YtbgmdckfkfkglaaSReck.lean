/- The walk of the law StackReckons. -/
import Derived.Test.YtbgmdckfkfkglaaSSame
import Derived.Test.YtbgmdckfkfkglaaABits
set_option linter.unusedSimpArgs false
set_option linter.unusedVariables false
namespace Go.Proofs.Ytbgmdckfkfkglaa
open Go.RowKit M

theorem flag9_any (b : Bool) (w : World) : Calls Try.prog 38 #[.bool b] w fun e w' => e = .returned (.int .i32 (M.one b)) ∧ w = w' := by
  cases b
  all_goals
    go_enter Try.func38, Try.ntmps38
    go_wp2
    go_ret
    exact ⟨rfl, rfl⟩
theorem cR9_i32 {a b : Int} (ha : I32 a) (hb : I32 b) (o : Int) : ∀ c ∈ cR9 a b o, I32 c.k := by
  intro c hc
  simp [cR9] at hc
  rcases hc with rfl | rfl | rfl | rfl
  · exact ha
  · exact hb
  · show I32 0; unfold I32; decide
  · show I32 0; unfold I32; decide
theorem srcI_alloc (w : World) (v v' : Int) (h : v' = v) (t : TypeId) : Src (w.alloc (.cells #[Value.int .i32 v'] t)) w.heap.size (.slice (some ⟨w.heap.size, 0, none⟩) 1 1) (I32s [v]) := by
  subst h
  exact srcI_new w [v'] 1 rfl t


set_option maxRecDepth 10000 in
set_option maxHeartbeats 3200000 in
theorem reck9_0 (a b : Int) (ha : I32 a) (hb : I32 b) (x : Nat) (hx : x ≤ 255) (hr : (x : Int) % 16 = 0)  (w : World) :
    Calls Try.prog 9 #[.int .i32 a, .int .i32 b, .int .u8 x] w fun e w' => e = .returned (.bool true) ∧ Only Nil w w' := by
  have cK := known9_any w
  have hR : reck 9 a b = some (wrap32 (a + b)) := rfl
  have hrun := run_r9 a b 9 (by decide) (by decide) (by decide) (by decide)
  rw [hR] at hrun
  have hi32 := cR9_i32 ha hb 9
  have hok := (sRun_ok (ss0_ok 0 0 [] (by decide) (by decide) (by intro x hx; cases hx)) hi32 (by show 4 ≤ 2147483647; decide) 9).1
  rw [hrun] at hok
  obtain ⟨v, hv⟩ : ∃ v, wrap32 (a + b) = v := ⟨_, rfl⟩
  rw [hv] at hrun hR hok
  have HOK := Lib.hid hok
  have HI := Lib.hid hi32
  have HR := Lib.hid hrun
  have HV := Lib.hid hv
  clear hv
  clear hR hrun hi32 hok
  go_enter Try.func9, Try.ntmps9
  go_wp2_with fail
  refine cK.mono ?_
  rintro e w1 ⟨rfl, ho1⟩
  clear cK
  have HO1 := Lib.hid ho1
  clear ho1
  go_wp2_with fail
  have hs1 := csrc_alloc w1 (cR9 a b 9) 49 #[.int .i64 1, .int .i32 a, .int .i64 1, .int .i32 b, .int .i64 9, .int .i32 0, .int .i64 0, .int .i32 0] rfl 4 rfl (by decide)
  have ho2 : Only Nil w1 (w1.alloc (.cells #[.int .i64 1, .int .i32 a, .int .i64 1, .int .i32 b, .int .i64 9, .int .i32 0, .int .i64 0, .int .i32 0] 49)) := (Only.refl _ _).alloc _
  have ho2' := HO1.out.trans ho2 (fun _ _ h => h)
  have cN := newS_any (Q := Nil) (cR9 a b 9) [] 0 0 0 0 0 0 (by decide) (by decide) (by decide) (by decide) w1.heap.size 0 _ _ _ hs1 (fun n cap h => by cases h) (srcB_none _ 0) (by show 4 ≤ 1048576; decide) (by decide) (by decide) (fun _ h => h.elim)
  refine cN.mono ?_
  rintro e w4 ⟨mb, wb, cv', iv', rfl, hmb, hwb, ho4, hM4⟩
  clear cN hs1
  have ho4' : Only Nil w w4 := ho2'.trans ho4 (fun _ _ h => h)
  have hF4 : Fr3 w.heap.size mb wb (.slice none 0 0) (.slice none 0 0) (.slice none 0 0) := Fr3.new (by have := ho2'.size; omega) (by have := ho2'.size; omega)
  have cR := runS_any mb wb (cR9 a b 9) HI.out (by show 4 ≤ 2147483647; decide) (ss0 0 0 []) cv' _ _ iv' _ w4 hM4 (ss0_ok 0 0 [] (by decide) (by decide) (by intro x hx; cases hx)) 9 (by decide) (by decide) (by decide) (t := sR9 a b (some v)) HR.out
  rw [show (((sR9 a b (some v)).fin : Nat) : Int) = 1 from rfl, show (((sR9 a b (some v)).trap : Nat) : Int) = 0 from rfl] at cR
  have HF4 := Lib.hid hF4
  have HO4 := Lib.hid ho4'
  clear hM4 hmb hwb ho4 hF4 ho4' ho2 ho2'
  go_wp2_with fail
  refine cR.mono ?_
  rintro e w5 ⟨sv5, kv5, iv5, ov5, rv, rfl, hg5, hown5, hM5⟩
  clear cR
  have ho5 := HF4.out.only HO4.out hg5
  obtain ⟨ao9, n9, cap9, rfl⟩ := ownsRow_slice hown5
  have hoA : Only Nil w5 (w5.alloc (.cells #[Value.slice ao9 n9 cap9, .int .i64 1, .int .i64 0] 44)) := (Only.refl Nil w5).alloc _
  have cO := operandsS_any mb wb (cR9 a b 9) (sR9 a b (some v)) _ _ _ _ _ _ (hM5.quiet hoA) HOK.out.nops
  rw [show (sR9 a b (some v)).ops = [v] from rfl, show ([v] : List Int).length = 1 from rfl] at cO
  have HO := Lib.hid (ho5.trans hoA (fun _ _ h => h))
  clear hM5 hown5 hg5 ho5 HF4 HO4 hoA
  go_wp2_with fail
  refine cO.mono ?_
  rintro e w7 ⟨v7, rfl, hown7, ho7⟩
  have hsr := Src.of_own hown7
  obtain ⟨a7, c7, rfl⟩ := sl_of_own hown7
  have ho8 := HO.out.trans ho7 (fun _ _ h => h)
  have HS := Lib.hid hsr
  clear hown7 ho7 cO hsr
  go_wp2_with fail
  have hoB : ∀ c, Only Nil w7 (w7.alloc (.cells #[Value.int .i32 c] 21)) := fun c => (Only.refl Nil w7).alloc _
  refine (i32s_same _ _ _ _ [v] _ (HS.out.kept (hoB _) (fun _ h => h)) (srcI_alloc w7 v _ (by first | exact HV.out | (rw [← HV.out]; exact IntKind.wrap_i32 _) | (rw [← HV.out]; rfl)) 21) (by show 1 ≤ 1000; decide)).mono ?_
  rintro e w9 ⟨rfl, ho9⟩
  go_wp2_with fail
  go_ret
  exact ⟨rfl, (ho8.trans (hoB _) (fun _ _ h => h)).trans ho9 (fun _ _ h => h)⟩


set_option maxRecDepth 10000 in
set_option maxHeartbeats 3200000 in
theorem reck9_1 (a b : Int) (ha : I32 a) (hb : I32 b) (x : Nat) (hx : x ≤ 255) (hr : (x : Int) % 16 = 1)  (w : World) :
    Calls Try.prog 9 #[.int .i32 a, .int .i32 b, .int .u8 x] w fun e w' => e = .returned (.bool true) ∧ Only Nil w w' := by
  have cK := known9_any w
  have hR : reck 10 a b = some (wrap32 (a - b)) := rfl
  have hrun := run_r9 a b 10 (by decide) (by decide) (by decide) (by decide)
  rw [hR] at hrun
  have hi32 := cR9_i32 ha hb 10
  have hok := (sRun_ok (ss0_ok 0 0 [] (by decide) (by decide) (by intro x hx; cases hx)) hi32 (by show 4 ≤ 2147483647; decide) 9).1
  rw [hrun] at hok
  obtain ⟨v, hv⟩ : ∃ v, wrap32 (a - b) = v := ⟨_, rfl⟩
  rw [hv] at hrun hR hok
  have HOK := Lib.hid hok
  have HI := Lib.hid hi32
  have HR := Lib.hid hrun
  have HV := Lib.hid hv
  clear hv
  clear hR hrun hi32 hok
  go_enter Try.func9, Try.ntmps9
  go_wp2_with fail
  refine cK.mono ?_
  rintro e w1 ⟨rfl, ho1⟩
  clear cK
  have HO1 := Lib.hid ho1
  clear ho1
  go_wp2_with fail
  have hs1 := csrc_alloc w1 (cR9 a b 10) 49 #[.int .i64 1, .int .i32 a, .int .i64 1, .int .i32 b, .int .i64 10, .int .i32 0, .int .i64 0, .int .i32 0] rfl 4 rfl (by decide)
  have ho2 : Only Nil w1 (w1.alloc (.cells #[.int .i64 1, .int .i32 a, .int .i64 1, .int .i32 b, .int .i64 10, .int .i32 0, .int .i64 0, .int .i32 0] 49)) := (Only.refl _ _).alloc _
  have ho2' := HO1.out.trans ho2 (fun _ _ h => h)
  have cN := newS_any (Q := Nil) (cR9 a b 10) [] 0 0 0 0 0 0 (by decide) (by decide) (by decide) (by decide) w1.heap.size 0 _ _ _ hs1 (fun n cap h => by cases h) (srcB_none _ 0) (by show 4 ≤ 1048576; decide) (by decide) (by decide) (fun _ h => h.elim)
  refine cN.mono ?_
  rintro e w4 ⟨mb, wb, cv', iv', rfl, hmb, hwb, ho4, hM4⟩
  clear cN hs1
  have ho4' : Only Nil w w4 := ho2'.trans ho4 (fun _ _ h => h)
  have hF4 : Fr3 w.heap.size mb wb (.slice none 0 0) (.slice none 0 0) (.slice none 0 0) := Fr3.new (by have := ho2'.size; omega) (by have := ho2'.size; omega)
  have cR := runS_any mb wb (cR9 a b 10) HI.out (by show 4 ≤ 2147483647; decide) (ss0 0 0 []) cv' _ _ iv' _ w4 hM4 (ss0_ok 0 0 [] (by decide) (by decide) (by intro x hx; cases hx)) 9 (by decide) (by decide) (by decide) (t := sR9 a b (some v)) HR.out
  rw [show (((sR9 a b (some v)).fin : Nat) : Int) = 1 from rfl, show (((sR9 a b (some v)).trap : Nat) : Int) = 0 from rfl] at cR
  have HF4 := Lib.hid hF4
  have HO4 := Lib.hid ho4'
  clear hM4 hmb hwb ho4 hF4 ho4' ho2 ho2'
  go_wp2_with fail
  refine cR.mono ?_
  rintro e w5 ⟨sv5, kv5, iv5, ov5, rv, rfl, hg5, hown5, hM5⟩
  clear cR
  have ho5 := HF4.out.only HO4.out hg5
  obtain ⟨ao9, n9, cap9, rfl⟩ := ownsRow_slice hown5
  have hoA : Only Nil w5 (w5.alloc (.cells #[Value.slice ao9 n9 cap9, .int .i64 1, .int .i64 0] 44)) := (Only.refl Nil w5).alloc _
  have cO := operandsS_any mb wb (cR9 a b 10) (sR9 a b (some v)) _ _ _ _ _ _ (hM5.quiet hoA) HOK.out.nops
  rw [show (sR9 a b (some v)).ops = [v] from rfl, show ([v] : List Int).length = 1 from rfl] at cO
  have HO := Lib.hid (ho5.trans hoA (fun _ _ h => h))
  clear hM5 hown5 hg5 ho5 HF4 HO4 hoA
  go_wp2_with fail
  refine cO.mono ?_
  rintro e w7 ⟨v7, rfl, hown7, ho7⟩
  have hsr := Src.of_own hown7
  obtain ⟨a7, c7, rfl⟩ := sl_of_own hown7
  have ho8 := HO.out.trans ho7 (fun _ _ h => h)
  have HS := Lib.hid hsr
  clear hown7 ho7 cO hsr
  go_wp2_with fail
  have hoB : ∀ c, Only Nil w7 (w7.alloc (.cells #[Value.int .i32 c] 21)) := fun c => (Only.refl Nil w7).alloc _
  refine (i32s_same _ _ _ _ [v] _ (HS.out.kept (hoB _) (fun _ h => h)) (srcI_alloc w7 v _ (by first | exact HV.out | (rw [← HV.out]; exact IntKind.wrap_i32 _) | (rw [← HV.out]; rfl)) 21) (by show 1 ≤ 1000; decide)).mono ?_
  rintro e w9 ⟨rfl, ho9⟩
  go_wp2_with fail
  go_ret
  exact ⟨rfl, (ho8.trans (hoB _) (fun _ _ h => h)).trans ho9 (fun _ _ h => h)⟩


set_option maxRecDepth 10000 in
set_option maxHeartbeats 3200000 in
theorem reck9_2 (a b : Int) (ha : I32 a) (hb : I32 b) (x : Nat) (hx : x ≤ 255) (hr : (x : Int) % 16 = 2)  (w : World) :
    Calls Try.prog 9 #[.int .i32 a, .int .i32 b, .int .u8 x] w fun e w' => e = .returned (.bool true) ∧ Only Nil w w' := by
  have cK := known9_any w
  have hR : reck 11 a b = some (wrap32 (a * b)) := rfl
  have hrun := run_r9 a b 11 (by decide) (by decide) (by decide) (by decide)
  rw [hR] at hrun
  have hi32 := cR9_i32 ha hb 11
  have hok := (sRun_ok (ss0_ok 0 0 [] (by decide) (by decide) (by intro x hx; cases hx)) hi32 (by show 4 ≤ 2147483647; decide) 9).1
  rw [hrun] at hok
  obtain ⟨v, hv⟩ : ∃ v, wrap32 (a * b) = v := ⟨_, rfl⟩
  rw [hv] at hrun hR hok
  have HOK := Lib.hid hok
  have HI := Lib.hid hi32
  have HR := Lib.hid hrun
  have HV := Lib.hid hv
  clear hv
  clear hR hrun hi32 hok
  go_enter Try.func9, Try.ntmps9
  go_wp2_with fail
  refine cK.mono ?_
  rintro e w1 ⟨rfl, ho1⟩
  clear cK
  have HO1 := Lib.hid ho1
  clear ho1
  go_wp2_with fail
  have hs1 := csrc_alloc w1 (cR9 a b 11) 49 #[.int .i64 1, .int .i32 a, .int .i64 1, .int .i32 b, .int .i64 11, .int .i32 0, .int .i64 0, .int .i32 0] rfl 4 rfl (by decide)
  have ho2 : Only Nil w1 (w1.alloc (.cells #[.int .i64 1, .int .i32 a, .int .i64 1, .int .i32 b, .int .i64 11, .int .i32 0, .int .i64 0, .int .i32 0] 49)) := (Only.refl _ _).alloc _
  have ho2' := HO1.out.trans ho2 (fun _ _ h => h)
  have cN := newS_any (Q := Nil) (cR9 a b 11) [] 0 0 0 0 0 0 (by decide) (by decide) (by decide) (by decide) w1.heap.size 0 _ _ _ hs1 (fun n cap h => by cases h) (srcB_none _ 0) (by show 4 ≤ 1048576; decide) (by decide) (by decide) (fun _ h => h.elim)
  refine cN.mono ?_
  rintro e w4 ⟨mb, wb, cv', iv', rfl, hmb, hwb, ho4, hM4⟩
  clear cN hs1
  have ho4' : Only Nil w w4 := ho2'.trans ho4 (fun _ _ h => h)
  have hF4 : Fr3 w.heap.size mb wb (.slice none 0 0) (.slice none 0 0) (.slice none 0 0) := Fr3.new (by have := ho2'.size; omega) (by have := ho2'.size; omega)
  have cR := runS_any mb wb (cR9 a b 11) HI.out (by show 4 ≤ 2147483647; decide) (ss0 0 0 []) cv' _ _ iv' _ w4 hM4 (ss0_ok 0 0 [] (by decide) (by decide) (by intro x hx; cases hx)) 9 (by decide) (by decide) (by decide) (t := sR9 a b (some v)) HR.out
  rw [show (((sR9 a b (some v)).fin : Nat) : Int) = 1 from rfl, show (((sR9 a b (some v)).trap : Nat) : Int) = 0 from rfl] at cR
  have HF4 := Lib.hid hF4
  have HO4 := Lib.hid ho4'
  clear hM4 hmb hwb ho4 hF4 ho4' ho2 ho2'
  go_wp2_with fail
  refine cR.mono ?_
  rintro e w5 ⟨sv5, kv5, iv5, ov5, rv, rfl, hg5, hown5, hM5⟩
  clear cR
  have ho5 := HF4.out.only HO4.out hg5
  obtain ⟨ao9, n9, cap9, rfl⟩ := ownsRow_slice hown5
  have hoA : Only Nil w5 (w5.alloc (.cells #[Value.slice ao9 n9 cap9, .int .i64 1, .int .i64 0] 44)) := (Only.refl Nil w5).alloc _
  have cO := operandsS_any mb wb (cR9 a b 11) (sR9 a b (some v)) _ _ _ _ _ _ (hM5.quiet hoA) HOK.out.nops
  rw [show (sR9 a b (some v)).ops = [v] from rfl, show ([v] : List Int).length = 1 from rfl] at cO
  have HO := Lib.hid (ho5.trans hoA (fun _ _ h => h))
  clear hM5 hown5 hg5 ho5 HF4 HO4 hoA
  go_wp2_with fail
  refine cO.mono ?_
  rintro e w7 ⟨v7, rfl, hown7, ho7⟩
  have hsr := Src.of_own hown7
  obtain ⟨a7, c7, rfl⟩ := sl_of_own hown7
  have ho8 := HO.out.trans ho7 (fun _ _ h => h)
  have HS := Lib.hid hsr
  clear hown7 ho7 cO hsr
  go_wp2_with fail
  have hoB : ∀ c, Only Nil w7 (w7.alloc (.cells #[Value.int .i32 c] 21)) := fun c => (Only.refl Nil w7).alloc _
  refine (i32s_same _ _ _ _ [v] _ (HS.out.kept (hoB _) (fun _ h => h)) (srcI_alloc w7 v _ (by first | exact HV.out | (rw [← HV.out]; exact IntKind.wrap_i32 _) | (rw [← HV.out]; rfl)) 21) (by show 1 ≤ 1000; decide)).mono ?_
  rintro e w9 ⟨rfl, ho9⟩
  go_wp2_with fail
  go_ret
  exact ⟨rfl, (ho8.trans (hoB _) (fun _ _ h => h)).trans ho9 (fun _ _ h => h)⟩


set_option maxRecDepth 10000 in
set_option maxHeartbeats 3200000 in
theorem reck9_3 (a b : Int) (ha : I32 a) (hb : I32 b) (x : Nat) (hx : x ≤ 255) (hr : (x : Int) % 16 = 3) (h1 : 1 ≤ b) (w : World) :
    Calls Try.prog 9 #[.int .i32 a, .int .i32 b, .int .u8 x] w fun e w' => e = .returned (.bool true) ∧ Only Nil w w' := by
  have cK := known9_any w
  have hR : reck 12 a b = some (a / b) := by unfold reck; rw [if_neg (by decide), if_neg (by decide), if_neg (by decide), if_pos rfl, if_neg (by omega)]
  have hrun := run_r9 a b 12 (by decide) (by decide) (by decide) (by decide)
  rw [hR] at hrun
  have hi32 := cR9_i32 ha hb 12
  have hok := (sRun_ok (ss0_ok 0 0 [] (by decide) (by decide) (by intro x hx; cases hx)) hi32 (by show 4 ≤ 2147483647; decide) 9).1
  rw [hrun] at hok
  obtain ⟨v, hv⟩ : ∃ v, a / b = v := ⟨_, rfl⟩
  rw [hv] at hrun hR hok
  have cC := fun w => div_any1 a b w ha h1 hb.2
  have HOK := Lib.hid hok
  have HI := Lib.hid hi32
  have HR := Lib.hid hrun
  have HV := Lib.hid hv
  clear hv
  clear hR hrun hi32 hok
  go_enter Try.func9, Try.ntmps9
  go_wp2_with fail
  refine cK.mono ?_
  rintro e w1 ⟨rfl, ho1⟩
  clear cK
  have HO1 := Lib.hid ho1
  clear ho1
  go_wp2_with fail
  have hs1 := csrc_alloc w1 (cR9 a b 12) 49 #[.int .i64 1, .int .i32 a, .int .i64 1, .int .i32 b, .int .i64 12, .int .i32 0, .int .i64 0, .int .i32 0] rfl 4 rfl (by decide)
  have ho2 : Only Nil w1 (w1.alloc (.cells #[.int .i64 1, .int .i32 a, .int .i64 1, .int .i32 b, .int .i64 12, .int .i32 0, .int .i64 0, .int .i32 0] 49)) := (Only.refl _ _).alloc _
  have ho2' := HO1.out.trans ho2 (fun _ _ h => h)
  have cN := newS_any (Q := Nil) (cR9 a b 12) [] 0 0 0 0 0 0 (by decide) (by decide) (by decide) (by decide) w1.heap.size 0 _ _ _ hs1 (fun n cap h => by cases h) (srcB_none _ 0) (by show 4 ≤ 1048576; decide) (by decide) (by decide) (fun _ h => h.elim)
  refine cN.mono ?_
  rintro e w4 ⟨mb, wb, cv', iv', rfl, hmb, hwb, ho4, hM4⟩
  clear cN hs1
  have ho4' : Only Nil w w4 := ho2'.trans ho4 (fun _ _ h => h)
  have hF4 : Fr3 w.heap.size mb wb (.slice none 0 0) (.slice none 0 0) (.slice none 0 0) := Fr3.new (by have := ho2'.size; omega) (by have := ho2'.size; omega)
  have cR := runS_any mb wb (cR9 a b 12) HI.out (by show 4 ≤ 2147483647; decide) (ss0 0 0 []) cv' _ _ iv' _ w4 hM4 (ss0_ok 0 0 [] (by decide) (by decide) (by intro x hx; cases hx)) 9 (by decide) (by decide) (by decide) (t := sR9 a b (some v)) HR.out
  rw [show (((sR9 a b (some v)).fin : Nat) : Int) = 1 from rfl, show (((sR9 a b (some v)).trap : Nat) : Int) = 0 from rfl] at cR
  have HF4 := Lib.hid hF4
  have HO4 := Lib.hid ho4'
  clear hM4 hmb hwb ho4 hF4 ho4' ho2 ho2'
  go_wp2_with fail
  refine cR.mono ?_
  rintro e w5 ⟨sv5, kv5, iv5, ov5, rv, rfl, hg5, hown5, hM5⟩
  clear cR
  have ho5 := HF4.out.only HO4.out hg5
  obtain ⟨ao9, n9, cap9, rfl⟩ := ownsRow_slice hown5
  have hoA : Only Nil w5 (w5.alloc (.cells #[Value.slice ao9 n9 cap9, .int .i64 1, .int .i64 0] 44)) := (Only.refl Nil w5).alloc _
  have cO := operandsS_any mb wb (cR9 a b 12) (sR9 a b (some v)) _ _ _ _ _ _ (hM5.quiet hoA) HOK.out.nops
  rw [show (sR9 a b (some v)).ops = [v] from rfl, show ([v] : List Int).length = 1 from rfl] at cO
  have HO := Lib.hid (ho5.trans hoA (fun _ _ h => h))
  clear hM5 hown5 hg5 ho5 HF4 HO4 hoA
  go_wp2_with fail
  refine (cC _).mono ?_
  rintro e w6 ⟨rfl, rfl⟩
  clear cC
  go_wp2_with fail
  refine cO.mono ?_
  rintro e w7 ⟨v7, rfl, hown7, ho7⟩
  have hsr := Src.of_own hown7
  obtain ⟨a7, c7, rfl⟩ := sl_of_own hown7
  have ho8 := HO.out.trans ho7 (fun _ _ h => h)
  have HS := Lib.hid hsr
  clear hown7 ho7 cO hsr
  go_wp2_with fail
  have hoB : ∀ c, Only Nil w7 (w7.alloc (.cells #[Value.int .i32 c] 21)) := fun c => (Only.refl Nil w7).alloc _
  refine (i32s_same _ _ _ _ [v] _ (HS.out.kept (hoB _) (fun _ h => h)) (srcI_alloc w7 v _ (by first | exact HV.out | (rw [← HV.out]; exact IntKind.wrap_i32 _) | (rw [← HV.out]; rfl)) 21) (by show 1 ≤ 1000; decide)).mono ?_
  rintro e w9 ⟨rfl, ho9⟩
  go_wp2_with fail
  go_ret
  exact ⟨rfl, (ho8.trans (hoB _) (fun _ _ h => h)).trans ho9 (fun _ _ h => h)⟩


set_option maxRecDepth 10000 in
set_option maxHeartbeats 3200000 in
theorem reck9_4 (a b : Int) (ha : I32 a) (hb : I32 b) (x : Nat) (hx : x ≤ 255) (hr : (x : Int) % 16 = 3) (h1 : b < 1) (w : World) :
    Calls Try.prog 9 #[.int .i32 a, .int .i32 b, .int .u8 x] w fun e w' => e = .returned (.bool true) ∧ Only Nil w w' := by
  have cK := known9_any w
  have hR : reck 12 a b = none := by unfold reck; rw [if_neg (by decide), if_neg (by decide), if_neg (by decide), if_pos rfl, if_pos h1]
  have hrun := run_r9 a b 12 (by decide) (by decide) (by decide) (by decide)
  rw [hR] at hrun
  have hi32 := cR9_i32 ha hb 12
  have hok := (sRun_ok (ss0_ok 0 0 [] (by decide) (by decide) (by intro x hx; cases hx)) hi32 (by show 4 ≤ 2147483647; decide) 9).1
  rw [hrun] at hok
  have cC := fun w => div_no1 a b w h1
  have HOK := Lib.hid hok
  have HI := Lib.hid hi32
  have HR := Lib.hid hrun
  clear hR hrun hi32 hok
  go_enter Try.func9, Try.ntmps9
  go_wp2_with fail
  refine cK.mono ?_
  rintro e w1 ⟨rfl, ho1⟩
  clear cK
  have HO1 := Lib.hid ho1
  clear ho1
  go_wp2_with fail
  have hs1 := csrc_alloc w1 (cR9 a b 12) 49 #[.int .i64 1, .int .i32 a, .int .i64 1, .int .i32 b, .int .i64 12, .int .i32 0, .int .i64 0, .int .i32 0] rfl 4 rfl (by decide)
  have ho2 : Only Nil w1 (w1.alloc (.cells #[.int .i64 1, .int .i32 a, .int .i64 1, .int .i32 b, .int .i64 12, .int .i32 0, .int .i64 0, .int .i32 0] 49)) := (Only.refl _ _).alloc _
  have ho2' := HO1.out.trans ho2 (fun _ _ h => h)
  have cN := newS_any (Q := Nil) (cR9 a b 12) [] 0 0 0 0 0 0 (by decide) (by decide) (by decide) (by decide) w1.heap.size 0 _ _ _ hs1 (fun n cap h => by cases h) (srcB_none _ 0) (by show 4 ≤ 1048576; decide) (by decide) (by decide) (fun _ h => h.elim)
  refine cN.mono ?_
  rintro e w4 ⟨mb, wb, cv', iv', rfl, hmb, hwb, ho4, hM4⟩
  clear cN hs1
  have ho4' : Only Nil w w4 := ho2'.trans ho4 (fun _ _ h => h)
  have hF4 : Fr3 w.heap.size mb wb (.slice none 0 0) (.slice none 0 0) (.slice none 0 0) := Fr3.new (by have := ho2'.size; omega) (by have := ho2'.size; omega)
  have cR := runS_any mb wb (cR9 a b 12) HI.out (by show 4 ≤ 2147483647; decide) (ss0 0 0 []) cv' _ _ iv' _ w4 hM4 (ss0_ok 0 0 [] (by decide) (by decide) (by intro x hx; cases hx)) 9 (by decide) (by decide) (by decide) (t := sR9 a b none) HR.out
  rw [show (((sR9 a b none).fin : Nat) : Int) = 2 from rfl, show (((sR9 a b none).trap : Nat) : Int) = 15 from rfl] at cR
  have HF4 := Lib.hid hF4
  have HO4 := Lib.hid ho4'
  clear hM4 hmb hwb ho4 hF4 ho4' ho2 ho2'
  go_wp2_with fail
  refine cR.mono ?_
  rintro e w5 ⟨sv5, kv5, iv5, ov5, rv, rfl, hg5, hown5, hM5⟩
  clear cR
  have ho5 := HF4.out.only HO4.out hg5
  obtain ⟨ao9, n9, cap9, rfl⟩ := ownsRow_slice hown5
  have hoA : Only Nil w5 (w5.alloc (.cells #[Value.slice ao9 n9 cap9, .int .i64 2, .int .i64 15] 44)) := (Only.refl Nil w5).alloc _
  have cO := pcS_any mb wb (cR9 a b 12) (sR9 a b none) _ _ _ _ _ _ (hM5.quiet hoA)
  rw [show (sR9 a b none).pc = 2 from rfl] at cO
  have HO := Lib.hid (ho5.trans hoA (fun _ _ h => h))
  clear hM5 hown5 hg5 ho5 HF4 HO4 hoA
  go_wp2_with fail
  refine (cC _).mono ?_
  rintro e w6 ⟨rfl, rfl⟩
  clear cC
  go_wp2_with fail
  refine cO.mono ?_
  rintro e w7 ⟨rfl, rfl⟩
  go_wp2_with fail
  go_ret
  exact ⟨rfl, HO.out⟩


set_option maxRecDepth 10000 in
set_option maxHeartbeats 3200000 in
theorem reck9_5 (a b : Int) (ha : I32 a) (hb : I32 b) (x : Nat) (hx : x ≤ 255) (hr : (x : Int) % 16 = 4) (h1 : 1 ≤ b) (w : World) :
    Calls Try.prog 9 #[.int .i32 a, .int .i32 b, .int .u8 x] w fun e w' => e = .returned (.bool true) ∧ Only Nil w w' := by
  have cK := known9_any w
  have hR : reck 13 a b = some (a % b) := by unfold reck; rw [if_neg (by decide), if_neg (by decide), if_neg (by decide), if_neg (by decide), if_pos rfl, if_neg (by omega)]
  have hrun := run_r9 a b 13 (by decide) (by decide) (by decide) (by decide)
  rw [hR] at hrun
  have hi32 := cR9_i32 ha hb 13
  have hok := (sRun_ok (ss0_ok 0 0 [] (by decide) (by decide) (by intro x hx; cases hx)) hi32 (by show 4 ≤ 2147483647; decide) 9).1
  rw [hrun] at hok
  obtain ⟨v, hv⟩ : ∃ v, a % b = v := ⟨_, rfl⟩
  rw [hv] at hrun hR hok
  have cC := fun w => mod_any1 a b w ha h1 hb.2
  have HOK := Lib.hid hok
  have HI := Lib.hid hi32
  have HR := Lib.hid hrun
  have HV := Lib.hid hv
  clear hv
  clear hR hrun hi32 hok
  go_enter Try.func9, Try.ntmps9
  go_wp2_with fail
  refine cK.mono ?_
  rintro e w1 ⟨rfl, ho1⟩
  clear cK
  have HO1 := Lib.hid ho1
  clear ho1
  go_wp2_with fail
  have hs1 := csrc_alloc w1 (cR9 a b 13) 49 #[.int .i64 1, .int .i32 a, .int .i64 1, .int .i32 b, .int .i64 13, .int .i32 0, .int .i64 0, .int .i32 0] rfl 4 rfl (by decide)
  have ho2 : Only Nil w1 (w1.alloc (.cells #[.int .i64 1, .int .i32 a, .int .i64 1, .int .i32 b, .int .i64 13, .int .i32 0, .int .i64 0, .int .i32 0] 49)) := (Only.refl _ _).alloc _
  have ho2' := HO1.out.trans ho2 (fun _ _ h => h)
  have cN := newS_any (Q := Nil) (cR9 a b 13) [] 0 0 0 0 0 0 (by decide) (by decide) (by decide) (by decide) w1.heap.size 0 _ _ _ hs1 (fun n cap h => by cases h) (srcB_none _ 0) (by show 4 ≤ 1048576; decide) (by decide) (by decide) (fun _ h => h.elim)
  refine cN.mono ?_
  rintro e w4 ⟨mb, wb, cv', iv', rfl, hmb, hwb, ho4, hM4⟩
  clear cN hs1
  have ho4' : Only Nil w w4 := ho2'.trans ho4 (fun _ _ h => h)
  have hF4 : Fr3 w.heap.size mb wb (.slice none 0 0) (.slice none 0 0) (.slice none 0 0) := Fr3.new (by have := ho2'.size; omega) (by have := ho2'.size; omega)
  have cR := runS_any mb wb (cR9 a b 13) HI.out (by show 4 ≤ 2147483647; decide) (ss0 0 0 []) cv' _ _ iv' _ w4 hM4 (ss0_ok 0 0 [] (by decide) (by decide) (by intro x hx; cases hx)) 9 (by decide) (by decide) (by decide) (t := sR9 a b (some v)) HR.out
  rw [show (((sR9 a b (some v)).fin : Nat) : Int) = 1 from rfl, show (((sR9 a b (some v)).trap : Nat) : Int) = 0 from rfl] at cR
  have HF4 := Lib.hid hF4
  have HO4 := Lib.hid ho4'
  clear hM4 hmb hwb ho4 hF4 ho4' ho2 ho2'
  go_wp2_with fail
  refine cR.mono ?_
  rintro e w5 ⟨sv5, kv5, iv5, ov5, rv, rfl, hg5, hown5, hM5⟩
  clear cR
  have ho5 := HF4.out.only HO4.out hg5
  obtain ⟨ao9, n9, cap9, rfl⟩ := ownsRow_slice hown5
  have hoA : Only Nil w5 (w5.alloc (.cells #[Value.slice ao9 n9 cap9, .int .i64 1, .int .i64 0] 44)) := (Only.refl Nil w5).alloc _
  have cO := operandsS_any mb wb (cR9 a b 13) (sR9 a b (some v)) _ _ _ _ _ _ (hM5.quiet hoA) HOK.out.nops
  rw [show (sR9 a b (some v)).ops = [v] from rfl, show ([v] : List Int).length = 1 from rfl] at cO
  have HO := Lib.hid (ho5.trans hoA (fun _ _ h => h))
  clear hM5 hown5 hg5 ho5 HF4 HO4 hoA
  go_wp2_with fail
  refine (cC _).mono ?_
  rintro e w6 ⟨rfl, rfl⟩
  clear cC
  go_wp2_with fail
  refine cO.mono ?_
  rintro e w7 ⟨v7, rfl, hown7, ho7⟩
  have hsr := Src.of_own hown7
  obtain ⟨a7, c7, rfl⟩ := sl_of_own hown7
  have ho8 := HO.out.trans ho7 (fun _ _ h => h)
  have HS := Lib.hid hsr
  clear hown7 ho7 cO hsr
  go_wp2_with fail
  have hoB : ∀ c, Only Nil w7 (w7.alloc (.cells #[Value.int .i32 c] 21)) := fun c => (Only.refl Nil w7).alloc _
  refine (i32s_same _ _ _ _ [v] _ (HS.out.kept (hoB _) (fun _ h => h)) (srcI_alloc w7 v _ (by first | exact HV.out | (rw [← HV.out]; exact IntKind.wrap_i32 _) | (rw [← HV.out]; rfl)) 21) (by show 1 ≤ 1000; decide)).mono ?_
  rintro e w9 ⟨rfl, ho9⟩
  go_wp2_with fail
  go_ret
  exact ⟨rfl, (ho8.trans (hoB _) (fun _ _ h => h)).trans ho9 (fun _ _ h => h)⟩


set_option maxRecDepth 10000 in
set_option maxHeartbeats 3200000 in
theorem reck9_6 (a b : Int) (ha : I32 a) (hb : I32 b) (x : Nat) (hx : x ≤ 255) (hr : (x : Int) % 16 = 4) (h1 : b < 1) (w : World) :
    Calls Try.prog 9 #[.int .i32 a, .int .i32 b, .int .u8 x] w fun e w' => e = .returned (.bool true) ∧ Only Nil w w' := by
  have cK := known9_any w
  have hR : reck 13 a b = none := by unfold reck; rw [if_neg (by decide), if_neg (by decide), if_neg (by decide), if_neg (by decide), if_pos rfl, if_pos h1]
  have hrun := run_r9 a b 13 (by decide) (by decide) (by decide) (by decide)
  rw [hR] at hrun
  have hi32 := cR9_i32 ha hb 13
  have hok := (sRun_ok (ss0_ok 0 0 [] (by decide) (by decide) (by intro x hx; cases hx)) hi32 (by show 4 ≤ 2147483647; decide) 9).1
  rw [hrun] at hok
  have cC := fun w => mod_no1 a b w h1
  have HOK := Lib.hid hok
  have HI := Lib.hid hi32
  have HR := Lib.hid hrun
  clear hR hrun hi32 hok
  go_enter Try.func9, Try.ntmps9
  go_wp2_with fail
  refine cK.mono ?_
  rintro e w1 ⟨rfl, ho1⟩
  clear cK
  have HO1 := Lib.hid ho1
  clear ho1
  go_wp2_with fail
  have hs1 := csrc_alloc w1 (cR9 a b 13) 49 #[.int .i64 1, .int .i32 a, .int .i64 1, .int .i32 b, .int .i64 13, .int .i32 0, .int .i64 0, .int .i32 0] rfl 4 rfl (by decide)
  have ho2 : Only Nil w1 (w1.alloc (.cells #[.int .i64 1, .int .i32 a, .int .i64 1, .int .i32 b, .int .i64 13, .int .i32 0, .int .i64 0, .int .i32 0] 49)) := (Only.refl _ _).alloc _
  have ho2' := HO1.out.trans ho2 (fun _ _ h => h)
  have cN := newS_any (Q := Nil) (cR9 a b 13) [] 0 0 0 0 0 0 (by decide) (by decide) (by decide) (by decide) w1.heap.size 0 _ _ _ hs1 (fun n cap h => by cases h) (srcB_none _ 0) (by show 4 ≤ 1048576; decide) (by decide) (by decide) (fun _ h => h.elim)
  refine cN.mono ?_
  rintro e w4 ⟨mb, wb, cv', iv', rfl, hmb, hwb, ho4, hM4⟩
  clear cN hs1
  have ho4' : Only Nil w w4 := ho2'.trans ho4 (fun _ _ h => h)
  have hF4 : Fr3 w.heap.size mb wb (.slice none 0 0) (.slice none 0 0) (.slice none 0 0) := Fr3.new (by have := ho2'.size; omega) (by have := ho2'.size; omega)
  have cR := runS_any mb wb (cR9 a b 13) HI.out (by show 4 ≤ 2147483647; decide) (ss0 0 0 []) cv' _ _ iv' _ w4 hM4 (ss0_ok 0 0 [] (by decide) (by decide) (by intro x hx; cases hx)) 9 (by decide) (by decide) (by decide) (t := sR9 a b none) HR.out
  rw [show (((sR9 a b none).fin : Nat) : Int) = 2 from rfl, show (((sR9 a b none).trap : Nat) : Int) = 15 from rfl] at cR
  have HF4 := Lib.hid hF4
  have HO4 := Lib.hid ho4'
  clear hM4 hmb hwb ho4 hF4 ho4' ho2 ho2'
  go_wp2_with fail
  refine cR.mono ?_
  rintro e w5 ⟨sv5, kv5, iv5, ov5, rv, rfl, hg5, hown5, hM5⟩
  clear cR
  have ho5 := HF4.out.only HO4.out hg5
  obtain ⟨ao9, n9, cap9, rfl⟩ := ownsRow_slice hown5
  have hoA : Only Nil w5 (w5.alloc (.cells #[Value.slice ao9 n9 cap9, .int .i64 2, .int .i64 15] 44)) := (Only.refl Nil w5).alloc _
  have cO := pcS_any mb wb (cR9 a b 13) (sR9 a b none) _ _ _ _ _ _ (hM5.quiet hoA)
  rw [show (sR9 a b none).pc = 2 from rfl] at cO
  have HO := Lib.hid (ho5.trans hoA (fun _ _ h => h))
  clear hM5 hown5 hg5 ho5 HF4 HO4 hoA
  go_wp2_with fail
  refine (cC _).mono ?_
  rintro e w6 ⟨rfl, rfl⟩
  clear cC
  go_wp2_with fail
  refine cO.mono ?_
  rintro e w7 ⟨rfl, rfl⟩
  go_wp2_with fail
  go_ret
  exact ⟨rfl, HO.out⟩


set_option maxRecDepth 10000 in
set_option maxHeartbeats 3200000 in
theorem reck9_7 (a b : Int) (ha : I32 a) (hb : I32 b) (x : Nat) (hx : x ≤ 255) (hr : (x : Int) % 16 = 5)  (w : World) :
    Calls Try.prog 9 #[.int .i32 a, .int .i32 b, .int .u8 x] w fun e w' => e = .returned (.bool true) ∧ Only Nil w w' := by
  have cK := known9_any w
  have hR : reck 17 a b = some (bits .xor .i32 a b) := rfl
  have hrun := run_r9 a b 17 (by decide) (by decide) (by decide) (by decide)
  rw [hR] at hrun
  have hi32 := cR9_i32 ha hb 17
  have hok := (sRun_ok (ss0_ok 0 0 [] (by decide) (by decide) (by intro x hx; cases hx)) hi32 (by show 4 ≤ 2147483647; decide) 9).1
  rw [hrun] at hok
  obtain ⟨v, hv⟩ : ∃ v, bits .xor .i32 a b = v := ⟨_, rfl⟩
  rw [hv] at hrun hR hok
  have HOK := Lib.hid hok
  have HI := Lib.hid hi32
  have HR := Lib.hid hrun
  have HV := Lib.hid hv
  clear hv
  clear hR hrun hi32 hok
  go_enter Try.func9, Try.ntmps9
  go_wp2_with fail
  refine cK.mono ?_
  rintro e w1 ⟨rfl, ho1⟩
  clear cK
  have HO1 := Lib.hid ho1
  clear ho1
  go_wp2_with fail
  have hs1 := csrc_alloc w1 (cR9 a b 17) 49 #[.int .i64 1, .int .i32 a, .int .i64 1, .int .i32 b, .int .i64 17, .int .i32 0, .int .i64 0, .int .i32 0] rfl 4 rfl (by decide)
  have ho2 : Only Nil w1 (w1.alloc (.cells #[.int .i64 1, .int .i32 a, .int .i64 1, .int .i32 b, .int .i64 17, .int .i32 0, .int .i64 0, .int .i32 0] 49)) := (Only.refl _ _).alloc _
  have ho2' := HO1.out.trans ho2 (fun _ _ h => h)
  have cN := newS_any (Q := Nil) (cR9 a b 17) [] 0 0 0 0 0 0 (by decide) (by decide) (by decide) (by decide) w1.heap.size 0 _ _ _ hs1 (fun n cap h => by cases h) (srcB_none _ 0) (by show 4 ≤ 1048576; decide) (by decide) (by decide) (fun _ h => h.elim)
  refine cN.mono ?_
  rintro e w4 ⟨mb, wb, cv', iv', rfl, hmb, hwb, ho4, hM4⟩
  clear cN hs1
  have ho4' : Only Nil w w4 := ho2'.trans ho4 (fun _ _ h => h)
  have hF4 : Fr3 w.heap.size mb wb (.slice none 0 0) (.slice none 0 0) (.slice none 0 0) := Fr3.new (by have := ho2'.size; omega) (by have := ho2'.size; omega)
  have cR := runS_any mb wb (cR9 a b 17) HI.out (by show 4 ≤ 2147483647; decide) (ss0 0 0 []) cv' _ _ iv' _ w4 hM4 (ss0_ok 0 0 [] (by decide) (by decide) (by intro x hx; cases hx)) 9 (by decide) (by decide) (by decide) (t := sR9 a b (some v)) HR.out
  rw [show (((sR9 a b (some v)).fin : Nat) : Int) = 1 from rfl, show (((sR9 a b (some v)).trap : Nat) : Int) = 0 from rfl] at cR
  have HF4 := Lib.hid hF4
  have HO4 := Lib.hid ho4'
  clear hM4 hmb hwb ho4 hF4 ho4' ho2 ho2'
  go_wp2_with fail
  refine cR.mono ?_
  rintro e w5 ⟨sv5, kv5, iv5, ov5, rv, rfl, hg5, hown5, hM5⟩
  clear cR
  have ho5 := HF4.out.only HO4.out hg5
  obtain ⟨ao9, n9, cap9, rfl⟩ := ownsRow_slice hown5
  have hoA : Only Nil w5 (w5.alloc (.cells #[Value.slice ao9 n9 cap9, .int .i64 1, .int .i64 0] 44)) := (Only.refl Nil w5).alloc _
  have cO := operandsS_any mb wb (cR9 a b 17) (sR9 a b (some v)) _ _ _ _ _ _ (hM5.quiet hoA) HOK.out.nops
  rw [show (sR9 a b (some v)).ops = [v] from rfl, show ([v] : List Int).length = 1 from rfl] at cO
  have HO := Lib.hid (ho5.trans hoA (fun _ _ h => h))
  clear hM5 hown5 hg5 ho5 HF4 HO4 hoA
  go_wp2_with fail
  refine cO.mono ?_
  rintro e w7 ⟨v7, rfl, hown7, ho7⟩
  have hsr := Src.of_own hown7
  obtain ⟨a7, c7, rfl⟩ := sl_of_own hown7
  have ho8 := HO.out.trans ho7 (fun _ _ h => h)
  have HS := Lib.hid hsr
  clear hown7 ho7 cO hsr
  go_wp2_with fail
  have hoB : ∀ c, Only Nil w7 (w7.alloc (.cells #[Value.int .i32 c] 21)) := fun c => (Only.refl Nil w7).alloc _
  refine (i32s_same _ _ _ _ [v] _ (HS.out.kept (hoB _) (fun _ h => h)) (srcI_alloc w7 v _ (by first | exact HV.out | (rw [← HV.out]; exact IntKind.wrap_i32 _) | (rw [← HV.out]; rfl)) 21) (by show 1 ≤ 1000; decide)).mono ?_
  rintro e w9 ⟨rfl, ho9⟩
  go_wp2_with fail
  go_ret
  exact ⟨rfl, (ho8.trans (hoB _) (fun _ _ h => h)).trans ho9 (fun _ _ h => h)⟩


set_option maxRecDepth 10000 in
set_option maxHeartbeats 3200000 in
theorem reck9_8 (a b : Int) (ha : I32 a) (hb : I32 b) (x : Nat) (hx : x ≤ 255) (hr : (x : Int) % 16 = 6)  (w : World) :
    Calls Try.prog 9 #[.int .i32 a, .int .i32 b, .int .u8 x] w fun e w' => e = .returned (.bool true) ∧ Only Nil w w' := by
  have cK := known9_any w
  have hR : reck 15 a b = some (bits .and .i32 a b) := rfl
  have hrun := run_r9 a b 15 (by decide) (by decide) (by decide) (by decide)
  rw [hR] at hrun
  have hi32 := cR9_i32 ha hb 15
  have hok := (sRun_ok (ss0_ok 0 0 [] (by decide) (by decide) (by intro x hx; cases hx)) hi32 (by show 4 ≤ 2147483647; decide) 9).1
  rw [hrun] at hok
  obtain ⟨v, hv⟩ : ∃ v, bits .and .i32 a b = v := ⟨_, rfl⟩
  rw [hv] at hrun hR hok
  have HOK := Lib.hid hok
  have HI := Lib.hid hi32
  have HR := Lib.hid hrun
  have HV := Lib.hid hv
  clear hv
  clear hR hrun hi32 hok
  go_enter Try.func9, Try.ntmps9
  go_wp2_with fail
  refine cK.mono ?_
  rintro e w1 ⟨rfl, ho1⟩
  clear cK
  have HO1 := Lib.hid ho1
  clear ho1
  go_wp2_with fail
  have hs1 := csrc_alloc w1 (cR9 a b 15) 49 #[.int .i64 1, .int .i32 a, .int .i64 1, .int .i32 b, .int .i64 15, .int .i32 0, .int .i64 0, .int .i32 0] rfl 4 rfl (by decide)
  have ho2 : Only Nil w1 (w1.alloc (.cells #[.int .i64 1, .int .i32 a, .int .i64 1, .int .i32 b, .int .i64 15, .int .i32 0, .int .i64 0, .int .i32 0] 49)) := (Only.refl _ _).alloc _
  have ho2' := HO1.out.trans ho2 (fun _ _ h => h)
  have cN := newS_any (Q := Nil) (cR9 a b 15) [] 0 0 0 0 0 0 (by decide) (by decide) (by decide) (by decide) w1.heap.size 0 _ _ _ hs1 (fun n cap h => by cases h) (srcB_none _ 0) (by show 4 ≤ 1048576; decide) (by decide) (by decide) (fun _ h => h.elim)
  refine cN.mono ?_
  rintro e w4 ⟨mb, wb, cv', iv', rfl, hmb, hwb, ho4, hM4⟩
  clear cN hs1
  have ho4' : Only Nil w w4 := ho2'.trans ho4 (fun _ _ h => h)
  have hF4 : Fr3 w.heap.size mb wb (.slice none 0 0) (.slice none 0 0) (.slice none 0 0) := Fr3.new (by have := ho2'.size; omega) (by have := ho2'.size; omega)
  have cR := runS_any mb wb (cR9 a b 15) HI.out (by show 4 ≤ 2147483647; decide) (ss0 0 0 []) cv' _ _ iv' _ w4 hM4 (ss0_ok 0 0 [] (by decide) (by decide) (by intro x hx; cases hx)) 9 (by decide) (by decide) (by decide) (t := sR9 a b (some v)) HR.out
  rw [show (((sR9 a b (some v)).fin : Nat) : Int) = 1 from rfl, show (((sR9 a b (some v)).trap : Nat) : Int) = 0 from rfl] at cR
  have HF4 := Lib.hid hF4
  have HO4 := Lib.hid ho4'
  clear hM4 hmb hwb ho4 hF4 ho4' ho2 ho2'
  go_wp2_with fail
  refine cR.mono ?_
  rintro e w5 ⟨sv5, kv5, iv5, ov5, rv, rfl, hg5, hown5, hM5⟩
  clear cR
  have ho5 := HF4.out.only HO4.out hg5
  obtain ⟨ao9, n9, cap9, rfl⟩ := ownsRow_slice hown5
  have hoA : Only Nil w5 (w5.alloc (.cells #[Value.slice ao9 n9 cap9, .int .i64 1, .int .i64 0] 44)) := (Only.refl Nil w5).alloc _
  have cO := operandsS_any mb wb (cR9 a b 15) (sR9 a b (some v)) _ _ _ _ _ _ (hM5.quiet hoA) HOK.out.nops
  rw [show (sR9 a b (some v)).ops = [v] from rfl, show ([v] : List Int).length = 1 from rfl] at cO
  have HO := Lib.hid (ho5.trans hoA (fun _ _ h => h))
  clear hM5 hown5 hg5 ho5 HF4 HO4 hoA
  go_wp2_with fail
  refine cO.mono ?_
  rintro e w7 ⟨v7, rfl, hown7, ho7⟩
  have hsr := Src.of_own hown7
  obtain ⟨a7, c7, rfl⟩ := sl_of_own hown7
  have ho8 := HO.out.trans ho7 (fun _ _ h => h)
  have HS := Lib.hid hsr
  clear hown7 ho7 cO hsr
  go_wp2_with fail
  have hoB : ∀ c, Only Nil w7 (w7.alloc (.cells #[Value.int .i32 c] 21)) := fun c => (Only.refl Nil w7).alloc _
  refine (i32s_same _ _ _ _ [v] _ (HS.out.kept (hoB _) (fun _ h => h)) (srcI_alloc w7 v _ (by first | exact HV.out | (rw [← HV.out]; exact IntKind.wrap_i32 _) | (rw [← HV.out]; rfl)) 21) (by show 1 ≤ 1000; decide)).mono ?_
  rintro e w9 ⟨rfl, ho9⟩
  go_wp2_with fail
  go_ret
  exact ⟨rfl, (ho8.trans (hoB _) (fun _ _ h => h)).trans ho9 (fun _ _ h => h)⟩


set_option maxRecDepth 10000 in
set_option maxHeartbeats 3200000 in
theorem reck9_9 (a b : Int) (ha : I32 a) (hb : I32 b) (x : Nat) (hx : x ≤ 255) (hr : (x : Int) % 16 = 7)  (w : World) :
    Calls Try.prog 9 #[.int .i32 a, .int .i32 b, .int .u8 x] w fun e w' => e = .returned (.bool true) ∧ Only Nil w w' := by
  have cK := known9_any w
  have hR : reck 16 a b = some (bits .or .i32 a b) := rfl
  have hrun := run_r9 a b 16 (by decide) (by decide) (by decide) (by decide)
  rw [hR] at hrun
  have hi32 := cR9_i32 ha hb 16
  have hok := (sRun_ok (ss0_ok 0 0 [] (by decide) (by decide) (by intro x hx; cases hx)) hi32 (by show 4 ≤ 2147483647; decide) 9).1
  rw [hrun] at hok
  obtain ⟨v, hv⟩ : ∃ v, bits .or .i32 a b = v := ⟨_, rfl⟩
  rw [hv] at hrun hR hok
  have HOK := Lib.hid hok
  have HI := Lib.hid hi32
  have HR := Lib.hid hrun
  have HV := Lib.hid hv
  clear hv
  clear hR hrun hi32 hok
  go_enter Try.func9, Try.ntmps9
  go_wp2_with fail
  refine cK.mono ?_
  rintro e w1 ⟨rfl, ho1⟩
  clear cK
  have HO1 := Lib.hid ho1
  clear ho1
  go_wp2_with fail
  have hs1 := csrc_alloc w1 (cR9 a b 16) 49 #[.int .i64 1, .int .i32 a, .int .i64 1, .int .i32 b, .int .i64 16, .int .i32 0, .int .i64 0, .int .i32 0] rfl 4 rfl (by decide)
  have ho2 : Only Nil w1 (w1.alloc (.cells #[.int .i64 1, .int .i32 a, .int .i64 1, .int .i32 b, .int .i64 16, .int .i32 0, .int .i64 0, .int .i32 0] 49)) := (Only.refl _ _).alloc _
  have ho2' := HO1.out.trans ho2 (fun _ _ h => h)
  have cN := newS_any (Q := Nil) (cR9 a b 16) [] 0 0 0 0 0 0 (by decide) (by decide) (by decide) (by decide) w1.heap.size 0 _ _ _ hs1 (fun n cap h => by cases h) (srcB_none _ 0) (by show 4 ≤ 1048576; decide) (by decide) (by decide) (fun _ h => h.elim)
  refine cN.mono ?_
  rintro e w4 ⟨mb, wb, cv', iv', rfl, hmb, hwb, ho4, hM4⟩
  clear cN hs1
  have ho4' : Only Nil w w4 := ho2'.trans ho4 (fun _ _ h => h)
  have hF4 : Fr3 w.heap.size mb wb (.slice none 0 0) (.slice none 0 0) (.slice none 0 0) := Fr3.new (by have := ho2'.size; omega) (by have := ho2'.size; omega)
  have cR := runS_any mb wb (cR9 a b 16) HI.out (by show 4 ≤ 2147483647; decide) (ss0 0 0 []) cv' _ _ iv' _ w4 hM4 (ss0_ok 0 0 [] (by decide) (by decide) (by intro x hx; cases hx)) 9 (by decide) (by decide) (by decide) (t := sR9 a b (some v)) HR.out
  rw [show (((sR9 a b (some v)).fin : Nat) : Int) = 1 from rfl, show (((sR9 a b (some v)).trap : Nat) : Int) = 0 from rfl] at cR
  have HF4 := Lib.hid hF4
  have HO4 := Lib.hid ho4'
  clear hM4 hmb hwb ho4 hF4 ho4' ho2 ho2'
  go_wp2_with fail
  refine cR.mono ?_
  rintro e w5 ⟨sv5, kv5, iv5, ov5, rv, rfl, hg5, hown5, hM5⟩
  clear cR
  have ho5 := HF4.out.only HO4.out hg5
  obtain ⟨ao9, n9, cap9, rfl⟩ := ownsRow_slice hown5
  have hoA : Only Nil w5 (w5.alloc (.cells #[Value.slice ao9 n9 cap9, .int .i64 1, .int .i64 0] 44)) := (Only.refl Nil w5).alloc _
  have cO := operandsS_any mb wb (cR9 a b 16) (sR9 a b (some v)) _ _ _ _ _ _ (hM5.quiet hoA) HOK.out.nops
  rw [show (sR9 a b (some v)).ops = [v] from rfl, show ([v] : List Int).length = 1 from rfl] at cO
  have HO := Lib.hid (ho5.trans hoA (fun _ _ h => h))
  clear hM5 hown5 hg5 ho5 HF4 HO4 hoA
  go_wp2_with fail
  refine cO.mono ?_
  rintro e w7 ⟨v7, rfl, hown7, ho7⟩
  have hsr := Src.of_own hown7
  obtain ⟨a7, c7, rfl⟩ := sl_of_own hown7
  have ho8 := HO.out.trans ho7 (fun _ _ h => h)
  have HS := Lib.hid hsr
  clear hown7 ho7 cO hsr
  go_wp2_with fail
  have hoB : ∀ c, Only Nil w7 (w7.alloc (.cells #[Value.int .i32 c] 21)) := fun c => (Only.refl Nil w7).alloc _
  refine (i32s_same _ _ _ _ [v] _ (HS.out.kept (hoB _) (fun _ h => h)) (srcI_alloc w7 v _ (by first | exact HV.out | (rw [← HV.out]; exact IntKind.wrap_i32 _) | (rw [← HV.out]; rfl)) 21) (by show 1 ≤ 1000; decide)).mono ?_
  rintro e w9 ⟨rfl, ho9⟩
  go_wp2_with fail
  go_ret
  exact ⟨rfl, (ho8.trans (hoB _) (fun _ _ h => h)).trans ho9 (fun _ _ h => h)⟩


set_option maxRecDepth 10000 in
set_option maxHeartbeats 3200000 in
theorem reck9_10 (a b : Int) (ha : I32 a) (hb : I32 b) (x : Nat) (hx : x ≤ 255) (hr : (x : Int) % 16 = 8)  (w : World) :
    Calls Try.prog 9 #[.int .i32 a, .int .i32 b, .int .u8 x] w fun e w' => e = .returned (.bool true) ∧ Only Nil w w' := by
  have cK := known9_any w
  have hR : reck 17 a b = some (bits .xor .i32 a b) := rfl
  have hrun := run_r9 a b 17 (by decide) (by decide) (by decide) (by decide)
  rw [hR] at hrun
  have hi32 := cR9_i32 ha hb 17
  have hok := (sRun_ok (ss0_ok 0 0 [] (by decide) (by decide) (by intro x hx; cases hx)) hi32 (by show 4 ≤ 2147483647; decide) 9).1
  rw [hrun] at hok
  obtain ⟨v, hv⟩ : ∃ v, bits .xor .i32 a b = v := ⟨_, rfl⟩
  rw [hv] at hrun hR hok
  have HOK := Lib.hid hok
  have HI := Lib.hid hi32
  have HR := Lib.hid hrun
  have HV := Lib.hid hv
  clear hv
  clear hR hrun hi32 hok
  go_enter Try.func9, Try.ntmps9
  go_wp2_with fail
  refine cK.mono ?_
  rintro e w1 ⟨rfl, ho1⟩
  clear cK
  have HO1 := Lib.hid ho1
  clear ho1
  go_wp2_with fail
  have hs1 := csrc_alloc w1 (cR9 a b 17) 49 #[.int .i64 1, .int .i32 a, .int .i64 1, .int .i32 b, .int .i64 17, .int .i32 0, .int .i64 0, .int .i32 0] rfl 4 rfl (by decide)
  have ho2 : Only Nil w1 (w1.alloc (.cells #[.int .i64 1, .int .i32 a, .int .i64 1, .int .i32 b, .int .i64 17, .int .i32 0, .int .i64 0, .int .i32 0] 49)) := (Only.refl _ _).alloc _
  have ho2' := HO1.out.trans ho2 (fun _ _ h => h)
  have cN := newS_any (Q := Nil) (cR9 a b 17) [] 0 0 0 0 0 0 (by decide) (by decide) (by decide) (by decide) w1.heap.size 0 _ _ _ hs1 (fun n cap h => by cases h) (srcB_none _ 0) (by show 4 ≤ 1048576; decide) (by decide) (by decide) (fun _ h => h.elim)
  refine cN.mono ?_
  rintro e w4 ⟨mb, wb, cv', iv', rfl, hmb, hwb, ho4, hM4⟩
  clear cN hs1
  have ho4' : Only Nil w w4 := ho2'.trans ho4 (fun _ _ h => h)
  have hF4 : Fr3 w.heap.size mb wb (.slice none 0 0) (.slice none 0 0) (.slice none 0 0) := Fr3.new (by have := ho2'.size; omega) (by have := ho2'.size; omega)
  have cR := runS_any mb wb (cR9 a b 17) HI.out (by show 4 ≤ 2147483647; decide) (ss0 0 0 []) cv' _ _ iv' _ w4 hM4 (ss0_ok 0 0 [] (by decide) (by decide) (by intro x hx; cases hx)) 9 (by decide) (by decide) (by decide) (t := sR9 a b (some v)) HR.out
  rw [show (((sR9 a b (some v)).fin : Nat) : Int) = 1 from rfl, show (((sR9 a b (some v)).trap : Nat) : Int) = 0 from rfl] at cR
  have HF4 := Lib.hid hF4
  have HO4 := Lib.hid ho4'
  clear hM4 hmb hwb ho4 hF4 ho4' ho2 ho2'
  go_wp2_with fail
  refine cR.mono ?_
  rintro e w5 ⟨sv5, kv5, iv5, ov5, rv, rfl, hg5, hown5, hM5⟩
  clear cR
  have ho5 := HF4.out.only HO4.out hg5
  obtain ⟨ao9, n9, cap9, rfl⟩ := ownsRow_slice hown5
  have hoA : Only Nil w5 (w5.alloc (.cells #[Value.slice ao9 n9 cap9, .int .i64 1, .int .i64 0] 44)) := (Only.refl Nil w5).alloc _
  have cO := operandsS_any mb wb (cR9 a b 17) (sR9 a b (some v)) _ _ _ _ _ _ (hM5.quiet hoA) HOK.out.nops
  rw [show (sR9 a b (some v)).ops = [v] from rfl, show ([v] : List Int).length = 1 from rfl] at cO
  have HO := Lib.hid (ho5.trans hoA (fun _ _ h => h))
  clear hM5 hown5 hg5 ho5 HF4 HO4 hoA
  go_wp2_with fail
  refine cO.mono ?_
  rintro e w7 ⟨v7, rfl, hown7, ho7⟩
  have hsr := Src.of_own hown7
  obtain ⟨a7, c7, rfl⟩ := sl_of_own hown7
  have ho8 := HO.out.trans ho7 (fun _ _ h => h)
  have HS := Lib.hid hsr
  clear hown7 ho7 cO hsr
  go_wp2_with fail
  have hoB : ∀ c, Only Nil w7 (w7.alloc (.cells #[Value.int .i32 c] 21)) := fun c => (Only.refl Nil w7).alloc _
  refine (i32s_same _ _ _ _ [v] _ (HS.out.kept (hoB _) (fun _ h => h)) (srcI_alloc w7 v _ (by first | exact HV.out | (rw [← HV.out]; exact IntKind.wrap_i32 _) | (rw [← HV.out]; rfl)) 21) (by show 1 ≤ 1000; decide)).mono ?_
  rintro e w9 ⟨rfl, ho9⟩
  go_wp2_with fail
  go_ret
  exact ⟨rfl, (ho8.trans (hoB _) (fun _ _ h => h)).trans ho9 (fun _ _ h => h)⟩


set_option maxRecDepth 10000 in
set_option maxHeartbeats 3200000 in
theorem reck9_11 (a b : Int) (ha : I32 a) (hb : I32 b) (x : Nat) (hx : x ≤ 255) (hr : (x : Int) % 16 = 9)  (w : World) :
    Calls Try.prog 9 #[.int .i32 a, .int .i32 b, .int .u8 x] w fun e w' => e = .returned (.bool true) ∧ Only Nil w w' := by
  have cK := known9_any w
  have hR : reck 17 a b = some (bits .xor .i32 a b) := rfl
  have hrun := run_r9 a b 17 (by decide) (by decide) (by decide) (by decide)
  rw [hR] at hrun
  have hi32 := cR9_i32 ha hb 17
  have hok := (sRun_ok (ss0_ok 0 0 [] (by decide) (by decide) (by intro x hx; cases hx)) hi32 (by show 4 ≤ 2147483647; decide) 9).1
  rw [hrun] at hok
  obtain ⟨v, hv⟩ : ∃ v, bits .xor .i32 a b = v := ⟨_, rfl⟩
  rw [hv] at hrun hR hok
  have HOK := Lib.hid hok
  have HI := Lib.hid hi32
  have HR := Lib.hid hrun
  have HV := Lib.hid hv
  clear hv
  clear hR hrun hi32 hok
  go_enter Try.func9, Try.ntmps9
  go_wp2_with fail
  refine cK.mono ?_
  rintro e w1 ⟨rfl, ho1⟩
  clear cK
  have HO1 := Lib.hid ho1
  clear ho1
  go_wp2_with fail
  have hs1 := csrc_alloc w1 (cR9 a b 17) 49 #[.int .i64 1, .int .i32 a, .int .i64 1, .int .i32 b, .int .i64 17, .int .i32 0, .int .i64 0, .int .i32 0] rfl 4 rfl (by decide)
  have ho2 : Only Nil w1 (w1.alloc (.cells #[.int .i64 1, .int .i32 a, .int .i64 1, .int .i32 b, .int .i64 17, .int .i32 0, .int .i64 0, .int .i32 0] 49)) := (Only.refl _ _).alloc _
  have ho2' := HO1.out.trans ho2 (fun _ _ h => h)
  have cN := newS_any (Q := Nil) (cR9 a b 17) [] 0 0 0 0 0 0 (by decide) (by decide) (by decide) (by decide) w1.heap.size 0 _ _ _ hs1 (fun n cap h => by cases h) (srcB_none _ 0) (by show 4 ≤ 1048576; decide) (by decide) (by decide) (fun _ h => h.elim)
  refine cN.mono ?_
  rintro e w4 ⟨mb, wb, cv', iv', rfl, hmb, hwb, ho4, hM4⟩
  clear cN hs1
  have ho4' : Only Nil w w4 := ho2'.trans ho4 (fun _ _ h => h)
  have hF4 : Fr3 w.heap.size mb wb (.slice none 0 0) (.slice none 0 0) (.slice none 0 0) := Fr3.new (by have := ho2'.size; omega) (by have := ho2'.size; omega)
  have cR := runS_any mb wb (cR9 a b 17) HI.out (by show 4 ≤ 2147483647; decide) (ss0 0 0 []) cv' _ _ iv' _ w4 hM4 (ss0_ok 0 0 [] (by decide) (by decide) (by intro x hx; cases hx)) 9 (by decide) (by decide) (by decide) (t := sR9 a b (some v)) HR.out
  rw [show (((sR9 a b (some v)).fin : Nat) : Int) = 1 from rfl, show (((sR9 a b (some v)).trap : Nat) : Int) = 0 from rfl] at cR
  have HF4 := Lib.hid hF4
  have HO4 := Lib.hid ho4'
  clear hM4 hmb hwb ho4 hF4 ho4' ho2 ho2'
  go_wp2_with fail
  refine cR.mono ?_
  rintro e w5 ⟨sv5, kv5, iv5, ov5, rv, rfl, hg5, hown5, hM5⟩
  clear cR
  have ho5 := HF4.out.only HO4.out hg5
  obtain ⟨ao9, n9, cap9, rfl⟩ := ownsRow_slice hown5
  have hoA : Only Nil w5 (w5.alloc (.cells #[Value.slice ao9 n9 cap9, .int .i64 1, .int .i64 0] 44)) := (Only.refl Nil w5).alloc _
  have cO := operandsS_any mb wb (cR9 a b 17) (sR9 a b (some v)) _ _ _ _ _ _ (hM5.quiet hoA) HOK.out.nops
  rw [show (sR9 a b (some v)).ops = [v] from rfl, show ([v] : List Int).length = 1 from rfl] at cO
  have HO := Lib.hid (ho5.trans hoA (fun _ _ h => h))
  clear hM5 hown5 hg5 ho5 HF4 HO4 hoA
  go_wp2_with fail
  refine cO.mono ?_
  rintro e w7 ⟨v7, rfl, hown7, ho7⟩
  have hsr := Src.of_own hown7
  obtain ⟨a7, c7, rfl⟩ := sl_of_own hown7
  have ho8 := HO.out.trans ho7 (fun _ _ h => h)
  have HS := Lib.hid hsr
  clear hown7 ho7 cO hsr
  go_wp2_with fail
  have hoB : ∀ c, Only Nil w7 (w7.alloc (.cells #[Value.int .i32 c] 21)) := fun c => (Only.refl Nil w7).alloc _
  refine (i32s_same _ _ _ _ [v] _ (HS.out.kept (hoB _) (fun _ h => h)) (srcI_alloc w7 v _ (by first | exact HV.out | (rw [← HV.out]; exact IntKind.wrap_i32 _) | (rw [← HV.out]; rfl)) 21) (by show 1 ≤ 1000; decide)).mono ?_
  rintro e w9 ⟨rfl, ho9⟩
  go_wp2_with fail
  go_ret
  exact ⟨rfl, (ho8.trans (hoB _) (fun _ _ h => h)).trans ho9 (fun _ _ h => h)⟩


set_option maxRecDepth 10000 in
set_option maxHeartbeats 3200000 in
theorem reck9_12 (a b : Int) (ha : I32 a) (hb : I32 b) (x : Nat) (hx : x ≤ 255) (hr : (x : Int) % 16 = 10)  (w : World) :
    Calls Try.prog 9 #[.int .i32 a, .int .i32 b, .int .u8 x] w fun e w' => e = .returned (.bool true) ∧ Only Nil w w' := by
  have cK := known9_any w
  have hR : reck 19 a b = some (wrap32 (a % 4294967296 * 2 ^ sK b % 4294967296)) := rfl
  have hrun := run_r9 a b 19 (by decide) (by decide) (by decide) (by decide)
  rw [hR] at hrun
  have hi32 := cR9_i32 ha hb 19
  have hok := (sRun_ok (ss0_ok 0 0 [] (by decide) (by decide) (by intro x hx; cases hx)) hi32 (by show 4 ≤ 2147483647; decide) 9).1
  rw [hrun] at hok
  obtain ⟨v, hv⟩ : ∃ v, wrap32 (a % 4294967296 * 2 ^ sK b % 4294967296) = v := ⟨_, rfl⟩
  rw [hv] at hrun hR hok
  have cC := fun w => lsl_any1 a b w
  have HOK := Lib.hid hok
  have HI := Lib.hid hi32
  have HR := Lib.hid hrun
  have HV := Lib.hid hv
  clear hv
  clear hR hrun hi32 hok
  go_enter Try.func9, Try.ntmps9
  go_wp2_with fail
  refine cK.mono ?_
  rintro e w1 ⟨rfl, ho1⟩
  clear cK
  have HO1 := Lib.hid ho1
  clear ho1
  go_wp2_with fail
  have hs1 := csrc_alloc w1 (cR9 a b 19) 49 #[.int .i64 1, .int .i32 a, .int .i64 1, .int .i32 b, .int .i64 19, .int .i32 0, .int .i64 0, .int .i32 0] rfl 4 rfl (by decide)
  have ho2 : Only Nil w1 (w1.alloc (.cells #[.int .i64 1, .int .i32 a, .int .i64 1, .int .i32 b, .int .i64 19, .int .i32 0, .int .i64 0, .int .i32 0] 49)) := (Only.refl _ _).alloc _
  have ho2' := HO1.out.trans ho2 (fun _ _ h => h)
  have cN := newS_any (Q := Nil) (cR9 a b 19) [] 0 0 0 0 0 0 (by decide) (by decide) (by decide) (by decide) w1.heap.size 0 _ _ _ hs1 (fun n cap h => by cases h) (srcB_none _ 0) (by show 4 ≤ 1048576; decide) (by decide) (by decide) (fun _ h => h.elim)
  refine cN.mono ?_
  rintro e w4 ⟨mb, wb, cv', iv', rfl, hmb, hwb, ho4, hM4⟩
  clear cN hs1
  have ho4' : Only Nil w w4 := ho2'.trans ho4 (fun _ _ h => h)
  have hF4 : Fr3 w.heap.size mb wb (.slice none 0 0) (.slice none 0 0) (.slice none 0 0) := Fr3.new (by have := ho2'.size; omega) (by have := ho2'.size; omega)
  have cR := runS_any mb wb (cR9 a b 19) HI.out (by show 4 ≤ 2147483647; decide) (ss0 0 0 []) cv' _ _ iv' _ w4 hM4 (ss0_ok 0 0 [] (by decide) (by decide) (by intro x hx; cases hx)) 9 (by decide) (by decide) (by decide) (t := sR9 a b (some v)) HR.out
  rw [show (((sR9 a b (some v)).fin : Nat) : Int) = 1 from rfl, show (((sR9 a b (some v)).trap : Nat) : Int) = 0 from rfl] at cR
  have HF4 := Lib.hid hF4
  have HO4 := Lib.hid ho4'
  clear hM4 hmb hwb ho4 hF4 ho4' ho2 ho2'
  go_wp2_with fail
  refine cR.mono ?_
  rintro e w5 ⟨sv5, kv5, iv5, ov5, rv, rfl, hg5, hown5, hM5⟩
  clear cR
  have ho5 := HF4.out.only HO4.out hg5
  obtain ⟨ao9, n9, cap9, rfl⟩ := ownsRow_slice hown5
  have hoA : Only Nil w5 (w5.alloc (.cells #[Value.slice ao9 n9 cap9, .int .i64 1, .int .i64 0] 44)) := (Only.refl Nil w5).alloc _
  have cO := operandsS_any mb wb (cR9 a b 19) (sR9 a b (some v)) _ _ _ _ _ _ (hM5.quiet hoA) HOK.out.nops
  rw [show (sR9 a b (some v)).ops = [v] from rfl, show ([v] : List Int).length = 1 from rfl] at cO
  have HO := Lib.hid (ho5.trans hoA (fun _ _ h => h))
  clear hM5 hown5 hg5 ho5 HF4 HO4 hoA
  go_wp2_with fail
  refine (cC _).mono ?_
  rintro e w6 ⟨rfl, rfl⟩
  clear cC
  go_wp2_with fail
  refine cO.mono ?_
  rintro e w7 ⟨v7, rfl, hown7, ho7⟩
  have hsr := Src.of_own hown7
  obtain ⟨a7, c7, rfl⟩ := sl_of_own hown7
  have ho8 := HO.out.trans ho7 (fun _ _ h => h)
  have HS := Lib.hid hsr
  clear hown7 ho7 cO hsr
  go_wp2_with fail
  have hoB : ∀ c, Only Nil w7 (w7.alloc (.cells #[Value.int .i32 c] 21)) := fun c => (Only.refl Nil w7).alloc _
  refine (i32s_same _ _ _ _ [v] _ (HS.out.kept (hoB _) (fun _ h => h)) (srcI_alloc w7 v _ (by first | exact HV.out | (rw [← HV.out]; exact IntKind.wrap_i32 _) | (rw [← HV.out]; rfl)) 21) (by show 1 ≤ 1000; decide)).mono ?_
  rintro e w9 ⟨rfl, ho9⟩
  go_wp2_with fail
  go_ret
  exact ⟨rfl, (ho8.trans (hoB _) (fun _ _ h => h)).trans ho9 (fun _ _ h => h)⟩


set_option maxRecDepth 10000 in
set_option maxHeartbeats 3200000 in
theorem reck9_13 (a b : Int) (ha : I32 a) (hb : I32 b) (x : Nat) (hx : x ≤ 255) (hr : (x : Int) % 16 = 11)  (w : World) :
    Calls Try.prog 9 #[.int .i32 a, .int .i32 b, .int .u8 x] w fun e w' => e = .returned (.bool true) ∧ Only Nil w w' := by
  have cK := known9_any w
  have hR : reck 20 a b = some (a / 2 ^ sK b) := rfl
  have hrun := run_r9 a b 20 (by decide) (by decide) (by decide) (by decide)
  rw [hR] at hrun
  have hi32 := cR9_i32 ha hb 20
  have hok := (sRun_ok (ss0_ok 0 0 [] (by decide) (by decide) (by intro x hx; cases hx)) hi32 (by show 4 ≤ 2147483647; decide) 9).1
  rw [hrun] at hok
  obtain ⟨v, hv⟩ : ∃ v, a / 2 ^ sK b = v := ⟨_, rfl⟩
  rw [hv] at hrun hR hok
  have cC := fun w => asr_any1 a b w
  have HOK := Lib.hid hok
  have HI := Lib.hid hi32
  have HR := Lib.hid hrun
  have HV := Lib.hid hv
  clear hv
  clear hR hrun hi32 hok
  go_enter Try.func9, Try.ntmps9
  go_wp2_with fail
  refine cK.mono ?_
  rintro e w1 ⟨rfl, ho1⟩
  clear cK
  have HO1 := Lib.hid ho1
  clear ho1
  go_wp2_with fail
  have hs1 := csrc_alloc w1 (cR9 a b 20) 49 #[.int .i64 1, .int .i32 a, .int .i64 1, .int .i32 b, .int .i64 20, .int .i32 0, .int .i64 0, .int .i32 0] rfl 4 rfl (by decide)
  have ho2 : Only Nil w1 (w1.alloc (.cells #[.int .i64 1, .int .i32 a, .int .i64 1, .int .i32 b, .int .i64 20, .int .i32 0, .int .i64 0, .int .i32 0] 49)) := (Only.refl _ _).alloc _
  have ho2' := HO1.out.trans ho2 (fun _ _ h => h)
  have cN := newS_any (Q := Nil) (cR9 a b 20) [] 0 0 0 0 0 0 (by decide) (by decide) (by decide) (by decide) w1.heap.size 0 _ _ _ hs1 (fun n cap h => by cases h) (srcB_none _ 0) (by show 4 ≤ 1048576; decide) (by decide) (by decide) (fun _ h => h.elim)
  refine cN.mono ?_
  rintro e w4 ⟨mb, wb, cv', iv', rfl, hmb, hwb, ho4, hM4⟩
  clear cN hs1
  have ho4' : Only Nil w w4 := ho2'.trans ho4 (fun _ _ h => h)
  have hF4 : Fr3 w.heap.size mb wb (.slice none 0 0) (.slice none 0 0) (.slice none 0 0) := Fr3.new (by have := ho2'.size; omega) (by have := ho2'.size; omega)
  have cR := runS_any mb wb (cR9 a b 20) HI.out (by show 4 ≤ 2147483647; decide) (ss0 0 0 []) cv' _ _ iv' _ w4 hM4 (ss0_ok 0 0 [] (by decide) (by decide) (by intro x hx; cases hx)) 9 (by decide) (by decide) (by decide) (t := sR9 a b (some v)) HR.out
  rw [show (((sR9 a b (some v)).fin : Nat) : Int) = 1 from rfl, show (((sR9 a b (some v)).trap : Nat) : Int) = 0 from rfl] at cR
  have HF4 := Lib.hid hF4
  have HO4 := Lib.hid ho4'
  clear hM4 hmb hwb ho4 hF4 ho4' ho2 ho2'
  go_wp2_with fail
  refine cR.mono ?_
  rintro e w5 ⟨sv5, kv5, iv5, ov5, rv, rfl, hg5, hown5, hM5⟩
  clear cR
  have ho5 := HF4.out.only HO4.out hg5
  obtain ⟨ao9, n9, cap9, rfl⟩ := ownsRow_slice hown5
  have hoA : Only Nil w5 (w5.alloc (.cells #[Value.slice ao9 n9 cap9, .int .i64 1, .int .i64 0] 44)) := (Only.refl Nil w5).alloc _
  have cO := operandsS_any mb wb (cR9 a b 20) (sR9 a b (some v)) _ _ _ _ _ _ (hM5.quiet hoA) HOK.out.nops
  rw [show (sR9 a b (some v)).ops = [v] from rfl, show ([v] : List Int).length = 1 from rfl] at cO
  have HO := Lib.hid (ho5.trans hoA (fun _ _ h => h))
  clear hM5 hown5 hg5 ho5 HF4 HO4 hoA
  go_wp2_with fail
  refine (cC _).mono ?_
  rintro e w6 ⟨rfl, rfl⟩
  clear cC
  go_wp2_with fail
  refine cO.mono ?_
  rintro e w7 ⟨v7, rfl, hown7, ho7⟩
  have hsr := Src.of_own hown7
  obtain ⟨a7, c7, rfl⟩ := sl_of_own hown7
  have ho8 := HO.out.trans ho7 (fun _ _ h => h)
  have HS := Lib.hid hsr
  clear hown7 ho7 cO hsr
  go_wp2_with fail
  have hoB : ∀ c, Only Nil w7 (w7.alloc (.cells #[Value.int .i32 c] 21)) := fun c => (Only.refl Nil w7).alloc _
  refine (i32s_same _ _ _ _ [v] _ (HS.out.kept (hoB _) (fun _ h => h)) (srcI_alloc w7 v _ (by first | exact HV.out | (rw [← HV.out]; exact IntKind.wrap_i32 _) | (rw [← HV.out]; rfl)) 21) (by show 1 ≤ 1000; decide)).mono ?_
  rintro e w9 ⟨rfl, ho9⟩
  go_wp2_with fail
  go_ret
  exact ⟨rfl, (ho8.trans (hoB _) (fun _ _ h => h)).trans ho9 (fun _ _ h => h)⟩


set_option maxRecDepth 10000 in
set_option maxHeartbeats 3200000 in
theorem reck9_14 (a b : Int) (ha : I32 a) (hb : I32 b) (x : Nat) (hx : x ≤ 255) (hr : (x : Int) % 16 = 12)  (w : World) :
    Calls Try.prog 9 #[.int .i32 a, .int .i32 b, .int .u8 x] w fun e w' => e = .returned (.bool true) ∧ Only Nil w w' := by
  have cK := known9_any w
  have hR : reck 21 a b = some (S (rorN (U a) (sK b))) := rfl
  have hrun := run_r9 a b 21 (by decide) (by decide) (by decide) (by decide)
  rw [hR] at hrun
  have hi32 := cR9_i32 ha hb 21
  have hok := (sRun_ok (ss0_ok 0 0 [] (by decide) (by decide) (by intro x hx; cases hx)) hi32 (by show 4 ≤ 2147483647; decide) 9).1
  rw [hrun] at hok
  obtain ⟨v, hv⟩ : ∃ v, S (rorN (U a) (sK b)) = v := ⟨_, rfl⟩
  rw [hv] at hrun hR hok
  have cC := fun w => ror_any1 a b w
  have HOK := Lib.hid hok
  have HI := Lib.hid hi32
  have HR := Lib.hid hrun
  have HV := Lib.hid hv
  clear hv
  clear hR hrun hi32 hok
  go_enter Try.func9, Try.ntmps9
  go_wp2_with fail
  refine cK.mono ?_
  rintro e w1 ⟨rfl, ho1⟩
  clear cK
  have HO1 := Lib.hid ho1
  clear ho1
  go_wp2_with fail
  have hs1 := csrc_alloc w1 (cR9 a b 21) 49 #[.int .i64 1, .int .i32 a, .int .i64 1, .int .i32 b, .int .i64 21, .int .i32 0, .int .i64 0, .int .i32 0] rfl 4 rfl (by decide)
  have ho2 : Only Nil w1 (w1.alloc (.cells #[.int .i64 1, .int .i32 a, .int .i64 1, .int .i32 b, .int .i64 21, .int .i32 0, .int .i64 0, .int .i32 0] 49)) := (Only.refl _ _).alloc _
  have ho2' := HO1.out.trans ho2 (fun _ _ h => h)
  have cN := newS_any (Q := Nil) (cR9 a b 21) [] 0 0 0 0 0 0 (by decide) (by decide) (by decide) (by decide) w1.heap.size 0 _ _ _ hs1 (fun n cap h => by cases h) (srcB_none _ 0) (by show 4 ≤ 1048576; decide) (by decide) (by decide) (fun _ h => h.elim)
  refine cN.mono ?_
  rintro e w4 ⟨mb, wb, cv', iv', rfl, hmb, hwb, ho4, hM4⟩
  clear cN hs1
  have ho4' : Only Nil w w4 := ho2'.trans ho4 (fun _ _ h => h)
  have hF4 : Fr3 w.heap.size mb wb (.slice none 0 0) (.slice none 0 0) (.slice none 0 0) := Fr3.new (by have := ho2'.size; omega) (by have := ho2'.size; omega)
  have cR := runS_any mb wb (cR9 a b 21) HI.out (by show 4 ≤ 2147483647; decide) (ss0 0 0 []) cv' _ _ iv' _ w4 hM4 (ss0_ok 0 0 [] (by decide) (by decide) (by intro x hx; cases hx)) 9 (by decide) (by decide) (by decide) (t := sR9 a b (some v)) HR.out
  rw [show (((sR9 a b (some v)).fin : Nat) : Int) = 1 from rfl, show (((sR9 a b (some v)).trap : Nat) : Int) = 0 from rfl] at cR
  have HF4 := Lib.hid hF4
  have HO4 := Lib.hid ho4'
  clear hM4 hmb hwb ho4 hF4 ho4' ho2 ho2'
  go_wp2_with fail
  refine cR.mono ?_
  rintro e w5 ⟨sv5, kv5, iv5, ov5, rv, rfl, hg5, hown5, hM5⟩
  clear cR
  have ho5 := HF4.out.only HO4.out hg5
  obtain ⟨ao9, n9, cap9, rfl⟩ := ownsRow_slice hown5
  have hoA : Only Nil w5 (w5.alloc (.cells #[Value.slice ao9 n9 cap9, .int .i64 1, .int .i64 0] 44)) := (Only.refl Nil w5).alloc _
  have cO := operandsS_any mb wb (cR9 a b 21) (sR9 a b (some v)) _ _ _ _ _ _ (hM5.quiet hoA) HOK.out.nops
  rw [show (sR9 a b (some v)).ops = [v] from rfl, show ([v] : List Int).length = 1 from rfl] at cO
  have HO := Lib.hid (ho5.trans hoA (fun _ _ h => h))
  clear hM5 hown5 hg5 ho5 HF4 HO4 hoA
  go_wp2_with fail
  refine (cC _).mono ?_
  rintro e w6 ⟨rfl, rfl⟩
  clear cC
  go_wp2_with fail
  refine cO.mono ?_
  rintro e w7 ⟨v7, rfl, hown7, ho7⟩
  have hsr := Src.of_own hown7
  obtain ⟨a7, c7, rfl⟩ := sl_of_own hown7
  have ho8 := HO.out.trans ho7 (fun _ _ h => h)
  have HS := Lib.hid hsr
  clear hown7 ho7 cO hsr
  go_wp2_with fail
  have hoB : ∀ c, Only Nil w7 (w7.alloc (.cells #[Value.int .i32 c] 21)) := fun c => (Only.refl Nil w7).alloc _
  refine (i32s_same _ _ _ _ [v] _ (HS.out.kept (hoB _) (fun _ h => h)) (srcI_alloc w7 v _ (by first | exact HV.out | (rw [← HV.out]; exact IntKind.wrap_i32 _) | (rw [← HV.out]; rfl)) 21) (by show 1 ≤ 1000; decide)).mono ?_
  rintro e w9 ⟨rfl, ho9⟩
  go_wp2_with fail
  go_ret
  exact ⟨rfl, (ho8.trans (hoB _) (fun _ _ h => h)).trans ho9 (fun _ _ h => h)⟩


set_option maxRecDepth 10000 in
set_option maxHeartbeats 3200000 in
theorem reck9_15 (a b : Int) (ha : I32 a) (hb : I32 b) (x : Nat) (hx : x ≤ 255) (hr : (x : Int) % 16 = 13) (t : Bool) (h1 : (a == b) = t) (w : World) :
    Calls Try.prog 9 #[.int .i32 a, .int .i32 b, .int .u8 x] w fun e w' => e = .returned (.bool true) ∧ Only Nil w w' := by
  have cK := known9_any w
  have hR : reck 22 a b = some (M.one t) := by subst h1; rfl
  have hrun := run_r9 a b 22 (by decide) (by decide) (by decide) (by decide)
  rw [hR] at hrun
  have hi32 := cR9_i32 ha hb 22
  have hok := (sRun_ok (ss0_ok 0 0 [] (by decide) (by decide) (by intro x hx; cases hx)) hi32 (by show 4 ≤ 2147483647; decide) 9).1
  rw [hrun] at hok
  obtain ⟨v, hv⟩ : ∃ v, M.one t = v := ⟨_, rfl⟩
  rw [hv] at hrun hR hok
  have cC := fun w => flag9_any t w
  have HOK := Lib.hid hok
  have HI := Lib.hid hi32
  have HR := Lib.hid hrun
  have HV := Lib.hid hv
  clear hv
  clear hR hrun hi32 hok
  go_enter Try.func9, Try.ntmps9
  go_wp2_with fail
  refine cK.mono ?_
  rintro e w1 ⟨rfl, ho1⟩
  clear cK
  have HO1 := Lib.hid ho1
  clear ho1
  go_wp2_with fail
  have hs1 := csrc_alloc w1 (cR9 a b 22) 49 #[.int .i64 1, .int .i32 a, .int .i64 1, .int .i32 b, .int .i64 22, .int .i32 0, .int .i64 0, .int .i32 0] rfl 4 rfl (by decide)
  have ho2 : Only Nil w1 (w1.alloc (.cells #[.int .i64 1, .int .i32 a, .int .i64 1, .int .i32 b, .int .i64 22, .int .i32 0, .int .i64 0, .int .i32 0] 49)) := (Only.refl _ _).alloc _
  have ho2' := HO1.out.trans ho2 (fun _ _ h => h)
  have cN := newS_any (Q := Nil) (cR9 a b 22) [] 0 0 0 0 0 0 (by decide) (by decide) (by decide) (by decide) w1.heap.size 0 _ _ _ hs1 (fun n cap h => by cases h) (srcB_none _ 0) (by show 4 ≤ 1048576; decide) (by decide) (by decide) (fun _ h => h.elim)
  refine cN.mono ?_
  rintro e w4 ⟨mb, wb, cv', iv', rfl, hmb, hwb, ho4, hM4⟩
  clear cN hs1
  have ho4' : Only Nil w w4 := ho2'.trans ho4 (fun _ _ h => h)
  have hF4 : Fr3 w.heap.size mb wb (.slice none 0 0) (.slice none 0 0) (.slice none 0 0) := Fr3.new (by have := ho2'.size; omega) (by have := ho2'.size; omega)
  have cR := runS_any mb wb (cR9 a b 22) HI.out (by show 4 ≤ 2147483647; decide) (ss0 0 0 []) cv' _ _ iv' _ w4 hM4 (ss0_ok 0 0 [] (by decide) (by decide) (by intro x hx; cases hx)) 9 (by decide) (by decide) (by decide) (t := sR9 a b (some v)) HR.out
  rw [show (((sR9 a b (some v)).fin : Nat) : Int) = 1 from rfl, show (((sR9 a b (some v)).trap : Nat) : Int) = 0 from rfl] at cR
  have HF4 := Lib.hid hF4
  have HO4 := Lib.hid ho4'
  clear hM4 hmb hwb ho4 hF4 ho4' ho2 ho2'
  go_wp2_with fail
  refine cR.mono ?_
  rintro e w5 ⟨sv5, kv5, iv5, ov5, rv, rfl, hg5, hown5, hM5⟩
  clear cR
  have ho5 := HF4.out.only HO4.out hg5
  obtain ⟨ao9, n9, cap9, rfl⟩ := ownsRow_slice hown5
  have hoA : Only Nil w5 (w5.alloc (.cells #[Value.slice ao9 n9 cap9, .int .i64 1, .int .i64 0] 44)) := (Only.refl Nil w5).alloc _
  have cO := operandsS_any mb wb (cR9 a b 22) (sR9 a b (some v)) _ _ _ _ _ _ (hM5.quiet hoA) HOK.out.nops
  rw [show (sR9 a b (some v)).ops = [v] from rfl, show ([v] : List Int).length = 1 from rfl] at cO
  have HO := Lib.hid (ho5.trans hoA (fun _ _ h => h))
  clear hM5 hown5 hg5 ho5 HF4 HO4 hoA
  go_wp2_with fail
  refine (cC _).mono ?_
  rintro e w6 ⟨rfl, rfl⟩
  clear cC
  go_wp2_with fail
  refine cO.mono ?_
  rintro e w7 ⟨v7, rfl, hown7, ho7⟩
  have hsr := Src.of_own hown7
  obtain ⟨a7, c7, rfl⟩ := sl_of_own hown7
  have ho8 := HO.out.trans ho7 (fun _ _ h => h)
  have HS := Lib.hid hsr
  clear hown7 ho7 cO hsr
  go_wp2_with fail
  have hoB : ∀ c, Only Nil w7 (w7.alloc (.cells #[Value.int .i32 c] 21)) := fun c => (Only.refl Nil w7).alloc _
  refine (i32s_same _ _ _ _ [v] _ (HS.out.kept (hoB _) (fun _ h => h)) (srcI_alloc w7 v _ (by first | exact HV.out | (rw [← HV.out]; exact IntKind.wrap_i32 _) | (rw [← HV.out]; rfl)) 21) (by show 1 ≤ 1000; decide)).mono ?_
  rintro e w9 ⟨rfl, ho9⟩
  go_wp2_with fail
  go_ret
  exact ⟨rfl, (ho8.trans (hoB _) (fun _ _ h => h)).trans ho9 (fun _ _ h => h)⟩


set_option maxRecDepth 10000 in
set_option maxHeartbeats 3200000 in
theorem reck9_16 (a b : Int) (ha : I32 a) (hb : I32 b) (x : Nat) (hx : x ≤ 255) (hr : (x : Int) % 16 = 14) (t : Bool) (h1 : decide (a < b) = t) (w : World) :
    Calls Try.prog 9 #[.int .i32 a, .int .i32 b, .int .u8 x] w fun e w' => e = .returned (.bool true) ∧ Only Nil w w' := by
  have cK := known9_any w
  have hR : reck 23 a b = some (M.one t) := by subst h1; rfl
  have hrun := run_r9 a b 23 (by decide) (by decide) (by decide) (by decide)
  rw [hR] at hrun
  have hi32 := cR9_i32 ha hb 23
  have hok := (sRun_ok (ss0_ok 0 0 [] (by decide) (by decide) (by intro x hx; cases hx)) hi32 (by show 4 ≤ 2147483647; decide) 9).1
  rw [hrun] at hok
  obtain ⟨v, hv⟩ : ∃ v, M.one t = v := ⟨_, rfl⟩
  rw [hv] at hrun hR hok
  have cC := fun w => flag9_any t w
  have HOK := Lib.hid hok
  have HI := Lib.hid hi32
  have HR := Lib.hid hrun
  have HV := Lib.hid hv
  clear hv
  clear hR hrun hi32 hok
  go_enter Try.func9, Try.ntmps9
  go_wp2_with fail
  refine cK.mono ?_
  rintro e w1 ⟨rfl, ho1⟩
  clear cK
  have HO1 := Lib.hid ho1
  clear ho1
  go_wp2_with fail
  have hs1 := csrc_alloc w1 (cR9 a b 23) 49 #[.int .i64 1, .int .i32 a, .int .i64 1, .int .i32 b, .int .i64 23, .int .i32 0, .int .i64 0, .int .i32 0] rfl 4 rfl (by decide)
  have ho2 : Only Nil w1 (w1.alloc (.cells #[.int .i64 1, .int .i32 a, .int .i64 1, .int .i32 b, .int .i64 23, .int .i32 0, .int .i64 0, .int .i32 0] 49)) := (Only.refl _ _).alloc _
  have ho2' := HO1.out.trans ho2 (fun _ _ h => h)
  have cN := newS_any (Q := Nil) (cR9 a b 23) [] 0 0 0 0 0 0 (by decide) (by decide) (by decide) (by decide) w1.heap.size 0 _ _ _ hs1 (fun n cap h => by cases h) (srcB_none _ 0) (by show 4 ≤ 1048576; decide) (by decide) (by decide) (fun _ h => h.elim)
  refine cN.mono ?_
  rintro e w4 ⟨mb, wb, cv', iv', rfl, hmb, hwb, ho4, hM4⟩
  clear cN hs1
  have ho4' : Only Nil w w4 := ho2'.trans ho4 (fun _ _ h => h)
  have hF4 : Fr3 w.heap.size mb wb (.slice none 0 0) (.slice none 0 0) (.slice none 0 0) := Fr3.new (by have := ho2'.size; omega) (by have := ho2'.size; omega)
  have cR := runS_any mb wb (cR9 a b 23) HI.out (by show 4 ≤ 2147483647; decide) (ss0 0 0 []) cv' _ _ iv' _ w4 hM4 (ss0_ok 0 0 [] (by decide) (by decide) (by intro x hx; cases hx)) 9 (by decide) (by decide) (by decide) (t := sR9 a b (some v)) HR.out
  rw [show (((sR9 a b (some v)).fin : Nat) : Int) = 1 from rfl, show (((sR9 a b (some v)).trap : Nat) : Int) = 0 from rfl] at cR
  have HF4 := Lib.hid hF4
  have HO4 := Lib.hid ho4'
  clear hM4 hmb hwb ho4 hF4 ho4' ho2 ho2'
  go_wp2_with fail
  refine cR.mono ?_
  rintro e w5 ⟨sv5, kv5, iv5, ov5, rv, rfl, hg5, hown5, hM5⟩
  clear cR
  have ho5 := HF4.out.only HO4.out hg5
  obtain ⟨ao9, n9, cap9, rfl⟩ := ownsRow_slice hown5
  have hoA : Only Nil w5 (w5.alloc (.cells #[Value.slice ao9 n9 cap9, .int .i64 1, .int .i64 0] 44)) := (Only.refl Nil w5).alloc _
  have cO := operandsS_any mb wb (cR9 a b 23) (sR9 a b (some v)) _ _ _ _ _ _ (hM5.quiet hoA) HOK.out.nops
  rw [show (sR9 a b (some v)).ops = [v] from rfl, show ([v] : List Int).length = 1 from rfl] at cO
  have HO := Lib.hid (ho5.trans hoA (fun _ _ h => h))
  clear hM5 hown5 hg5 ho5 HF4 HO4 hoA
  go_wp2_with fail
  refine (cC _).mono ?_
  rintro e w6 ⟨rfl, rfl⟩
  clear cC
  go_wp2_with fail
  refine cO.mono ?_
  rintro e w7 ⟨v7, rfl, hown7, ho7⟩
  have hsr := Src.of_own hown7
  obtain ⟨a7, c7, rfl⟩ := sl_of_own hown7
  have ho8 := HO.out.trans ho7 (fun _ _ h => h)
  have HS := Lib.hid hsr
  clear hown7 ho7 cO hsr
  go_wp2_with fail
  have hoB : ∀ c, Only Nil w7 (w7.alloc (.cells #[Value.int .i32 c] 21)) := fun c => (Only.refl Nil w7).alloc _
  refine (i32s_same _ _ _ _ [v] _ (HS.out.kept (hoB _) (fun _ h => h)) (srcI_alloc w7 v _ (by first | exact HV.out | (rw [← HV.out]; exact IntKind.wrap_i32 _) | (rw [← HV.out]; rfl)) 21) (by show 1 ≤ 1000; decide)).mono ?_
  rintro e w9 ⟨rfl, ho9⟩
  go_wp2_with fail
  go_ret
  exact ⟨rfl, (ho8.trans (hoB _) (fun _ _ h => h)).trans ho9 (fun _ _ h => h)⟩


set_option maxRecDepth 10000 in
set_option maxHeartbeats 3200000 in
theorem reck9_17 (a b : Int) (ha : I32 a) (hb : I32 b) (x : Nat) (hx : x ≤ 255) (hr : (x : Int) % 16 = 15) (t : Bool) (h1 : decide (a ≤ b) = t) (w : World) :
    Calls Try.prog 9 #[.int .i32 a, .int .i32 b, .int .u8 x] w fun e w' => e = .returned (.bool true) ∧ Only Nil w w' := by
  have cK := known9_any w
  have hR : reck 24 a b = some (M.one t) := by subst h1; rfl
  have hrun := run_r9 a b 24 (by decide) (by decide) (by decide) (by decide)
  rw [hR] at hrun
  have hi32 := cR9_i32 ha hb 24
  have hok := (sRun_ok (ss0_ok 0 0 [] (by decide) (by decide) (by intro x hx; cases hx)) hi32 (by show 4 ≤ 2147483647; decide) 9).1
  rw [hrun] at hok
  obtain ⟨v, hv⟩ : ∃ v, M.one t = v := ⟨_, rfl⟩
  rw [hv] at hrun hR hok
  have cC := fun w => flag9_any t w
  have HOK := Lib.hid hok
  have HI := Lib.hid hi32
  have HR := Lib.hid hrun
  have HV := Lib.hid hv
  clear hv
  clear hR hrun hi32 hok
  go_enter Try.func9, Try.ntmps9
  go_wp2_with fail
  refine cK.mono ?_
  rintro e w1 ⟨rfl, ho1⟩
  clear cK
  have HO1 := Lib.hid ho1
  clear ho1
  go_wp2_with fail
  have hs1 := csrc_alloc w1 (cR9 a b 24) 49 #[.int .i64 1, .int .i32 a, .int .i64 1, .int .i32 b, .int .i64 24, .int .i32 0, .int .i64 0, .int .i32 0] rfl 4 rfl (by decide)
  have ho2 : Only Nil w1 (w1.alloc (.cells #[.int .i64 1, .int .i32 a, .int .i64 1, .int .i32 b, .int .i64 24, .int .i32 0, .int .i64 0, .int .i32 0] 49)) := (Only.refl _ _).alloc _
  have ho2' := HO1.out.trans ho2 (fun _ _ h => h)
  have cN := newS_any (Q := Nil) (cR9 a b 24) [] 0 0 0 0 0 0 (by decide) (by decide) (by decide) (by decide) w1.heap.size 0 _ _ _ hs1 (fun n cap h => by cases h) (srcB_none _ 0) (by show 4 ≤ 1048576; decide) (by decide) (by decide) (fun _ h => h.elim)
  refine cN.mono ?_
  rintro e w4 ⟨mb, wb, cv', iv', rfl, hmb, hwb, ho4, hM4⟩
  clear cN hs1
  have ho4' : Only Nil w w4 := ho2'.trans ho4 (fun _ _ h => h)
  have hF4 : Fr3 w.heap.size mb wb (.slice none 0 0) (.slice none 0 0) (.slice none 0 0) := Fr3.new (by have := ho2'.size; omega) (by have := ho2'.size; omega)
  have cR := runS_any mb wb (cR9 a b 24) HI.out (by show 4 ≤ 2147483647; decide) (ss0 0 0 []) cv' _ _ iv' _ w4 hM4 (ss0_ok 0 0 [] (by decide) (by decide) (by intro x hx; cases hx)) 9 (by decide) (by decide) (by decide) (t := sR9 a b (some v)) HR.out
  rw [show (((sR9 a b (some v)).fin : Nat) : Int) = 1 from rfl, show (((sR9 a b (some v)).trap : Nat) : Int) = 0 from rfl] at cR
  have HF4 := Lib.hid hF4
  have HO4 := Lib.hid ho4'
  clear hM4 hmb hwb ho4 hF4 ho4' ho2 ho2'
  go_wp2_with fail
  refine cR.mono ?_
  rintro e w5 ⟨sv5, kv5, iv5, ov5, rv, rfl, hg5, hown5, hM5⟩
  clear cR
  have ho5 := HF4.out.only HO4.out hg5
  obtain ⟨ao9, n9, cap9, rfl⟩ := ownsRow_slice hown5
  have hoA : Only Nil w5 (w5.alloc (.cells #[Value.slice ao9 n9 cap9, .int .i64 1, .int .i64 0] 44)) := (Only.refl Nil w5).alloc _
  have cO := operandsS_any mb wb (cR9 a b 24) (sR9 a b (some v)) _ _ _ _ _ _ (hM5.quiet hoA) HOK.out.nops
  rw [show (sR9 a b (some v)).ops = [v] from rfl, show ([v] : List Int).length = 1 from rfl] at cO
  have HO := Lib.hid (ho5.trans hoA (fun _ _ h => h))
  clear hM5 hown5 hg5 ho5 HF4 HO4 hoA
  go_wp2_with fail
  refine (cC _).mono ?_
  rintro e w6 ⟨rfl, rfl⟩
  clear cC
  go_wp2_with fail
  refine cO.mono ?_
  rintro e w7 ⟨v7, rfl, hown7, ho7⟩
  have hsr := Src.of_own hown7
  obtain ⟨a7, c7, rfl⟩ := sl_of_own hown7
  have ho8 := HO.out.trans ho7 (fun _ _ h => h)
  have HS := Lib.hid hsr
  clear hown7 ho7 cO hsr
  go_wp2_with fail
  have hoB : ∀ c, Only Nil w7 (w7.alloc (.cells #[Value.int .i32 c] 21)) := fun c => (Only.refl Nil w7).alloc _
  refine (i32s_same _ _ _ _ [v] _ (HS.out.kept (hoB _) (fun _ h => h)) (srcI_alloc w7 v _ (by first | exact HV.out | (rw [← HV.out]; exact IntKind.wrap_i32 _) | (rw [← HV.out]; rfl)) 21) (by show 1 ≤ 1000; decide)).mono ?_
  rintro e w9 ⟨rfl, ho9⟩
  go_wp2_with fail
  go_ret
  exact ⟨rfl, (ho8.trans (hoB _) (fun _ _ h => h)).trans ho9 (fun _ _ h => h)⟩


theorem reck9Law_any (a b : Int) (ha : I32 a) (hb : I32 b) (x : Nat) (hx : x ≤ 255) (w : World) :
    Calls Try.prog 9 #[.int .i32 a, .int .i32 b, .int .u8 x] w fun e w' => e = .returned (.bool true) ∧ Only Nil w w' := by
  have hc : (x : Int) % 16 = 0 ∨ (x : Int) % 16 = 1 ∨ (x : Int) % 16 = 2 ∨ (x : Int) % 16 = 3 ∨ (x : Int) % 16 = 4 ∨ (x : Int) % 16 = 5 ∨ (x : Int) % 16 = 6 ∨ (x : Int) % 16 = 7 ∨ (x : Int) % 16 = 8 ∨ (x : Int) % 16 = 9 ∨ (x : Int) % 16 = 10 ∨ (x : Int) % 16 = 11 ∨ (x : Int) % 16 = 12 ∨ (x : Int) % 16 = 13 ∨ (x : Int) % 16 = 14 ∨ (x : Int) % 16 = 15 := by omega
  rcases hc with h | h | h | h | h | h | h | h | h | h | h | h | h | h | h | h
  · exact reck9_0 a b ha hb x hx h w
  · exact reck9_1 a b ha hb x hx h w
  · exact reck9_2 a b ha hb x hx h w
  · by_cases h1 : b < 1
    · exact reck9_4 a b ha hb x hx h h1 w
    · exact reck9_3 a b ha hb x hx h (by omega) w
  · by_cases h1 : b < 1
    · exact reck9_6 a b ha hb x hx h h1 w
    · exact reck9_5 a b ha hb x hx h (by omega) w
  · exact reck9_7 a b ha hb x hx h w
  · exact reck9_8 a b ha hb x hx h w
  · exact reck9_9 a b ha hb x hx h w
  · exact reck9_10 a b ha hb x hx h w
  · exact reck9_11 a b ha hb x hx h w
  · exact reck9_12 a b ha hb x hx h w
  · exact reck9_13 a b ha hb x hx h w
  · exact reck9_14 a b ha hb x hx h w
  · exact reck9_15 a b ha hb x hx h _ rfl w
  · exact reck9_16 a b ha hb x hx h _ rfl w
  · exact reck9_17 a b ha hb x hx h _ rfl w

end Go.Proofs.Ytbgmdckfkfkglaa

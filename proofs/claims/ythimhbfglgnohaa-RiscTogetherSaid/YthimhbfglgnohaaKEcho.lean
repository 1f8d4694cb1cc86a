/- The walk of the law RiscEcho. -/
import Derived.Test.YthimhbfglgnohaaKPut
set_option linter.unusedSimpArgs false
set_option linter.unusedVariables false
namespace Go.Proofs.Ythimhbfglgnohaa
open Go.RowKit M

def lEcho : List Ins := [⟨2, false, false, 1, 0, 0, 0, -60⟩, ⟨3, true, false, 9, 0, 0, 0, 3⟩, ⟨2, false, false, 1, 0, 0, 0, -64⟩, ⟨2, true, false, 1, 0, 0, 0, -64⟩, ⟨3, true, false, 7, 0, 0, 0, -5⟩, iEnd]
theorem map_lt {L : List Ins} (h : ∀ i ∈ L, i.Good) : ∀ x ∈ L.map enc, x < 4294967296 := fun x hx => by
  obtain ⟨i, hi, rfl⟩ := List.mem_map.1 hx
  exact enc_lt i (h i hi)
theorem lEcho_good : ∀ i ∈ lEcho, i.Good := by
  intro i hi
  unfold lEcho at hi
  simp only [List.mem_cons, List.not_mem_nil, or_false] at hi
  rcases hi with rfl | rfl | rfl | rfl | rfl | rfl
  · exact goodM _ _ _ (by decide) (by decide)
  · exact goodB _ 9 (by decide) _ (by decide) (by decide)
  · exact goodM _ _ _ (by decide) (by decide)
  · exact goodM _ _ _ (by decide) (by decide)
  · exact goodB _ 7 (by decide) _ (by decide) (by decide)
  · exact iEnd_good

set_option maxHeartbeats 3200000 in
theorem echo_any (b : Nat) (ao : Option Addr) (len cap : Nat) (B : List Nat) (w : World) (hs : Src w b (.slice ao len cap) (U8s B)) (hl : B.length = len) (hB : ∀ x ∈ B, x < 256) :
    Calls Try.prog 7 #[.slice ao len cap] w fun e w' => e = .returned (.bool true) ∧ Only Nil w w' := by
  have cK := known_any w
  by_cases h60 : 60 < len
  · have h60' : (60 : Int) < (len : Int) := by omega
    clear hs hB hl
    go_enter Try.func7, Try.ntmps7
    go_wp2_with fail
    refine cK.mono ?_
    rintro e w1 ⟨rfl, ho1⟩
    clear cK
    go_wp2_with fail
    go_ret
    exact ⟨rfl, ho1⟩
  · have h60' : (len : Int) ≤ 60 := by omega
    have h60n : len ≤ 60 := by omega
    have HS := Lib.hid hs
    have HB := Lib.hid hB
    have HL := Lib.hid hl
    clear hs hB hl h60
    go_enter Try.func7, Try.ntmps7
    go_wp2_with fail
    refine cK.mono ?_
    rintro e w1 ⟨rfl, ho1⟩
    clear cK
    go_wp2_with fail
    have hr := insRow_new w1 lEcho 49 (Only.refl Nil _) (fun h => h)
    have cP := put_any w1.heap.size lEcho 6 _ hr lEcho_good (by decide) (by decide) (by decide)
    clear hr
    refine cP.mono ?_
    rintro e w2 ⟨sv, rfl, hown2, ho2⟩
    clear cP
    have ho2' : Only Nil w w2 := (ho1.alloc _).trans ho2 (fun _ _ h => h)
    go_wp2_with fail
    have hme : lEcho.map enc = cEcho := rfl
    have hsB2 := HS.out.kept ho2' (fun _ h => h)
    have cN := new_any (Q := Nil) cEcho B 0 0 (by decide) (sv.ownBlock.getD 0) b sv (.slice ao len cap) w2 (by rw [← hme]; exact Src.of_own hown2) hsB2 (by decide) (by have := HL.out; omega) (by decide) (fun _ h => h.elim)
    refine cN.mono ?_
    rintro e w4 ⟨mb, wb, cv', iv', rfl, hmb, hwb, ho4, hM4⟩
    clear cN hown2
    have ho4' : Only Nil w w4 := ho2'.trans ho4 (fun _ _ h => h)
    have hm4 : w.heap.size ≤ mb := Nat.le_trans ho2'.size hmb
    have hw4 : w.heap.size ≤ wb := Nat.le_trans ho2'.size hwb
    have hs4 : (s0 0 B).Ok := s0_ok 0 B (by decide) HB.out
    have hrun := echo_run B HB.out (s0 0 B) rfl rfl rfl rfl rfl
    rw [HL.out] at hrun
    obtain ⟨t, ht⟩ : ∃ t, M.run cEcho (5 * len + 3) (s0 0 B) = t := ⟨_, rfl⟩
    rw [ht] at hrun
    have hto : t.out = B := hrun.1
    have htf : t.fin = 1 := hrun.2
    have hF : (5 * (len : Int) + 3).toNat = 5 * len + 3 := by omega
    have cR := run_any mb wb none cEcho cv' iv' (.slice none 0 0) (s0 0 B) w4 hs4 (by rw [← hme]; exact map_lt lEcho_good) (by decide) hM4 (5 * (len : Int) + 3) (by omega) (by omega) (by rw [hF]; show 0 + _ ≤ _; omega) (t := t) (by rw [hF]; exact ht)
    rw [hto, htf, show ((1 : Nat) : Int) = 1 from rfl] at cR
    clear hM4 hme hrun ht hto htf hF ho1 ho2
    go_wp2_with fail
    refine cR.mono ?_
    rintro e w5 ⟨ob5, iv5, ov5, rv, rfl, hw5, hown5, hM5⟩
    clear cR
    obtain ⟨ao9, n9, cap9, rfl⟩ := ownsRow_slice hown5
    have hlt5 := hM5.1.lt
    have ho5 := went_fresh ho4' hw5 hm4 hw4
    have hc1 := conv_src _ _ _ _ ((Src.of_own hown5).kept ((Only.refl Nil w5).alloc (.cells #[Value.slice ao9 n9 cap9, .int .i64 1, .int .i64 (t.trap : Nat)] 39)) (fun _ h => h))
    have hc2 := conv_src _ _ _ _ (HS.out.kept (ho5.alloc (.cells #[Value.slice ao9 n9 cap9, .int .i64 1, .int .i64 (t.trap : Nat)] 39)) (fun _ h => h))
    obtain ⟨T, hT⟩ : ∃ T, strOf B = T := ⟨_, rfl⟩
    rw [hT] at hc1 hc2
    have HO := Lib.hid ho5
    clear hM5 hown5 hw5 ho5 ho4' hsB2
    go_wp2_with fail
    go_ret
    exact ⟨by simp, HO.out.alloc _⟩
end Go.Proofs.Ythimhbfglgnohaa

/- Two results are held against one another. -/
namespace Go.Proofs.Ythimhbfglgnohaa
open Go.RowKit M

/-- Of the same bytes, ended alike: the same. -/
theorem helpResult_same (b1 b2 : Nat) (r1 r2 : Value) (B : List Nat) (f t : Int) (w : World) (h1 : Src w b1 r1 (U8s B)) (h2 : Src w b2 r2 (U8s B)) :
    Calls Try.prog 19 #[.agg #[r1, .int .i64 f, .int .i64 t], .agg #[r2, .int .i64 f, .int .i64 t]] w fun e w' => e = .returned (.bool true) ∧ Only Nil w w' := by
  have e1 : ∃ ao n cap, r1 = .slice ao n cap := by obtain ⟨ao, cap, off, h, _⟩ := h1; exact ⟨_, _, _, h⟩
  have e2 : ∃ ao n cap, r2 = .slice ao n cap := by obtain ⟨ao, cap, off, h, _⟩ := h2; exact ⟨_, _, _, h⟩
  obtain ⟨a1, n1, c1, rfl⟩ := e1
  obtain ⟨a2, n2, c2, rfl⟩ := e2
  have ho : Only Nil w ((w.alloc (.cells #[Value.slice a1 n1 c1, .int .i64 f, .int .i64 t] 39)).alloc (.cells #[Value.slice a2 n2 c2, .int .i64 f, .int .i64 t] 39)) := ((Only.refl Nil w).alloc _).alloc _
  have v1 := conv_src _ _ _ B (h1.kept ho (fun _ h => h))
  have v2 := conv_src _ _ _ B (h2.kept ho (fun _ h => h))
  obtain ⟨T, hT⟩ : ∃ T, strOf B = T := ⟨_, rfl⟩
  rw [hT] at v1 v2
  have HO := Lib.hid ho
  clear h1 h2 hT ho
  go_enter Try.func19, Try.ntmps19
  go_wp2_with fail
  go_ret
  exact ⟨by simp, HO.out⟩
end Go.Proofs.Ythimhbfglgnohaa


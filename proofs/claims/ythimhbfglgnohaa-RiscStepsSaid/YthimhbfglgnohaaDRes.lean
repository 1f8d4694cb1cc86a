/- What the document's machine has written, and how it ended; how it is made. -/
import Derived.Test.YthimhbfglgnohaaDRep
import Derived.Test.YthimhbfglgnohaaMRes
import Derived.Test.YthimhbfglgnohaaMNew
set_option linter.unusedSimpArgs false
set_option linter.unusedVariables false
namespace Go.Proofs.Ythimhbfglgnohaa
open Go.RowKit M
variable {Q : Nat → Prop}

set_option maxHeartbeats 1600000 in
/-- What the document's machine tells of its run. -/
theorem dresult_any (mb wb : Nat) (ob : Option Nat) (code : List Nat) (cv iv ov : Value) (s : St) (w : World) (hM : DAt Q w mb wb ob code s cv iv ov) (hol : s.out.length ≤ 1099511627776) :
    Calls Try.prog 37 #[.pointer (some ⟨mb, 0, none⟩)] w fun e w' => ∃ rv, e = .returned (.agg #[rv, .int .i64 s.fin, .int .i64 s.trap]) ∧ w'.ownsRow w.heap.size 5 1 rv s.out.length (U8s s.out) ∧ Only Nil w w' := by
  obtain ⟨i0, hi, hz0, hz1, hz2⟩ := info_parts Try.info5
  have c3 : w.cell? ⟨mb, 25, none⟩ = some ov := hM.1.cell 25
  have c26 : w.cell? ⟨mb, 26, none⟩ = some (.int .i64 s.fin) := hM.1.cell 26
  have c27 : w.cell? ⟨mb, 27, none⟩ = some (.int .i64 s.trap) := hM.1.cell 27
  have hlt := hM.1.lt
  have hsrc := Src.of_own hM.2.2.2.2.2.1
  obtain ⟨sb, hsb⟩ : ∃ sb, ov.ownBlock.getD 0 = sb := ⟨_, rfl⟩
  rw [hsb] at hsrc
  obtain ⟨n, hn⟩ : ∃ n, s.out.length = n := ⟨_, rfl⟩
  obtain ⟨U, hU⟩ : ∃ U, U8s s.out = U := ⟨_, rfl⟩
  have hUl : U.length = n := by rw [← hU, U8s_len', hn]
  have hU1 : Hid (∀ u ∈ U, u.oneCell' = true) := Lib.hid (by rw [← hU]; exact U8s_one' _)
  rw [hU] at hsrc
  rw [hn] at hol
  have b1 : Hid (0 + U.length ≤ maxLen) := Lib.hid (by rw [hUl]; simp [maxLen]; omega)
  have b2 : Hid ((0 + U.length) * 1 ≤ 140737488355328) := Lib.hid (by rw [hUl]; omega)
  have HU := Lib.hid hU
  have HN := Lib.hid hn
  have HL := Lib.hid hUl
  clear hM hol hU hn hUl hsb
  go_enter Try.func37, Try.ntmps37
  go_wp2_with fail
  have ho1 : Only Nil w (w.alloc (.cells #[Value.slice none 0 0, .int .i64 0, .int .i64 0] 39)) := (Only.refl Nil w).alloc _
  have hB1 := Blk.new w #[Value.slice none 0 0, .int .i64 0, .int .i64 0] 39
  have hsz : w.heap.size < (w.alloc (.cells #[Value.slice none 0 0, .int .i64 0, .int .i64 0] 39)).heap.size := hB1.lt
  obtain ⟨w1, hw1⟩ : ∃ w1, w.alloc (.cells #[Value.slice none 0 0, .int .i64 0, .int .i64 0] 39) = w1 := ⟨_, rfl⟩
  rw [hw1] at ho1 hB1 hsz ⊢
  obtain ⟨rb, hrb⟩ : ∃ b, w.heap.size = b := ⟨_, rfl⟩
  have d3 := ho1.cell c3 (fun h => h)
  have d26 := ho1.cell c26 (fun h => h)
  have d27 := ho1.cell c27 (fun h => h)
  have dsrc := hsrc.kept ho1 (fun _ h => h)
  have hbase : w.heap.size ≤ w1.heap.size := ho1.size
  have hne : mb ≠ rb := by omega
  have hneo : rb ≠ mb := fun h => hne h.symm
  rw [hrb] at hB1 hsz hbase ⊢
  have HS : Hid (Src w1.drew sb ov U) := Lib.hid (dsrc.kept (Only.refl Nil w1).drew (fun _ h => h))
  have dd26 : w1.drew.cell? ⟨mb, 26, none⟩ = some (.int .i64 s.fin) := d26
  have dd27 : w1.drew.cell? ⟨mb, 27, none⟩ = some (.int .i64 s.trap) := d27
  have hB2 := hB1.drew
  have hbase2 : rb + 1 ≤ w1.drew.heap.size := hsz
  clear hsrc hw1 c3 c26 c27 dsrc
  go_region_law (first
    | (refine step_append_from rfl _ _ 23 rfl (rb + 1) 5 i0 (.int .u8 0) 1 Try.underlying23 hi hz0 hz1 hz2 rfl _ 0 [] rfl (World.ownsRow_nil _ _ _ _) sb _ U (by first | rfl | simp [Act.eval, Act.put]) HS.out hU1.out b1.out b2.out hbase2 ?_; intro v9 w9 hown9 ho9; obtain ⟨ao9, n9, cap9, rfl⟩ := ownsRow_slice hown9; have hB9 := hB2.kept ho9 (fun h => by cases h); have e26 := ho9.cell dd26 (fun h => by cases h); have e27 := ho9.cell dd27 (fun h => by cases h); have g0 := hB9.cell 0; have g1 := hB9.cell 1; have g2 := hB9.cell 2; have f0 := hB9.free 0; have f1 := hB9.free 1; have f2 := hB9.free 2; have hlt9 := hB9.lt))
  all_goals
    go_wp2_with fail
    have hB8 := ((hB9.setCell 0 (.slice ao9 n9 cap9)).setCell 1 (.int .i64 s.fin)).setCell 2 (.int .i64 s.trap)
    simp only [List.setIfInBounds_toArray, List.set_cons_zero, List.set_cons_succ] at hB8
    have hown8 : World.ownsRow (((w9.setCell ⟨rb, 0, none⟩ (.slice ao9 n9 cap9)).setCell ⟨rb, 1, none⟩ (.int .i64 s.fin)).setCell ⟨rb, 2, none⟩ (.int .i64 s.trap)) rb 5 1 (.slice ao9 n9 cap9) (0 + U.length) ([] ++ U) :=
      have hne := ownsRow_apart hown9 (Nat.lt_succ_self rb)
      ownsRow_set_other (ownsRow_set_other (ownsRow_set_other (ownsRow_base hown9 (Nat.le_succ rb)) ⟨rb, 0, none⟩ (.slice ao9 n9 cap9) hne) ⟨rb, 1, none⟩ (.int .i64 s.fin) hne) ⟨rb, 2, none⟩ (.int .i64 s.trap) hne
    (try simp only [Exit.inBlock, Exit.then])
    refine bodyPost_ret (results_cell_row rfl _ _ rb 39 _ (0, 0) _ rfl hB8 Try.underlying39 rfl (by kernel_rfl)) rfl ?_
    have e1 := HL.out
    rw [e1, Nat.zero_add, List.nil_append] at hown8
    rw [HN.out, HU.out, hrb]
    refine ⟨_, rfl, hown8, ?_⟩
    have hq : ∀ S : Nat → Prop, rb < w.heap.size → S rb := fun _ h => absurd h (by rw [hrb]; exact Nat.lt_irrefl _)
    exact (((ho1.drew.trans ho9 (fun _ _ h => by cases h)).setCell (hq _) _).setCell (hq _) _).setCell (hq _) _
end Go.Proofs.Ythimhbfglgnohaa

/- The document's machine is made. -/
set_option linter.unusedSimpArgs false
set_option linter.unusedVariables false
namespace Go.Proofs.Ythimhbfglgnohaa
open Go.RowKit M
variable {Q : Nat → Prop}

/-- A document's machine that was made: its code, its input are the caller's. -/
theorem dmade_at {w4 : World} {cv iv : Value} {n : Nat} {code inp : List Nat} {w0 : World} (hc : CRow Q w0 cv code) (hi : BRow Q w0 iv inp) {wb mb : Nat} (hw : w0.heap.size ≤ wb) (hm : w0.heap.size ≤ mb) (hne : mb ≠ wb) (ho : Only Nil w0 w4) (hB : Blk w4 mb (dcells cv (.slice (some ⟨wb, 0, none⟩) n n) iv (.slice none 0 0) (s0 n inp)) 68) (hW : Blk w4 wb (U32s (List.replicate n 0)).toArray 26) :
    DAt Q w4 mb wb none code (s0 n inp) cv iv (.slice none 0 0) := by
  have hml : (s0 n inp).mem.length = n := by show (List.replicate n 0).length = n; simp
  refine ⟨by rw [hml]; exact hB, hW, hne, ?_, ?_, World.ownsRow_nil _ _ _ _, rfl, nofun, nofun⟩
  · refine (hc.less (T := Own4 Q mb wb none) (fun k hk h => ?_)).kept ho (fun _ h => h.elim)
    rcases h with (h | h | h) | h
    · omega
    · omega
    · cases h
    · exact h
  · refine (hi.less (T := Own4 Q mb wb none) (fun k hk h => ?_)).kept ho (fun _ h => h.elim)
    rcases h with (h | h | h) | h
    · omega
    · omega
    · cases h
    · exact h

set_option maxHeartbeats 1600000 in
theorem dnew_any (code inp : List Nat) (N : Int) (n : Nat) (hN : (if 1048576 < (if N < 0 then 0 else N) then 1048576 else (if N < 0 then 0 else N)) = (n : Int)) (hn : n ≤ 1048576) (cv iv : Value) (w : World) (hc : CRow Q w cv code) (hi : BRow Q w iv inp) :
    Calls Try.prog 14 #[cv, .int .i64 N, iv] w fun e w' => ∃ mb wb, e = .returned (.pointer (some ⟨mb, 0, none⟩)) ∧ w.heap.size ≤ mb ∧ w.heap.size ≤ wb ∧ Only Nil w w' ∧ DAt Q w' mb wb none code (s0 n inp) cv iv (.slice none 0 0) := by
  have cW := fun w => dwords_any N n hN w
  have mk := make_u32 n hn
  have e1 : ∃ ao l cap, cv = .slice ao l cap := by obtain ⟨b, ao, cap, off, h, _⟩ := hc; exact ⟨_, _, _, h⟩
  have e2 : ∃ ao l cap, iv = .slice ao l cap := by obtain ⟨b, ao, cap, off, h, _⟩ := hi; exact ⟨_, _, _, h⟩
  obtain ⟨a1, l1, c1, rfl⟩ := e1
  obtain ⟨a2, l2, c2, rfl⟩ := e2
  obtain ⟨Z, hZ⟩ : ∃ Z, (U32s (List.replicate n 0)).toArray = Z := ⟨_, rfl⟩
  rw [hZ] at mk
  have HZ := Lib.hid hZ
  have HC := Lib.hid hc
  have HI := Lib.hid hi
  clear hN hn hc hi hZ
  go_enter Try.func14, Try.ntmps14
  go_wp2_with fail
  refine (cW _).mono ?_
  rintro e w1 ⟨rfl, rfl⟩
  clear cW
  go_wp2_with fail
  go_ret
  refine ⟨_, w.heap.size, rfl, ?_, Nat.le_refl _, ?_, ?_⟩
  · (try simp only [World.size_alloc]); omega
  · exact ((Only.refl _ _).alloc _).alloc _
  · refine dmade_at HC.out HI.out (Nat.le_refl _) (by (try simp only [World.size_alloc]); omega) (by (try simp only [World.size_alloc]); omega) (((Only.refl _ _).alloc _).alloc _) ?_ ?_
    · have hb := Blk.new (w.alloc (.cells Z 26)) (dcells (.slice a1 l1 c1) (.slice (some ⟨w.heap.size, 0, none⟩) n n) (.slice a2 l2 c2) (.slice none 0 0) (s0 n inp)) 68
      rw [World.size_alloc] at hb
      exact hb
    · rw [HZ.out]
      exact (Blk.new _ _ _).alloc _
end Go.Proofs.Ythimhbfglgnohaa


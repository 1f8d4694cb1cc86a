/- The walk of the law RiscCalls. -/
import Derived.Test.YthimhbfglgnohaaKFlags
import Derived.Test.YthimhbfglgnohaaKEcho
set_option linter.unusedSimpArgs false
set_option linter.unusedVariables false
namespace Go.Proofs.Ythimhbfglgnohaa
open Go.RowKit M

def flat (L : List Ins) : List Value := L.flatMap (fun i => i.cells.toList)
theorem flat_len (L : List Ins) : (flat L).length = L.length * 8 := by
  unfold flat
  induction L with
  | nil => rfl
  | cons x t ih =>
    rw [List.flatMap_cons, List.length_append, ih, List.length_cons]
    have : x.cells.toList.length = 8 := rfl
    omega
theorem flat_append (L M : List Ins) : flat (L ++ M) = flat L ++ flat M := by unfold flat; rw [List.flatMap_append]
theorem flat_one (L : List Ins) : ∀ u ∈ flat L, u.oneCell' = true := by
  intro u hu
  unfold flat at hu
  obtain ⟨i, _, hi⟩ := List.mem_flatMap.1 hu
  simp only [Ins.cells, List.mem_cons, List.not_mem_nil, or_false] at hi
  rcases hi with rfl | rfl | rfl | rfl | rfl | rfl | rfl | rfl <;> rfl
theorem infoIns : (Try.prog.info? 49).map (fun i => (i.zero, i.size, i.bytes)) = some (some (.agg #[.int .i64 0, .bool false, .bool false, .int .i64 0, .int .i64 0, .int .i64 0, .int .i64 0, .int .i32 0]), 8, 56) := by kernel_rfl
/-- A row of instructions that is owned is read. -/
theorem insRow_own {w : World} {base g n cap : Nat} {L : List Ins} (h : w.ownsRow base 49 8 (.slice (some ⟨g, 0, none⟩) n cap) n (flat L)) : InsRow w g L ∧ L.length = n := by
  have hl : L.length = n := by have := h.1; rw [flat_len] at this; omega
  refine ⟨fun k i j hk hj => ?_, hl⟩
  have hkl : k < L.length := (List.getElem?_eq_some_iff.1 hk).1
  rw [World.ownsRow.cellAt h (k * 8 + j) (by omega)]
  exact flat_cell L k i j hk hj
theorem own_ins {w : World} {g base : Nat} {L : List Ins} (h : Blk w g (flat L).toArray 49) (hb : base ≤ g) (hm : L.length ≤ 1000) :
    w.ownsRow base 49 8 (.slice (some ⟨g, 0, none⟩) L.length L.length) L.length (flat L) := by
  refine ⟨by rw [flat_len], Or.inr ⟨g, _, (flat L).toArray, rfl, hb, h, Nat.le_refl _, by simp [maxLen]; omega, by simp [flat_len], ?_⟩⟩
  rw [List.take_of_length_le (by simp [flat_len])]

def iErr : Ins := ⟨3, false, true, 7, 0, 12, 0, 9⟩
def iCall (k : Nat) : Ins := ⟨3, true, true, 7, 0, 0, 0, (k : Int) + 1⟩
def iNum (n : Nat) : Ins := ⟨1, false, false, 5, 0, 0, 0, n⟩
def iBack : Ins := ⟨3, false, false, 7, 0, 15, 0, 0⟩
def lCalls (n k : Nat) : List Ins := [iCall k, iEnd] ++ List.replicate k iErr ++ [iNum n, iBack]
theorem lCalls_map (n k : Nat) : (lCalls n k).map enc = cCalls n k := by
  unfold lCalls cCalls iErr iCall iNum iBack
  have h : ((k + 1 : Nat) : Int) = (k : Int) + 1 := rfl
  rw [h]
  simp
theorem lCalls_good (n k : Nat) (hn : n ≤ 255) (hk : k < 20) : ∀ i ∈ lCalls n k, i.Good := by
  intro i hi
  unfold lCalls at hi
  simp only [List.mem_append, List.mem_cons, List.not_mem_nil, or_false, List.mem_replicate] at hi
  rcases hi with ((rfl | rfl) | ⟨_, rfl⟩) | rfl | rfl
  · exact goodB true 7 (by decide) _ (by omega) (by omega)
  · exact iEnd_good
  · unfold Ins.Good iErr; simp
  · exact good1 false false 5 0 0 n (by decide) (by decide) (by decide) (by omega)
  · unfold Ins.Good iBack; simp

set_option maxRecDepth 20000 in
set_option maxHeartbeats 1200000 in
theorem callsLaw_any (n c : Nat) (w : World) (hn : n ≤ 255) (hc : c ≤ 255) :
    Calls Try.prog 10 #[.int .u8 n, .int .u8 c] w fun e w' => e = .returned (.bool true) ∧ Only Nil w w' := by
  have cK := known_any w
  obtain ⟨i0, hi, hz0, hz1, hz2⟩ := info_parts infoIns
  obtain ⟨k, hk⟩ : ∃ k, c % 20 = k := ⟨_, rfl⟩
  have hk20 : k < 20 := by omega
  have ek : (c : Int) % 20 = (k : Int) := by omega
  have ek1 : wrap32 ((k : Int) + 1) = ((k + 1 : Nat) : Int) := by rw [w32_in _ (by unfold I32; omega)]; omega
  have en : wrap32 (n : Int) = (n : Int) := w32_in _ (by unfold I32; omega)
  obtain ⟨s1, run1, f1, t1, p1, r5, r15, o1⟩ := calls_run n k hn hk20
  have HR := Lib.hid run1
  have HF := Lib.hid f1
  have HT := Lib.hid t1
  have HP := Lib.hid p1
  have H5 := Lib.hid r5
  have H15 := Lib.hid r15
  have HOUT := Lib.hid o1
  clear run1 f1 t1 p1 r5 r15 o1 hk
  go_enter Try.func10, Try.ntmps10
  go_wp2_with fail
  refine cK.mono ?_
  rintro e w1 ⟨rfl, ho1⟩
  clear cK
  go_wp2_with fail
  have hB1 := Blk.new w1 (flat [iCall k, iEnd]).toArray 49
  have hown1 := own_ins (base := w.heap.size) hB1 ho1.size (by simp)
  have ho1' : Only Nil w (w1.alloc (.cells (flat [iCall k, iEnd]).toArray 49)) := ho1.alloc _
  obtain ⟨w2, hw2⟩ : ∃ w2, w1.alloc (.cells (flat [iCall k, iEnd]).toArray 49) = w2 := ⟨_, rfl⟩
  rw [hw2] at hown1 ho1'
  rw [show w1.alloc (.cells #[Value.int .i64 3, .bool true, .bool true, .int .i64 7, .int .i64 0, .int .i64 0, .int .i64 0, .int .i32 ((k : Int) + 1), .int .i64 3, .bool false, .bool true, .int .i64 7, .int .i64 0, .int .i64 12, .int .i64 0, .int .i32 0] 49) = w2 from hw2]
  clear hB1 hw2 ek ek1
  go_loopg [6, 7] k (fun m t i wr => m ≤ k ∧ i = .int .i64 ((k - m : Nat) : Int) ∧ wr.ownsRow w.heap.size 49 8 t (2 + (k - m)) (flat ([iCall k, iEnd] ++ List.replicate (k - m) iErr)) ∧ Only Nil w wr)
  case atStart => exact ⟨Nat.le_refl _, by simp, by simpa using hown1, ho1'⟩
  case round =>
    clear hown1 ho1' ho1
    obtain ⟨hm, rfl, hown, ho⟩ := hrel
    obtain ⟨m, rfl⟩ : ∃ m, m = gk := ⟨gk, rfl⟩
    obtain ⟨j, hj⟩ : ∃ j, k - m = j := ⟨_, rfl⟩
    rw [hj] at hown ⊢
    have hjk : j ≤ k := by omega
    have HJ := Lib.hid hj
    clear hj
    have hsz := ho.size
    obtain ⟨L, hL⟩ : ∃ L, flat ([iCall k, iEnd] ++ List.replicate j iErr) = L := ⟨_, rfl⟩
    have HLL := Lib.hid hL
    rw [hL] at hown
    clear hL
    by_cases hjl : j < k
    · go_wp2_with (with_reducible refine wpList_append_row rfl _ _ 53 rfl w.heap.size 49 i0 _ 8 56 Try.underlying53 hi hz0 hz1 hz2 rfl (by decide) _ (2 + j) L rfl (hown.alloc _) ⟨wr.heap.size, 0, none⟩ 1 1 (flat [iErr]) rfl rfl ?n1 (flat_one _) (by decide) ?c1 ?c2 ?c3 ?_)
      case n1 =>
        intro q u hu
        show (wr.alloc (.cells (flat [iErr]).toArray 49)).cell? _ = _
        rw [addr_add, Nat.zero_add, (Blk.new wr (flat [iErr]).toArray 49).cell q]
        simpa using hu
      case c1 => simp [maxLen]; omega
      case c2 => omega
      case c3 => simp only [World.size_alloc]; omega
      intro g cap w3 hown3 hc3 hc4 hg3 ho3
      have ho3' : Only Nil w w3 := (ho.alloc _).nil_own (hown.alloc _) ho3
      clear hc3 hc4 hg3 ho3 ho hown hsz
      go_wp2_with fail
      go_roundg (m - 1)
      case measure => have := HJ.out; omega
      case rel =>
        refine ⟨by omega, by have := HJ.out; go_num, ?_, ho3'⟩
        rw [show k - (m - 1) = j + 1 by have := HJ.out; omega, List.replicate_succ', ← List.append_assoc, flat_append _ [iErr], HLL.out]
        exact hown3
    · have hjk2 : j = k := by omega
      subst hjk2
      go_wp2_with (with_reducible refine wpList_append_row rfl _ _ 53 rfl w.heap.size 49 i0 _ 8 56 Try.underlying53 hi hz0 hz1 hz2 rfl (by decide) _ (2 + j) L rfl (hown.alloc _) ⟨wr.heap.size, 0, none⟩ 2 2 (flat [iNum n, iBack]) rfl rfl ?n1 (flat_one _) (by decide) ?c1 ?c2 ?c3 ?_)
      case n1 =>
        intro q u hu
        show (wr.alloc (.cells (flat [iNum n, iBack]).toArray 49)).cell? _ = _
        rw [addr_add, Nat.zero_add, (Blk.new wr (flat [iNum n, iBack]).toArray 49).cell q]
        simpa using hu
      case c1 => simp [maxLen]; omega
      case c2 => omega
      case c3 => simp only [World.size_alloc]; omega
      intro g cap w3 hown3 hc3 hc4 hg3 ho3
      have ho3' : Only Nil w w3 := (ho.alloc _).nil_own (hown.alloc _) ho3
      rw [← HLL.out, ← flat_append] at hown3
      obtain ⟨hrow, hlen⟩ := insRow_own (L := lCalls n j) hown3
      have cP := put_any g (lCalls n j) cap w3 hrow (lCalls_good n j hn (by omega)) (by omega) (by omega) hc4
      rw [hlen, lCalls_map] at cP
      clear hg3 ho3 ho hown hsz hown3 hrow
      go_wp2_with fail
      refine cP.mono ?_
      rintro e w5 ⟨sv, rfl, hown5, ho5⟩
      clear cP
      have ho5' : Only Nil w w5 := ho3'.trans ho5 (fun _ _ h => h)
      have hcl : (cCalls n j).length = 2 + j + 2 := by rw [← lCalls_map, List.length_map, hlen]
      have hlt : ∀ x ∈ cCalls n j, x < 4294967296 := by rw [← lCalls_map]; exact map_lt (lCalls_good n j hn (by omega))
      have HCL := Lib.hid hcl
      have HLT := Lib.hid hlt
      go_wp2_with fail
      have cN := new_any (Q := Nil) (cCalls n j) [] 0 0 (by decide) (sv.ownBlock.getD 0) 0 sv (.slice none 0 0) w5 (Src.of_own hown5) (src_none _ 0) (by omega) (by decide) (by decide) (fun _ h => h.elim)
      refine cN.mono ?_
      rintro e w6 ⟨mb, wb, cv', iv', rfl, hmb, hwb, ho6, hM6⟩
      clear cN hown5 hcl hlt
      have ho6' : Only Nil w w6 := ho5'.trans ho6 (fun _ _ h => h)
      have hm6 : w.heap.size ≤ mb := Nat.le_trans ho5'.size hmb
      have hw6 : w.heap.size ≤ wb := Nat.le_trans ho5'.size hwb
      have hs6 : (s0 0 []).Ok := s0_ok 0 [] (by decide) (fun _ h => absurd h List.not_mem_nil)
      have cR := run_any mb wb none (cCalls n j) cv' iv' (.slice none 0 0) (s0 0 []) w6 hs6 HLT.out (by have := HCL.out; omega) hM6 10 (by decide) (by decide) (by decide) (t := s1) HR.out
      rw [HF.out, HT.out, HOUT.out, show ((1 : Nat) : Int) = 1 from rfl, show ((0 : Nat) : Int) = 0 from rfl] at cR
      clear hM6 ho5 ho6 ho5' ho3'
      go_wp2_with fail
      refine cR.mono ?_
      rintro e w7 ⟨ob7, iv7, ov7, rv, rfl, hw7, hown7, hM7⟩
      clear cR
      have ho7 := went_fresh ho6' hw7 hm6 hw6
      obtain ⟨ao9, n9, cap9, rfl⟩ := ownsRow_slice hown7
      have cG5 := fun (w' : World) (ho : Only Nil w7 w') => reg_any mb 5 cv' _ iv7 ov7 s1 w' (hM7.1.kept ho (fun h => h)) (by decide)
      have cG15 := fun (w' : World) (ho : Only Nil w7 w') => reg_any mb 15 cv' _ iv7 ov7 s1 w' (hM7.1.kept ho (fun h => h)) (by decide)
      rw [show ((5 : Nat) : Int) = 5 from rfl] at cG5
      obtain ⟨X5, hX5⟩ : ∃ X, s1.R 5 = X := ⟨_, rfl⟩
      rw [hX5] at cG5
      have t63 : ((X5 : Int) == (n : Int)) = true := by rw [beq_iff_eq, ← hX5, H5.out]
      have t63a : ((X5 : Int) == (n : Int) % 4294967296) = true := by rw [beq_iff_eq, ← hX5, H5.out]; omega
      have t63b : ((X5 : Int) == IntKind.u32.wrap (n : Int)) = true := by rw [beq_iff_eq, ← hX5, H5.out, IntKind.wrap_u32]; omega
      clear hX5
      rw [H15.out, show ((15 : Nat) : Int) = 15 from rfl, show ((1 : Nat) : Int) = 1 from rfl] at cG15
      have cPC := fun (w' : World) (ho : Only Nil w7 w') => pc_any mb cv' _ iv7 ov7 s1 w' (hM7.1.kept ho (fun h => h))
      rw [HP.out, show ((1 : Nat) : Int) = 1 from rfl] at cPC
      have cRS := fun (w' : World) (ho : Only Nil w7 w') => result_any mb wb ob7 (cCalls n j) cv' iv7 ov7 s1 w' (hM7.quiet ho) (by rw [HOUT.out]; decide)
      rw [HF.out, HT.out, HOUT.out, show ((1 : Nat) : Int) = 1 from rfl, show ((0 : Nat) : Int) = 0 from rfl] at cRS
      have hB8 := Blk.new w7 #[Value.slice ao9 n9 cap9, .int .i64 1, .int .i64 0] 39
      have hsr := (Src.of_own hown7).kept ((Only.refl Nil w7).alloc (.cells #[Value.slice ao9 n9 cap9, .int .i64 1, .int .i64 0] 39)) (fun _ h => h)
      have ho8 : Only Nil w7 (w7.alloc (.cells #[Value.slice ao9 n9 cap9, .int .i64 1, .int .i64 0] 39)) := (Only.refl Nil w7).alloc _
      have HM7 := Lib.hid hM7
      clear hM7 hown7 hw7 ho6'
      go_wp2_with fail
      obtain ⟨w8, hw8⟩ : ∃ w8, w7.alloc (.cells #[Value.slice ao9 n9 cap9, .int .i64 1, .int .i64 0] 39) = w8 := ⟨_, rfl⟩
      obtain ⟨rb, hrb⟩ : ∃ rb, w7.heap.size = rb := ⟨_, rfl⟩
      rw [hw8] at hB8 hsr ho8
      rw [hrb] at hB8
      have HO := Lib.hid (ho7.trans ho8 (fun _ _ h => h))
      clear ho7
      rw [hw8, hrb]
      refine (cG5 _ ho8).mono ?_
      rintro e w9 ⟨rfl, rfl⟩
      clear cG5
      go_wp2_with fail
      refine (cG15 _ ho8).mono ?_
      rintro e w9 ⟨rfl, rfl⟩
      clear cG15 hw8 hrb
      have k0 := hB8.cell 0
      have k1 := hB8.cell 1
      have k2 := hB8.cell 2
      simp only [List.getElem?_toArray, List.getElem?_cons_zero, List.getElem?_cons_succ] at k0 k1 k2
      have hlt8 := hB8.lt
      go_wp2_with fail
      have cRS8 := fun (w' : World) (ho : Only Nil w8 w') => cRS w' (ho8.trans ho (fun _ _ h => h))
      have cPC8 := fun (w' : World) (ho : Only Nil w8 w') => cPC w' (ho8.trans ho (fun _ _ h => h))
      have hsrd := hsr.kept (Only.refl Nil w8).drew (fun _ h => h)
      have k0d : w8.drew.cell? ⟨rb, 0, none⟩ = some (.slice ao9 n9 cap9) := k0
      have k1d : w8.drew.cell? ⟨rb, 1, none⟩ = some (.int .i64 1) := k1
      have k2d : w8.drew.cell? ⟨rb, 2, none⟩ = some (.int .i64 0) := k2
      clear cRS cPC ho8 hsr hB8
      have HS8 := Lib.hid hsrd
      clear hsrd
      go_region_held3 (fun w' => w'.cell? ⟨rb, 0, none⟩ = some (.slice ao9 n9 cap9) ∧ w'.cell? ⟨rb, 1, none⟩ = some (.int .i64 1) ∧ w'.cell? ⟨rb, 2, none⟩ = some (.int .i64 0)) (go_keep) (first
        | (go_at_call 28; refine (cRS8 _ ?_).mono ?_; (repeat with_reducible first | exact Only.refl _ _ | refine Only.drew ?_); rintro e w9 ⟨rv2, rfl, hown9, ho9⟩; have q0 := ho9.cell k0d (fun h => h); have q1 := ho9.cell k1d (fun h => h); have q2 := ho9.cell k2d (fun h => h))
        | (go_at_call 19; refine (helpResult_same _ _ _ _ [] 1 0 _ (HS8.out.kept ho9 (fun _ h => h)) (Src.of_own hown9)).mono ?_; rintro e w10 ⟨rfl, ho10⟩; have p0 := ho10.cell q0 (fun h => h); have p1 := ho10.cell q1 (fun h => h); have p2 := ho10.cell q2 (fun h => h))
        | (go_at_call 22; refine (cPC8 _ (((Only.refl Nil w8).drew.trans ho9 (fun _ _ h => h)).trans ho10 (fun _ _ h => h))).mono ?_; rintro e w11 ⟨rfl, rfl⟩))
      all_goals have ho10' : Only Nil w8 w10 := ((Only.refl Nil w8).drew.trans ho9 (fun _ _ h => h)).trans ho10 (fun _ _ h => h)
      all_goals go_wp2_with fail
      all_goals go_ret
      all_goals exact ⟨rfl, HO.out.trans ho10' (fun _ _ h => h)⟩
end Go.Proofs.Ythimhbfglgnohaa

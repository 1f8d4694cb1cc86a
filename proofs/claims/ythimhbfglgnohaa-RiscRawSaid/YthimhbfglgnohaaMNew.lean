/- A machine is made. -/
import Derived.Test.YthimhbfglgnohaaMRes
import Derived.Test.YthimhbfglgnohaaMSee
import Derived.Test.YthimhbfglgnohaaMLaw
set_option linter.unusedSimpArgs false
set_option linter.unusedVariables false
namespace Go.Proofs.Ythimhbfglgnohaa
open Go.RowKit M

theorem infoU32 : (Try.prog.info? 26).map (fun i => (i.zero, i.size, i.bytes)) = some (some (.int .u32 0), 1, 4) := by kernel_rfl
theorem made_zero (n : Nat) : madeCells #[Value.int .u32 0] n = (U32s (List.replicate n 0)).toArray := by
  unfold madeCells U32s
  apply Array.ext
  · simp
  · intro i h1 h2
    simp [Nat.mod_one]
theorem make_u32 (n : Nat) (hn : n ≤ 1048576) (w : World) : (Instr.makeSlice 25 (.int .i64 n) (.int .i64 n)).run Try.prog w = .ok (.slice (some ⟨w.heap.size, 0, none⟩) n n) (w.alloc (.cells (U32s (List.replicate n 0)).toArray 26)) := by
  obtain ⟨i0, hi, hz0, hz1, hz2⟩ := info_parts infoU32
  have h := run_make (P := Try.prog) w 25 26 i0 (.int .u32 0) Try.underlying25 hi hz0 .i64 .i64 (n : Int) (n : Int) (Int.natCast_nonneg _) (Int.le_refl _) (by rw [hz2]; omega) (by omega)
  simp only [Int.toNat_natCast, hz1, Nat.mul_one] at h
  rw [h]
  congr 2
  rw [show (Value.int .u32 0).cells = #[Value.int .u32 0] from rfl, made_zero]

theorem crow_of_own {S : Nat → Prop} {w : World} {base : Nat} {v : Value} {l : List Nat} {n : Nat} (h : w.ownsRow base 26 1 v n (U32s l)) (hS : ∀ k, v.ownBlock = some k → ¬ S k) : CRow S w v l := by
  have hl : l.length = n := by have := h.1; simpa [U32s] using this
  subst hl
  rcases h.2 with ⟨rfl, h0⟩ | ⟨g, cap, cur, rfl, hb, hg, hnc, hcm, _⟩
  · exact ⟨0, none, 0, 0, by rw [h0], by omega, by decide, fun h => by omega, fun i u hu => by have := (List.getElem?_eq_some_iff.1 hu).1; simp [U32s] at this; omega, fun h => by omega⟩
  · refine ⟨g, _, cap, 0, rfl, hnc, hcm, fun _ => rfl, fun i u hu => ?_, fun _ => hS g rfl⟩
    have hi : i < l.length := by have := (List.getElem?_eq_some_iff.1 hu).1; simpa [U32s] using this
    have := World.ownsRow.cellAt h i (by omega)
    rw [Nat.zero_add, this, hu]
theorem brow_of_own {S : Nat → Prop} {w : World} {base : Nat} {v : Value} {l : List Nat} {n : Nat} (h : w.ownsRow base 5 1 v n (U8s l)) (hS : ∀ k, v.ownBlock = some k → ¬ S k) : BRow S w v l := by
  have hl : l.length = n := by have := h.1; simpa [U8s] using this
  subst hl
  rcases h.2 with ⟨rfl, h0⟩ | ⟨g, cap, cur, rfl, hb, hg, hnc, hcm, _⟩
  · exact ⟨0, none, 0, 0, by rw [h0], by omega, by decide, fun h => by omega, fun _ => rfl, fun i u hu => by have := (List.getElem?_eq_some_iff.1 hu).1; simp [U8s] at this; omega, fun h => by omega⟩
  · refine ⟨g, _, cap, 0, rfl, hnc, hcm, fun _ => rfl, nofun, fun i u hu => ?_, fun _ => hS g rfl⟩
    have hi : i < l.length := by have := (List.getElem?_eq_some_iff.1 hu).1; simpa [U8s] using this
    have := World.ownsRow.cellAt h i (by omega)
    rw [Nat.zero_add, this, hu]
theorem own_lt {w : World} {base : Nat} {e : TypeId} {size : Nat} {v : Value} {n : Nat} {xs : List Value} (h : w.ownsRow base e size v n xs) {k : Nat} (hk : v.ownBlock = some k) : k < w.heap.size ∧ base ≤ k := by
  rcases h.2 with ⟨rfl, _⟩ | ⟨g, cap, cur, rfl, hb, hg, _⟩
  · cases hk
  · injection hk with hk
    have hk : g = k := hk
    have := (Array.getElem?_eq_some_iff.1 hg).1
    omega
/-- The parts of a machine are put together. -/
theorem made_at {Q : Nat → Prop} {w0 w4 : World} {cv iv : Value} {wb n bA bB : Nat} {code inp : List Nat} (hA : w4.ownsRow bA 26 1 cv code.length (U32s code)) (hB : w4.ownsRow bB 5 1 iv inp.length (U8s inp)) (hW : Blk w4 wb (U32s (List.replicate n 0)).toArray 26)
    (h1 : w0.heap.size ≤ bA) (h2 : w0.heap.size ≤ bB) (h3 : cv.ownBlock ≠ some wb) (h4 : iv.ownBlock ≠ some wb) (hQ : ∀ k, Q k → k < w0.heap.size) :
    MAt Q (w4.alloc (.cells (icells cv (.slice (some ⟨wb, 0, none⟩) n n) iv (.slice none 0 0) (s0 n inp)) 65)) w4.heap.size wb none code (s0 n inp) cv iv (.slice none 0 0) := by
  have hm : (s0 n inp).mem.length = n := by show (List.replicate n 0).length = n; simp
  have ho : Only Nil w4 (w4.alloc (.cells (icells cv (.slice (some ⟨wb, 0, none⟩) n n) iv (.slice none 0 0) (s0 n inp)) 65)) := (Only.refl _ _).alloc _
  have hlt := hW.lt
  refine ⟨by rw [hm]; exact Blk.new _ _ _, hW.alloc _, by omega, ?_, ?_, World.ownsRow_nil _ _ _ _, rfl, nofun, nofun⟩
  · refine (crow_of_own hA (fun k hk hS => ?_)).kept ho (fun _ h => h.elim)
    obtain ⟨q1, q2⟩ := own_lt hA hk
    rcases hS with (h | h | h) | h
    · omega
    · exact h3 (by rw [hk, h])
    · cases h
    · have := hQ k h; omega
  · refine (brow_of_own hB (fun k hk hS => ?_)).kept ho (fun _ h => h.elim)
    obtain ⟨q1, q2⟩ := own_lt hB hk
    rcases hS with (h | h | h) | h
    · omega
    · exact h4 (by rw [hk, h])
    · cases h
    · have := hQ k h; omega

theorem nil_sub {S : Nat → Prop} {m : Nat} : ∀ i, i < m → Nil i → S i := fun _ _ h => h.elim
theorem nil_not {b : Nat} : ¬ Nil b := fun h => h
/-- A machine that was made. -/
def Made (Q : Nat → Prop) (w : World) (code inp : List Nat) (n : Nat) (e : Ending) (w' : World) : Prop :=
  ∃ mb wb cv' iv', e = .returned (.pointer (some ⟨mb, 0, none⟩)) ∧ w.heap.size ≤ mb ∧ w.heap.size ≤ wb ∧ Only Nil w w' ∧ MAt Q w' mb wb none code (s0 n inp) cv' iv' (.slice none 0 0)
theorem made_of {Q : Nat → Prop} {w0 w4 : World} {cv iv : Value} {wb n bA bB : Nat} {code inp : List Nat} (hA : w4.ownsRow bA 26 1 cv code.length (U32s code)) (hB : w4.ownsRow bB 5 1 iv inp.length (U8s inp)) (hW : Blk w4 wb (U32s (List.replicate n 0)).toArray 26)
    (h1 : w0.heap.size ≤ bA) (h2 : w0.heap.size ≤ bB) (h3 : cv.ownBlock ≠ some wb) (h4 : iv.ownBlock ≠ some wb) (hQ : ∀ k, Q k → k < w0.heap.size) (hlo : w0.heap.size ≤ wb) (ho : Only Nil w0 w4) {X : Nat} (hX : X = w4.heap.size) :
    Made Q w0 code inp n (.returned (.pointer (some ⟨X, 0, none⟩))) (w4.alloc (.cells #[cv, .slice (some ⟨wb, 0, none⟩) n n, iv, .slice none 0 0, .int .u32 0, .int .u32 0, .int .u32 0, .int .u32 0, .int .u32 0, .int .u32 0, .int .u32 0, .int .u32 0, .int .u32 0, .int .u32 0, .int .u32 0, .int .u32 0, .int .u32 0, .int .u32 0, .int .u32 0, .int .u32 0, .int .u32 0, .bool false, .bool false, .bool false, .bool false, .int .i64 0, .int .i64 0, .int .i64 0] 65)) := by
  subst hX
  exact ⟨_, wb, cv, iv, rfl, ho.size, hlo, ho.alloc _, made_at hA hB hW h1 h2 h3 h4 hQ⟩

set_option maxHeartbeats 3200000 in
theorem new_any {Q : Nat → Prop} (code inp : List Nat) (N : Int) (n : Nat) (hN : (if 1048576 < (if N < 0 then 0 else N) then 1048576 else (if N < 0 then 0 else N)) = (n : Int)) (cb ib : Nat) (cv iv : Value) (w : World) (hc : Src w cb cv (U32s code)) (hi' : Src w ib iv (U8s inp)) (hl1 : code.length ≤ 1048576) (hl2 : inp.length ≤ 1048576) (hn : n ≤ 1048576) (hQ : ∀ k, Q k → k < w.heap.size) :
    Calls Try.prog 13 #[cv, .int .i64 N, iv] w fun e w' => Made Q w code inp n e w' := by
  obtain ⟨i8, h8, h80, h81, h82⟩ := info_parts Try.info5
  obtain ⟨i32, h32, h320, h321, h322⟩ := info_parts infoU32
  have mk : ∀ w, (Instr.makeSlice 25 (.int .i64 (if 1048576 < (if N < 0 then 0 else N) then 1048576 else (if N < 0 then 0 else N))) (.int .i64 (if 1048576 < (if N < 0 then 0 else N) then 1048576 else (if N < 0 then 0 else N)))).run Try.prog w = .ok (.slice (some ⟨w.heap.size, 0, none⟩) n n) (w.alloc (.cells (U32s (List.replicate n 0)).toArray 26)) := fun w => by
    rw [hN]; exact make_u32 n hn w
  obtain ⟨U, hU⟩ : ∃ U, U32s code = U := ⟨_, rfl⟩
  obtain ⟨V, hV⟩ : ∃ V, U8s inp = V := ⟨_, rfl⟩
  obtain ⟨Z, hZ⟩ : ∃ Z, (U32s (List.replicate n 0)).toArray = Z := ⟨_, rfl⟩
  rw [hU] at hc
  rw [hV] at hi'
  rw [hZ] at mk
  have lU : U.length = code.length := by rw [← hU, U32s_len]
  have lV : V.length = inp.length := by rw [← hV, U8s_len']
  have oU : Hid (∀ u ∈ U, u.oneCell' = true) := Lib.hid (by rw [← hU]; exact U32s_one _)
  have oV : Hid (∀ u ∈ V, u.oneCell' = true) := Lib.hid (by rw [← hV]; exact U8s_one' _)
  have b1 : Hid (0 + U.length ≤ maxLen) := Lib.hid (by rw [lU]; simp [maxLen]; omega)
  have b2 : Hid ((0 + U.length) * 4 ≤ 140737488355328) := Lib.hid (by rw [lU]; omega)
  have b3 : Hid (0 + V.length ≤ maxLen) := Lib.hid (by rw [lV]; simp [maxLen]; omega)
  have b4 : Hid ((0 + V.length) * 1 ≤ 140737488355328) := Lib.hid (by rw [lV]; omega)
  have HC := Lib.hid hc
  have HI := Lib.hid hi'
  have HU := Lib.hid hU
  have HV := Lib.hid hV
  have HZ := Lib.hid hZ
  have HQ := Lib.hid hQ
  have HLU := Lib.hid lU
  have HLV := Lib.hid lV
  clear hc hi' hU hV hZ hQ hl1 hl2 hn lU lV hN
  go_enter Try.func13, Try.ntmps13
  go_wp2_with fail
  go_region_law (first
    | (refine step_append_from rfl _ _ 25 rfl _ 26 i32 (.int .u32 0) 4 Try.underlying25 h32 h320 h321 h322 rfl _ 0 [] rfl (World.ownsRow_nil _ _ _ _) cb _ U (by first | rfl | simp [Act.eval, Act.put]) (HC.out.kept (S := Nil) (by (repeat with_reducible first | exact Only.refl _ _ | exact hnB | refine Only.drew ?_ | refine Only.alloc ?_ _)) (fun _ h => h)) oU.out b1.out b2.out (Nat.le_refl _) ?_; intro vA wA hownA hoA; obtain ⟨aoA, nA, capA, rfl⟩ := ownsRow_slice hownA; have hnA : Only Nil w wA := Only.trans (by (repeat with_reducible first | exact Only.refl _ _ | exact hnB | refine Only.drew ?_ | refine Only.alloc ?_ _)) hoA (fun _ _ h => by cases h))
    | (refine step_append_from rfl _ _ 23 rfl _ 5 i8 (.int .u8 0) 1 Try.underlying23 h8 h80 h81 h82 rfl _ 0 [] rfl (World.ownsRow_nil _ _ _ _) ib _ V (by first | rfl | simp [Act.eval, Act.put]) (HI.out.kept (S := Nil) (by (repeat with_reducible first | exact Only.refl _ _ | exact hnA | refine Only.drew ?_ | refine Only.alloc ?_ _)) (fun _ h => h)) oV.out b3.out b4.out (Nat.le_refl _) ?_; intro vB wB hownB hoB; obtain ⟨aoB, nB, capB, rfl⟩ := ownsRow_slice hownB; have hnB : Only Nil w wB := Only.trans (by (repeat with_reducible first | exact Only.refl _ _ | exact hnA | refine Only.drew ?_ | refine Only.alloc ?_ _)) hoB (fun _ _ h => by cases h)))
  all_goals go_wp2_with fail
  all_goals go_ret
  all_goals
    have hA := hownA
    rw [HLU.out, Nat.zero_add, List.nil_append, ← HU.out] at hA
    have hB := hownB
    rw [HLV.out, Nat.zero_add, List.nil_append, ← HV.out] at hB
    have hoA' : Only Nil _ wA := hoA.mono (fun _ h => by cases h)
    have hoB' : Only Nil _ wB := hoB.mono (fun _ h => by cases h)
    have sA := hoA.size
    have sB := hoB.size
    have sNA := hnA.size
    have sNB := hnB.size
    simp only [World.size_alloc, World.size_drew] at sA sB sNA sNB
    refine made_of (ownsRow_only hA ?_ (fun _ _ h => h)) (ownsRow_only hB ?_ (fun _ _ h => h)) ?_ ?_ ?_ ?_ ?_ HQ.out ?_ ?_ ?_
    · (repeat first | with_reducible exact Only.refl _ _ | with_reducible refine Only.alloc ?_ _ | with_reducible refine Only.drew ?_ | with_reducible refine Only.trans ?_ hoB' nil_sub | with_reducible refine Only.trans ?_ hoA' nil_sub)
    · (repeat first | with_reducible exact Only.refl _ _ | with_reducible refine Only.alloc ?_ _ | with_reducible refine Only.drew ?_ | with_reducible refine Only.trans ?_ hoB' nil_sub | with_reducible refine Only.trans ?_ hoA' nil_sub)
    · rw [HZ.out]
      (repeat first | exact Blk.new _ _ _ | with_reducible refine Blk.alloc ?_ _ | with_reducible refine Blk.drew ?_ | with_reducible refine Blk.kept ?_ hoB' nil_not | with_reducible refine Blk.kept ?_ hoA' nil_not)
    · (try simp only [World.size_alloc, World.size_drew]); omega
    · (try simp only [World.size_alloc, World.size_drew]); omega
    · intro h
      have q := own_lt hownA h
      (try simp only [World.size_alloc, World.size_drew] at q)
      omega
    · intro h
      have q := own_lt hownB h
      (try simp only [World.size_alloc, World.size_drew] at q)
      omega
    · omega
    · (repeat first | with_reducible exact Only.refl _ _ | with_reducible refine Only.alloc ?_ _ | with_reducible refine Only.drew ?_ | with_reducible refine Only.trans ?_ hoB' nil_sub | with_reducible refine Only.trans ?_ hoA' nil_sub)
    · (try simp only [World.size_alloc, World.size_drew])
end Go.Proofs.Ythimhbfglgnohaa

/- All makers of texts at all depths; Main: a source made of numbers is one text, whatever the world. -/
import Derived.Test.YtbpdhpfcknaaiaaDoorELeaf
import Derived.Test.YtbpdhpfcknaaiaaDoorENum
import Derived.Test.YtbpdhpfcknaaiaaDoorECond
import Derived.Test.YtbpdhpfcknaaiaaDoorESimple
import Derived.Test.YtbpdhpfcknaaiaaDoorESimpled17
import Derived.Test.YtbpdhpfcknaaiaaDoorEStmt
set_option linter.unusedSimpArgs false
set_option linter.unusedVariables false
namespace Go.Proofs.YtbpdhpfcknaaiaaDoor
open Go.RowKit M

theorem set_step {L : List Nat} {d R : Nat} (hd : d ≤ 100)  (hR : 1 ≤ R ∧ 10 ≤ R ∧ 11 ≤ R ∧ 14 ≤ R ∧ 19 ≤ R ∧ 21 ≤ R ∧ 4 ≤ R ∧ 9 ≤ R) : Gn 51 L d R := by
  intro i
  obtain ⟨c, i1, hp⟩ : ∃ p q, pickM L i 8 = (p, q) := ⟨_, _, rfl⟩
  have hc : c < 8 := by have h := pickM_lt L i (n := 8) (by decide); rw [hp] at h; exact h
  obtain ⟨r0, r1, r2, r3, r4, r5, r6, r7⟩ := hR
  rcases (by omega : c = 0 ∨ c = 1 ∨ c = 2 ∨ c = 3 ∨ c = 4 ∨ c = 5 ∨ c = 6 ∨ c = 7) with rfl | rfl | rfl | rfl | rfl | rfl | rfl | rfl
  · exact set_0 hd hp  r0
  · exact set_1 hd hp  r2
  · exact set_2 hd hp  r1
  · exact set_3 hd hp  r3
  · exact set_4 hd hp  r4
  · exact set_5 hd hp  r5
  · exact set_6 hd hp  r6
  · exact set_7 hd hp  r7
theorem set_any (L : List Nat) (d : Nat) (hd : d ≤ 100) : Gn 51 L d 21 := set_step hd (by decide)
theorem num_step {L : List Nat} {d R N C : Nat} (hd : d ≤ 100) (hnum : Gn 43 L d N) (hN : N ≤ 1000000) (hcond : Gn 42 L d C) (hC : C ≤ 1000000) (hR : 1 + 9 + 3 + 9 + 1 ≤ R ∧ 1 + N + 3 + N + 1 ≤ R ∧ 1 + N + 5 + 1 + 1 ≤ R ∧ 2 + 9 + 1 ≤ R ∧ 2 + N + 2 + 7 + 1 ≤ R ∧ 2 + N + 7 ≤ R ∧ 3 + 1 + N + 2 + N + 1 ≤ R ∧ 4 + 16 + 1 ≤ R ∧ 4 + 21 + 1 ≤ R ∧ 4 + C + 1 ≤ R ∧ 4 + N + 1 ≤ R ∧ 8 ≤ R ∧ 9 ≤ R) : Gn 43 L (d + 1) R := by
  intro i
  obtain ⟨c, i1, hp⟩ : ∃ p q, pickM L i 20 = (p, q) := ⟨_, _, rfl⟩
  have hc : c < 20 := by have h := pickM_lt L i (n := 20) (by decide); rw [hp] at h; exact h
  obtain ⟨r0, r1, r2, r3, r4, r5, r6, r7, r8, r9, r10, r11, r12⟩ := hR
  rcases (by omega : c = 0 ∨ c = 1 ∨ c = 2 ∨ c = 3 ∨ c = 4 ∨ c = 5 ∨ c = 6 ∨ c = 7 ∨ c = 8 ∨ c = 9 ∨ c = 10 ∨ c = 11 ∨ c = 12 ∨ c = 13 ∨ c = 14 ∨ c = 15 ∨ c = 16 ∨ c = 17 ∨ c = 18 ∨ c = 19) with rfl | rfl | rfl | rfl | rfl | rfl | rfl | rfl | rfl | rfl | rfl | rfl | rfl | rfl | rfl | rfl | rfl | rfl | rfl | rfl
  · exact num_0 hd hp (leaf_any L d) r12
  · exact num_1 hd hp (leaf_any L d) r12
  · exact num_2 hd hp (leaf_any L d) r12
  · exact num_3 hd hp (leaf_any L d) r12
  · exact num_4 hd hp hnum hN r1
  · exact num_5 hd hp hnum hN r1
  · exact num_6 hd hp hnum hN r1
  · exact num_7 hd hp hnum hN r2
  · exact num_8 hd hp hnum hN r2
  · exact num_9 hd hp hnum hN r5
  · exact num_10 hd hp hnum hN r4
  · exact num_11 hd hp (char_any L d) r7
  · exact num_12 hd hp hnum hN r10
  · exact num_13 hd hp hnum hN r6
  · exact num_14 hd hp (leaf_any L d) r3
  · exact num_15 hd hp  r11
  · exact num_16 hd hp (set_any L d hd) r8
  · exact num_17 hd hp hcond hC r9
  · exact num_18 hd hp (leaf_any L d) r0
  · exact num_19 hd hp (leaf_any L d) r0
theorem cond_step {L : List Nat} {d R N C : Nat} (hd : d ≤ 100) (hnum : Gn 43 L d N) (hN : N ≤ 1000000) (hcond : Gn 42 L d C) (hC : C ≤ 1000000) (hR : 1 ≤ R ∧ 1 + 4 + 4 ≤ R ∧ 1 + C + 5 + C + 1 ≤ R ∧ 1 + C + 6 + C + 1 ≤ R ∧ 2 + C + 1 ≤ R ∧ 21 + 3 + 21 ≤ R ∧ 4 + N + 1 ≤ R ∧ 6 ≤ R ∧ 7 ≤ R ∧ 8 ≤ R ∧ 9 + 3 + 9 ≤ R ∧ N + 4 + 21 ≤ R ∧ N + 4 + N ≤ R) : Gn 42 L (d + 1) R := by
  intro i
  obtain ⟨c, i1, hp⟩ : ∃ p q, pickM L i 14 = (p, q) := ⟨_, _, rfl⟩
  have hc : c < 14 := by have h := pickM_lt L i (n := 14) (by decide); rw [hp] at h; exact h
  obtain ⟨r0, r1, r2, r3, r4, r5, r6, r7, r8, r9, r10, r11, r12⟩ := hR
  rcases (by omega : c = 0 ∨ c = 1 ∨ c = 2 ∨ c = 3 ∨ c = 4 ∨ c = 5 ∨ c = 6 ∨ c = 7 ∨ c = 8 ∨ c = 9 ∨ c = 10 ∨ c = 11 ∨ c = 12 ∨ c = 13) with rfl | rfl | rfl | rfl | rfl | rfl | rfl | rfl | rfl | rfl | rfl | rfl | rfl | rfl
  · exact cond_0 hd hp  r0
  · exact cond_1 hd hp hnum hN r12
  · exact cond_2 hd hp hcond hC r2
  · exact cond_3 hd hp hcond hC r3
  · exact cond_4 hd hp hcond hC r4
  · exact cond_5 hd hp hnum hN (set_any L d hd) r11
  · exact cond_6 hd hp hnum hN r6
  · exact cond_7 hd hp  r8
  · exact cond_8 hd hp  r7
  · exact cond_9 hd hp  r1
  · exact cond_10 hd hp (set_any L d hd) r5
  · exact cond_11 hd hp  r9
  · exact cond_12 hd hp (leaf_any L d) r10
  · exact cond_13 hd hp (leaf_any L d) r10
theorem simple_step {L : List Nat} {d R N C : Nat} (hd : d ≤ 100) (hnum : Gn 43 L d N) (hN : N ≤ 1000000) (hcond : Gn 42 L d C) (hC : C ≤ 1000000) (hR : 10 ≤ R ∧ 10 + 4 + N ≤ R ∧ 11 ≤ R ∧ 11 + 7 + 1 ≤ R ∧ 17 + N ≤ R ∧ 2 + 4 + 2 + N + 1 ≤ R ∧ 20 ≤ R ∧ 22 ≤ R ∧ 4 ≤ R ∧ 4 + 10 + 1 ≤ R ∧ 4 + 10 + 2 + N + 1 ≤ R ∧ 4 + 4 + 8 + 1 ≤ R ∧ 4 + 6 + 1 ≤ R ∧ 5 + 16 ≤ R ∧ 5 + 21 ≤ R ∧ 5 + 7 ≤ R ∧ 5 + 9 ≤ R ∧ 5 + C ≤ R ∧ 5 + N ≤ R ∧ 7 + C + 1 ≤ R ∧ 8 ≤ R ∧ 8 + 4 + 1 ≤ R ∧ 8 + N + 9 ≤ R ∧ 9 + 16 + 1 ≤ R) : Gn 41 L d R := by
  intro i
  obtain ⟨c, i1, hp⟩ : ∃ p q, pickM L i 28 = (p, q) := ⟨_, _, rfl⟩
  have hc : c < 28 := by have h := pickM_lt L i (n := 28) (by decide); rw [hp] at h; exact h
  obtain ⟨r0, r1, r2, r3, r4, r5, r6, r7, r8, r9, r10, r11, r12, r13, r14, r15, r16, r17, r18, r19, r20, r21, r22, r23⟩ := hR
  rcases (by omega : c = 0 ∨ c = 1 ∨ c = 2 ∨ c = 3 ∨ c = 4 ∨ c = 5 ∨ c = 6 ∨ c = 7 ∨ c = 8 ∨ c = 9 ∨ c = 10 ∨ c = 11 ∨ c = 12 ∨ c = 13 ∨ c = 14 ∨ c = 15 ∨ c = 16 ∨ c = 17 ∨ c = 18 ∨ c = 19 ∨ c = 20 ∨ c = 21 ∨ c = 22 ∨ c = 23 ∨ c = 24 ∨ c = 25 ∨ c = 26 ∨ c = 27) with rfl | rfl | rfl | rfl | rfl | rfl | rfl | rfl | rfl | rfl | rfl | rfl | rfl | rfl | rfl | rfl | rfl | rfl | rfl | rfl | rfl | rfl | rfl | rfl | rfl | rfl | rfl | rfl
  · exact simple_0 hd hp hnum hN r18
  · exact simple_1 hd hp hnum hN r18
  · exact simple_2 hd hp hnum hN (variable_any L d) r1
  · exact simple_3 hd hp hcond hC r17
  · exact simple_4 hd hp (char_any L d) r13
  · exact simple_5 hd hp (set_any L d hd) r14
  · exact simple_6 hd hp hnum hN r22
  · exact simple_7 hd hp hnum hN r22
  · exact simple_8 hd hp (char_any L d) r23
  · exact simple_9 hd hp  r3
  · exact simple_10 hd hp  r15
  · exact simple_11 hd hp  r12
  · exact simple_12 hd hp  r2
  · exact simple_13 hd hp hnum hN r5
  · exact simple_14 hd hp  r8
  · exact simple_15 hd hp hnum hN (variable_any L d) r10
  · exact simple_16 hd hp (variable_any L d) r9
  · exact simple_17 hd hp  r11
  · exact simple_18 hd hp  r21
  · exact simple_19 hd hp hcond hC r19
  · exact simple_20 hd hp  r20
  · exact simple_21 hd hp  r6
  · exact simple_22 hd hp hnum hN r4
  · exact simple_23 hd hp  r0
  · exact simple_24 hd hp  r7
  · exact simple_25 hd hp (leaf_any L d) r16
  · exact simple_26 hd hp (leaf_any L d) r16
  · exact simple_27 hd hp (leaf_any L d) r16
theorem stmt_step {L : List Nat} {d R N C T B2 B3 : Nat} (hd : d ≤ 100) (hnum : Gn 43 L d N) (hN : N ≤ 1000000) (hcond : Gn 42 L d C) (hC : C ≤ 1000000) (hsimple : Gn 41 L d T) (hT : T ≤ 1000000) (hbody2 : Gb L d 2 B2) (hB2 : B2 ≤ 1000000) (hbody3 : Gb L d 3 B3) (hB3 : B3 ≤ 1000000) (hR : 14 + 7 + 4 + B2 + 4 ≤ R ∧ 15 + B2 + 19 + C + 1 ≤ R ∧ 22 + T + 7 + T + 20 ≤ R ∧ 25 + B2 + 4 ≤ R ∧ 3 + C + 6 + B2 + 7 + C + 6 + B2 + 6 + B2 + 4 ≤ R ∧ 3 + C + 6 + B3 + 4 ≤ R ∧ 5 + N + 13 + B2 + 14 + B2 + 6 + T + 4 ≤ R ∧ 50 ≤ R ∧ 7 + C + 23 + B2 + 4 ≤ R ∧ T ≤ R) : Gn 21 L (d + 1) R := by
  intro i
  obtain ⟨c, i1, hp⟩ : ∃ p q, pickM L i 16 = (p, q) := ⟨_, _, rfl⟩
  have hc : c < 16 := by have h := pickM_lt L i (n := 16) (by decide); rw [hp] at h; exact h
  obtain ⟨r0, r1, r2, r3, r4, r5, r6, r7, r8, r9⟩ := hR
  rcases (by omega : c = 0 ∨ c = 1 ∨ c = 2 ∨ c = 3 ∨ c = 4 ∨ c = 5 ∨ c = 6 ∨ c = 7 ∨ c = 8 ∨ c = 9 ∨ c = 10 ∨ c = 11 ∨ c = 12 ∨ c = 13 ∨ c = 14 ∨ c = 15) with rfl | rfl | rfl | rfl | rfl | rfl | rfl | rfl | rfl | rfl | rfl | rfl | rfl | rfl | rfl | rfl
  · exact stmt_0 hd hp hbody3 hB3 hcond hC r5
  · exact stmt_1 hd hp hbody2 hB2 hcond hC r4
  · exact stmt_2 hd hp hbody2 hB2 hcond hC r8
  · exact stmt_3 hd hp hbody2 hB2 hcond hC r1
  · exact stmt_4 hd hp hbody2 hB2 r0
  · exact stmt_5 hd hp hbody2 hB2 r3
  · exact stmt_6 hd hp hbody2 hB2 hnum hN hsimple hT r6
  · exact stmt_7 hd hp hsimple hT r2
  · exact stmt_8 hd hp  r7
  · exact stmt_9 hd hp hsimple hT r9
  · exact stmt_10 hd hp hsimple hT r9
  · exact stmt_11 hd hp hsimple hT r9
  · exact stmt_12 hd hp hsimple hT r9
  · exact stmt_13 hd hp hsimple hT r9
  · exact stmt_14 hd hp hsimple hT r9
  · exact stmt_15 hd hp hsimple hT r9
set_option maxRecDepth 10000 in
set_option maxHeartbeats 1600000 in
theorem num_zero (L : List Nat) : Gn 43 L 0 9 := by
  intro i
  obtain ⟨S1, j1, S1p, S1b, C1⟩ := leaf_any L 0 i
  refine ⟨S1, j1, S1p, S1b, fun w g lv hG => ?_⟩
  have c2 : w.cell? ⟨g, 2, none⟩ = some (.int .i64 ((0 : Nat) : Int)) := hG.blk.cell 2
  have HG := Lib.hid hG
  clear hG
  go_enter Tryd.func43, Tryd.ntmps43
  go_wp2_with fail
  refine (C1 _ g lv HG.out).mono ?_
  rintro e w1 ⟨rfl, hG1, ho1⟩
  have G1 := Lib.hid hG1
  have H1 := Lib.hid ho1
  clear hG1 ho1
  go_wp2_with fail
  go_ret
  exact ⟨rfl, G1.out, H1.out⟩
set_option maxRecDepth 10000 in
set_option maxHeartbeats 1600000 in
theorem stmt_zero {L : List Nat} {T : Nat} (hsimple : Gn 41 L 0 T) : Gn 21 L 0 T := by
  intro i
  obtain ⟨S1, j1, S1p, S1b, C1⟩ := hsimple i
  refine ⟨S1, j1, S1p, S1b, fun w g lv hG => ?_⟩
  have c2 : w.cell? ⟨g, 2, none⟩ = some (.int .i64 ((0 : Nat) : Int)) := hG.blk.cell 2
  have HG := Lib.hid hG
  clear hG
  go_enter Tryd.func21, Tryd.ntmps21
  go_wp2_with fail
  refine (C1 _ g lv HG.out).mono ?_
  rintro e w1 ⟨rfl, hG1, ho1⟩
  have G1 := Lib.hid hG1
  have H1 := Lib.hid ho1
  clear hG1 ho1
  go_wp2_with fail
  go_ret
  exact ⟨rfl, G1.out, H1.out⟩
def condL : List ByteArray := [⟨#[98]⟩, ⟨#[84, 82, 85, 69]⟩, ⟨#[105, 32, 60, 32, 110]⟩]
set_option maxRecDepth 10000 in
set_option maxHeartbeats 1600000 in
theorem cond_zero (L : List Nat) : Gn 42 L 0 5 := by
  intro i
  obtain ⟨p1, q1, hp1⟩ : ∃ p q, pickM L i 3 = (p, q) := ⟨_, _, rfl⟩
  have p1lt : p1 < 3 := by have h := pickM_lt L i (n := 3) (by decide); rw [hp1] at h; exact h
  have p1a : (0 : Int) ≤ (p1 : Int) := Int.natCast_nonneg _
  have p1b : (p1 : Int) < 3 := by omega
  obtain ⟨X1, hX1⟩ : ∃ x, condL.getD p1 ⟨#[]⟩ = x := ⟨_, rfl⟩
  have X1b : X1.size ≤ 5 := by rw [← hX1]; exact choice_le _ _ (by decide) _
  have X1p : 0 < X1.size := by rw [← hX1]; exact choice_pos _ (by decide) _ p1lt
  have X1h := Lib.hid (show ((#[.string ⟨#[98]⟩, .string ⟨#[84, 82, 85, 69]⟩, .string ⟨#[105, 32, 60, 32, 110]⟩] : Array Value))[p1]? = some (.string X1) by rw [← hX1]; exact choice_cell condL p1 p1lt)
  refine ⟨X1, q1, X1p, X1b, fun w g lv hG => ?_⟩
  have c2 : w.cell? ⟨g, 2, none⟩ = some (.int .i64 ((0 : Nat) : Int)) := hG.blk.cell 2
  have HG := Lib.hid hG
  clear hG hX1 X1b X1p
  go_enter Tryd.func42, Tryd.ntmps42
  go_wp2_with fail
  refine (pick_at (HG.out.go (alloc0 w _)) hp1 (p1 : Int) rfl (by decide) (by decide)).mono ?_
  rintro e w1 ⟨rfl, hG1, ho1⟩
  have G1 := Lib.hid hG1
  have H1 := Lib.hid (og_trans (og_nil (alloc0 w _)) ho1)
  have cellX1 : w1.cell? ⟨w.heap.size, p1, none⟩ = some (.string X1) := by
    have h := ((Blk.new w #[.string ⟨#[98]⟩, .string ⟨#[84, 82, 85, 69]⟩, .string ⟨#[105, 32, 60, 32, 110]⟩] 9).kept ho1 (fun h => absurd (show w.heap.size = g from h) (Nat.ne_of_gt HG.out.blk.lt))).cell p1
    rw [h]; exact X1h.out
  have p1c := p1lt
  clear hG1 ho1
  go_wp2_with fail
  go_ret
  exact ⟨rfl, G1.out, H1.out⟩
/-- What k statements more come to. -/
inductive Runs (L : List Nat) (d S : Nat) : Nat → ByteArray → Nat → ByteArray → Nat → Prop
  | stop (s : ByteArray) (i : Nat) : Runs L d S 0 s i s i
  | more (k : Nat) (s t u : ByteArray) (i j m : Nat) (hp : 0 < t.size) (hb : t.size ≤ S)
      (hc : ∀ (w : World) (g : Nat) (lv : Value), GAt w g lv L i d → Calls Tryd.prog 21 #[.pointer (some ⟨g, 0, none⟩)] w (GPost g lv L j d t w))
      (hr : Runs L d S k (if s.size = 0 then t else (s ++ ⟨#[59, 32]⟩) ++ t) j u m) : Runs L d S (k + 1) s i u m
theorem Runs.all {L : List Nat} {d S : Nat} (h : Gn 21 L d S) : ∀ (k : Nat) (s : ByteArray) (i : Nat), ∃ u m, Runs L d S k s i u m ∧ u.size ≤ s.size + k * (S + 2) ∧ (0 < k ∨ 0 < s.size → 0 < u.size)
  | 0, s, i => ⟨s, i, Runs.stop s i, by omega, fun h => by omega⟩
  | k + 1, s, i => by
    obtain ⟨t, j, hp, hb, hc⟩ := h i
    obtain ⟨u, m, hr, hu, h0⟩ := Runs.all h k (if s.size = 0 then t else (s ++ ⟨#[59, 32]⟩) ++ t) j
    have z : (if s.size = 0 then t else (s ++ ⟨#[59, 32]⟩) ++ t).size ≤ s.size + (S + 2) ∧ 0 < (if s.size = 0 then t else (s ++ ⟨#[59, 32]⟩) ++ t).size := by
      split
      · omega
      · rw [ByteArray.size_append, ByteArray.size_append, show (⟨#[59, 32]⟩ : ByteArray).size = 2 from rfl]; omega
    have e : (k + 1) * (S + 2) = k * (S + 2) + (S + 2) := Nat.succ_mul _ _
    exact ⟨u, m, Runs.more k s t u i j m hp hb hc hr, by omega, fun _ => h0 (Or.inr z.2)⟩
set_option maxRecDepth 10000 in
set_option maxHeartbeats 1600000 in
theorem body_any {L : List Nat} {d n S B : Nat} (hst : Gn 21 L d S) (hS : S ≤ 1000000) (hn : 1 ≤ n) (hn9 : n ≤ 9) (hB : n * (S + 2) ≤ B) : Gb L d n B := by
  intro i
  obtain ⟨c, i1, hp⟩ : ∃ p q, pickM L i n = (p, q) := ⟨_, _, rfl⟩
  have hc : c < n := by have h := pickM_lt L i (n := n) (by omega); rw [hp] at h; exact h
  obtain ⟨u, m, hr, hu, h0⟩ := Runs.all hst (c + 1) ⟨#[]⟩ i1
  have hm : (c + 1) * (S + 2) ≤ n * (S + 2) := Nat.mul_le_mul_right _ (by omega)
  have z0 : (⟨#[]⟩ : ByteArray).size = 0 := rfl
  refine ⟨u, m, h0 (Or.inl (by omega)), by omega, fun w g lv hG => ?_⟩
  have HG := Lib.hid hG
  have HC := Lib.hid hc
  have HR := Lib.hid hr
  have HN := Lib.hid hn
  have HN9 := Lib.hid hn9
  have HS := Lib.hid hS
  have wc1 : IntKind.i64.wrap ((c : Int) + 1) = ((c + 1 : Nat) : Int) := by rw [IntKind.wrap]; simp [IntKind.bits, IntKind.signed]; omega
  clear hG hu h0 hm z0 hr hc hB hn hn9 hS hst
  go_enter Tryd.func12, Tryd.ntmps12
  go_wp2_with fail
  refine (pick_at HG.out hp (c : Int) rfl HN.out (by have := HN9.out; omega)).mono ?_
  rintro e w1 ⟨rfl, hG1, ho1⟩
  have G1 := Lib.hid hG1
  have H1 := Lib.hid ho1
  clear hG1 ho1 hp
  obtain ⟨k0, hk0⟩ : ∃ k0, c + 1 = k0 := ⟨_, rfl⟩
  rw [hk0] at wc1 HR
  have HK0 := Lib.hid (show k0 ≤ 9 by have := HC.out; have := HN9.out; omega)
  clear hk0
  go_wp2_with fail
  go_loopg [5, 6] k0 (fun gk s v wr => ∃ (k : Nat) (x : ByteArray) (j : Nat), s = .string x ∧ v = .int .i64 (k : Int) ∧ gk = k ∧ k ≤ 9 ∧ x.size + k * (S + 2) ≤ 9 * (S + 2) ∧ Runs L d S k x j u m ∧ GAt wr g lv L j d ∧ Only (M.One g) w wr)
  case atStart => exact ⟨k0, ⟨#[]⟩, i1, rfl, rfl, rfl, HK0.out, by have h : k0 * (S + 2) ≤ 9 * (S + 2) := Nat.mul_le_mul_right _ HK0.out; have z0 : (⟨#[]⟩ : ByteArray).size = 0 := rfl; omega, HR.out, G1.out, H1.out⟩
  case round =>
    obtain ⟨k, x, j, rfl, rfl, hg, hk9, hz, hr, hG, ho⟩ := hrel
    obtain ⟨wq, hwq⟩ : ∃ z, wr = z := ⟨_, rfl⟩
    rw [hwq] at hG ho ⊢
    have HGG := Lib.hid hg
    have HG2 := Lib.hid hG
    have HO2 := Lib.hid ho
    have HK9 := Lib.hid hk9
    clear hwq hG ho hg hk9
    cases hr with
    | stop =>
      go_wp2_with fail
      go_ret
      exact ⟨rfl, HG2.out, HO2.out⟩
    | more k s t u i j2 m hp hb hc hr =>
      have HR2 := Lib.hid hr
      have HC2 := Lib.hid hc
      have e : (k + 1) * (S + 2) = k * (S + 2) + (S + 2) := Nat.succ_mul _ _
      have hz2 : x.size + 2 + t.size + k * (S + 2) ≤ 9 * (S + 2) := by omega
      have HZ := Lib.hid hz2
      have h9 : 9 * (S + 2) ≤ 9000018 := by have := HS.out; omega
      have kz1 : ¬ 9223372036854775807 < x.size + 2 := by omega
      have kz2 : ¬ 9223372036854775807 < x.size + 2 + t.size := by omega
      have y2 : (⟨#[59, 32]⟩ : ByteArray).size = 2 := rfl
      have z1 : (x ++ ⟨#[59, 32]⟩ : ByteArray).size = x.size + 2 := by rw [ByteArray.size_append, y2]
      have z2 : ((x ++ ⟨#[59, 32]⟩) ++ t : ByteArray).size = x.size + 2 + t.size := by rw [ByteArray.size_append, z1]
      obtain ⟨k1, hk1⟩ : ∃ k1, k + 1 = k1 := ⟨_, rfl⟩
      rw [hk1] at HGG HK9 ⊢
      have q1 : (0 : Int) < (k1 : Int) := by omega
      have q2 : 0 < k1 := by omega
      have wk : IntKind.i64.wrap ((k1 : Int) - 1) = (k : Int) := by have := HK9.out; rw [IntKind.wrap]; simp [IntKind.bits, IntKind.signed]; omega
      have HK1 := Lib.hid hk1
      by_cases hx : x.size = 0
      · have ex : x = ⟨#[]⟩ := by
          apply ByteArray.ext
          exact Array.eq_empty_of_size_eq_zero hx
        rw [if_pos hx] at HR2
        have kz3 : ¬ 9223372036854775807 < t.size := by omega
        subst ex
        have e0 : (⟨#[]⟩ : ByteArray) ++ t = t := by
          apply ByteArray.ext
          rw [ByteArray.data_append]
          simp
        have e1 : (ByteArray.empty : ByteArray) ++ t = t := e0
        clear hr hc e hz hz2 h9 hk1 hx hb hp kz1 kz2 z1 z2 y2
        go_wp2_with fail
        refine (HC2.out _ g lv HG2.out).mono ?_
        rintro e w3 ⟨rfl, hG3, ho3⟩
        have G3 := Lib.hid hG3
        have H3 := Lib.hid (og_trans HO2.out ho3)
        clear hG3 ho3
        go_wp2_with fail
        go_roundg k
        case measure => have := HGG.out; have := HK1.out; omega
        case rel => exact ⟨k, _, _, rfl, rfl, rfl, by have := HK9.out; have := HK1.out; omega, by have h := HZ.out; have z0 : (⟨#[]⟩ : ByteArray).size = 0 := rfl; (try rw [e0]); omega, by first | exact HR2.out | (rw [e0]; exact HR2.out), G3.out, H3.out⟩
      · rw [if_neg hx] at HR2
        have ne : (x.toList == []) = false := by
          refine Bool.eq_false_iff.2 fun h => hx ?_
          have h := eq_of_beq h
          rw [ByteArray.toList_eq] at h
          show x.data.size = 0
          rw [← Array.length_toList, h]; rfl
        clear hr hc e hz hz2 h9 hk1 hx hb hp
        go_wp2_with fail
        refine (HC2.out _ g lv HG2.out).mono ?_
        rintro e w3 ⟨rfl, hG3, ho3⟩
        have G3 := Lib.hid hG3
        have H3 := Lib.hid (og_trans HO2.out ho3)
        clear hG3 ho3
        go_wp2_with fail
        go_roundg k
        case measure => have := HGG.out; have := HK1.out; omega
        case rel => exact ⟨k, _, _, rfl, rfl, rfl, by have := HK9.out; have := HK1.out; omega, by have h := HZ.out; rw [z2]; omega, HR2.out, G3.out, H3.out⟩
theorem depth0 (L : List Nat) : Gn 43 L 0 9 ∧ Gn 42 L 0 5 ∧ Gn 41 L 0 26 ∧ Gn 21 L 0 26 := by
  have h1 := num_zero L
  have h2 := cond_zero L
  have h3 : Gn 41 L 0 26 := simple_step (by decide) h1 (by decide) h2 (by decide) (by decide)
  exact ⟨h1, h2, h3, stmt_zero h3⟩
theorem depth_step {L : List Nat} {d N C T S N2 C2 T2 S2 : Nat} (hd : d ≤ 99) (h : Gn 43 L d N ∧ Gn 42 L d C ∧ Gn 41 L d T ∧ Gn 21 L d S)
    (hb : N ≤ 1000 ∧ C ≤ 1000 ∧ T ≤ 1000 ∧ S ≤ 100000 ∧ 26 ≤ N2 ∧ 2 * N + 7 ≤ N2 ∧ N + 12 ≤ N2 ∧ C + 5 ≤ N2 ∧ 45 ≤ C2 ∧ 2 * N + 4 ≤ C2 ∧ 2 * C + 8 ≤ C2 ∧ N + 25 ≤ C2 ∧ 26 ≤ T2 ∧ N2 + 17 ≤ T2 ∧ C2 + 8 ≤ T2 ∧ N2 ≤ 1000 ∧ C2 ≤ 1000 ∧ 50 ≤ S2 ∧ 2 * C + 6 * (S + 2) + 32 ≤ S2 ∧ N + T + 4 * (S + 2) + 42 ≤ S2 ∧ 2 * T + 49 ≤ S2) :
    Gn 43 L (d + 1) N2 ∧ Gn 42 L (d + 1) C2 ∧ Gn 41 L (d + 1) T2 ∧ Gn 21 L (d + 1) S2 := by
  obtain ⟨h1, h2, h3, h4⟩ := h
  have n1 : Gn 43 L (d + 1) N2 := num_step (by omega) h1 (by omega) h2 (by omega) (by omega)
  have n2 : Gn 42 L (d + 1) C2 := cond_step (by omega) h1 (by omega) h2 (by omega) (by omega)
  have n3 : Gn 41 L (d + 1) T2 := simple_step (by omega) n1 (by omega) n2 (by omega) (by omega)
  have b2 : Gb L d 2 (2 * (S + 2)) := body_any h4 (by omega) (by decide) (by decide) (Nat.le_refl _)
  have b3 : Gb L d 3 (3 * (S + 2)) := body_any h4 (by omega) (by decide) (by decide) (Nat.le_refl _)
  exact ⟨n1, n2, n3, stmt_step (by omega) h1 (by omega) h2 (by omega) h3 (by omega) b2 (by omega) b3 (by omega) (by omega)⟩
theorem depth4 (L : List Nat) : Gn 21 L 4 60000 := by
  have d1 := depth_step (N2 := 26) (C2 := 45) (T2 := 53) (S2 := 210) (by decide) (depth0 L) (by decide)
  have d2 := depth_step (N2 := 59) (C2 := 98) (T2 := 106) (S2 := 1400) (by decide) d1 (by decide)
  have d3 := depth_step (N2 := 125) (C2 := 204) (T2 := 212) (S2 := 9000) (by decide) d2 (by decide)
  exact (depth_step (N2 := 257) (C2 := 416) (T2 := 424) (S2 := 60000) (by decide) d3 (by decide)).2.2.2
def mainK : ByteArray := ⟨#[77, 79, 68, 85, 76, 69, 32, 77, 59, 32, 73, 77, 80, 79, 82, 84, 32, 73, 110, 44, 32, 79, 117, 116, 59, 32, 40, 42, 32, 109, 97, 100, 101, 32, 111, 102, 32, 110, 117, 109, 98, 101, 114, 115, 32, 42, 41, 10, 67, 79, 78, 83, 84, 32, 107, 42, 32, 61, 32, 55, 59, 32, 119, 111, 114, 100, 32, 61, 32, 34, 97, 98, 99, 34, 59, 32, 97, 108, 108, 42, 32, 61, 32, 123, 48, 32, 46, 46, 32, 51, 49, 125, 59, 10, 84, 89, 80, 69, 32, 82, 42, 32, 61, 32, 82, 69, 67, 79, 82, 68, 32, 120, 44, 32, 121, 58, 32, 73, 78, 84, 69, 71, 69, 82, 59, 32, 110, 101, 120, 116, 58, 32, 80, 79, 73, 78, 84, 69, 82, 32, 84, 79, 32, 82, 32, 69, 78, 68, 59, 32, 83, 32, 61, 32, 82, 69, 67, 79, 82, 68, 32, 40, 82, 41, 32, 122, 58, 32, 67, 72, 65, 82, 32, 69, 78, 68, 59, 32, 65, 42, 32, 61, 32, 65, 82, 82, 65, 89, 32, 52, 32, 79, 70, 32, 73, 78, 84, 69, 71, 69, 82, 59, 32, 80, 82, 32, 61, 32, 80, 79, 73, 78, 84, 69, 82, 32, 84, 79, 32, 82, 59, 10, 86, 65, 82, 32, 105, 44, 32, 106, 44, 32, 110, 42, 58, 32, 73, 78, 84, 69, 71, 69, 82, 59, 32, 98, 58, 32, 66, 79, 79, 76, 69, 65, 78, 59, 32, 99, 58, 32, 67, 72, 65, 82, 59, 32, 115, 58, 32, 83, 69, 84, 59, 32, 97, 44, 32, 100, 58, 32, 65, 59, 32, 116, 58, 32, 65, 82, 82, 65, 89, 32, 54, 32, 79, 70, 32, 67, 72, 65, 82, 59, 32, 112, 44, 32, 113, 58, 32, 80, 82, 59, 32, 117, 58, 32, 80, 79, 73, 78, 84, 69, 82, 32, 84, 79, 32, 83, 59, 32, 114, 58, 32, 82, 59, 32, 101, 58, 32, 65, 82, 82, 65, 89, 32, 50, 32, 79, 70, 32, 65, 82, 82, 65, 89, 32, 51, 32, 79, 70, 32, 73, 78, 84, 69, 71, 69, 82, 59, 10, 80, 82, 79, 67, 69, 68, 85, 82, 69, 32, 102, 42, 32, 40, 120, 44, 32, 121, 58, 32, 73, 78, 84, 69, 71, 69, 82, 41, 58, 32, 73, 78, 84, 69, 71, 69, 82, 59, 32, 86, 65, 82, 32, 122, 58, 32, 73, 78, 84, 69, 71, 69, 82, 59, 32, 66, 69, 71, 73, 78, 32, 122, 32, 58, 61, 32, 120, 59, 32, 73, 70, 32, 121, 32, 62, 32, 48, 32, 84, 72, 69, 78, 32, 122, 32, 58, 61, 32, 120, 32, 43, 32, 102, 40, 120, 32, 45, 32, 49, 44, 32, 121, 32, 45, 32, 49, 41, 32, 69, 78, 68, 32, 82, 69, 84, 85, 82, 78, 32, 122, 32, 69, 78, 68, 32, 102, 59, 10, 80, 82, 79, 67, 69, 68, 85, 82, 69, 32, 103, 32, 40, 86, 65, 82, 32, 120, 58, 32, 73, 78, 84, 69, 71, 69, 82, 59, 32, 121, 58, 32, 73, 78, 84, 69, 71, 69, 82, 41, 59, 32, 66, 69, 71, 73, 78, 32, 73, 78, 67, 40, 120, 44, 32, 121, 41, 59, 32, 79, 117, 116, 46, 73, 110, 116, 40, 120, 41, 59, 32, 79, 117, 116, 46, 67, 104, 97, 114, 40, 34, 32, 34, 41, 32, 69, 78, 68, 32, 103, 59, 10, 80, 82, 79, 67, 69, 68, 85, 82, 69, 32, 104, 32, 40, 86, 65, 82, 32, 118, 58, 32, 65, 41, 59, 32, 86, 65, 82, 32, 119, 58, 32, 65, 59, 32, 66, 69, 71, 73, 78, 32, 119, 32, 58, 61, 32, 118, 59, 32, 118, 91, 49, 93, 32, 58, 61, 32, 118, 91, 48, 93, 32, 43, 32, 49, 59, 32, 97, 91, 50, 93, 32, 58, 61, 32, 118, 91, 49, 93, 32, 43, 32, 119, 91, 51, 93, 32, 69, 78, 68, 32, 104, 59, 10, 80, 82, 79, 67, 69, 68, 85, 82, 69, 32, 111, 32, 40, 120, 58, 32, 80, 82, 41, 58, 32, 66, 79, 79, 76, 69, 65, 78, 59, 32, 86, 65, 82, 32, 119, 58, 32, 66, 79, 79, 76, 69, 65, 78, 59, 32, 66, 69, 71, 73, 78, 32, 119, 32, 58, 61, 32, 120, 32, 35, 32, 78, 73, 76, 32, 82, 69, 84, 85, 82, 78, 32, 119, 32, 38, 32, 40, 120, 46, 120, 32, 62, 61, 32, 48, 41, 32, 69, 78, 68, 32, 111, 59, 10, 66, 69, 71, 73, 78, 32, 110, 32, 58, 61, 32, 57, 59, 32]⟩
def mainKL : ByteArray := ⟨#[77, 79, 68, 85, 76, 69, 32, 77, 59, 32, 73, 77, 80, 79, 82, 84, 32, 73, 110, 44, 32, 79, 117, 116, 44, 32, 76, 59, 32, 40, 42, 32, 109, 97, 100, 101, 32, 111, 102, 32, 110, 117, 109, 98, 101, 114, 115, 32, 42, 41, 10, 67, 79, 78, 83, 84, 32, 107, 42, 32, 61, 32, 55, 59, 32, 119, 111, 114, 100, 32, 61, 32, 34, 97, 98, 99, 34, 59, 32, 97, 108, 108, 42, 32, 61, 32, 123, 48, 32, 46, 46, 32, 51, 49, 125, 59, 10, 84, 89, 80, 69, 32, 82, 42, 32, 61, 32, 82, 69, 67, 79, 82, 68, 32, 120, 44, 32, 121, 58, 32, 73, 78, 84, 69, 71, 69, 82, 59, 32, 110, 101, 120, 116, 58, 32, 80, 79, 73, 78, 84, 69, 82, 32, 84, 79, 32, 82, 32, 69, 78, 68, 59, 32, 83, 32, 61, 32, 82, 69, 67, 79, 82, 68, 32, 40, 82, 41, 32, 122, 58, 32, 67, 72, 65, 82, 32, 69, 78, 68, 59, 32, 65, 42, 32, 61, 32, 65, 82, 82, 65, 89, 32, 52, 32, 79, 70, 32, 73, 78, 84, 69, 71, 69, 82, 59, 32, 80, 82, 32, 61, 32, 80, 79, 73, 78, 84, 69, 82, 32, 84, 79, 32, 82, 59, 10, 86, 65, 82, 32, 105, 44, 32, 106, 44, 32, 110, 42, 58, 32, 73, 78, 84, 69, 71, 69, 82, 59, 32, 98, 58, 32, 66, 79, 79, 76, 69, 65, 78, 59, 32, 99, 58, 32, 67, 72, 65, 82, 59, 32, 115, 58, 32, 83, 69, 84, 59, 32, 97, 44, 32, 100, 58, 32, 65, 59, 32, 116, 58, 32, 65, 82, 82, 65, 89, 32, 54, 32, 79, 70, 32, 67, 72, 65, 82, 59, 32, 112, 44, 32, 113, 58, 32, 80, 82, 59, 32, 117, 58, 32, 80, 79, 73, 78, 84, 69, 82, 32, 84, 79, 32, 83, 59, 32, 114, 58, 32, 82, 59, 32, 101, 58, 32, 65, 82, 82, 65, 89, 32, 50, 32, 79, 70, 32, 65, 82, 82, 65, 89, 32, 51, 32, 79, 70, 32, 73, 78, 84, 69, 71, 69, 82, 59, 10, 80, 82, 79, 67, 69, 68, 85, 82, 69, 32, 102, 42, 32, 40, 120, 44, 32, 121, 58, 32, 73, 78, 84, 69, 71, 69, 82, 41, 58, 32, 73, 78, 84, 69, 71, 69, 82, 59, 32, 86, 65, 82, 32, 122, 58, 32, 73, 78, 84, 69, 71, 69, 82, 59, 32, 66, 69, 71, 73, 78, 32, 122, 32, 58, 61, 32, 120, 59, 32, 73, 70, 32, 121, 32, 62, 32, 48, 32, 84, 72, 69, 78, 32, 122, 32, 58, 61, 32, 120, 32, 43, 32, 102, 40, 120, 32, 45, 32, 49, 44, 32, 121, 32, 45, 32, 49, 41, 32, 69, 78, 68, 32, 82, 69, 84, 85, 82, 78, 32, 122, 32, 69, 78, 68, 32, 102, 59, 10, 80, 82, 79, 67, 69, 68, 85, 82, 69, 32, 103, 32, 40, 86, 65, 82, 32, 120, 58, 32, 73, 78, 84, 69, 71, 69, 82, 59, 32, 121, 58, 32, 73, 78, 84, 69, 71, 69, 82, 41, 59, 32, 66, 69, 71, 73, 78, 32, 73, 78, 67, 40, 120, 44, 32, 121, 41, 59, 32, 79, 117, 116, 46, 73, 110, 116, 40, 120, 41, 59, 32, 79, 117, 116, 46, 67, 104, 97, 114, 40, 34, 32, 34, 41, 32, 69, 78, 68, 32, 103, 59, 10, 80, 82, 79, 67, 69, 68, 85, 82, 69, 32, 104, 32, 40, 86, 65, 82, 32, 118, 58, 32, 65, 41, 59, 32, 86, 65, 82, 32, 119, 58, 32, 65, 59, 32, 66, 69, 71, 73, 78, 32, 119, 32, 58, 61, 32, 118, 59, 32, 118, 91, 49, 93, 32, 58, 61, 32, 118, 91, 48, 93, 32, 43, 32, 49, 59, 32, 97, 91, 50, 93, 32, 58, 61, 32, 118, 91, 49, 93, 32, 43, 32, 119, 91, 51, 93, 32, 69, 78, 68, 32, 104, 59, 10, 80, 82, 79, 67, 69, 68, 85, 82, 69, 32, 111, 32, 40, 120, 58, 32, 80, 82, 41, 58, 32, 66, 79, 79, 76, 69, 65, 78, 59, 32, 86, 65, 82, 32, 119, 58, 32, 66, 79, 79, 76, 69, 65, 78, 59, 32, 66, 69, 71, 73, 78, 32, 119, 32, 58, 61, 32, 120, 32, 35, 32, 78, 73, 76, 32, 82, 69, 84, 85, 82, 78, 32, 119, 32, 38, 32, 40, 120, 46, 120, 32, 62, 61, 32, 48, 41, 32, 69, 78, 68, 32, 111, 59, 10, 66, 69, 71, 73, 78, 32, 110, 32, 58, 61, 32, 57, 59, 32, 76, 46, 116, 101, 108, 108, 40, 110, 41, 59, 32, 105, 32, 58, 61, 32, 76, 46, 116, 119, 105, 99, 101, 40, 106, 41, 32, 43, 32, 76, 46, 115, 101, 118, 101, 110, 32, 43, 32, 76, 46, 99, 111, 117, 110, 116, 59, 32]⟩
def mainE : ByteArray := ⟨#[32, 69, 78, 68, 32, 77, 46, 10]⟩
set_option maxRecDepth 10000 in
set_option maxHeartbeats 1600000 in
theorem main_false (L : List Nat) (hL : ∀ v ∈ L, v < 65536) (hn : L.length ≤ 1000000) : ∃ s : ByteArray, s.size ≤ 545000 ∧ ∀ (w : World) (ao : Option Addr) (cap b off : Nat), (0 < L.length → ao = some ⟨b, off, none⟩) → (∀ (j v : Nat), L[j]? = some v → w.cell? ⟨b, off + j, none⟩ = some (.int .u16 (v : Int))) →
    Calls Tryd.prog 6 #[.slice ao L.length cap, .bool false] w fun e w' => e = .returned (.string ((mainK ++ s) ++ mainE)) ∧ Only Nil w w' := by
  obtain ⟨S1, j1, p1, b1, C1⟩ := body_any (B := 545000) (depth4 L) (by decide) (n := 9) (by decide) (by decide) (by decide) 0
  have k1 : ¬ 9223372036854775807 < 791 + S1.size := by omega
  have k2 : ¬ 9223372036854775807 < 791 + S1.size + 8 := by omega
  refine ⟨S1, b1, fun w ao cap b off h0 hc => ?_⟩
  have y1 : mainK.size = 791 := by decide +kernel
  have y2 : (⟨#[32, 69, 78, 68, 32, 77, 46, 10]⟩ : ByteArray).size = 8 := rfl
  have z1 : (mainK ++ S1).size = 791 + S1.size := by rw [ByteArray.size_append, y1]
  have hB := Blk.new w #[.slice ao L.length cap, .int .i64 ((0 : Nat) : Int), .int .i64 ((4 : Nat) : Int)] 46
  have hG : GAt (w.alloc (.cells #[.slice ao L.length cap, .int .i64 ((0 : Nat) : Int), .int .i64 ((4 : Nat) : Int)] 46)) w.heap.size (.slice ao L.length cap) L 0 4 := by
    by_cases hp : 0 < L.length
    · have hbl : b < w.heap.size := World.block_lt_of_cell? w _ (hc 0 L[0] (List.getElem?_eq_getElem hp))
      exact ⟨hB, ⟨b, ao, cap, off, by omega, rfl, h0, fun j v hj => (alloc0 w _).cell (hc j v hj) (fun h => h)⟩, hL, hn, Nat.zero_le _⟩
    · exact ⟨hB, ⟨w.heap.size + 1, ao, cap, off, by omega, rfl, fun h => absurd h hp, fun j v hj => by have := (List.getElem?_eq_some_iff.1 hj).1; omega⟩, hL, hn, Nat.zero_le _⟩
  have HG := Lib.hid hG
  obtain ⟨n, hln⟩ : ∃ n, L.length = n := ⟨_, rfl⟩
  rw [hln] at HG ⊢
  clear p1 b1 h0 hc hB hG hln hn hL
  go_enter Tryd.func6, Tryd.ntmps6
  go_upto_region 12 with fail
  go_cut [6] (fun s wx => s = .string mainK ∧ wx = w.alloc (.cells #[.slice ao n cap, .int .i64 ((0 : Nat) : Int), .int .i64 ((4 : Nat) : Int)] 46))
  case first =>
    clear k1 k2 y1 z1
    go_wp2_with fail
    go_meet
    exact ⟨by kernel_rfl, rfl⟩
  case rest =>
    obtain ⟨rfl, rfl⟩ := hcut
    obtain ⟨MK, hMK⟩ : ∃ z, mainK = z := ⟨_, rfl⟩
    rw [hMK] at y1 z1 ⊢
    go_wp2_with fail
    refine (C1 _ _ _ HG.out).mono ?_
    rintro e w1 ⟨rfl, hG1, ho1⟩
    have H1 := Lib.hid ho1
    clear hG1 ho1
    go_wp2_with fail
    go_ret
    exact ⟨by rw [← hMK]; rfl, ((Only.refl Nil w).alloc _).trans H1.out (fun i hi h => by have h2 : i = w.heap.size := h; omega)⟩
set_option maxRecDepth 10000 in
set_option maxHeartbeats 1600000 in
theorem main_true (L : List Nat) (hL : ∀ v ∈ L, v < 65536) (hn : L.length ≤ 1000000) : ∃ s : ByteArray, s.size ≤ 545000 ∧ ∀ (w : World) (ao : Option Addr) (cap b off : Nat), (0 < L.length → ao = some ⟨b, off, none⟩) → (∀ (j v : Nat), L[j]? = some v → w.cell? ⟨b, off + j, none⟩ = some (.int .u16 (v : Int))) →
    Calls Tryd.prog 6 #[.slice ao L.length cap, .bool true] w fun e w' => e = .returned (.string ((mainKL ++ s) ++ mainE)) ∧ Only Nil w w' := by
  obtain ⟨S1, j1, p1, b1, C1⟩ := body_any (B := 545000) (depth4 L) (by decide) (n := 9) (by decide) (by decide) (by decide) 0
  have k1 : ¬ 9223372036854775807 < 842 + S1.size := by omega
  have k2 : ¬ 9223372036854775807 < 842 + S1.size + 8 := by omega
  refine ⟨S1, b1, fun w ao cap b off h0 hc => ?_⟩
  have y1 : mainKL.size = 842 := by decide +kernel
  have y2 : (⟨#[32, 69, 78, 68, 32, 77, 46, 10]⟩ : ByteArray).size = 8 := rfl
  have z1 : (mainKL ++ S1).size = 842 + S1.size := by rw [ByteArray.size_append, y1]
  have hB := Blk.new w #[.slice ao L.length cap, .int .i64 ((0 : Nat) : Int), .int .i64 ((4 : Nat) : Int)] 46
  have hG : GAt (w.alloc (.cells #[.slice ao L.length cap, .int .i64 ((0 : Nat) : Int), .int .i64 ((4 : Nat) : Int)] 46)) w.heap.size (.slice ao L.length cap) L 0 4 := by
    by_cases hp : 0 < L.length
    · have hbl : b < w.heap.size := World.block_lt_of_cell? w _ (hc 0 L[0] (List.getElem?_eq_getElem hp))
      exact ⟨hB, ⟨b, ao, cap, off, by omega, rfl, h0, fun j v hj => (alloc0 w _).cell (hc j v hj) (fun h => h)⟩, hL, hn, Nat.zero_le _⟩
    · exact ⟨hB, ⟨w.heap.size + 1, ao, cap, off, by omega, rfl, fun h => absurd h hp, fun j v hj => by have := (List.getElem?_eq_some_iff.1 hj).1; omega⟩, hL, hn, Nat.zero_le _⟩
  have HG := Lib.hid hG
  obtain ⟨n, hln⟩ : ∃ n, L.length = n := ⟨_, rfl⟩
  rw [hln] at HG ⊢
  clear p1 b1 h0 hc hB hG hln hn hL
  go_enter Tryd.func6, Tryd.ntmps6
  go_upto_region 14 with fail
  go_cut [6] (fun s wx => s = .string mainKL ∧ wx = w.alloc (.cells #[.slice ao n cap, .int .i64 ((0 : Nat) : Int), .int .i64 ((4 : Nat) : Int)] 46))
  case first =>
    clear k1 k2 y1 z1
    go_wp2_with fail
    go_meet
    exact ⟨by kernel_rfl, rfl⟩
  case rest =>
    obtain ⟨rfl, rfl⟩ := hcut
    obtain ⟨MK, hMK⟩ : ∃ z, mainKL = z := ⟨_, rfl⟩
    rw [hMK] at y1 z1 ⊢
    go_wp2_with fail
    refine (C1 _ _ _ HG.out).mono ?_
    rintro e w1 ⟨rfl, hG1, ho1⟩
    have H1 := Lib.hid ho1
    clear hG1 ho1
    go_wp2_with fail
    go_ret
    exact ⟨by rw [← hMK]; rfl, ((Only.refl Nil w).alloc _).trans H1.out (fun i hi h => by have h2 : i = w.heap.size := h; omega)⟩
end Go.Proofs.YtbpdhpfcknaaiaaDoor

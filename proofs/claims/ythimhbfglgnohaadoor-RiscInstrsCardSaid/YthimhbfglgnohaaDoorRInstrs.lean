/- The walk of the law RiscInstrs. -/
import Derived.Test.YthimhbfglgnohaaDoorRWords
import Derived.BigRegion
import Derived.Deep.CutBlock
import Derived.Outline
namespace Go.Proofs.YthimhbfglgnohaaDoor
open Go.RowKit M
attribute [local go_sem ↓] Go.wp_at_zero Go.wp_at_succ

/-- The cells of an instruction, whatever it is. -/
def InsZ (bk : Nat) (F : Int) (u v : Bool) (A B C Op m : Int) (w' : World) : Prop :=
  w'.cell? ⟨bk, 0, none⟩ = some (.int .i64 F) ∧ w'.cell? ⟨bk, 1, none⟩ = some (.bool u) ∧ w'.cell? ⟨bk, 2, none⟩ = some (.bool v) ∧ w'.cell? ⟨bk, 3, none⟩ = some (.int .i64 A) ∧
  w'.cell? ⟨bk, 4, none⟩ = some (.int .i64 B) ∧ w'.cell? ⟨bk, 5, none⟩ = some (.int .i64 C) ∧ w'.cell? ⟨bk, 6, none⟩ = some (.int .i64 Op) ∧ w'.cell? ⟨bk, 7, none⟩ = some (.int .i32 m)
def cz (F : Int) (u v : Bool) (A B C Op m : Int) : Array Value := #[.int .i64 F, .bool u, .bool v, .int .i64 A, .int .i64 B, .int .i64 C, .int .i64 Op, .int .i32 m]
theorem insZ {w : World} {bk : Nat} {F : Int} {u v : Bool} {A B C Op m : Int} (h : Blk w bk (cz F u v A B C Op m) 26) : InsZ bk F u v A B C Op m w :=
  ⟨h.cell 0, h.cell 1, h.cell 2, h.cell 3, h.cell 4, h.cell 5, h.cell 6, h.cell 7⟩
theorem InsZ.kept {w w' : World} {bk : Nat} {F : Int} {u v : Bool} {A B C Op m : Int} (h : InsZ bk F u v A B C Op m w) (ho : Only Nil w w') : InsZ bk F u v A B C Op m w' :=
  ⟨ho.cell h.1 (fun h => h), ho.cell h.2.1 (fun h => h), ho.cell h.2.2.1 (fun h => h), ho.cell h.2.2.2.1 (fun h => h), ho.cell h.2.2.2.2.1 (fun h => h), ho.cell h.2.2.2.2.2.1 (fun h => h), ho.cell h.2.2.2.2.2.2.1 (fun h => h), ho.cell h.2.2.2.2.2.2.2 (fun h => h)⟩

/-- The argument and its like lie in their blocks. -/
def Two (bk nb : Nat) (F : Int) (u v : Bool) (A B C Op m : Int) (w w' : World) : Prop :=
  Only Nil w w' ∧ Blk w' bk (cz F u v A B C Op m) 26 ∧ ∃ (F' : Int) (u' v' : Bool) (A' B' C' Op' m' : Int), -2147483648 ≤ m' ∧ m' ≤ 2147483647 ∧ Blk w' nb (cz F' u' v' A' B' C' Op' m') 26
/-- 'Imm & 15' fits. -/
theorem and15_i32 (m : Int) : -2147483648 ≤ bits BinOp.and IntKind.i32 m 15 ∧ bits BinOp.and IntKind.i32 m 15 ≤ 2147483647 := by
  show -2147483648 ≤ IntKind.i32.wrap _ ∧ IntKind.i32.wrap _ ≤ 2147483647
  rw [IntKind.wrap_i32]; omega

theorem cz_4 (F : Int) (u v : Bool) (A B C Op m x : Int) : (cz F u v A B C Op m).setIfInBounds 4 (.int .i64 x) = cz F u v A x C Op m := rfl
theorem cz_5 (F : Int) (u v : Bool) (A B C Op m x : Int) : (cz F u v A B C Op m).setIfInBounds 5 (.int .i64 x) = cz F u v A B x Op m := rfl
theorem cz_6 (F : Int) (u v : Bool) (A B C Op m x : Int) : (cz F u v A B C Op m).setIfInBounds 6 (.int .i64 x) = cz F u v A B C x m := rfl
theorem cz_7 (F : Int) (u v : Bool) (A B C Op m x : Int) : (cz F u v A B C Op m).setIfInBounds 7 (.int .i32 x) = cz F u v A B C Op x := rfl
def cz_3 : Unit := ()
def sixteen (F : Int) (u v : Bool) (A B C Op m : Int) (F1 : Int) (u1 v1 : Bool) (A1 B1 C1 O1 m1 : Int) : Array Value :=
  #[.int .i64 F, .bool u, .bool v, .int .i64 A, .int .i64 B, .int .i64 C, .int .i64 Op, .int .i32 m, .int .i64 F1, .bool u1, .bool v1, .int .i64 A1, .int .i64 B1, .int .i64 C1, .int .i64 O1, .int .i32 m1]
/-- A store into the like's block. -/
theorem Two.set {bk nb : Nat} {F : Int} {u v : Bool} {A B C Op m : Int} {w w' : World} (hn : bk < nb) (hw : w.heap.size ≤ nb) {F1 : Int} {u1 v1 : Bool} {A1 B1 C1 O1 m1 : Int} {F2 : Int} {u2 v2 : Bool} {A2 B2 C2 O2 m2 : Int} {o : Nat} {x : Value}
    (h1 : Only Nil w w') (h2 : Blk w' bk (cz F u v A B C Op m) 26) (h3 : Blk w' nb (cz F1 u1 v1 A1 B1 C1 O1 m1) 26) (e : (cz F1 u1 v1 A1 B1 C1 O1 m1).setIfInBounds o x = cz F2 u2 v2 A2 B2 C2 O2 m2) :
    Only Nil w (w'.setCell ⟨nb, o, none⟩ x) ∧ Blk (w'.setCell ⟨nb, o, none⟩ x) bk (cz F u v A B C Op m) 26 ∧ Blk (w'.setCell ⟨nb, o, none⟩ x) nb (cz F2 u2 v2 A2 B2 C2 O2 m2) 26 :=
  ⟨h1.setNew hw x, h2.setOther _ _ (by simp only; omega), e ▸ h3.setCell o x⟩

set_option maxRecDepth 100000 in
set_option maxHeartbeats 25600000 in
theorem instrs_any (F : Int) (u v : Bool) (A B C Op m : Int) (k : Nat) (w : World) (hk : k < 256) (hm1 : -2147483648 ≤ m) (hm2 : m ≤ 2147483647) (hT : Tabs w) :
    Calls Tryd.prog 4 #[.agg #[.int .i64 F, .bool u, .bool v, .int .i64 A, .int .i64 B, .int .i64 C, .int .i64 Op, .int .i32 m], .int .u8 k] w fun e w' => e = .returned (.bool true) ∧ Only Nil w w' := by
  have hT0 := hT.kept ((Only.refl Nil w).alloc (.cells (cz F u v A B C Op m) 26))
  unfold cz at hT0
  have cK := known_any _ hT0
  go_enter Tryd.func4, Tryd.ntmps4
  go_wp2_with fail
  refine cK.mono ?_
  rintro e w1 ⟨rfl, ho1⟩
  clear cK hT0
  have hB := (Blk.new w (cz F u v A B C Op m) 26).kept ho1 (fun h => h)
  have ho2 : Only Nil w w1 := ((Only.refl Nil w).alloc _).trans ho1 (fun _ _ h => h)
  obtain ⟨bk, hbk⟩ : ∃ b, w.heap.size = b := ⟨_, rfl⟩
  rw [hbk] at hB ⊢
  clear ho1
  have hlt := hB.lt
  have hHB := Lib.hid (show w.heap.size ≤ bk by omega)
  clear hbk
  have hI := insZ hB
  unfold InsZ at hI
  obtain ⟨b0, b1, b2, b3, b4, b5, b6, b7⟩ := hI
  go_upto_region 4 with fail
  obtain ⟨nb, hnb⟩ : ∃ b, w1.heap.size = b := ⟨_, rfl⟩
  have hne : bk < nb := by omega
  go_cut [] (fun wx => Two bk w1.heap.size F u v A B C Op m w wx)
  case first => as_aux_lemma =>
    clear hnb hne
    go_region
    all_goals go_wp2_with fail
    all_goals first
      | go_meet
      | (apply_assumption; first | refine ⟨?_, rfl⟩ | ((repeat apply Exists.intro); refine ⟨?_, rfl⟩))
      | (apply_assumption; apply_assumption; first | refine ⟨?_, rfl⟩ | ((repeat apply Exists.intro); refine ⟨?_, rfl⟩))
    all_goals exact ⟨by (repeat with_reducible first | exact ho2 | refine Only.alloc ?_ _ | refine Only.drewN ?_ _ | refine Only.drew ?_), by (repeat with_reducible first | exact hB | refine Blk.alloc ?_ _ | refine Blk.drew ?_), _, _, _, _, _, _, _, _, (and15_i32 m).1, (and15_i32 m).2, Blk.new _ _ _⟩
  case rest =>
    rw [hnb] at hcut ⊢
    clear hnb b0 b1 b2 b3 b4 b5 b6 b7 hB hlt ho2
    obtain ⟨ho2, hB, F1, u1, v1, A1, B1, C1, O1, m1, hn1, hn2, hN⟩ := hcut
    have n0 := hN.cell 0
    have n1 := hN.cell 1
    have n2 := hN.cell 2
    have n3 := hN.cell 3
    have n4 := hN.cell 4
    have n5 := hN.cell 5
    have n6 := hN.cell 6
    have n7 := hN.cell 7
    simp only [cz, List.getElem?_toArray, List.getElem?_cons_zero, List.getElem?_cons_succ] at n0 n1 n2 n3 n4 n5 n6 n7
    have fr4 := hN.free 4
    have fr5 := hN.free 5
    have fr6 := hN.free 6
    have fr7 := hN.free 7
    have hwn : w.heap.size ≤ nb := by have := hHB.out; omega
    go_upto_block 0 with fail
    go_cut [] (fun wx => Two bk nb F u v A B C Op m w wx)
    case first =>
      cases u1
      all_goals go_wp2_with fail
      all_goals go_meet
      all_goals first
        | exact (let h := Two.set hne hwn ho2 hB hN (cz_7 _ _ _ _ _ _ _ _ 0); ⟨h.1, h.2.1, _, _, _, _, _, _, _, _, by decide, by decide, h.2.2⟩)
        | exact (let h := Two.set hne hwn ho2 hB hN (cz_5 _ _ _ _ _ _ _ _ 0); ⟨h.1, h.2.1, _, _, _, _, _, _, _, _, hn1, hn2, h.2.2⟩)
        | exact (let h := Two.set hne hwn ho2 hB hN (cz_5 _ _ _ _ _ _ _ _ 0); let h := Two.set hne hwn h.1 h.2.1 h.2.2 (cz_6 _ _ _ _ _ _ _ _ 0); ⟨h.1, h.2.1, _, _, _, _, _, _, _, _, hn1, hn2, h.2.2⟩)
        | exact (let h := Two.set hne hwn ho2 hB hN (cz_4 _ _ _ _ _ _ _ _ 0); let h := Two.set hne hwn h.1 h.2.1 h.2.2 (cz_6 _ _ _ _ _ _ _ _ 0); ⟨h.1, h.2.1, _, _, _, _, _, _, _, _, hn1, hn2, h.2.2⟩)
        | exact (let h := Two.set hne hwn ho2 hB hN (cz_4 _ _ _ _ _ _ _ _ 0); let h := Two.set hne hwn h.1 h.2.1 h.2.2 (cz_6 _ _ _ _ _ _ _ _ 0); let h := Two.set hne hwn h.1 h.2.1 h.2.2 (cz_5 _ _ _ _ _ _ _ _ 0); ⟨h.1, h.2.1, _, _, _, _, _, _, _, _, hn1, hn2, h.2.2⟩)
    case rest =>
      clear n0 n1 n2 n3 n4 n5 n6 n7 fr4 fr5 fr6 fr7 hB hN ho2
      obtain ⟨ho2, hB, F2, u2, v2, A2, B2, C2, O2, m2, hp1, hp2, hN⟩ := hcut
      have n0 := hN.cell 0
      have n1 := hN.cell 1
      have n2 := hN.cell 2
      have n3 := hN.cell 3
      have n4 := hN.cell 4
      have n5 := hN.cell 5
      have n6 := hN.cell 6
      have n7 := hN.cell 7
      simp only [cz, List.getElem?_toArray, List.getElem?_cons_zero, List.getElem?_cons_succ] at n0 n1 n2 n3 n4 n5 n6 n7
      have b0 := hB.cell 0
      have b1 := hB.cell 1
      have b2 := hB.cell 2
      have b3 := hB.cell 3
      have b4 := hB.cell 4
      have b5 := hB.cell 5
      have b6 := hB.cell 6
      have b7 := hB.cell 7
      simp only [cz, List.getElem?_toArray, List.getElem?_cons_zero, List.getElem?_cons_succ] at b0 b1 b2 b3 b4 b5 b6 b7
      have fr7 := hN.free 7
      have hm16 : -2147483648 ≤ m / 4096 ∧ m / 4096 ≤ 2147483647 := by omega
      go_upto_if 60 with fail
      go_cut [] (fun wx => Two bk nb F u v A B C Op m w wx)
      case first => as_aux_lemma =>
        go_wp2_with fail
        all_goals go_meet
        all_goals first
          | exact ⟨ho2, hB, _, _, _, _, _, _, _, _, hp1, hp2, hN⟩
          | exact (let h := Two.set hne hwn ho2 hB hN (cz_7 _ _ _ _ _ _ _ _ (m / 4096)); ⟨h.1, h.2.1, _, _, _, _, _, _, _, _, hm16.1, hm16.2, h.2.2⟩)
      case rest =>
        clear n0 n1 n2 n3 n4 n5 n6 n7 b0 b1 b2 b3 b4 b5 b6 b7 fr7 hB hN ho2 hm16
        obtain ⟨ho2, hB, F3, u3, v3, A3, B3, C3, O3, m3, hq1, hq2, hN⟩ := hcut
        have n0 := hN.cell 0
        have n1 := hN.cell 1
        have n2 := hN.cell 2
        have n3 := hN.cell 3
        have n4 := hN.cell 4
        have n5 := hN.cell 5
        have n6 := hN.cell 6
        have n7 := hN.cell 7
        simp only [cz, List.getElem?_toArray, List.getElem?_cons_zero, List.getElem?_cons_succ] at n0 n1 n2 n3 n4 n5 n6 n7
        have b0 := hB.cell 0
        have b1 := hB.cell 1
        have b2 := hB.cell 2
        have b3 := hB.cell 3
        have b4 := hB.cell 4
        have b5 := hB.cell 5
        have b6 := hB.cell 6
        have b7 := hB.cell 7
        simp only [cz, List.getElem?_toArray, List.getElem?_cons_zero, List.getElem?_cons_succ] at b0 b1 b2 b3 b4 b5 b6 b7
        go_wp2_with fail
        have hS0 := Blk.new wc (sixteen F u v A B C Op m F3 u3 v3 A3 B3 C3 O3 m3) 26
        have ho3 : Only Nil w (wc.alloc (.cells (sixteen F u v A B C Op m F3 u3 v3 A3 B3 C3 O3 m3) 26)) := ho2.alloc _
        obtain ⟨sb, hsb⟩ : ∃ b, wc.heap.size = b := ⟨_, rfl⟩
        rw [hsb] at hS0 ⊢
        clear hsb n0 n1 n2 n3 n4 n5 n6 n7 b0 b1 b2 b3 b4 b5 b6 b7
        unfold sixteen at ho3
        go_loopg [69] 2 (fun g t wr => g ≤ 2 ∧ t = .int .i64 ((2 - g : Nat) : Int) ∧ Blk wr sb (sixteen F u v A B C Op m F3 u3 v3 A3 B3 C3 O3 m3) 26 ∧ Only Nil w wr)
        case atStart => exact ⟨Nat.le_refl _, rfl, hS0, ho3⟩
        case round =>
        clear hS0 ho3 ho2 hB hN
        obtain ⟨hg, rfl, hS, ho⟩ := hrel
        obtain ⟨g, rfl⟩ : ∃ g, g = gk := ⟨gk, rfl⟩
        rcases (show g = 2 ∨ g = 1 ∨ g = 0 by omega) with hg2 | hg2 | hg2
        · obtain rfl : g = 2 := by omega
          obtain ⟨T, hTx⟩ : ∃ T, txt (insT' (Ins.mk F u v A B C Op m)) = T := ⟨_, rfl⟩
          have cT := fun w (hT : Tabs w) => textI (Ins.mk F u v A B C Op m) w hT
          have cU := fun w => textR (Ins.mk F u v A B C Op m) w hm1 hm2
          rw [hTx] at cT cU
          clear hTx
          have s0 := hS.cell 0
          have s1 := hS.cell 1
          have s2 := hS.cell 2
          have s3 := hS.cell 3
          have s4 := hS.cell 4
          have s5 := hS.cell 5
          have s6 := hS.cell 6
          have s7 := hS.cell 7
          simp only [sixteen, List.getElem?_toArray, List.getElem?_cons_zero, List.getElem?_cons_succ] at s0 s1 s2 s3 s4 s5 s6 s7
          by_cases hg : (Ins.mk F u v A B C Op m).Good
          · as_aux_lemma =>
            have cE : ∀ w, Calls Tryd.prog 8 #[(Ins.mk F u v A B C Op m).val] w fun e w' => e = .returned (.tuple #[.int .u32 ((enc (Ins.mk F u v A B C Op m) : Nat) : Int), .int .i64 0]) ∧ Only Nil w w' := fun w =>
              (encI_any F u v A B C Op m w).mono fun e w' ⟨h, ho⟩ => ⟨h.elim (fun h => h.2) (fun h => absurd hg h.1), ho⟩
            have cI := cE
            clear cE
            have cR := fun w => encR_good (Ins.mk F u v A B C Op m) w hg
            have cD := fun w => decI_any (enc (Ins.mk F u v A B C Op m)) w (enc_lt _ hg)
            rw [(dec_enc _ hg).2, decI_yes (dec_enc _ hg).2, (dec_enc _ hg).1] at cD
            obtain ⟨E, hE⟩ : ∃ E, enc (Ins.mk F u v A B C Op m) = E := ⟨_, rfl⟩
            rw [hE] at cI cR cD
            unfold Ins.val Ins.cells at cI cR cD cT cU
            simp only at cI cR cD cT cU
            clear hE hg
            go_wp2_with fail
            refine (cI _).mono ?_
            rintro e w3 ⟨rfl, ho3⟩
            have hX := (Blk.new wr (cz F u v A B C Op m) 26).kept ho3 (fun h => h)
            have ho3' : Only Nil wr w3 := ((Only.refl Nil wr).alloc _).trans ho3 (fun _ _ h => h)
            obtain ⟨xb, hxb⟩ : ∃ b, wr.heap.size = b := ⟨_, rfl⟩
            rw [hxb] at hX ⊢
            clear hxb cI s0 s1 s2 s3 s4 s5 s6 s7 ho3
            have x0 := hX.cell 0
            have x1 := hX.cell 1
            have x2 := hX.cell 2
            have x3 := hX.cell 3
            have x4 := hX.cell 4
            have x5 := hX.cell 5
            have x6 := hX.cell 6
            have x7 := hX.cell 7
            simp only [cz, List.getElem?_toArray, List.getElem?_cons_zero, List.getElem?_cons_succ] at x0 x1 x2 x3 x4 x5 x6 x7
            go_wp2_with fail
            refine (cR _).mono ?_
            rintro e w4 ⟨rfl, ho4⟩
            have hX4 := hX.kept ho4 (fun h => h)
            have ho4' := ho3'.trans ho4 (fun _ _ h => h)
            have hlt4 := hX4.lt
            have hI0 := insZ hX4
            have hT4 := hT.kept (ho.trans ho4' (fun _ _ h => h))
            have HO := Lib.hid ho4'
            clear hX ho3' ho4 cR x0 x1 x2 x3 x4 x5 x6 x7 ho4'
            have hI := hI0
            unfold InsZ at hI
            obtain ⟨x0, x1, x2, x3, x4, x5, x6, x7⟩ := hI
            go_wp2_with fail
            first
              | (go_region_held (fun w' => (w'.cell? ⟨xb, 0, none⟩ = some (.int .i64 F) ∧ w'.cell? ⟨xb, 1, none⟩ = some (.bool u) ∧ w'.cell? ⟨xb, 2, none⟩ = some (.bool v) ∧ w'.cell? ⟨xb, 3, none⟩ = some (.int .i64 A) ∧ w'.cell? ⟨xb, 4, none⟩ = some (.int .i64 B) ∧ w'.cell? ⟨xb, 5, none⟩ = some (.int .i64 C) ∧ w'.cell? ⟨xb, 6, none⟩ = some (.int .i64 Op) ∧ w'.cell? ⟨xb, 7, none⟩ = some (.int .i32 m)) ∧ Only Nil w4 w') (first | (assumption) | (exact ⟨hI0.kept (Only.refl _ _).drew, (Only.refl _ _).drew⟩) | (go_split_ands; exact ⟨hI0.kept (Only.trans (by assumption) ho5 (fun _ _ h => h)), Only.trans (by assumption) ho5 (fun _ _ h => h)⟩)) (first | (go_at_call 9; refine (cT _ ?_).mono ?_; (go_split_ands; exact hT4.kept (by assumption)); rintro e w' ⟨rfl, ho5⟩) | (go_at_call 10; refine (cU _).mono ?_; rintro e w' ⟨rfl, ho5⟩)))
              | fail "REGION"
            all_goals go_split_ands
            all_goals
              have ho5 : Only Nil w4 w' := by assumption
              have hX5 := hX4.kept ho5 (fun h => h)
              go_wp2_with fail
              refine (cD _).mono ?_
              rintro e w6 ⟨rfl, ho6⟩
              have hX6 := hX5.kept ho6 (fun h => h)
              have hlt6 := hX6.lt
              have ho6' : Only Nil wr w6 := (HO.out.trans ho5 (fun _ _ h => h)).trans ho6 (fun _ _ h => h)
              clear x0 x1 x2 x3 x4 x5 x6 x7 hX4 hX5 ho5 ho6
              have y0 := hX6.cell 0
              have y1 := hX6.cell 1
              have y2 := hX6.cell 2
              have y3 := hX6.cell 3
              have y4 := hX6.cell 4
              have y5 := hX6.cell 5
              have y6 := hX6.cell 6
              have y7 := hX6.cell 7
              simp only [cz, List.getElem?_toArray, List.getElem?_cons_zero, List.getElem?_cons_succ] at y0 y1 y2 y3 y4 y5 y6 y7
              go_wp2_with fail
              go_roundg 1
              case measure => omega
              case rel => exact ⟨by omega, by go_num, (hS.kept ho6' (fun h => h)).alloc _, (ho.trans ho6' (fun _ _ h => h)).alloc _⟩
          · as_aux_lemma =>
            have cE : ∀ w, Calls Tryd.prog 8 #[(Ins.mk F u v A B C Op m).val] w fun e w' => e = .returned (.tuple #[.int .u32 0, .int .i64 23]) ∧ Only Nil w w' := fun w =>
              (encI_any F u v A B C Op m w).mono fun e w' ⟨h, ho⟩ => ⟨h.elim (fun h => absurd h.1 hg) (fun h => h.2), ho⟩
            have cI := cE
            clear cE
            have cR := fun w => encR_bad (Ins.mk F u v A B C Op m) w hm1 hm2 hg
            unfold EncBad at cR
            unfold Ins.val Ins.cells at cI cR cT cU
            simp only at cI cR cT cU
            clear hg
            go_wp2_with fail
            refine (cI _).mono ?_
            rintro e w3 ⟨rfl, ho3⟩
            have hX := (Blk.new wr (cz F u v A B C Op m) 26).kept ho3 (fun h => h)
            have ho3' : Only Nil wr w3 := ((Only.refl Nil wr).alloc _).trans ho3 (fun _ _ h => h)
            obtain ⟨xb, hxb⟩ : ∃ b, wr.heap.size = b := ⟨_, rfl⟩
            rw [hxb] at hX ⊢
            clear hxb cI s0 s1 s2 s3 s4 s5 s6 s7 ho3
            have x0 := hX.cell 0
            have x1 := hX.cell 1
            have x2 := hX.cell 2
            have x3 := hX.cell 3
            have x4 := hX.cell 4
            have x5 := hX.cell 5
            have x6 := hX.cell 6
            have x7 := hX.cell 7
            simp only [cz, List.getElem?_toArray, List.getElem?_cons_zero, List.getElem?_cons_succ] at x0 x1 x2 x3 x4 x5 x6 x7
            go_wp2_with fail
            refine (cR _).mono ?_
            rintro e w4 ⟨⟨y, rfl⟩, ho4⟩
            have hX4 := hX.kept ho4 (fun h => h)
            have ho4' := ho3'.trans ho4 (fun _ _ h => h)
            have hlt4 := hX4.lt
            have hI0 := insZ hX4
            have hT4 := hT.kept (ho.trans ho4' (fun _ _ h => h))
            have HO := Lib.hid ho4'
            clear hX ho3' ho4 cR x0 x1 x2 x3 x4 x5 x6 x7 ho4'
            have hI := hI0
            unfold InsZ at hI
            obtain ⟨x0, x1, x2, x3, x4, x5, x6, x7⟩ := hI
            go_wp2_with fail
            first
              | (go_region_held (fun w' => (w'.cell? ⟨xb, 0, none⟩ = some (.int .i64 F) ∧ w'.cell? ⟨xb, 1, none⟩ = some (.bool u) ∧ w'.cell? ⟨xb, 2, none⟩ = some (.bool v) ∧ w'.cell? ⟨xb, 3, none⟩ = some (.int .i64 A) ∧ w'.cell? ⟨xb, 4, none⟩ = some (.int .i64 B) ∧ w'.cell? ⟨xb, 5, none⟩ = some (.int .i64 C) ∧ w'.cell? ⟨xb, 6, none⟩ = some (.int .i64 Op) ∧ w'.cell? ⟨xb, 7, none⟩ = some (.int .i32 m)) ∧ Only Nil w4 w') (first | (assumption) | (exact ⟨hI0.kept (Only.refl _ _).drew, (Only.refl _ _).drew⟩) | (go_split_ands; exact ⟨hI0.kept (Only.trans (by assumption) ho5 (fun _ _ h => h)), Only.trans (by assumption) ho5 (fun _ _ h => h)⟩)) (first | (go_at_call 9; refine (cT _ ?_).mono ?_; (go_split_ands; exact hT4.kept (by assumption)); rintro e w' ⟨rfl, ho5⟩) | (go_at_call 10; refine (cU _).mono ?_; rintro e w' ⟨rfl, ho5⟩)))
              | fail "REGION"
            all_goals go_split_ands
            all_goals
              have ho5 : Only Nil w4 w' := by assumption
              have ho6' : Only Nil wr w' := HO.out.trans ho5 (fun _ _ h => h)
              go_wp2_with fail
              go_roundg 1
              case measure => omega
              case rel => exact ⟨by omega, by go_num, hS.kept ho6' (fun h => h), ho.trans ho6' (fun _ _ h => h)⟩
        · obtain rfl : g = 1 := by omega
          obtain ⟨T, hTx⟩ : ∃ T, txt (insT' (Ins.mk F3 u3 v3 A3 B3 C3 O3 m3)) = T := ⟨_, rfl⟩
          have cT := fun w (hT : Tabs w) => textI (Ins.mk F3 u3 v3 A3 B3 C3 O3 m3) w hT
          have cU := fun w => textR (Ins.mk F3 u3 v3 A3 B3 C3 O3 m3) w hq1 hq2
          rw [hTx] at cT cU
          clear hTx
          have s0 := hS.cell 8
          have s1 := hS.cell 9
          have s2 := hS.cell 10
          have s3 := hS.cell 11
          have s4 := hS.cell 12
          have s5 := hS.cell 13
          have s6 := hS.cell 14
          have s7 := hS.cell 15
          simp only [sixteen, List.getElem?_toArray, List.getElem?_cons_zero, List.getElem?_cons_succ] at s0 s1 s2 s3 s4 s5 s6 s7
          by_cases hg : (Ins.mk F3 u3 v3 A3 B3 C3 O3 m3).Good
          · as_aux_lemma =>
            have cE : ∀ w, Calls Tryd.prog 8 #[(Ins.mk F3 u3 v3 A3 B3 C3 O3 m3).val] w fun e w' => e = .returned (.tuple #[.int .u32 ((enc (Ins.mk F3 u3 v3 A3 B3 C3 O3 m3) : Nat) : Int), .int .i64 0]) ∧ Only Nil w w' := fun w =>
              (encI_any F3 u3 v3 A3 B3 C3 O3 m3 w).mono fun e w' ⟨h, ho⟩ => ⟨h.elim (fun h => h.2) (fun h => absurd hg h.1), ho⟩
            have cI := cE
            clear cE
            have cR := fun w => encR_good (Ins.mk F3 u3 v3 A3 B3 C3 O3 m3) w hg
            have cD := fun w => decI_any (enc (Ins.mk F3 u3 v3 A3 B3 C3 O3 m3)) w (enc_lt _ hg)
            rw [(dec_enc _ hg).2, decI_yes (dec_enc _ hg).2, (dec_enc _ hg).1] at cD
            obtain ⟨E, hE⟩ : ∃ E, enc (Ins.mk F3 u3 v3 A3 B3 C3 O3 m3) = E := ⟨_, rfl⟩
            rw [hE] at cI cR cD
            unfold Ins.val Ins.cells at cI cR cD cT cU
            simp only at cI cR cD cT cU
            clear hE hg
            go_wp2_with fail
            refine (cI _).mono ?_
            rintro e w3 ⟨rfl, ho3⟩
            have hX := (Blk.new wr (cz F3 u3 v3 A3 B3 C3 O3 m3) 26).kept ho3 (fun h => h)
            have ho3' : Only Nil wr w3 := ((Only.refl Nil wr).alloc _).trans ho3 (fun _ _ h => h)
            obtain ⟨xb, hxb⟩ : ∃ b, wr.heap.size = b := ⟨_, rfl⟩
            rw [hxb] at hX ⊢
            clear hxb cI s0 s1 s2 s3 s4 s5 s6 s7 ho3
            have x0 := hX.cell 0
            have x1 := hX.cell 1
            have x2 := hX.cell 2
            have x3 := hX.cell 3
            have x4 := hX.cell 4
            have x5 := hX.cell 5
            have x6 := hX.cell 6
            have x7 := hX.cell 7
            simp only [cz, List.getElem?_toArray, List.getElem?_cons_zero, List.getElem?_cons_succ] at x0 x1 x2 x3 x4 x5 x6 x7
            go_wp2_with fail
            refine (cR _).mono ?_
            rintro e w4 ⟨rfl, ho4⟩
            have hX4 := hX.kept ho4 (fun h => h)
            have ho4' := ho3'.trans ho4 (fun _ _ h => h)
            have hlt4 := hX4.lt
            have hI0 := insZ hX4
            have hT4 := hT.kept (ho.trans ho4' (fun _ _ h => h))
            have HO := Lib.hid ho4'
            clear hX ho3' ho4 cR x0 x1 x2 x3 x4 x5 x6 x7 ho4'
            have hI := hI0
            unfold InsZ at hI
            obtain ⟨x0, x1, x2, x3, x4, x5, x6, x7⟩ := hI
            go_wp2_with fail
            first
              | (go_region_held (fun w' => (w'.cell? ⟨xb, 0, none⟩ = some (.int .i64 F3) ∧ w'.cell? ⟨xb, 1, none⟩ = some (.bool u3) ∧ w'.cell? ⟨xb, 2, none⟩ = some (.bool v3) ∧ w'.cell? ⟨xb, 3, none⟩ = some (.int .i64 A3) ∧ w'.cell? ⟨xb, 4, none⟩ = some (.int .i64 B3) ∧ w'.cell? ⟨xb, 5, none⟩ = some (.int .i64 C3) ∧ w'.cell? ⟨xb, 6, none⟩ = some (.int .i64 O3) ∧ w'.cell? ⟨xb, 7, none⟩ = some (.int .i32 m3)) ∧ Only Nil w4 w') (first | (assumption) | (exact ⟨hI0.kept (Only.refl _ _).drew, (Only.refl _ _).drew⟩) | (go_split_ands; exact ⟨hI0.kept (Only.trans (by assumption) ho5 (fun _ _ h => h)), Only.trans (by assumption) ho5 (fun _ _ h => h)⟩)) (first | (go_at_call 9; refine (cT _ ?_).mono ?_; (go_split_ands; exact hT4.kept (by assumption)); rintro e w' ⟨rfl, ho5⟩) | (go_at_call 10; refine (cU _).mono ?_; rintro e w' ⟨rfl, ho5⟩)))
              | fail "REGION"
            all_goals go_split_ands
            all_goals
              have ho5 : Only Nil w4 w' := by assumption
              have hX5 := hX4.kept ho5 (fun h => h)
              go_wp2_with fail
              refine (cD _).mono ?_
              rintro e w6 ⟨rfl, ho6⟩
              have hX6 := hX5.kept ho6 (fun h => h)
              have hlt6 := hX6.lt
              have ho6' : Only Nil wr w6 := (HO.out.trans ho5 (fun _ _ h => h)).trans ho6 (fun _ _ h => h)
              clear x0 x1 x2 x3 x4 x5 x6 x7 hX4 hX5 ho5 ho6
              have y0 := hX6.cell 0
              have y1 := hX6.cell 1
              have y2 := hX6.cell 2
              have y3 := hX6.cell 3
              have y4 := hX6.cell 4
              have y5 := hX6.cell 5
              have y6 := hX6.cell 6
              have y7 := hX6.cell 7
              simp only [cz, List.getElem?_toArray, List.getElem?_cons_zero, List.getElem?_cons_succ] at y0 y1 y2 y3 y4 y5 y6 y7
              go_wp2_with fail
              go_roundg 0
              case measure => omega
              case rel => exact ⟨by omega, by go_num, (hS.kept ho6' (fun h => h)).alloc _, (ho.trans ho6' (fun _ _ h => h)).alloc _⟩
          · as_aux_lemma =>
            have cE : ∀ w, Calls Tryd.prog 8 #[(Ins.mk F3 u3 v3 A3 B3 C3 O3 m3).val] w fun e w' => e = .returned (.tuple #[.int .u32 0, .int .i64 23]) ∧ Only Nil w w' := fun w =>
              (encI_any F3 u3 v3 A3 B3 C3 O3 m3 w).mono fun e w' ⟨h, ho⟩ => ⟨h.elim (fun h => absurd h.1 hg) (fun h => h.2), ho⟩
            have cI := cE
            clear cE
            have cR := fun w => encR_bad (Ins.mk F3 u3 v3 A3 B3 C3 O3 m3) w hq1 hq2 hg
            unfold EncBad at cR
            unfold Ins.val Ins.cells at cI cR cT cU
            simp only at cI cR cT cU
            clear hg
            go_wp2_with fail
            refine (cI _).mono ?_
            rintro e w3 ⟨rfl, ho3⟩
            have hX := (Blk.new wr (cz F3 u3 v3 A3 B3 C3 O3 m3) 26).kept ho3 (fun h => h)
            have ho3' : Only Nil wr w3 := ((Only.refl Nil wr).alloc _).trans ho3 (fun _ _ h => h)
            obtain ⟨xb, hxb⟩ : ∃ b, wr.heap.size = b := ⟨_, rfl⟩
            rw [hxb] at hX ⊢
            clear hxb cI s0 s1 s2 s3 s4 s5 s6 s7 ho3
            have x0 := hX.cell 0
            have x1 := hX.cell 1
            have x2 := hX.cell 2
            have x3 := hX.cell 3
            have x4 := hX.cell 4
            have x5 := hX.cell 5
            have x6 := hX.cell 6
            have x7 := hX.cell 7
            simp only [cz, List.getElem?_toArray, List.getElem?_cons_zero, List.getElem?_cons_succ] at x0 x1 x2 x3 x4 x5 x6 x7
            go_wp2_with fail
            refine (cR _).mono ?_
            rintro e w4 ⟨⟨y, rfl⟩, ho4⟩
            have hX4 := hX.kept ho4 (fun h => h)
            have ho4' := ho3'.trans ho4 (fun _ _ h => h)
            have hlt4 := hX4.lt
            have hI0 := insZ hX4
            have hT4 := hT.kept (ho.trans ho4' (fun _ _ h => h))
            have HO := Lib.hid ho4'
            clear hX ho3' ho4 cR x0 x1 x2 x3 x4 x5 x6 x7 ho4'
            have hI := hI0
            unfold InsZ at hI
            obtain ⟨x0, x1, x2, x3, x4, x5, x6, x7⟩ := hI
            go_wp2_with fail
            first
              | (go_region_held (fun w' => (w'.cell? ⟨xb, 0, none⟩ = some (.int .i64 F3) ∧ w'.cell? ⟨xb, 1, none⟩ = some (.bool u3) ∧ w'.cell? ⟨xb, 2, none⟩ = some (.bool v3) ∧ w'.cell? ⟨xb, 3, none⟩ = some (.int .i64 A3) ∧ w'.cell? ⟨xb, 4, none⟩ = some (.int .i64 B3) ∧ w'.cell? ⟨xb, 5, none⟩ = some (.int .i64 C3) ∧ w'.cell? ⟨xb, 6, none⟩ = some (.int .i64 O3) ∧ w'.cell? ⟨xb, 7, none⟩ = some (.int .i32 m3)) ∧ Only Nil w4 w') (first | (assumption) | (exact ⟨hI0.kept (Only.refl _ _).drew, (Only.refl _ _).drew⟩) | (go_split_ands; exact ⟨hI0.kept (Only.trans (by assumption) ho5 (fun _ _ h => h)), Only.trans (by assumption) ho5 (fun _ _ h => h)⟩)) (first | (go_at_call 9; refine (cT _ ?_).mono ?_; (go_split_ands; exact hT4.kept (by assumption)); rintro e w' ⟨rfl, ho5⟩) | (go_at_call 10; refine (cU _).mono ?_; rintro e w' ⟨rfl, ho5⟩)))
              | fail "REGION"
            all_goals go_split_ands
            all_goals
              have ho5 : Only Nil w4 w' := by assumption
              have ho6' : Only Nil wr w' := HO.out.trans ho5 (fun _ _ h => h)
              go_wp2_with fail
              go_roundg 0
              case measure => omega
              case rel => exact ⟨by omega, by go_num, hS.kept ho6' (fun h => h), ho.trans ho6' (fun _ _ h => h)⟩
        · obtain rfl : g = 0 := hg2
          go_wp2_with fail
          go_ret
          exact ⟨rfl, ho⟩
end Go.Proofs.YthimhbfglgnohaaDoor

/- The walk of the law RiscWords. -/
import Derived.Test.YthimhbfglgnohaaDoorRKnown
import Derived.Deep.LoopGhost
import Derived.Deep.DeepCutAuto
import Derived.Deep.DeepCutAuto
import Derived.Deep.DeepCutAuto
import Derived.Laws.BitsAllLaws
namespace Go.Proofs.YthimhbfglgnohaaDoor
open Go.RowKit M
attribute [local go_sem ↓] Go.wp_at_zero Go.wp_at_succ

theorem andNot_ex (v m : Nat) (hv : v < 4294967296) (hm : m < 4294967296) : ∃ x : Nat, bits .andNot .u32 (v : Int) (m : Int) = (x : Int) ∧ x < 4294967296 := by
  have h := u32_andNot_nat v m hv hm
  exact ⟨_, h, Nat.lt_of_le_of_lt Nat.and_le_left hv⟩

/-- A word's instruction, where there is one: its fields are small. -/
theorem dec_small {x : Nat} (hl : x < 4294967296) (hk : isOk x = true) : ∃ (F : Int) (u v : Bool) (a b c o : Nat) (m : Int), decI x = ⟨F, u, v, a, b, c, o, m⟩ ∧ a < 16 ∧ b < 16 ∧ c < 16 ∧ o < 16 ∧ -2147483648 ≤ m ∧ m ≤ 2147483647 ∧
    (Ins.mk F u v a b c o m).Good ∧ enc ⟨F, u, v, a, b, c, o, m⟩ = x := by
  obtain ⟨h1, h2⟩ := dec_good x hl hk
  obtain ⟨⟨a1, a2⟩, ⟨b1, b2⟩, ⟨c1, c2⟩, ⟨o1, o2⟩, m1, m2⟩ := good_small h1
  rw [decI_yes hk]
  generalize dec x = d at h1 h2 a1 a2 b1 b2 c1 c2 o1 o2 m1 m2 ⊢
  obtain ⟨F, u, v, A, B, C, Op, m⟩ := d
  simp only at a1 a2 b1 b2 c1 c2 o1 o2 m1 m2
  obtain ⟨a, rfl⟩ := Int.eq_ofNat_of_zero_le a1
  obtain ⟨b, rfl⟩ := Int.eq_ofNat_of_zero_le b1
  obtain ⟨c, rfl⟩ := Int.eq_ofNat_of_zero_le c1
  obtain ⟨o, rfl⟩ := Int.eq_ofNat_of_zero_le o1
  exact ⟨F, u, v, a, b, c, o, m, rfl, by omega, by omega, by omega, by omega, m1, m2, h1, h2⟩

def xsOf (v x1 x2 : Nat) : Array Value := #[.int .u32 v, .int .u32 x1, .int .u32 x2]

set_option maxRecDepth 100000 in
set_option maxHeartbeats 6400000 in
theorem words_any (v : Nat) (w : World) (hv : v < 4294967296) (hT : Tabs w) :
    Calls Tryd.prog 3 #[.int .u32 v] w fun e w' => e = .returned (.bool true) ∧ Only Nil w w' := by
  obtain ⟨x1, hx1, l1⟩ := andNot_ex v 65520 hv (by decide)
  obtain ⟨x2, hx2, l2⟩ := andNot_ex v 16776960 hv (by decide)
  rw [show ((65520 : Nat) : Int) = 65520 from rfl] at hx1
  rw [show ((16776960 : Nat) : Int) = 16776960 from rfl] at hx2
  have cK := known_any w hT
  go_enter Tryd.func3, Tryd.ntmps3
  go_wp2_with fail
  refine cK.mono ?_
  rintro e w1 ⟨rfl, ho1⟩
  clear cK
  go_wp2_with fail
  clear hx1 hx2
  have hB0 := Blk.new w1 (xsOf v x1 x2) 22
  have ho2 : Only Nil w (w1.alloc (.cells (xsOf v x1 x2) 22)) := ho1.alloc _
  unfold xsOf at ho2
  obtain ⟨sb, hsb⟩ : ∃ b, w1.heap.size = b := ⟨_, rfl⟩
  rw [hsb] at hB0 ⊢
  clear hsb
  go_loopg [20] 3 (fun g t wr => g ≤ 3 ∧ t = .int .i64 ((3 - g : Nat) : Int) ∧ Blk wr sb (xsOf v x1 x2) 22 ∧ Only Nil w wr)
  case atStart => exact ⟨Nat.le_refl _, rfl, hB0, ho2⟩
  case round =>
    clear hB0 ho2 ho1
    obtain ⟨hg, rfl, hB, ho⟩ := hrel
    obtain ⟨g, rfl⟩ : ∃ g, g = gk := ⟨gk, rfl⟩
    obtain ⟨k, hk⟩ : ∃ k, 3 - g = k := ⟨_, rfl⟩
    rw [hk]
    by_cases hg0 : 0 < g
    · have hk3 : k < 3 := by omega
      obtain ⟨x, hx, hl⟩ : ∃ x : Nat, wr.cell? ⟨sb, k, none⟩ = some (.int .u32 x) ∧ x < 4294967296 := by
        rw [hB.cell k]
        unfold xsOf
        rcases (show k = 0 ∨ k = 1 ∨ k = 2 by omega) with rfl | rfl | rfl
        · exact ⟨v, rfl, hv⟩
        · exact ⟨x1, rfl, l1⟩
        · exact ⟨x2, rfl, l2⟩
      have HK := Lib.hid hk
      have HB := Lib.hid hB
      have hkk : ((3 : Int)) = ((3 : Nat) : Int) := rfl
      clear hk hB l1 l2 hkk
      have cI := fun w => decI_any x w hl
      have cR := fun w => decR_any x w hl
      cases hok : isOk x
      · rw [hok] at cI cR
        have hz := decI_no hok
        rw [hz] at cI cR
        unfold Ins.val Ins.cells Ins.zero at cI cR
        simp only at cI cR
        clear hok hz
        go_wp2_with fail
        refine (cI _).mono ?_
        rintro e w2 ⟨rfl, ho2⟩
        go_wp2_with fail
        refine (cR _).mono ?_
        rintro e w3 ⟨rfl, ho3⟩
        have hA := (Blk.new w2 #[Value.int .i64 0, .bool false, .bool false, .int .i64 0, .int .i64 0, .int .i64 0, .int .i64 0, .int .i32 0] 26).kept ho3 (fun h => h)
        have hoW : Only Nil wr w3 := ho2.trans (((Only.refl Nil _).alloc _).trans ho3 (fun _ _ h => h)) (fun _ _ h => h)
        have hlt := hA.lt
        have b0 := hA.cell 0
        have b1 := hA.cell 1
        have b2 := hA.cell 2
        have b3 := hA.cell 3
        have b4 := hA.cell 4
        have b5 := hA.cell 5
        have b6 := hA.cell 6
        have b7 := hA.cell 7
        simp only [List.getElem?_toArray, List.getElem?_cons_zero, List.getElem?_cons_succ] at b0 b1 b2 b3 b4 b5 b6 b7
        clear cI cR ho2 ho3 hA
        go_wp2_with fail
        go_roundg (g - 1)
        case measure => omega
        case rel => exact ⟨by omega, by have := HK.out; go_num, (HB.out.kept hoW (fun h => h)).alloc _, (ho.trans hoW (fun _ _ h => h)).alloc _⟩
      · obtain ⟨F, u, vv, a, b, c, o, m, hd, ha, hb, hc, ho', hm1, hm2, hgood, henc⟩ := dec_small hl hok
        rw [hok, hd] at cI cR
        unfold Ins.val Ins.cells at cI cR
        simp only at cI cR
        have cE : ∀ w, Calls Tryd.prog 8 #[(Ins.mk F u vv a b c o m).val] w fun e w' => e = .returned (.tuple #[.int .u32 (x : Int), .int .i64 0]) ∧ Only Nil w w' := fun w =>
          (encI_any F u vv a b c o m w).mono fun e w' ⟨h, ho⟩ => ⟨h.elim (fun h => by rw [h.2, henc]) (fun h => absurd hgood h.1), ho⟩
        unfold Ins.val Ins.cells at cE
        simp only at cE
        obtain ⟨T, hTx⟩ : ∃ T, txt (insT' (Ins.mk F u vv a b c o m)) = T := ⟨_, rfl⟩
        have cT := fun w (hT : Tabs w) => textI (Ins.mk F u vv a b c o m) w hT
        have cU := fun w => textR (Ins.mk F u vv a b c o m) w hm1 hm2
        rw [hTx] at cT cU
        unfold Ins.val Ins.cells at cT cU
        simp only at cT cU
        clear hok hd hgood henc hTx ha hb hc ho' hm1 hm2
        go_wp2_with fail
        refine (cI _).mono ?_
        rintro e w2 ⟨rfl, ho2⟩
        go_wp2_with fail
        refine (cR _).mono ?_
        rintro e w3 ⟨rfl, ho3⟩
        have hA := (Blk.new w2 #[Value.int .i64 F, .bool u, .bool vv, .int .i64 a, .int .i64 b, .int .i64 c, .int .i64 o, .int .i32 m] 26).kept ho3 (fun h => h)
        have hoW : Only Nil wr w3 := ho2.trans (((Only.refl Nil _).alloc _).trans ho3 (fun _ _ h => h)) (fun _ _ h => h)
        have hlt := hA.lt
        have b0 := hA.cell 0
        have b1 := hA.cell 1
        have b2 := hA.cell 2
        have b3 := hA.cell 3
        have b4 := hA.cell 4
        have b5 := hA.cell 5
        have b6 := hA.cell 6
        have b7 := hA.cell 7
        simp only [List.getElem?_toArray, List.getElem?_cons_zero, List.getElem?_cons_succ] at b0 b1 b2 b3 b4 b5 b6 b7
        clear cI cR ho2 ho3
        obtain ⟨bk, hbk⟩ : ∃ b, w2.heap.size = b := ⟨_, rfl⟩
        rw [hbk] at hA hlt b0 b1 b2 b3 b4 b5 b6 b7 ⊢
        clear hbk
        go_wp2_with fail
        refine (cE _).mono ?_
        rintro e w4 ⟨rfl, ho4⟩
        have hA4 := (hA.alloc (.cells #[Value.int .i64 F, .bool u, .bool vv, .int .i64 a, .int .i64 b, .int .i64 c, .int .i64 o, .int .i32 m] 26)).kept ho4 (fun h => h)
        have hoW4 : Only Nil wr w4 := (hoW.alloc _).trans ho4 (fun _ _ h => h)
        have hI0 := insAt hA4
        have hT4 := hT.kept (ho.trans hoW4 (fun _ _ h => h))
        have HO := Lib.hid hoW4
        clear b0 b1 b2 b3 b4 b5 b6 b7 hA hA4 ho4 hoW cE hlt hoW4
        have hI := hI0
        unfold InsAt at hI
        obtain ⟨b0, b1, b2, b3, b4, b5, b6, b7⟩ := hI
        go_wp2_with fail
        go_region_held3 (fun w' => (w'.cell? ⟨bk, 0, none⟩ = some (.int .i64 F) ∧ w'.cell? ⟨bk, 1, none⟩ = some (.bool u) ∧ w'.cell? ⟨bk, 2, none⟩ = some (.bool vv) ∧ w'.cell? ⟨bk, 3, none⟩ = some (.int .i64 a) ∧
            w'.cell? ⟨bk, 4, none⟩ = some (.int .i64 b) ∧ w'.cell? ⟨bk, 5, none⟩ = some (.int .i64 c) ∧ w'.cell? ⟨bk, 6, none⟩ = some (.int .i64 o) ∧ w'.cell? ⟨bk, 7, none⟩ = some (.int .i32 m)) ∧ Only Nil w4 w')
          (first | (assumption) | (exact ⟨hI0.kept (Only.refl _ _).drew, (Only.refl _ _).drew⟩) | (go_split_ands; exact ⟨hI0.kept (Only.trans (by assumption) ho5 (fun _ _ h => h)), Only.trans (by assumption) ho5 (fun _ _ h => h)⟩))
          (first | (go_at_call 9; refine (cT _ ?_).mono ?_; (go_split_ands; exact hT4.kept (by assumption)); rintro e w' ⟨rfl, ho5⟩) | (go_at_call 10; refine (cU _).mono ?_; rintro e w' ⟨rfl, ho5⟩))
        all_goals go_split_ands
        all_goals go_wp2_with fail
        all_goals go_roundg (g - 1)
        all_goals first
          | omega
          | exact ⟨by omega, by have := HK.out; go_num, HB.out.kept (Only.trans HO.out (by assumption) (fun _ _ h => h)) (fun h => h), ho.trans (Only.trans HO.out (by assumption) (fun _ _ h => h)) (fun _ _ h => h)⟩
    · have hg1 : g = 0 := by omega
      have hk1 : k = 3 := by omega
      subst hk1
      go_wp2_with fail
      go_ret
      exact ⟨rfl, ho⟩
end Go.Proofs.YthimhbfglgnohaaDoor

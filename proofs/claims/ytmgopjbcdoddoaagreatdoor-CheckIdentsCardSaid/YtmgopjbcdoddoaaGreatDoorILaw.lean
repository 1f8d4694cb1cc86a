/- CheckIdents: the law's walk. -/
import Derived.Test.YtmgopjbcdoddoaaGreatDoorIConv
import Derived.Test.YtmgopjbcdoddoaaGreatDoorIWalk
import Derived.Test.YtmgopjbcdoddoaaGreatDoorIWalkR
set_option linter.unusedSimpArgs false
set_option linter.unusedVariables false
namespace Go.Proofs.YtmgopjbcdoddoaaGreatDoor
open Go.RowKit M

theorem texts_get (i : Nat) (h : i < 8) : ∃ pz : ByteArray, ([Value.string ⟨#[120]⟩, Value.string ⟨#[97, 98, 99, 49]⟩, Value.string ⟨#[77, 79, 68, 85, 76, 69]⟩, Value.string ⟨#[73, 78, 84, 69, 71, 69, 82]⟩, Value.string ⟨#[76, 69, 78]⟩, Value.string ⟨#[73, 110]⟩, Value.string ⟨#[97, 118, 101, 114, 121, 108, 111, 110, 103, 105, 100, 101, 110, 116, 105, 102, 105, 101, 114, 111, 102, 109, 97, 110, 121, 108, 101, 116, 116, 101, 114, 115, 49]⟩, Value.string ⟨#[97, 118, 101, 114, 121, 108, 111, 110, 103, 105, 100, 101, 110, 116, 105, 102, 105, 101, 114, 111, 102, 109, 97, 110, 121, 108, 101, 116, 116, 101, 114, 49]⟩] : List Value)[i]'h = .string pz ∧ 0 < pz.size ∧ pz.size ≤ 40 := by
  match i, h with
  | 0, _ => exact ⟨_, rfl, by decide, by decide⟩
  | 1, _ => exact ⟨_, rfl, by decide, by decide⟩
  | 2, _ => exact ⟨_, rfl, by decide, by decide⟩
  | 3, _ => exact ⟨_, rfl, by decide, by decide⟩
  | 4, _ => exact ⟨_, rfl, by decide, by decide⟩
  | 5, _ => exact ⟨_, rfl, by decide, by decide⟩
  | 6, _ => exact ⟨_, rfl, by decide, by decide⟩
  | 7, _ => exact ⟨_, rfl, by decide, by decide⟩

theorem w64s (a : Nat) (h : a < 256) : wrap64 (a : Int) = (a : Int) := by unfold wrap64; omega
set_option maxRecDepth 20000 in
set_option maxHeartbeats 3200000 in
theorem checkIdents_any (s : ByteArray) (k a c : Nat) (hk : k < 256) (ha : a < 256) (hc : c < 256) (n : Nat) (hn : s.size = n) (m : Int) (w : World) (hm : w.cell? ⟨0, 0, none⟩ = some (.int .i64 m)) :
    Calls Tryz.prog 3 #[.string s, .int .u8 k, .int .u8 a, .int .u8 c] w fun e w' => e = .returned (.bool true) ∧ Below w.heap.size w w' := by
  have K := Lib.hid (known17_any m w hm)
  have HM := Lib.hid hm
  clear hm
  by_cases h80 : 80 < n
  · have q : (80 : Int) < (n : Int) := by omega
    go_enter Tryz.func3, Tryz.ntmps3
    go_wp2_with (go_at_call 4; refine K.out.mono ?_; rintro e w1 ⟨rfl, hb1⟩)
    go_ret
    exact ⟨rfl, hb1⟩
  have q : ¬ (80 : Int) < (n : Int) := by omega
  have HN := Lib.hid (show n ≤ 80 by omega)
  have HC := Lib.hid hc
  have HA := Lib.hid ha
  clear h80 hc ha
  have x8 : k % 8 < 8 := Nat.mod_lt _ (by decide)
  have x9 : (k : Int) % 8 < 8 := by omega
  obtain ⟨z, hz, hz0, hz40⟩ := texts_get (k % 8) x8
  obtain ⟨L, hL⟩ : ∃ L, z.size = L := ⟨_, rfl⟩
  rw [hL] at hz0 hz40
  obtain ⟨V, KC, B, hB, cv, hV, hR⟩ := conv_new z L hL
  have HL0 := Lib.hid hz0
  have HL40 := Lib.hid hz40
  have HB := Lib.hid hB
  have HV := Lib.hid hV
  have HR := Lib.hid hR
  clear hz0 hz40 hB hV hR hL
  go_enter Tryz.func3, Tryz.ntmps3
  go_wp2_with (go_at_call 4; refine K.out.mono ?_; rintro e w1 ⟨rfl, hb1⟩)
  generalize hA2 : World.alloc w1 _ = w2
  have hs2 : w2.heap.size = w1.heap.size + 1 := by rw [← hA2]; simp
  have ho2 : Only Nil w1 w2 := by rw [← hA2]; exact (Only.refl Nil w1).alloc _
  clear hA2 cv
  have hR2 := HR.out w2
  have hV2 := HV.out w2
  generalize V w2 = w3 at hR2 hV2 ⊢
  generalize KC w2 = cap
  rw [hs2] at hR2
  have hbw := hb1.size
  obtain ⟨b, hb⟩ : ∃ b, w1.heap.size + 1 = b := ⟨_, rfl⟩
  rw [hb] at hR2 ⊢
  have c1 := hR2.back L cap HB.out
  have hL1 : ¬ (L : Int) = 0 := by have := HL0.out; omega
  obtain ⟨i, hi⟩ : ∃ i, a % L = i := ⟨_, rfl⟩
  have hiL : i < L := by rw [← hi]; exact Nat.mod_lt _ HL0.out
  have hie : (wrap64 (a : Int)).tmod (L : Int) = (i : Int) := by
    rw [w64s a HA.out, ← hi]; rfl
  have hi1 : (i : Int) < (L : Int) := Int.ofNat_lt.2 hiL
  have hi0 : (0 : Int) ≤ (i : Int) := Int.natCast_nonneg _
  obtain ⟨v, hv⟩ := hR2.cell i (by rw [HB.out]; exact hiL)
  have hf := hR2.free i (by rw [HB.out]; exact hiL)
  have HI := Lib.hid hiL
  clear hi hiL
  rw [c1]
  simp only [Result.andThen]
  go_wp2_with fail
  have hR4 := hR2.set i c
  have hbb : w.heap.size ≤ b := by omega
  have ho4 : Below w.heap.size w (w3.setCell ⟨b, i, none⟩ (.int .u8 (c : Int))) :=
    hb1.trans (((ho2.trans hV2 (fun _ _ h => h)).mono (T := One b) (fun _ h => h.elim)).setCell' (One b) rfl _ |>.below hbw (fun k hk => by rw [show k = b from hk]; exact hbb))
  have hl4 : (B.set i c).length = L := by rw [List.length_set, HB.out]
  generalize w3.setCell ⟨b, i, none⟩ (.int .u8 (c : Int)) = w4 at hR4 ho4 ⊢
  have c2 := hR4.back L cap hl4
  have hu1 : (strOf B).size ≤ 80 := by rw [strOf_sizeI, HB.out]; have := HL40.out; omega
  have hu2 : (strOf (B.set i c)).size ≤ 80 := by rw [strOf_sizeI, hl4]; have := HL40.out; omega
  have hu0 : s.size ≤ 80 := by rw [hn]; exact HN.out
  generalize strOf B = u1 at hu1 ⊢
  generalize strOf (B.set i c) = u2 at hu2 c2
  have HU1 := Lib.hid hu1
  have HU2 := Lib.hid hu2
  have HU0 := Lib.hid hu0
  have HO4 := Lib.hid ho4
  clear hu0 hu1 hu2 ho4 hR4 hl4 hR2 hv hf hi0 hi1 hie hL1 c1 hz x8 x9
  rw [c2]
  simp only [Result.andThen]
  go_wp2_with fail
  generalize hA5 : World.alloc w4 _ = w5
  have ho5 : Only Nil w4 w5 := by rw [← hA5]; exact (Only.refl Nil w4).alloc _
  have hB5 : ∀ j, j < 4 → ∃ x : ByteArray, x.size ≤ 80 ∧ w5.cell? ⟨w4.heap.size, j, none⟩ = some (.string x) := by
    rw [← hA5]
    intro j hj
    match j, hj with
    | 0, _ => exact ⟨s, HU0.out, ((Blk.new w4 _ _).cell 0).trans rfl⟩
    | 1, _ => exact ⟨u1, HU1.out, ((Blk.new w4 _ _).cell 1).trans rfl⟩
    | 2, _ => exact ⟨u2, HU2.out, ((Blk.new w4 _ _).cell 2).trans rfl⟩
    | 3, _ => exact ⟨_, show (ByteArray.mk #[]).size ≤ 80 by decide, ((Blk.new w4 _ _).cell 3).trans rfl⟩
  clear hA5 c2
  generalize w4.heap.size = b5 at hB5 ⊢
  have HB5 := Lib.hid hB5
  have HO5 := Lib.hid ho5
  have HM5 : Hid (∀ wr, Only Nil w5 wr → Below w.heap.size w wr) := Lib.hid fun wr h => HO4.out.trans ((ho5.trans h (fun _ _ h => h)).below HO4.out.size (fun k hk => hk.elim))
  clear hB5 ho5
  go_loopg [40] 4 (fun g i wr => Only Nil w5 wr ∧ ∃ (j : Nat), i = .int .i64 (j : Int) ∧ j ≤ 4 ∧ g = 4 - j)
  case atStart => exact ⟨Only.refl Nil w5, 0, rfl, by omega, rfl⟩
  case round =>
    obtain ⟨hor, j, rfl, hj, hg⟩ := hrel
    have HG := Lib.hid hg
    have HOR := Lib.hid hor
    clear hg
    have j0 : (0 : Int) ≤ (j : Int) := Int.natCast_nonneg _
    by_cases hj2 : j < 4
    · have j1 : (j : Int) < 4 := Int.ofNat_lt.2 hj2
      obtain ⟨x, hx, hcx⟩ := HB5.out j hj2
      have hcw := hor.cell hcx (fun h => h)
      have hmw := (World.cell?_of_block (w := w) ((HM5.out _ hor).block _ (World.block_lt_of_cell? w _ HM.out))).trans HM.out
      have cI := identI_any x x.size rfl (by omega) m _ hmw
      have cR := identR_any x x.size rfl (by omega)
      rw [← id_same] at cR
      generalize idI x = R at cI cR
      clear hor hcx hmw hx
      cases R
      all_goals
        go_wp2_with first | (go_at_call 5; refine cI.mono ?_; rintro e w6 ⟨rfl, rfl⟩) | (go_at_call 6; refine (cR _).mono ?_; rintro e w7 ⟨rfl, ho7⟩)
        go_roundg (4 - (j + 1))
        case measure => have := HG.out; omega
        case rel => exact ⟨HOR.out.trans ho7 (fun _ _ h => h), j + 1, by go_num, by omega, by omega⟩
    · have ej : j = 4 := by omega
      subst ej
      clear hor
      go_wp2_with fail
      go_ret
      exact ⟨rfl, HM5.out _ HOR.out⟩
end Go.Proofs.YtmgopjbcdoddoaaGreatDoor

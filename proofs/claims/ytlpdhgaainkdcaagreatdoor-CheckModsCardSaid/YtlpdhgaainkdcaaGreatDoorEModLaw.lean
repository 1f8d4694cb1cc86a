/- CheckMods returns true, whatever its numbers are. -/
import Derived.Test.YtlpdhgaainkdcaaGreatDoorEMod0t0
import Derived.Test.YtlpdhgaainkdcaaGreatDoorEMod0t1
import Derived.Test.YtlpdhgaainkdcaaGreatDoorEMod0f0
import Derived.Test.YtlpdhgaainkdcaaGreatDoorEMod0f1
import Derived.Test.YtlpdhgaainkdcaaGreatDoorEMod1t0
import Derived.Test.YtlpdhgaainkdcaaGreatDoorEMod1t1
import Derived.Test.YtlpdhgaainkdcaaGreatDoorEMod1f0
import Derived.Test.YtlpdhgaainkdcaaGreatDoorEMod1f1
import Derived.Test.YtlpdhgaainkdcaaGreatDoorEMod2t0
import Derived.Test.YtlpdhgaainkdcaaGreatDoorEMod2t1
import Derived.Test.YtlpdhgaainkdcaaGreatDoorEMod2f0
import Derived.Test.YtlpdhgaainkdcaaGreatDoorEMod2f1
import Derived.Test.YtlpdhgaainkdcaaGreatDoorEMod3t0
import Derived.Test.YtlpdhgaainkdcaaGreatDoorEMod3t1
import Derived.Test.YtlpdhgaainkdcaaGreatDoorEMod3f0
import Derived.Test.YtlpdhgaainkdcaaGreatDoorEMod3f1
set_option linter.unusedSimpArgs false
set_option linter.unusedVariables false
namespace Go.Proofs.YtlpdhgaainkdcaaGreatDoor
open Go.VE

theorem bits8 : ∀ x : Nat, x < 256 → ∀ n, (Nat.beq n 1 || (Nat.beq n 2 || Nat.beq n 4)) = true → n < 256 ∧ x &&& n = Nat.land (x % 8) n := by
  intro x hx n hn
  have hall : ((List.range 256).all fun x => Nat.beq (x &&& 1) (Nat.land (x % 8) 1) && (Nat.beq (x &&& 2) (Nat.land (x % 8) 2) && Nat.beq (x &&& 4) (Nat.land (x % 8) 4))) = true := by kernel_rfl
  have h1 := List.all_eq_true.1 hall x (List.mem_range.2 hx)
  simp only [Bool.and_eq_true] at h1
  simp only [Bool.or_eq_true] at hn
  rcases hn with hn | hn | hn
  · obtain rfl := Nat.eq_of_beq_eq_true hn; exact ⟨by decide, Nat.eq_of_beq_eq_true h1.1⟩
  · obtain rfl := Nat.eq_of_beq_eq_true hn; exact ⟨by decide, Nat.eq_of_beq_eq_true h1.2.1⟩
  · obtain rfl := Nat.eq_of_beq_eq_true hn; exact ⟨by decide, Nat.eq_of_beq_eq_true h1.2.2⟩

set_option maxRecDepth 100000 in
theorem checkMods_any (x y : Nat) (b : Bool) (hx : x < 256) (hy : y < 256) (w : World) (m : Int) (hm : w.cell? ⟨0, 0, none⟩ = some (.int .i64 m)) : Calls Tryz.prog 4 #[.int .u8 (x : Int), .int .u8 (y : Int), .bool b] w fun e w' => e = .returned (.bool true) ∧ Go.RowKit.Below w.heap.size w w' := by
  have hall : ∀ q, q < 8 → ∀ u, u < 4 → modOne m (valsOf [x, y]) q u b = true := fun q hq u hu => by
    match b, q, hq, u, hu with
    | true, 0, _, 0, _ => exact modOne_0t_0 _ _
    | true, 0, _, 1, _ => exact modOne_1t_0 _ _
    | true, 0, _, 2, _ => exact modOne_2t_0 _ _
    | true, 0, _, 3, _ => exact modOne_3t_0 _ _
    | true, 1, _, 0, _ => exact modOne_0t_1 _ _
    | true, 1, _, 1, _ => exact modOne_1t_1 _ _
    | true, 1, _, 2, _ => exact modOne_2t_1 _ _
    | true, 1, _, 3, _ => exact modOne_3t_1 _ _
    | true, 2, _, 0, _ => exact modOne_0t_2 _ _
    | true, 2, _, 1, _ => exact modOne_1t_2 _ _
    | true, 2, _, 2, _ => exact modOne_2t_2 _ _
    | true, 2, _, 3, _ => exact modOne_3t_2 _ _
    | true, 3, _, 0, _ => exact modOne_0t_3 _ _
    | true, 3, _, 1, _ => exact modOne_1t_3 _ _
    | true, 3, _, 2, _ => exact modOne_2t_3 _ _
    | true, 3, _, 3, _ => exact modOne_3t_3 _ _
    | true, 4, _, 0, _ => exact modOne_0t_4 _ _
    | true, 4, _, 1, _ => exact modOne_1t_4 _ _
    | true, 4, _, 2, _ => exact modOne_2t_4 _ _
    | true, 4, _, 3, _ => exact modOne_3t_4 _ _
    | true, 5, _, 0, _ => exact modOne_0t_5 _ _
    | true, 5, _, 1, _ => exact modOne_1t_5 _ _
    | true, 5, _, 2, _ => exact modOne_2t_5 _ _
    | true, 5, _, 3, _ => exact modOne_3t_5 _ _
    | true, 6, _, 0, _ => exact modOne_0t_6 _ _
    | true, 6, _, 1, _ => exact modOne_1t_6 _ _
    | true, 6, _, 2, _ => exact modOne_2t_6 _ _
    | true, 6, _, 3, _ => exact modOne_3t_6 _ _
    | true, 7, _, 0, _ => exact modOne_0t_7 _ _
    | true, 7, _, 1, _ => exact modOne_1t_7 _ _
    | true, 7, _, 2, _ => exact modOne_2t_7 _ _
    | true, 7, _, 3, _ => exact modOne_3t_7 _ _
    | false, 0, _, 0, _ => exact modOne_0f_0 _ _
    | false, 0, _, 1, _ => exact modOne_1f_0 _ _
    | false, 0, _, 2, _ => exact modOne_2f_0 _ _
    | false, 0, _, 3, _ => exact modOne_3f_0 _ _
    | false, 1, _, 0, _ => exact modOne_0f_1 _ _
    | false, 1, _, 1, _ => exact modOne_1f_1 _ _
    | false, 1, _, 2, _ => exact modOne_2f_1 _ _
    | false, 1, _, 3, _ => exact modOne_3f_1 _ _
    | false, 2, _, 0, _ => exact modOne_0f_2 _ _
    | false, 2, _, 1, _ => exact modOne_1f_2 _ _
    | false, 2, _, 2, _ => exact modOne_2f_2 _ _
    | false, 2, _, 3, _ => exact modOne_3f_2 _ _
    | false, 3, _, 0, _ => exact modOne_0f_3 _ _
    | false, 3, _, 1, _ => exact modOne_1f_3 _ _
    | false, 3, _, 2, _ => exact modOne_2f_3 _ _
    | false, 3, _, 3, _ => exact modOne_3f_3 _ _
    | false, 4, _, 0, _ => exact modOne_0f_4 _ _
    | false, 4, _, 1, _ => exact modOne_1f_4 _ _
    | false, 4, _, 2, _ => exact modOne_2f_4 _ _
    | false, 4, _, 3, _ => exact modOne_3f_4 _ _
    | false, 5, _, 0, _ => exact modOne_0f_5 _ _
    | false, 5, _, 1, _ => exact modOne_1f_5 _ _
    | false, 5, _, 2, _ => exact modOne_2f_5 _ _
    | false, 5, _, 3, _ => exact modOne_3f_5 _ _
    | false, 6, _, 0, _ => exact modOne_0f_6 _ _
    | false, 6, _, 1, _ => exact modOne_1f_6 _ _
    | false, 6, _, 2, _ => exact modOne_2f_6 _ _
    | false, 6, _, 3, _ => exact modOne_3f_6 _ _
    | false, 7, _, 0, _ => exact modOne_0f_7 _ _
    | false, 7, _, 1, _ => exact modOne_1f_7 _ _
    | false, 7, _, 2, _ => exact modOne_2f_7 _ _
    | false, 7, _, 3, _ => exact modOne_3f_7 _ _
  have hone := hall (x % 8) (Nat.mod_lt _ (by decide)) (y % 4) (Nat.mod_lt _ (by decide))
  have hrun : evCall (envG Tryz.prog (valsOf [x, y]) (remsOf [(1, 0), (4, y % 4)]) (andM (x % 8)) (globM 0 m) modL) 3000 300 4 [.sym .u8 0, .sym .u8 1, .bool b] emptySt toldTrue = some () := by
    unfold modOne at hone
    split at hone
    · assumption
    · cases hone
  refine lawG_told ev_names ev_mixed (modL_ok m) (remsOf_ok fun i k r h => ?_) (fun i n r h => ?_) hrun (vs := [.int .u8 (x : Int), .int .u8 (y : Int), .bool b]) (fun g hg => ?_) w hm
  · match i, h with
    | 0, h => cases h; exact ⟨x, rfl, hx, by decide, Nat.mod_one x⟩
    | 1, h => cases h; exact ⟨y, rfl, hy, by decide, rfl⟩
    | i + 2, h => cases h
  · unfold andM at h
    split at h
    · rename_i hc
      simp only [Bool.and_eq_true] at hc
      obtain rfl := Nat.eq_of_beq_eq_true hc.1
      cases h
      obtain ⟨h1, h2⟩ := bits8 x hx n hc.2
      exact ⟨x, rfl, hx, h1, h2⟩
    · cases h
  · refine Rl.cons ?_ (Rl.cons ?_ (Rl.one ?_)) <;> simp only [Rv, hg] <;> rfl
end Go.Proofs.YtlpdhgaainkdcaaGreatDoor

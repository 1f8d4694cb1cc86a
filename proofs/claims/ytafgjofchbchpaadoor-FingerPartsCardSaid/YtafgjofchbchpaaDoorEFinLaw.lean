/- FingerParts returns true, whatever its numbers are. -/
import Derived.Test.YtafgjofchbchpaaDoorEFin0
import Derived.Test.YtafgjofchbchpaaDoorEFin1
import Derived.Test.YtafgjofchbchpaaDoorEFin2
import Derived.Test.YtafgjofchbchpaaDoorEFin3
import Derived.Test.YtafgjofchbchpaaDoorEFin4
import Derived.Test.YtafgjofchbchpaaDoorEFin5
set_option linter.unusedSimpArgs false
set_option linter.unusedVariables false
namespace Go.Proofs.YtafgjofchbchpaaDoor
open Go.VE

def vals3 (x y z : Nat) : Nat → Int
  | 0 => x
  | 1 => y
  | _ => z

set_option maxRecDepth 100000 in
theorem finger_any (x y z : Nat) (hx : x < 256) (hy : y < 256) (hz : z < 256) (w : World) : Calls Tryd.prog 3 #[.int .u8 (x : Int), .int .u8 (y : Int), .int .u8 (z : Int)] w fun e w' => e = .returned (.bool true) ∧ Go.RowKit.Below w.heap.size w w' := by
  have hall : ∀ c, c < 6 → finAll (vals3 x y z) c = true := fun c hc => by
    match c, hc with
    | 0, _ => exact finAll_0 _
    | 1, _ => exact finAll_1 _
    | 2, _ => exact finAll_2 _
    | 3, _ => exact finAll_3 _
    | 4, _ => exact finAll_4 _
    | 5, _ => exact finAll_5 _
  have hone : finOne (vals3 x y z) [x % 6, y % 6, z % 6] = true := by
    have h := hall (z % 6) (Nat.mod_lt _ (by decide))
    unfold finAll at h
    have h1 := List.all_eq_true.1 h (x % 6) (List.mem_range.2 (Nat.mod_lt _ (by decide)))
    exact List.all_eq_true.1 h1 (y % 6) (List.mem_range.2 (Nat.mod_lt _ (by decide)))
  have hrun : evCall (finE (vals3 x y z) [x % 6, y % 6, z % 6]) 5000 60 3 [.sym .u8 0, .sym .u8 1, .sym .u8 2] emptySt toldTrue = some () := by
    unfold finOne at hone
    split at hone
    · assumption
    · cases hone
  refine ev_true (E := finE (vals3 x y z) [x % 6, y % 6, z % 6]) ?_ (tabOf_ok rfl ev_names) ev_mixed (small_ok (rem := rems [x % 6, y % 6, z % 6] 6) (and := fun _ _ => none) rfl ?_ (fun _ _ _ h => none_some h)) (fun _ => rfl) hrun (vs := [.int .u8 (x : Int), .int .u8 (y : Int), .int .u8 (z : Int)]) (fun g hg => ?_) w
  · intro f v h
    change (if Nat.beq f 4 then some (AV.bool true) else none) = some v at h
    split at h
    · rename_i hf
      have hf := Nat.eq_of_beq_eq_true hf
      subst hf
      cases h
      refine ⟨fun w => Tryd.call4 _ w, fun w => (finK_any w).mono fun e w' ⟨he, hb⟩ => ⟨_, he, fun g => by simp only [Rv], hb⟩⟩
    · cases h
  · intro i n r h
    unfold rems at h
    split at h
    · rename_i hn
      have hn := Nat.eq_of_beq_eq_true hn
      subst hn
      match i, h with
      | 0, h => cases h; exact ⟨x, rfl, hx, by decide, rfl⟩
      | 1, h => cases h; exact ⟨y, rfl, hy, by decide, rfl⟩
      | 2, h => cases h; exact ⟨z, rfl, hz, by decide, rfl⟩
      | i + 3, h => cases h
    · cases h
  · refine Rl.cons ?_ (Rl.cons ?_ (Rl.one ?_)) <;> simp only [Rv, hg] <;> rfl
end Go.Proofs.YtafgjofchbchpaaDoor

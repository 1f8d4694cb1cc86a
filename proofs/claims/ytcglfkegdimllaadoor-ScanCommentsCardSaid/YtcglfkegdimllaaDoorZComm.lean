/- The walk of the law ScanComments. -/
import Derived.Test.YtcglfkegdimllaaDoorZSigns
set_option linter.unusedSimpArgs false
set_option linter.unusedVariables false
namespace Go.Proofs.YtcglfkegdimllaaDoor
open Go.RowKit M

theorem pieces_get (i : Nat) (h : i < 8) : ∃ pz : ByteArray, ([Value.string ⟨#[40, 42]⟩, Value.string ⟨#[42, 41]⟩, Value.string ⟨#[97]⟩, Value.string ⟨#[42]⟩, Value.string ⟨#[40]⟩, Value.string ⟨#[41]⟩, Value.string ⟨#[32]⟩, Value.string ⟨#[34]⟩] : List Value)[i]'h = .string pz ∧ pz.size ≤ 2 := by
  match i, h with
  | 0, _ => exact ⟨_, rfl, by decide⟩
  | 1, _ => exact ⟨_, rfl, by decide⟩
  | 2, _ => exact ⟨_, rfl, by decide⟩
  | 3, _ => exact ⟨_, rfl, by decide⟩
  | 4, _ => exact ⟨_, rfl, by decide⟩
  | 5, _ => exact ⟨_, rfl, by decide⟩
  | 6, _ => exact ⟨_, rfl, by decide⟩
  | 7, _ => exact ⟨_, rfl, by decide⟩

set_option maxRecDepth 10000 in
set_option maxHeartbeats 1600000 in
theorem comments_any (ao : Option Addr) (n cap : Nat) (B : List Nat) (y : Nat) (w : World) (hr : Row w (.slice ao n cap) B) (hn : B.length = n) (hA : Asc w) :
    Calls Tryd.prog 9 #[.slice ao n cap, .int .u8 y] w fun e w' => e = .returned (.bool true) ∧ Only Nil w w' := by
  have cK := known11 w hA
  by_cases h40 : 40 < n
  · have t1 : (40 : Int) < (n : Int) := by omega
    clear hr hn
    go_enter Tryd.func9, Tryd.ntmps9
    go_wp2_with fail
    refine cK.mono ?_
    rintro e w1 ⟨rfl, ho1⟩
    clear cK
    go_wp2_with fail
    go_ret
    exact ⟨rfl, ho1⟩
  · have t1 : decide ((40 : Int) < (n : Int)) = false := by simp; omega
    go_enter Tryd.func9, Tryd.ntmps9
    go_wp2_with fail
    refine cK.mono ?_
    rintro e w1 ⟨rfl, ho1⟩
    clear cK
    have HR := Lib.hid (hr.kept ho1)
    have HA := Lib.hid (hA.kept ho1)
    have HO := Lib.hid ho1
    have HN := Lib.hid hn
    clear hr hA hn ho1
    go_wp2_with fail
    go_loopg [5, 6] (y % 5) (fun g s i wr => wr = w1 ∧ ∃ (j : Nat) (z : ByteArray), i = .int .i64 (j : Int) ∧ s = .string z ∧ z.size = 2 * j ∧ j ≤ y % 5 ∧ g = y % 5 - j)
    case atStart => exact ⟨rfl, 0, ⟨#[]⟩, rfl, rfl, rfl, Nat.zero_le _, rfl⟩
    case round =>
      obtain ⟨rfl, j, z, rfl, rfl, hz, hj, hg⟩ := hrel
      have HG := Lib.hid hg
      clear hg
      have y5 : y % 5 < 5 := Nat.mod_lt _ (by decide)
      have j0 : (0 : Int) ≤ (j : Int) := Int.natCast_nonneg _
      by_cases hjn : j < y % 5
      · have j1 : (j : Int) < (y : Int) % 5 := by omega
        go_wp2_with fail
        go_roundg (y % 5 - (j + 1))
        case measure => have := HG.out; omega
        case rel =>
          refine ⟨rfl, j + 1, _, by go_num, rfl, ?_, by omega, rfl⟩
          rw [ByteArray.size_append, hz]; show 2 * j + 2 = 2 * (j + 1); omega
      · have j1 : decide ((j : Int) < (y : Int) % 5) = false := by simp; omega
        have j2 : decide (j < y % 5) = false := by simp; omega
        go_wp2_with fail
        have hz0 : (z ++ (⟨#[40, 42]⟩ : ByteArray)).size = 2 * j + 2 := by rw [ByteArray.size_append, hz]; rfl
        obtain ⟨z0, hz0e⟩ : ∃ z0, z ++ (⟨#[40, 42]⟩ : ByteArray) = z0 := ⟨_, rfl⟩
        rw [hz0e] at hz0 ⊢
        clear hz0e
        go_loopg [5, 7] n (fun g s i wx => Only Nil wr wx ∧ ∃ (k : Nat) (z : ByteArray), i = .int .i64 (k : Int) ∧ s = .string z ∧ z.size ≤ 20 + 2 * k ∧ k ≤ n ∧ g = n - k)
        case atStart => exact ⟨Only.refl _ _, 0, z0, rfl, rfl, by omega, Nat.zero_le _, rfl⟩
        case round =>
          obtain ⟨ho, k, z, rfl, rfl, hz, hk, hg⟩ := hrel
          have HG2 := Lib.hid hg
          have HO2 := Lib.hid ho
          clear hg
          have k0 : (0 : Int) ≤ (k : Int) := Int.natCast_nonneg _
          by_cases hkn : k < n
          · have k1 : (k : Int) < (n : Int) := by omega
            obtain ⟨b, off, rfl, h2, h3, h4⟩ := HR.out.at HN.out (by omega)
            obtain ⟨c0, c1⟩ := h4 k hkn
            have c2 := ho.cell c0 (fun h => h)
            obtain ⟨x, hx⟩ : ∃ x, B.getD k 0 = x := ⟨_, rfl⟩
            rw [hx] at c1 c2
            have hlt := World.block_lt_of_cell? _ _ c2
            simp only at hlt
            have x8 : x % 8 < 8 := Nat.mod_lt _ (by decide)
            have x9 : (x : Int) % 8 < 8 := by omega
            clear hx h4 h2 c0 ho
            obtain ⟨pz, hpz, hps⟩ := pieces_get (x % 8) x8
            go_wp2_with fail
            go_roundg (n - (k + 1))
            case measure => have := HG2.out; omega
            case rel =>
              refine ⟨HO2.out.alloc _, k + 1, _, by go_num, rfl, ?_, by omega, rfl⟩
              rw [ByteArray.size_append]; omega
          · have hkn' : k = n := by omega
            subst hkn'
            have hA2 := HA.out.kept ho
            clear HR HN ho
            go_wp2_with fail
            refine (toldB _ (by omega) _ hA2).mono ?_
            rintro e w2 ⟨rfl, ho2⟩
            have hA3 := hA2.kept ho2
            go_wp2_with fail
            refine (toldB _ (by rw [ByteArray.size_append]; show z.size + 2 ≤ _; omega) _ hA3).mono ?_
            rintro e w3 ⟨rfl, ho3⟩
            have hA4 := hA3.kept ho3
            go_wp2_with fail
            refine (toldB _ (by rw [ByteArray.size_append]; show z.size + 6 ≤ _; omega) _ hA4).mono ?_
            rintro e w4 ⟨rfl, ho4⟩
            have HO4 := Lib.hid ((((HO.out.trans HO2.out (fun _ _ h => h)).trans ho2 (fun _ _ h => h)).trans ho3 (fun _ _ h => h)).trans ho4 (fun _ _ h => h))
            go_wp2_with fail
            go_ret
            exact ⟨rfl, HO4.out⟩
end Go.Proofs.YtcglfkegdimllaaDoor

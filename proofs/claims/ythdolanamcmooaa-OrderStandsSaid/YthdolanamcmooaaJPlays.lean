/- Layer 20: scripts of names. -/
import Derived.Test.YthdolanamcmooaaJNew
import Derived.Test.YthdolanamcmooaaFLaw
set_option linter.unusedSimpArgs false
set_option linter.unusedVariables false
namespace Go.Proofs.Ythdolanamcmooaa
open Go.RowKit M

theorem strs_blk {w : World} {b : Nat} {l : List ByteArray} (h : Blk w b (Strs l).toArray 9) : Src w b (.slice (some ⟨b, 0, none⟩) l.length l.length) (Strs l) := by
  have := src_of_blk h
  rwa [Strs_len] at this
def tx1 (c : UInt8) : ByteArray := ⟨#[c]⟩
theorem known20 (w : World) : Calls Try.prog 44 #[] w fun e w' => e = .returned (.bool true) ∧ Only Nil w w' := by
  go_enter Try.func44, Try.ntmps44
  go_wp2_with fail
  have hB := Blk.new w (Strs [tx1 120, tx1 120]).toArray 9
  have ho0 : Only Nil w (w.alloc (.cells (Strs [tx1 120, tx1 120]).toArray 9)) := (Only.refl _ _).alloc _
  have c1 := newI_any 2 2 rfl _ 2 2 _ [tx1 120, tx1 120] _ rfl (strs_blk hB) (by decide) (by intro z hz; simp at hz; subst hz; decide)
  refine c1.mono ?_
  rintro e w1 ⟨b, mb, nv, rfl, hD⟩
  have hD : DNew (w.alloc (.cells (Strs [tx1 120, tx1 120]).toArray 9)) w1 b mb 2 [tx1 120] nv := hD
  have c2 := putI_any b mb 2 _ nv (tx1 97) w1 hD.at_ (by decide) (by decide) (by decide)
  have HD := Lib.hid hD
  have HO := Lib.hid ho0
  clear c1 hB ho0 hD
  go_wp2_with fail
  refine c2.mono ?_
  rintro e w2 hp
  obtain ⟨nv2, rfl, hD2, _, _⟩ := HD.out.put hp
  have hD2 : DNew (w.alloc (.cells (Strs [tx1 120, tx1 120]).toArray 9)) w2 b mb 2 [tx1 120, tx1 97] nv2 := hD2
  have e2 : putV 2 [tx1 120] (tx1 97) = .tuple #[.int .i64 1, .bool true, .bool true] := rfl
  rw [e2]
  have c3 := putI_any b mb 2 _ nv2 (tx1 120) w2 hD2.at_ (by decide) (by decide) (by decide)
  have HD2 := Lib.hid hD2
  clear c2 hp hD2 e2 HD
  go_wp2_with fail
  refine c3.mono ?_
  rintro e w3 hp
  obtain ⟨nv3, rfl, hD3, _, _⟩ := HD2.out.put hp
  have hD3 : DNew (w.alloc (.cells (Strs [tx1 120, tx1 120]).toArray 9)) w3 b mb 2 [tx1 120, tx1 97] nv3 := hD3
  have e2 : putV 2 [tx1 120, tx1 97] (tx1 120) = .tuple #[.int .i64 0, .bool false, .bool true] := rfl
  rw [e2]
  have c4 := putI_any b mb 2 _ nv3 (tx1 98) w3 hD3.at_ (by decide) (by decide) (by decide)
  have HD3 := Lib.hid hD3
  clear c3 hp hD3 e2 HD2
  go_wp2_with fail
  refine c4.mono ?_
  rintro e w4 hp
  obtain ⟨nv4, rfl, hD4, _, _⟩ := HD3.out.put hp
  have hD4 : DNew (w.alloc (.cells (Strs [tx1 120, tx1 120]).toArray 9)) w4 b mb 2 [tx1 120, tx1 97] nv4 := hD4
  have e2 : putV 2 [tx1 120, tx1 97] (tx1 98) = .tuple #[.int .i64 0, .bool false, .bool false] := rfl
  rw [e2]
  have c5 := getI_in b mb 2 1 _ nv4 (tx1 97) w4 hD4.at_ rfl (by decide)
  have c6 := lenI_any b mb 2 _ nv4 w4 hD4.at_
  have HD4 := Lib.hid hD4
  clear c4 hp hD4 e2 HD3
  go_wp2_with fail
  refine c5.mono ?_
  rintro e w5 ⟨rfl, rfl⟩
  clear c5
  have e5 : ((tx1 97).toList == [97]) = true := by rw [ByteArray.toList_eq]; rfl
  go_wp2_with fail
  refine c6.mono ?_
  rintro e w5 ⟨rfl, rfl⟩
  clear c6
  go_wp2_with fail
  go_ret
  exact ⟨rfl, HO.out.trans HD4.out.only (fun _ _ h => h)⟩
end Go.Proofs.Ythdolanamcmooaa

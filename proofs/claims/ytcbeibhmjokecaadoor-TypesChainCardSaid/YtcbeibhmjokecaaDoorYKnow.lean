/- The chapter's example: known is true. -/
import Derived.Test.YtcbeibhmjokecaaDoorYMk
set_option linter.unusedSimpArgs false
set_option linter.unusedVariables false
namespace Go.Proofs.YtcbeibhmjokecaaDoor
open Go.RowKit M

def mrB : ByteArray := ⟨#[77, 46, 82]⟩
def msB : ByteArray := ⟨#[77, 46, 83]⟩
def xB : ByteArray := ⟨#[120]⟩
def t12 : Ty := arr 3 (bas 2)
def rR : Rc := ⟨⟨#[82]⟩, false, ⟨#[]⟩, [⟨xB, false, t12⟩]⟩
def rS : Rc := ⟨⟨#[83]⟩, false, mrB, []⟩
def R12 : Recs := updR (updR (fun _ => none) mrB rR) msB rS
theorem mr_ne : mrB ≠ msB := by decide
theorem R12_mr : R12 mrB = some rR := by unfold R12 updR; rw [if_neg mr_ne, if_pos rfl]
theorem R12_ms : R12 msB = some rS := by unfold R12 updR; rw [if_pos rfl]
theorem tl_nil : ((⟨#[]⟩ : ByteArray).toList == []) = true := by rw [ByteArray.toList_eq]; rfl
theorem tl_mr : (mrB.toList == []) = false := by rw [ByteArray.toList_eq]; rfl
theorem right12 : rightB t12 = true := by
  unfold t12 arr bas rightB
  rw [if_neg (by decide), if_pos rfl]
  simp only [oneR]
  unfold rightB
  rw [if_pos (by decide)]
  simp [tl_nil]
theorem tyW12 (g : ByteArray → Option Nat) : tyW g t12 = some 3 := by
  have h := right12
  unfold t12 arr at h ⊢
  unfold tyW
  rw [if_pos h, if_pos rfl]
  have h2 : rightB (bas 2) = true := by
    unfold bas rightB
    rw [if_pos (by decide)]
    simp [tl_nil]
  have h3 : tyW g (bas 2) = some 1 := by
    unfold bas at h2 ⊢
    unfold tyW
    rw [if_pos h2, if_neg (by decide), if_neg (by decide)]
  unfold oneW
  rw [h3]
  rfl
theorem words12 : wordsM R12 2 (Ty.mk 8 0 msB []) = some 3 := by
  unfold wordsM
  have hr : rightB (Ty.mk 8 0 msB []) = true := by
    unfold rightB
    rw [if_neg (by decide), if_neg (by decide), if_pos (by decide)]
    have : (msB.toList != []) = true := by rw [ByteArray.toList_eq]; rfl
    rw [this]; rfl
  unfold tyW
  rw [if_pos hr, if_neg (by decide), if_pos rfl]
  show bodyV R12 (bodyV R12 (fun _ => none)) msB = some 3
  have h1 : bodyV R12 (fun _ => none) mrB = some 3 := by
    unfold bodyV
    rw [R12_mr, Option.bind_some]
    rw [if_pos (show (rR.base.toList == []) = true from tl_nil), Option.bind_some]
    show sumW (tyW _) 0 [⟨xB, false, t12⟩] = some 3
    unfold sumW
    rw [tyW12]
    rfl
  unfold bodyV
  rw [R12_ms, Option.bind_some]
  rw [if_neg (show ¬ (rS.base.toList == []) = true from by rw [show rS.base = mrB from rfl, tl_mr]; decide)]
  show (bodyV R12 (fun _ => none) mrB).bind _ = some 3
  rw [h1]
  rfl
theorem fields12 : fieldsM R12 2 msB = some [⟨xB, false, t12⟩] := by
  unfold fieldsM
  rw [R12_ms, Option.bind_some]
  rw [if_neg (show ¬ (rS.base.toList == []) = true from by rw [show rS.base = mrB from rfl, tl_mr]; decide)]
  show (fieldsM R12 1 mrB).map _ = _
  unfold fieldsM
  rw [R12_mr, Option.bind_some, if_pos (show (rR.base.toList == []) = true from tl_nil)]
  rfl
theorem ext12a : extM R12 mrB 3 msB = true := by
  unfold extM
  rw [if_neg (by rw [ByteArray.toList_eq, ByteArray.toList_eq]; decide), R12_ms]
  simp only []
  rw [if_neg (show ¬ (rS.base.toList == []) = true from by rw [show rS.base = mrB from rfl, tl_mr]; decide)]
  show extM R12 mrB 2 mrB = true
  unfold extM
  rw [if_pos (by simp)]
theorem ext12b : extM R12 msB 3 mrB = false := by
  unfold extM
  rw [if_neg (by rw [ByteArray.toList_eq, ByteArray.toList_eq]; decide), R12_mr]
  simp only []
  rw [if_pos (show (rR.base.toList == []) = true from tl_nil)]
theorem same12 : sameB t12 t12 = true := by
  unfold t12 arr bas sameB
  simp [sameL, sameB]
theorem fits12 : fitsM R12 2 t12 (bas 1) = false := by
  unfold fitsM t12 arr bas
  rw [if_pos (by decide)]
  unfold sameB
  rfl
theorem text12 : txB (arrT 3 2) = ⟨#[65, 82, 82, 65, 89, 32, 51, 32, 79, 70, 32, 67, 72, 65, 82]⟩ := by
  have h1 : Lib.itoa 3 = [51] := by
    have := Lib.itoa_nonneg 3
    rw [show ((3 : Nat) : Int) = 3 from rfl] at this
    rw [this, Lib.decDigits_one (by decide)]
    rfl
  unfold arrT
  rw [h1]
  rfl
theorem F12 : ∀ s r, R12 s = some r → r.fields.length ≤ 1000 := by
  intro s r h
  unfold R12 updR at h
  split at h
  · injection h with h; subst h; decide
  · split at h
    · injection h with h; subst h; decide
    · cases h
end Go.Proofs.YtcbeibhmjokecaaDoor

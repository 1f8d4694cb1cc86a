/- TypesChain's records: each extends the one before: what the tables tell, no Go. -/
import Derived.Test.YtcbeibhmjokecaaDoorYKnow
import Derived.Test.YtcbeibhmjokecaaDoorYOrd
set_option linter.unusedSimpArgs false
set_option linter.unusedVariables false
namespace Go.Proofs.YtcbeibhmjokecaaDoor
open Go.RowKit M

def nm (i : Nat) : ByteArray := ⟨#[77, 46, UInt8.ofNat (97 + i)]⟩
def fn (i : Nat) : ByteArray := ⟨#[102, UInt8.ofNat (97 + i)]⟩
def vC (i : Nat) : Vr := ⟨fn i, false, arr ((i + 1 : Nat) : Int) (bas 1)⟩
def bsC (i : Nat) : ByteArray := if i = 0 then ⟨#[]⟩ else nm (i - 1)
def rC (i : Nat) : Rc := ⟨⟨#[82]⟩, false, bsC i, [vC i]⟩
def Rch : Nat → Recs
  | 0 => fun _ => none
  | k + 1 => updR (Rch k) (nm k) (rC k)
def lC : Nat → List Vr
  | 0 => [vC 0]
  | x + 1 => lC x ++ [vC (x + 1)]
def wC : Nat → Nat
  | 0 => 1
  | x + 1 => wC x + (x + 2)
theorem nm_inj {i j : Nat} (hi : i < 12) (hj : j < 12) (e : nm i = nm j) : i = j := by
  unfold nm at e
  simp only [ByteArray.mk.injEq, Array.mk.injEq, List.cons.injEq, true_and, and_true] at e
  have h := congrArg UInt8.toNat e
  simp only [UInt8.toNat_ofNat'] at h
  omega
theorem nm_list (i : Nat) : (nm i).toList = [77, 46, UInt8.ofNat (97 + i)] := by rw [ByteArray.toList_eq]; rfl
theorem nm_some (i : Nat) : ((nm i).toList == []) = false := by rw [nm_list]; rfl
theorem nm_size (i : Nat) : (nm i).size = 3 := rfl
theorem bsC_zero : ((bsC 0).toList == []) = true := tl_nil
theorem bsC_succ (i : Nat) : bsC (i + 1) = nm i := by
  unfold bsC
  rw [if_neg (by omega)]
  rfl
theorem Rch_at {x : Nat} : ∀ {k : Nat}, k ≤ 12 → x < k → Rch k (nm x) = some (rC x)
  | 0, _, h => by omega
  | k + 1, h12, h => by
    show updR (Rch k) (nm k) (rC k) (nm x) = _
    unfold updR
    by_cases e : x = k
    · subst e; rw [if_pos rfl]
    · rw [if_neg (fun h2 => e (nm_inj (by omega) (by omega) h2))]
      exact Rch_at (by omega) (by omega)
theorem Rch_new {i : Nat} : ∀ {k : Nat}, k ≤ i → i < 12 → Rch k (nm i) = none
  | 0, _, _ => rfl
  | k + 1, h, h12 => by
    show updR (Rch k) (nm k) (rC k) (nm i) = _
    unfold updR
    rw [if_neg (fun h2 => by have := nm_inj h12 (by omega) h2; omega)]
    exact Rch_new (by omega) h12
theorem Rch_len : ∀ {k : Nat} {s : ByteArray} {r : Rc}, Rch k s = some r → r.fields.length ≤ 1000
  | 0, s, r, h => by cases h
  | k + 1, s, r, h => by
    have h : updR (Rch k) (nm k) (rC k) s = some r := h
    unfold updR at h
    split at h
    · injection h with h
      subst h
      show 1 ≤ 1000
      decide
    · exact Rch_len h
theorem lC_len : ∀ x, (lC x).length = x + 1
  | 0 => rfl
  | x + 1 => by
    show (lC x ++ [vC (x + 1)]).length = _
    rw [List.length_append, lC_len x]
    rfl
theorem lC_get : ∀ {x i : Nat}, i ≤ x → (lC x)[i]? = some (vC i)
  | 0, i, h => by
    have : i = 0 := by omega
    subst this; rfl
  | x + 1, i, h => by
    show (lC x ++ [vC (x + 1)])[i]? = _
    by_cases e : i = x + 1
    · subst e
      rw [List.getElem?_append_right (by rw [lC_len]; omega), lC_len]
      simp
    · rw [List.getElem?_append_left (by rw [lC_len]; omega)]
      exact lC_get (by omega)
theorem wC_two : ∀ x, 2 * wC x = (x + 1) * (x + 2)
  | 0 => rfl
  | x + 1 => by
    show 2 * (wC x + (x + 2)) = _
    rw [Nat.mul_add, wC_two x, ← Nat.add_mul, Nat.mul_comm]
theorem wC_half (x : Nat) : (x + 1) * (x + 2) / 2 = wC x := by
  rw [← wC_two x]; omega
theorem wC_le {x : Nat} (h : x < 12) : wC x ≤ 78 := by
  have := wC_two x
  have h2 : (x + 1) * (x + 2) ≤ 12 * 13 := Nat.mul_le_mul (by omega) (by omega)
  omega
theorem fieldsC {k : Nat} (hk : k ≤ 12) : ∀ {x m : Nat}, x < k → x < m → fieldsM (Rch k) m (nm x) = some (lC x)
  | x, 0, _, h => by omega
  | 0, m + 1, hx, _ => by
    unfold fieldsM
    rw [Rch_at hk hx, Option.bind_some]
    rw [if_pos (show ((rC 0).base.toList == []) = true from bsC_zero)]
    rfl
  | x + 1, m + 1, hx, hm => by
    unfold fieldsM
    rw [Rch_at hk hx, Option.bind_some]
    have hb : (rC (x + 1)).base = nm x := bsC_succ x
    rw [hb, nm_some, if_neg (by decide), fieldsC hk (x := x) (m := m) (by omega) (by omega)]
    rfl
theorem right1 : rightB (bas 1) = true := by
  unfold bas rightB
  rw [if_pos (by decide)]
  simp [tl_nil]
theorem tyW1 (g : ByteArray → Option Nat) : tyW g (bas 1) = some 1 := by
  have h2 := right1
  unfold bas at h2 ⊢
  unfold tyW
  rw [if_pos h2, if_neg (by decide), if_neg (by decide)]
theorem tyWC (g : ByteArray → Option Nat) {i : Nat} (h : i < 12) : tyW g (vC i).t = some (i + 1) := by
  show tyW g (arr ((i + 1 : Nat) : Int) (bas 1)) = _
  rw [tyW_arr g (n := i + 1) (by omega) (by omega) right1, tyW1, Option.bind_some, Nat.mul_one]
  unfold limW
  rw [if_pos (by omega)]
theorem wordsC {k : Nat} (hk : k ≤ 12) : ∀ {x m : Nat}, x < k → x < m → recV (Rch k) m (nm x) = some (wC x)
  | x, 0, _, h => by omega
  | 0, m + 1, hx, _ => by
    show bodyV (Rch k) (recV (Rch k) m) (nm 0) = _
    unfold bodyV
    rw [Rch_at hk hx, Option.bind_some]
    rw [if_pos (show ((rC 0).base.toList == []) = true from bsC_zero), Option.bind_some]
    show sumW _ 0 [vC 0] = _
    unfold sumW
    rw [tyWC _ (by omega), Option.bind_some, if_pos (by omega)]
    rfl
  | x + 1, m + 1, hx, hm => by
    show bodyV (Rch k) (recV (Rch k) m) (nm (x + 1)) = _
    unfold bodyV
    rw [Rch_at hk hx, Option.bind_some]
    have hb : (rC (x + 1)).base = nm x := bsC_succ x
    rw [hb, nm_some, if_neg (by decide), wordsC hk (x := x) (m := m) (by omega) (by omega), Option.bind_some]
    show sumW _ (wC x) [vC (x + 1)] = _
    unfold sumW
    have := wC_le (x := x) (by omega)
    rw [tyWC _ (by omega), Option.bind_some, if_pos (by omega)]
    rfl
theorem words_chain {k : Nat} (hk : k ≤ 12) {x m : Nat} (hx : x < k) (hm : x < m) : wordsM (Rch k) m (Ty.mk 8 0 (nm x) []) = some (wC x) := by
  unfold wordsM
  have hr : rightB (Ty.mk 8 0 (nm x) []) = true := by
    unfold rightB
    rw [if_neg (by decide), if_neg (by decide), if_pos (by decide)]
    have : ((nm x).toList != []) = true := by rw [nm_list]; rfl
    rw [this]; rfl
  unfold tyW
  rw [if_pos hr, if_neg (by decide), if_pos rfl]
  exact wordsC hk hx hm
theorem nm_eq {x y : Nat} (hx : x < 12) (hy : y < 12) : ((nm x).toList == (nm y).toList) = decide (x = y) := by
  by_cases e : x = y
  · subst e; simp
  · rw [decide_eq_false e]
    refine Bool.eq_false_iff.2 fun h => e ?_
    have h := eq_of_beq h
    refine nm_inj hx hy ?_
    rw [ByteArray.toList_eq, ByteArray.toList_eq] at h
    exact ByteArray.ext (Array.ext' h)
theorem extC {k y : Nat} (hk : k ≤ 12) (hy : y < k) : ∀ {x m : Nat}, x < k → x < m → extM (Rch k) (nm y) m (nm x) = decide (y ≤ x)
  | x, 0, _, h => by omega
  | 0, m + 1, hx, _ => by
    unfold extM
    rw [nm_eq (by omega) (by omega)]
    by_cases e : 0 = y
    · subst e; rfl
    · rw [if_neg (by simpa using e), Rch_at hk hx]
      simp only []
      rw [if_pos (show ((rC 0).base.toList == []) = true from bsC_zero), decide_eq_false (by omega)]
  | x + 1, m + 1, hx, hm => by
    unfold extM
    rw [nm_eq (by omega) (by omega)]
    by_cases e : x + 1 = y
    · rw [if_pos (by simpa using e), decide_eq_true (by omega)]
    · rw [if_neg (by simpa using e), Rch_at hk hx]
      simp only []
      have hb : (rC (x + 1)).base = nm x := bsC_succ x
      rw [hb, nm_some, if_neg (by decide), extC hk hy (x := x) (m := m) (by omega) (by omega)]
      exact decide_eq_decide.2 (by omega)
theorem fitsC {k y x : Nat} (hk : k ≤ 12) (hy : y < k) (hx : x < k) : fitsM (Rch k) k (Ty.mk 9 0 (nm y) []) (Ty.mk 9 0 (nm x) []) = decide (y ≤ x) := by
  unfold fitsM
  rw [show (Ty.mk 9 0 (nm y) []).form = 9 from rfl, show (Ty.mk 9 0 (nm x) []).form = 9 from rfl, show (Ty.mk 9 0 (nm y) []).name = nm y from rfl, show (Ty.mk 9 0 (nm x) []).name = nm x from rfl]
  rw [if_neg (by decide), if_pos rfl, extC hk hy hx (by omega)]
  rfl
end Go.Proofs.YtcbeibhmjokecaaDoor

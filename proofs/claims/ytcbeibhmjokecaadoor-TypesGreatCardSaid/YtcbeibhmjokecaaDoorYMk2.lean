/- Types and fields that are made: their words. -/
import Derived.Test.YtcbeibhmjokecaaDoorYMk
set_option linter.unusedSimpArgs false
set_option linter.unusedVariables false
namespace Go.Proofs.YtcbeibhmjokecaaDoor
open Go.RowKit M

/-- Fields in a block of their own. -/
theorem VarS.of_blk {U V : Nat → Prop} {w : World} {b : Nat} {t : TypeId} (L : List Vr) (ovs : Nat → Value) (hB : Blk w b (flatV ovs 0 L).toArray t) (hb : U b) (hT : ∀ i x, L[i]? = some x → TyS V w (ovs i) x.t.of) (hV : ∀ k, V k → U k) (hx : ∀ x ∈ L, x.name.size ≤ maxLen ∧ x.t.name.size ≤ maxLen) (hL : L.length * 80 ≤ 140737488355328) : VarS U w (.slice (some ⟨b, 0, none⟩) L.length L.length) L := by
  refine VarS.mk L _ _ 0 b ovs (fun _ => rfl) (fun h => by cases h) (fun _ => hb) hL hx (fun i t hi j u hu => ?_) (fun i t hi => (hT i t hi).mono hV)
  rw [Nat.zero_add, hB.cell, List.getElem?_toArray]
  exact flatV_get ovs L 0 i t hi j u (by rw [Nat.zero_add]; exact hu)
theorem right_bas : rightB (bas 1) = true := by
  unfold bas rightB
  rw [if_pos (by decide)]
  have : ((⟨#[]⟩ : ByteArray).toList == []) = true := by rw [ByteArray.toList_eq]; rfl
  simp [this]
theorem right_arr {n : Nat} {t : Ty} (h1 : 1 ≤ n) (h2 : n ≤ 1024) (ht : rightB t = true) : rightB (arr n t) = true := by
  unfold arr rightB
  rw [if_neg (by decide), if_pos rfl]
  have e : ((⟨#[]⟩ : ByteArray).toList == []) = true := by rw [ByteArray.toList_eq]; rfl
  rw [e]
  simp only [oneR, ht, Bool.and_true, Bool.true_and, Bool.and_eq_true, decide_eq_true_eq]
  omega
theorem tyW_bas (g : ByteArray → Option Nat) : tyW g (bas 1) = some 1 := by
  have h := right_bas
  unfold bas at h ⊢
  unfold tyW
  rw [if_pos h, if_neg (by decide), if_neg (by decide)]
theorem tyW_arr (g : ByteArray → Option Nat) {n : Nat} {t : Ty} (h1 : 1 ≤ n) (h2 : n ≤ 1024) (ht : rightB t = true) : tyW g (arr n t) = (tyW g t).bind (fun k => limW (n * k)) := by
  have h := right_arr h1 h2 ht
  obtain ⟨Y, hY⟩ : ∃ y, tyW g t = y := ⟨_, rfl⟩
  rw [hY]
  unfold arr at h ⊢
  unfold tyW
  rw [if_pos h, if_pos rfl, show oneW g [t] = Y by unfold oneW; exact hY]
  simp only [Int.toNat_natCast]
end Go.Proofs.YtcbeibhmjokecaaDoor

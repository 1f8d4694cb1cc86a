/- Modules in memory; what they need, both sides. -/
import Derived.Test.YthdolanamcmooaaOMath
import Derived.Test.YthdolanamcmooaaJDict
set_option linter.unusedSimpArgs false
set_option linter.unusedVariables false
namespace Go.Proofs.Ythdolanamcmooaa
open Go.RowKit M

def nilV : Value := .slice none 0 0
/-- A module's cells: its name, its imports, nothing else. -/
def mdCells (m : Md) (iv : Value) : List Value := [.string m.1, iv, .slice none 0 0, .slice none 0 0, .slice none 0 0, .slice none 0 0, .slice none 0 0, .slice none 0 0]
/-- One module at a place: all its blocks are below M0. -/
def MdAt (M0 : Nat) (w : World) (b o : Nat) (m : Md) : Prop :=
  ∃ iv ib, (∀ j u, (mdCells m iv)[j]? = some u → w.cell? ⟨b, o + j, none⟩ = some u) ∧ Src w ib iv (Strs m.2) ∧ ib < M0 ∧ m.2.length ≤ 1000 ∧ m.1.size ≤ maxLen ∧ ∀ s ∈ m.2, s.size ≤ maxLen
def MSrc (M0 : Nat) (w : World) (b : Nat) (sv : Value) (L : List Md) : Prop :=
  ∃ ao cap off, sv = .slice ao L.length cap ∧ (0 < L.length → ao = some ⟨b, off, none⟩) ∧ (ao = none → cap = 0) ∧ b < M0 ∧ ∀ i m, L[i]? = some m → MdAt M0 w b (off + i * 8) m
theorem MdAt.kept {M0 : Nat} {S : Nat → Prop} {w w' : World} {b o : Nat} {m : Md} (h : MdAt M0 w b o m) (hb : b < M0) (ho : Only S w w') (hS : ∀ k, S k → M0 ≤ k) : MdAt M0 w' b o m := by
  obtain ⟨iv, ib, h1, h2, h3, h4⟩ := h
  exact ⟨iv, ib, fun j u hu => ho.cell (h1 j u hu) (fun h => by have := hS b h; omega), h2.kept ho (fun _ h => by have := hS ib h; omega), h3, h4⟩
theorem MSrc.kept {M0 : Nat} {S : Nat → Prop} {w w' : World} {b : Nat} {sv : Value} {L : List Md} (h : MSrc M0 w b sv L) (ho : Only S w w') (hS : ∀ k, S k → M0 ≤ k) : MSrc M0 w' b sv L := by
  obtain ⟨ao, cap, off, h1, h2, h3, h4, h5⟩ := h
  exact ⟨ao, cap, off, h1, h2, h3, h4, fun i m hi => (h5 i m hi).kept h4 ho hS⟩
theorem nil_ge {M0 : Nat} : ∀ k, Nil k → M0 ≤ k := fun _ h => h.elim

/-- What Needs leaves: a new row. -/
def NeedsPost (w : World) (l : List ByteArray) (e : Ending) (w' : World) : Prop :=
  ∃ v, e = .returned v ∧ w'.ownsRow w.heap.size 9 1 v (needsM l).length (Strs (needsM l)) ∧ Only Nil w w'
theorem inB_beq {s : ByteArray} (h : s ≠ inB) : (s.toList != [73, 110]) = true := by
  have := bytes_ne' h
  rwa [show inB.toList = [73, 110] by rw [ByteArray.toList_eq]; rfl] at this
theorem outB_beq {s : ByteArray} (h : s ≠ outB) : (s.toList != [79, 117, 116]) = true := by
  have := bytes_ne' h
  rwa [show outB.toList = [79, 117, 116] by rw [ByteArray.toList_eq]; rfl] at this
theorem inB_eq {s : ByteArray} (h : s ≠ inB) : (s.toList == [73, 110]) = false := by
  have := bytes_ne h
  rwa [show inB.toList = [73, 110] by rw [ByteArray.toList_eq]; rfl] at this
theorem outB_eq {s : ByteArray} (h : s ≠ outB) : (s.toList == [79, 117, 116]) = false := by
  have := bytes_ne h
  rwa [show outB.toList = [79, 117, 116] by rw [ByteArray.toList_eq]; rfl] at this
theorem inB_eq' {s : ByteArray} (h : s = inB) : (s.toList == [73, 110]) = true := by
  rw [h, show inB.toList = [73, 110] by rw [ByteArray.toList_eq]; rfl]; rfl
theorem outB_eq' {s : ByteArray} (h : s = outB) : (s.toList == [79, 117, 116]) = true := by
  rw [h, show outB.toList = [79, 117, 116] by rw [ByteArray.toList_eq]; rfl]; rfl
theorem inB_beq' {s : ByteArray} (h : s = inB) : (s.toList != [73, 110]) = false := by
  rw [h, show inB.toList = [73, 110] by rw [ByteArray.toList_eq]; rfl]; rfl
theorem outB_beq' {s : ByteArray} (h : s = outB) : (s.toList != [79, 117, 116]) = false := by
  rw [h, show outB.toList = [79, 117, 116] by rw [ByteArray.toList_eq]; rfl]; rfl

set_option maxRecDepth 10000 in
set_option maxHeartbeats 3200000 in
theorem needsI_any (ib : Nat) (nm : ByteArray) (iv : Value) (l : List ByteArray) (w : World) (hs : Src w ib iv (Strs l)) (hl : l.length ≤ 1000) :
    Calls Try.prog 58 #[.agg #[.string nm, iv, .slice none 0 0, .slice none 0 0, .slice none 0 0, .slice none 0 0, .slice none 0 0, .slice none 0 0]] w (NeedsPost w l) := by
  obtain ⟨i0, hi0, hz0, hz1, hz2⟩ := info_parts infoStr
  obtain ⟨ao, cap, off, rfl, p2, p3, p4⟩ := hs
  rw [Strs_len] at p2 ⊢
  obtain ⟨n, hn⟩ : ∃ n, l.length = n := ⟨_, rfl⟩
  rw [hn] at p2 hl ⊢
  have HN := Lib.hid hn
  have H1 := Lib.hid p4
  have G1 := Lib.hid p2
  clear hn p4 p3 p2
  go_enter Try.func58, Try.ntmps58
  go_wp2_with fail
  have hB0 := Blk.new w #[.string nm, .slice ao n cap, .slice none 0 0, .slice none 0 0, .slice none 0 0, .slice none 0 0, .slice none 0 0, .slice none 0 0] 102
  have ho0 : Only Nil w (w.alloc (.cells #[.string nm, .slice ao n cap, .slice none 0 0, .slice none 0 0, .slice none 0 0, .slice none 0 0, .slice none 0 0, .slice none 0 0] 102)) := (Only.refl _ _).alloc _
  have HO0 := Lib.hid ho0
  clear hB0 ho0
  go_loopg [3, 9] n (fun g v i wr => ∃ (k : Nat) (vv : Value), i = .int .i64 (k : Int) ∧ v = vv ∧ k ≤ n ∧ g = n - k ∧ wr.ownsRow w.heap.size 9 1 vv (needsM (l.take k)).length (Strs (needsM (l.take k))) ∧ Only Nil w wr)
  case atStart => exact ⟨0, _, rfl, rfl, Nat.zero_le _, rfl, World.ownsRow_nil _ _ _ _, HO0.out⟩
  case round =>
    obtain ⟨k, vv, rfl, rfl, hk, hg, hown, ho⟩ := hrel
    have HG := Lib.hid hg
    have HO := Lib.hid ho
    have hsz := ho.size
    clear hg
    have k0 : (0 : Int) ≤ (k : Int) := Int.natCast_nonneg _
    by_cases hkn : k < n
    · have k1 : (k : Int) < (n : Int) := by omega
      obtain ⟨s, hs⟩ : ∃ s, l[k]? = some s := ⟨_, List.getElem?_eq_getElem (by rw [HN.out]; exact hkn)⟩
      have e1 := G1.out (by omega)
      subst e1
      have t1 := ho.cell (H1.out k _ (Strs_at hs)) (fun h => h)
      have hsn := needsM_snoc l k s hs
      obtain ⟨ao2, cap2, hvv⟩ := sl_of_own hown
      subst hvv
      have hlen : (needsM (l.take k)).length ≤ 1000 := by
        have := needsM_len (l.take k)
        rw [List.length_take, HN.out] at this
        omega
      obtain ⟨A, hA⟩ : ∃ A, needsM (l.take k) = A := ⟨_, rfl⟩
      rw [hA] at hown hsn hlen
      obtain ⟨m, hm⟩ : ∃ m, A.length = m := ⟨_, rfl⟩
      rw [hm] at hown hlen
      rw [hA, hm]
      have HMM := Lib.hid hm
      have HSN := Lib.hid hsn
      clear hs ho hA hm hsn
      by_cases g1 : s = inB
      · have e5 := inB_eq' g1
        have HE := Lib.hid (show needsM (l.take (k + 1)) = A by rw [HSN.out, if_pos (by simp [isText, g1])])
        have HOWN := Lib.hid hown
        clear g1 HSN hown
        go_wp2_with fail
        go_roundg (n - (k + 1))
        case measure => have := HG.out; omega
        case rel => exact ⟨k + 1, _, by go_num, rfl, by omega, rfl, by rw [HE.out, HMM.out]; exact HOWN.out, HO.out⟩
      · have e5 := inB_eq g1
        by_cases g2 : s = outB
        · have e6 := outB_eq' g2
          have HE := Lib.hid (show needsM (l.take (k + 1)) = A by rw [HSN.out, if_pos (by simp [isText, g2])])
          have HOWN := Lib.hid hown
          clear g1 g2 HSN hown
          go_wp2_with fail
          go_roundg (n - (k + 1))
          case measure => have := HG.out; omega
          case rel => exact ⟨k + 1, _, by go_num, rfl, by omega, rfl, by rw [HE.out, HMM.out]; exact HOWN.out, HO.out⟩
        · have e6 := outB_eq g2
          have HE := Lib.hid (show needsM (l.take (k + 1)) = A ++ [s] by rw [HSN.out, if_neg (by simp [isText, g1, g2])])
          clear g1 g2 HSN
          go_wp2_with (with_reducible refine wpList_append_one rfl _ _ 70 rfl w.heap.size 9 i0 (.string ByteArray.empty) 16 Try.underlying70 hi0 hz0 hz1 hz2 rfl _ _ _ rfl hown _ rfl rfl (by simp [maxLen]; omega) (by omega) hsz ?_)
          intro g2 cap3 w1 hown1 hc1 hc2 hg1 ho1
          have hoA := Lib.hid (M.Only.nil_own HO.out hown ho1)
          have HOWN := Lib.hid hown1
          have HOW0 := Lib.hid hown
          clear hown1 ho1 hg1 hown
          go_wp2_with fail
          go_roundg (n - (k + 1))
          case measure => have := HG.out; omega
          case rel => exact ⟨k + 1, _, by go_num, rfl, by omega, rfl, by rw [HE.out, Strs_snoc, List.length_append, HMM.out]; exact HOWN.out, hoA.out⟩
    · have hkn' : k = n := by omega
      subst hkn'
      have k1 : (k : Int) ≤ (k : Int) := Int.le_refl _
      have e9 : l.take k = l := List.take_of_length_le (by rw [HN.out]; exact Nat.le_refl _)
      rw [e9] at hown
      obtain ⟨ao2, cap2, hvv⟩ := sl_of_own hown
      subst hvv
      have HOWN := Lib.hid hown
      clear e9 hown ho
      obtain ⟨m, hm⟩ : ∃ m, (needsM l).length = m := ⟨_, rfl⟩
      go_wp2_with fail
      go_ret
      exact ⟨_, rfl, HOWN.out, HO.out⟩
end Go.Proofs.Ythdolanamcmooaa

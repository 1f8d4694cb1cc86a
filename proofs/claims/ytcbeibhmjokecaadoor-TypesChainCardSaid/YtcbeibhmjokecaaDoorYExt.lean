/- Which record extends which, both sides. -/
import Derived.Test.YtcbeibhmjokecaaDoorYRecs
import Derived.Test.YtcbeibhmjokecaaDoorYSameP
import Derived.Test.YtcbeibhmjokecaaDoorYSame
set_option linter.unusedSimpArgs false
set_option linter.unusedVariables false
namespace Go.Proofs.YtcbeibhmjokecaaDoor
open Go.RowKit M

set_option maxRecDepth 10000 in
set_option maxHeartbeats 1600000 in
theorem extP_any {U : Nat → Prop} {w0 : World} {mv : Value} {n : Nat} {R : Recs} {fv : ByteArray → Value} (hM : RMap U w0 mv n R fv) (b : ByteArray) (a : ByteArray) (ha : a.size ≤ maxLen) (w : World) (hw : Only Nil w0 w) :
    Calls Tryd.prog 14 #[.string a, .string b, mv] w fun e w' => e = .returned (.bool (extM R b (n + 1) a)) ∧ Only Nil w w' := by
  obtain ⟨X, hX⟩ : ∃ r, extM R b (n + 1) a = r := ⟨_, rfl⟩
  rw [hX]
  have HX := Lib.hid hX
  have HM := Lib.hid hM
  have HW := Lib.hid hw
  have len := fun ty => (hM.go hw).len ty
  have hn := Lib.hid hM.few
  have HA := Lib.hid ha
  have wn : IntKind.i64.wrap ((n : Int) + 1) = ((n + 1 : Nat) : Int) := by rw [IntKind.wrap]; have := hM.few; simp [IntKind.bits, IntKind.signed]; omega
  obtain ⟨m, hm⟩ : ∃ m, n + 1 = m := ⟨_, rfl⟩
  rw [hm] at wn
  have HMM := Lib.hid hm
  clear hX hM hw ha hm
  go_enter Tryd.func14, Tryd.ntmps14
  go_wp2_with fail
  clear wn
  go_loopg [0, 12] m (fun g a i wr => ∃ (k : Nat) (s : ByteArray), i = .int .i64 (k : Int) ∧ a = .string s ∧ k ≤ m ∧ g = m - k ∧ Only Nil w wr ∧ s.size ≤ maxLen ∧ extM R b (m - k) s = X)
  case atStart => exact ⟨0, a, rfl, rfl, Nat.zero_le _, rfl, Only.refl Nil w, HA.out, by rw [Nat.sub_zero, ← HMM.out]; exact HX.out⟩
  case round =>
    obtain ⟨k, s, rfl, rfl, hk, hg, ho, hs, he⟩ := hrel
    have HG := Lib.hid hg
    have HO := Lib.hid ho
    have HS := Lib.hid hs
    have k0 : (0 : Int) ≤ (k : Int) := Int.natCast_nonneg _
    by_cases hkn : k < m
    · have k1 : (k : Int) < (m : Int) := by omega
      obtain ⟨d, hd⟩ : ∃ d, m - k = d + 1 := ⟨m - k - 1, by omega⟩
      rw [hd] at he
      unfold extM at he
      have look := (HM.out.go (Nil.trans HW.out ho)).look2 s hs
      have HD := Lib.hid hd
      by_cases hab : (s.toList == b.toList) = true
      · rw [if_pos hab] at he
        subst he
        clear hs hg ho look hd len
        go_wp2_with fail
        go_ret
        exact ⟨rfl, HO.out⟩
      · rw [if_neg hab] at he
        have hab : (s.toList == b.toList) = false := by simpa using hab
        cases hR : R s with
        | none =>
          rw [hR] at he look
          simp only [Option.map_none, Option.getD_none, Option.isSome_none] at look
          subst he
          clear hs hg ho hR hd len
          go_wp2_with fail
          go_ret
          exact ⟨rfl, HO.out.alloc _⟩
        | some r =>
          rw [hR] at he look
          simp only [Option.map_some, Option.getD_some, Option.isSome_some, rcVal] at look
          have hsz := (HM.out.names s r hR).1
          obtain ⟨aoF, capF, hF⟩ := (HM.out.fields s r hR).slice
          rw [hF] at look
          obtain ⟨nm, ex, bs, fl⟩ := r
          simp only at he look hsz
          obtain ⟨nF, hnF⟩ : ∃ x, fl.length = x := ⟨_, rfl⟩
          rw [hnF] at look
          clear hF hnF
          have HSZ := Lib.hid hsz
          by_cases hb : (bs.toList == []) = true
          · rw [if_pos hb] at he
            subst he
            clear hs hg ho hR hd hsz len
            go_wp2_with fail
            go_ret
            exact ⟨rfl, HO.out.alloc _⟩
          · rw [if_neg hb] at he
            have hb : (bs.toList == []) = false := by simpa using hb
            have HE := Lib.hid he
            clear hs hg ho hR hd hsz he len
            go_wp2_with fail
            go_roundg (m - (k + 1))
            case measure => have := HG.out; omega
            case rel => exact ⟨k + 1, bs, next_int (m := 1) hkn (by have := hn.out; have := HMM.out; omega) (by decide), rfl, by omega, rfl, HO.out.alloc _, HSZ.out, by rw [show m - (k + 1) = d by have := HD.out; omega]; exact HE.out⟩
    · have hkm : k = m := by omega
      subst hkm
      rw [Nat.sub_self] at he
      have k1 : (k : Int) ≤ (k : Int) := Int.le_refl _
      have he : false = X := he
      subst he
      clear hs hg ho len
      go_wp2_with fail
      go_ret
      exact ⟨rfl, HO.out⟩
set_option maxRecDepth 10000 in
set_option maxHeartbeats 1600000 in
theorem extR_any {U : Nat → Prop} {w0 : World} {mv : Value} {n : Nat} {R : Recs} {fv : ByteArray → Value} (hM : RMap U w0 mv n R fv) (b : ByteArray) (a : ByteArray) (ha : a.size ≤ maxLen) (w : World) (hw : Only Nil w0 w) :
    Calls Tryd.prog 15 #[.string a, .string b, mv] w fun e w' => e = .returned (.bool (extM R b (n + 1) a)) ∧ Only Nil w w' := by
  obtain ⟨X, hX⟩ : ∃ r, extM R b (n + 1) a = r := ⟨_, rfl⟩
  rw [hX]
  have HX := Lib.hid hX
  have HM := Lib.hid hM
  have HW := Lib.hid hw
  have hn := Lib.hid hM.few
  have HA := Lib.hid ha
  clear hX hM hw ha
  go_enter Tryd.func15, Tryd.ntmps15
  go_wp2_with fail
  go_loopg [0, 7] (n + 1) (fun g a i wr => ∃ (k : Nat) (s : ByteArray), i = .int .i64 (k : Int) ∧ a = .string s ∧ k ≤ n + 1 ∧ g = n + 1 - k ∧ Only Nil w wr ∧ s.size ≤ maxLen ∧ extM R b (n + 1 - k) s = X)
  case atStart => exact ⟨0, a, rfl, rfl, Nat.zero_le _, rfl, Only.refl Nil w, HA.out, HX.out⟩
  case round =>
    obtain ⟨k, s, rfl, rfl, hk, hg, ho, hs, he⟩ := hrel
    have HG := Lib.hid hg
    have HO := Lib.hid ho
    have HS := Lib.hid hs
    have k0 : (0 : Int) ≤ (k : Int) := Int.natCast_nonneg _
    have len := fun ty => (HM.out.go (Nil.trans HW.out ho)).len ty
    by_cases hkn : k ≤ n
    · have k1 : (k : Int) ≤ (n : Int) := by omega
      obtain ⟨d, hd⟩ : ∃ d, n + 1 - k = d + 1 := ⟨n - k, by omega⟩
      rw [hd] at he
      unfold extM at he
      have look := (HM.out.go (Nil.trans HW.out ho)).look2 s hs
      have HD := Lib.hid hd
      by_cases hab : (s.toList == b.toList) = true
      · rw [if_pos hab] at he
        subst he
        clear hs hg ho look hd
        go_wp2_with fail
        go_ret
        exact ⟨rfl, HO.out⟩
      · rw [if_neg hab] at he
        have hab : (s.toList == b.toList) = false := by simpa using hab
        cases hR : R s with
        | none =>
          rw [hR] at he look
          simp only [Option.map_none, Option.getD_none, Option.isSome_none] at look
          subst he
          clear hs hg ho hR hd
          go_wp2_with fail
          go_ret
          exact ⟨rfl, HO.out.alloc _⟩
        | some r =>
          rw [hR] at he look
          simp only [Option.map_some, Option.getD_some, Option.isSome_some, rcVal] at look
          have hsz := (HM.out.names s r hR).1
          obtain ⟨aoF, capF, hF⟩ := (HM.out.fields s r hR).slice
          rw [hF] at look
          obtain ⟨nm, ex, bs, fl⟩ := r
          simp only at he look hsz
          obtain ⟨nF, hnF⟩ : ∃ x, fl.length = x := ⟨_, rfl⟩
          rw [hnF] at look
          clear hF hnF
          have HSZ := Lib.hid hsz
          by_cases hb : (bs.toList == []) = true
          · rw [if_pos hb] at he
            subst he
            clear hs hg ho hR hd hsz
            go_wp2_with fail
            go_ret
            exact ⟨rfl, HO.out.alloc _⟩
          · rw [if_neg hb] at he
            have hb : (bs.toList == []) = false := by simpa using hb
            have HE := Lib.hid he
            clear hs hg ho hR hd hsz he
            go_wp2_with fail
            go_roundg (n + 1 - (k + 1))
            case measure => have := HG.out; omega
            case rel => exact ⟨k + 1, bs, next_int (m := 1) (n := n + 1) (by omega) (by have := hn.out; omega) (by decide), rfl, by omega, rfl, HO.out.alloc _, HSZ.out, by rw [show n + 1 - (k + 1) = d by have := HD.out; omega]; exact HE.out⟩
    · have hkm : k = n + 1 := by omega
      have k1 : ¬ (k : Int) ≤ (n : Int) := by omega
      have k2 : decide (k ≤ n) = false := by simpa using hkn
      rw [hkm, Nat.sub_self] at he
      have he : false = X := he
      subst he
      clear hs hg ho
      go_wp2_with fail
      go_ret
      exact ⟨rfl, HO.out⟩
end Go.Proofs.YtcbeibhmjokecaaDoor

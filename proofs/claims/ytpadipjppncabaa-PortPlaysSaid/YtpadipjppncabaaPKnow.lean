/- Layer 10: the chapter's example. -/
import Derived.Test.YtpadipjppncabaaPPick
set_option linter.unusedSimpArgs false
set_option linter.unusedVariables false
namespace Go.Proofs.Ytpadipjppncabaa
open Go.RowKit Go.Conc M

theorem src_blk {w : World} {b : Nat} {xs : List Value} {t : TypeId} (h : Blk w b xs.toArray t) : Src w b (.slice (some ⟨b, 0, none⟩) xs.length xs.length) xs :=
  ⟨some ⟨b, 0, none⟩, xs.length, 0, rfl, fun _ => rfl, nofun, fun i u hi => by rw [h.cell]; simpa using hi⟩
theorem pick_post_known {w w' : World} {e : Ending} {p c : Nat} (h : PickPost w [none, some ⟨p, c, 1, [97], false⟩] e w') : e = .returned (.tuple #[.int .i64 1, .int .u8 97, .bool true]) ∧ PAt w' p c 1 [] false ∧ Only (Two p c) w w' := by
  rcases h with ⟨k, q, x, rest, h1, h2, h3, h4, h5, h6⟩ | ⟨h1, _⟩
  · have hk : k = 1 := by
      rcases k with _ | _ | k
      · simp at h2
      · rfl
      · simp at h2
    subst hk
    have h2 : (⟨p, c, 1, [97], false⟩ : PD) = q := by simpa using h2
    subst h2
    injection h3 with h3 h7
    subst h3 h7
    exact ⟨h4, h5, h6⟩
  · have := h1 1 (some ⟨p, c, 1, [97], false⟩) rfl _ rfl
    cases this

set_option maxRecDepth 100000 in
set_option maxHeartbeats 3200000 in
theorem known10 (w : World) : Calls Try.prog 7 #[] w fun e w' => e = .returned (.bool true) ∧ Only Nil w w' := by
  have cN := newP 1 w
  go_enter Try.func7, Try.ntmps7
  go_wp2_with fail
  refine cN.mono ?_
  rintro e w1 ⟨rfl, h1, o1⟩
  have hc : capOf 1 = 1 := by decide
  rw [hc] at h1
  obtain ⟨c, hcc⟩ : ∃ c, w.heap.size = c := ⟨_, rfl⟩
  rw [hcc] at h1
  obtain ⟨p, hp⟩ : ∃ p, c + 1 = p := ⟨_, rfl⟩
  rw [hp] at h1
  have HC := Lib.hid hcc
  have HP := Lib.hid hp
  have O1 := Lib.hid o1
  have cA := offerP h1 97
  have hf : fits 1 [] false = true := rfl
  rw [hf] at cA
  simp only [if_true, List.nil_append] at cA
  unfold ptr at *
  clear cN o1 hc h1 hf
  rw [hcc, hp]
  clear hcc hp
  go_wp2_with fail
  refine cA.mono ?_
  rintro e w2 ⟨rfl, h2, o2⟩
  have O2 := Lib.hid (O1.out.trans o2 (fun i hi h => by have := HC.out; have := HP.out; rcases h with h | h <;> omega))
  have cB := offerP h2 98
  have hf : fits 1 [97] false = false := rfl
  rw [hf] at cB
  simp only [if_false, Bool.false_eq_true] at cB
  unfold ptr at *
  clear cA o2 h2 hf
  go_wp2_with fail
  refine cB.mono ?_
  rintro e w3 ⟨rfl, h3, o3⟩
  have O3 := Lib.hid (O2.out.trans o3 (fun i hi h => by have := HC.out; have := HP.out; rcases h with h | h <;> omega))
  have H3 := Lib.hid h3
  clear cB o3 h3
  go_wp2_with fail
  have hB := Blk.new w3 #[Value.pointer none, .pointer (some ⟨p, 0, none⟩)] 25
  have ho : Only Nil w3 (w3.alloc (.cells #[Value.pointer none, .pointer (some ⟨p, 0, none⟩)] 25)) := (Only.refl _ _).alloc _
  refine (pick_any w3.heap.size _ [none, some ⟨p, c, 1, [97], false⟩] _ (src_blk (xs := [none, some ⟨p, c, 1, [97], false⟩].map pdV) hB) (fun i q hq => by
    rcases i with _ | _ | i
    · simp at hq
    · have hq : (⟨p, c, 1, [97], false⟩ : PD) = q := by simpa using hq
      subst hq
      exact H3.out.kept ho (fun h => h) (fun h => h)
    · simp at hq) (by simp)).mono ?_
  intro e w4 hP
  obtain ⟨rfl, h4, o4⟩ := pick_post_known hP
  have O4 := Lib.hid ((O3.out.trans ho (fun _ _ h => h)).trans o4 (fun i hi h => by have := HC.out; have := HP.out; rcases h with h | h <;> omega))
  have cP := pollN h4
  unfold ptr at cP
  clear hB ho hP h4 o4
  go_wp2_with fail
  refine cP.mono ?_
  rintro e w5 ⟨rfl, rfl⟩
  clear cP
  go_wp2_with fail
  go_ret
  exact ⟨rfl, O4.out⟩
end Go.Proofs.Ytpadipjppncabaa

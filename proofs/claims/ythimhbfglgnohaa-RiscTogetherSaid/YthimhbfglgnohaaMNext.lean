/- The machine's next byte. -/
import Derived.Test.YthimhbfglgnohaaMPlace
import Derived.Test.YthimhbfglgnohaaMHolds
set_option linter.unusedSimpArgs false
set_option linter.unusedVariables false
namespace Go.Proofs.Ythimhbfglgnohaa
open Go.RowKit M

theorem icells_iv (cv wv iv ov x : Value) (s : St) : (icells cv wv iv ov s).setIfInBounds 2 x = icells cv wv x ov s := rfl
theorem icells_ov (cv wv iv ov x : Value) (s : St) : (icells cv wv iv ov s).setIfInBounds 3 x = icells cv wv iv x s := rfl

theorem brow_tail {S : Nat → Prop} {w : World} {b off off' cap c mb o : Nat} {x : Value} {l t : List Nat} (hb : ¬ S b) (h : CellsAt w b off (U8s l)) (hl : l = c :: t) (h1 : t.length ≤ cap) (h2 : cap ≤ maxLen) (h3 : 0 < t.length → off' = off + 1) (hS : ∀ k, ¬ S k → k ≠ mb) :
    BRow S (w.setCell ⟨mb, o, none⟩ x) (.slice (some ⟨b, off', none⟩) t.length cap) t := by
  refine ⟨b, _, cap, off', rfl, h1, h2, fun _ => rfl, nofun, ?_, fun _ => hb⟩
  have ho : Only (One mb) w (w.setCell ⟨mb, o, none⟩ x) := Only.setOne (Only.refl _ _) _ _
  intro i u hu
  have hi : i < t.length := by
    have := (List.getElem?_eq_some_iff.mp hu).1
    simpa [U8s] using this
  have e := h3 (by omega)
  subst e
  have := h (i + 1) u (by rw [hl]; simpa [U8s] using hu)
  have := ho.cell (a := ⟨b, off + (i + 1), none⟩) this (fun hh => hS b hb hh)
  rw [show off + 1 + i = off + (i + 1) by omega]
  exact this

set_option maxHeartbeats 800000 in
theorem next_any (S : Nat → Prop) (mb : Nat) (hS : S mb) (cv wv iv ov : Value) (s : St) (w : World) (hB : Blk w mb (icells cv wv iv ov s) 65) (hI : BRow S w iv s.inp) (hby : ∀ x ∈ s.inp, x < 256) :
    Calls Try.prog 60 #[.pointer (some ⟨mb, 0, none⟩)] w fun e w' => e = .returned (.int .u32 (s.inp.getD 0 0)) ∧
      ∃ iv', Blk w' mb (icells cv wv iv' ov { s with inp := s.inp.drop 1 }) 65 ∧ BRow S w' iv' (s.inp.drop 1) ∧ Only (One mb) w w' := by
  have c2 : w.cell? ⟨mb, 2, none⟩ = some iv := hB.cell 2
  have f2 := hB.free 2
  have hlt := hB.lt
  have hI0 := hI
  obtain ⟨b, ao, cap, off, rfl, h2, h3, h4, h5, h6, h7⟩ := hI
  cases hin : s.inp with
  | nil =>
    have e1 : s.inp.length = 0 := by rw [hin]; rfl
    rw [e1] at c2 h2
    have H0 := Lib.hid hI0
    have HB := Lib.hid hB
    clear hB hI0 h4 h5 h6 h7 e1
    go_enter Try.func60, Try.ntmps60
    go_wp2_with fail
    go_ret
    have hb := HB.out
    have hi := H0.out
    rw [hin] at hi hb
    exact ⟨rfl, _, hb, hi, Only.refl _ _⟩
  | cons c t =>
    have e1 : s.inp.length = t.length + 1 := by rw [hin]; rfl
    rw [e1] at c2 h2 h4 h7
    have ea := h4 (by omega)
    subst ea
    have hc : w.cell? ⟨b, off, none⟩ = some (.int .u8 c) := h6 0 _ (by rw [hin]; rfl)
    have h6' := Lib.hid h6
    have hb := Lib.hid (h7 (by omega))
    have HB := Lib.hid hB
    clear hB hI0 h4 h5 h6 h7 e1
    have hl0 : (0 : Int) ≤ (t.length : Int) := Int.natCast_nonneg _
    obtain ⟨L, hL⟩ : ∃ L, t.length = L := ⟨_, rfl⟩
    rw [hL] at c2 h2 hl0
    have hmx : (cap : Int) ≤ 9223372036854775807 := by
      have : maxLen ≤ 9223372036854775807 := by decide
      omega
    go_enter Try.func60, Try.ntmps60
    go_wp2_with fail
    all_goals go_ret
    all_goals
      have hc1 : c < 256 := hby c (by rw [hin]; exact List.mem_cons_self)
      have ec : (c : Int) % 4294967296 = (c : Int) := by omega
      have hb1 := HB.out.setCell 2
      have ho1 : Only (One mb) w w := Only.refl _ _
    · refine ⟨congrArg (fun x => Ending.returned (.int .u32 x)) ec, _, hb1 _, ?_, Only.setOne ho1 _ _⟩
      rw [← hL]
      refine brow_tail (off := off) (hb.out) (h6'.out) hin (by omega) (by omega) (fun h => by omega) ?_
      intro k hk e
      exact hk (by rw [e]; exact hS)
    · refine ⟨congrArg (fun x => Ending.returned (.int .u32 x)) ec, _, hb1 _, ?_, Only.setOne ho1 _ _⟩
      rw [← hL]
      refine brow_tail (off := off) (hb.out) (h6'.out) hin (by omega) (by omega) (fun h => rfl) ?_
      intro k hk e
      exact hk (by rw [e]; exact hS)
end Go.Proofs.Ythimhbfglgnohaa
